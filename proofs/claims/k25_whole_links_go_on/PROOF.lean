import PyProof.Rows.All
import Wide.All
import OpenK.AllK
import Wide.FinOn
import Lean
import PyProof.EqAt
import PyProof.EqKinds
import PyProof.TupleCall
import PyProof.NeKinds
import PyProof.Rows.CountFlat
import PyProof.Rows.SumAny
import PyProof.Rows.Range3
import KE.KEqDict
import KE.KRevIter
import PyProof.DictIter
import PyProof.DictWalks
import PyProof.IsiH_list
import KE.KDictOf
import PyProof.Rows.SetFrom
import PyProof.Conv_int_bool
import PyProof.Rows.StrNews
import PyProof.CallStr
import PyProof.Rows.StrMeet
import PyProof.FitsReplace
import PyProof.MeetsStr3
import PyProof.Rows.StrSplitAre
import PyProof.StrLawsIn
import PyProof.ReprLen
import PyProof.StrLawsChain
import KE.IntTextLaws
import PyProof.Rows.StrClose5
import KE.KSortTup
import PyProof.Rows.SortKey
import PyProof.DictUpdate
import KE.KDictSum
import PyProof.WalksEnum
import PyProof.EnumMake
import PyProof.ZipIter
import PyProof.Rows.EnumRows
import PyProof.Rows.ZipForRows
import PyProof.Rows.FactsT2
import PyProof.Rows.SortStr
import PyProof.TupleIter
import PySem.Challenge.RW_fleetpath_k25_whole_links_go_on
set_option compiler.extract_closed false
set_option bootstrap.genMatcherCode false
set_option genInjectivity false
set_option genSizeOf false
set_option genSizeOfSpec false
set_option Elab.async false
set_option linter.all false
set_option maxRecDepth 100000
noncomputable section
def f8:=@PySem.wpAny_bind
def t0:=@List.length_map
def u8:=@PySem.Heap.get?_push_of_some
def v4:=@Option.map_eq_some_iff
def I0:=@List.length_cons
def L4:=@List.mem_cons_self
def L5:=@Nat.le_refl
def L6:=@PySem.wpAny_pure
def L7:=@PySem.Heap.lt_size
def L8:=@List.mem_cons_of_mem
def L9:=@Nat.ne_of_lt
def M3:=@List.map_cons
def M4:=@decide_eq_false
def M5:=@List.getElem?_eq_getElem
def M6:=@decide_eq_true
def M7:=@PySem.Heap.get?_push_size
def M8:=@List.size_toArray
def M9:=@List.getElem?_eq_some_iff
def N4:=@List.mem_cons
def N5:=@Nat.lt_of_lt_of_le
def N6:=@Bool.false_ne_true
def N7:=@List.getElem?_map
def N8:=@List.length_append
def N9:=@PySem.Heap.get?_update_other
def O0:=@List.mem_singleton
def O1:=@Option.bind_eq_some_iff
def O2:=@List.mem_append_right
def O3:=@Int.emod_lt_of_pos
def O4:=@List.getElem?_set_self
def O5:=@Nat.le_trans
def O6:=@List.getElem?_set_ne
def O7:=@beq_iff_eq
def O8:=@Int.emod_nonneg
def O9:=@List.lookup_cons
def P0:=@List.append_nil
def P1:=@Nat.zero_le
def P2:=@List.getElem?_cons_succ
def P4:=@Nat.le_of_ble_eq_true
def P5:=@Option.some.inj
def P6:=@List.length_set
def P7:=@PySem.wpAny_holding
def P8:=@beq_eq_false_iff_ne
def P9:=@List.map_append
def R4:=@of_decide_eq_true
def R7:=@PySem.Heap.get?_update_self
def R8:=@congrArg
def R9:=@List.length_range
def S0:=@PySem.sizeLine_eq
def S4:=@List.mem_append
def S5:=@List.take_succ_eq_append_getElem
def S6:=@Classical.choose_spec
def S7:=@PySem.wpAny_mono
def S8:=@List.nodup_cons
def S9:=@List.map_map
def T1:=@List.mem_map
def T2:=@List.length_take
def T4:=@List.getElem?_append_left
def T5:=@PySem.W.mg_of
def T6:=@List.append_assoc
def T7:=@List.any_cons
def T8:=@Nat.le_succ
def T9:=@Nat.lt_irrefl
def a0a:=@Nat.ne_of_gt
def a0b:=@PySem.W.mg_none_of
def a0c:=@List.mem_map_of_mem
def a0d:=@PySem.wpAny_Call_Name_kw
def a0e:=@Option.isSome_iff_exists
def a0f:=@List.getElem_mem
def a0g:=@PySem.Paired.length
def a0h:=@Int.le_refl
def a0i:=@PySem.Heap.size_push
def a0j:=@List.replicate_succ
def a0k:=@List.getD_eq_getElem?_getD
def a0l:=@List.mem_range
def a0m:=@PySem.F.slot_dict_get
def a0n:=@Sum.inr.inj
def a0o:=@List.foldl_cons
def a0p:=@PySem.Around.under_plainId
def a0q:=@Nat.lt_succ_of_lt
def a0r:=@Nat.lt_succ_self
def a0s:=@Bool.false_xor
def a0t:=@List.take_length
def a0u:=@List.getElem_map
def a0v:=@PyProof.Rows.callWith_type1
def a0w:=@PySem.codeAny_mono
def a0x:=@PySem.tupleKind_room_in1
def a0y:=@PyProof.Rows.F.plain_set_update_loop
def a0z:=@PySem.wpAny_passesOwn
def a0A:=@List.length_replicate
def a0B:=@List.nil_append
def a0C:=@PySem.builtinLookup_eq_fast
def a0D:=@PySem.codeAny_builtin
def a0E:=@List.flatten_cons
def a0F:=@List.mem_append_left
def a0G:=@Bool.and_eq_true
def a0H:=@List.all_eq_true
def a0I:=@beq_self_eq_true
def a0J:=@PySem.wpAny_typeOf
def a0K:=@PySem.mem_of_lookup
def a0L:=@Array.length_toList
def a0M:=@List.map_congr_left
def a0N:=@List.getElem?_replicate
def a0O:=@PySem.plainId_quiet
def a0P:=@List.mem_filter
def a0Q:=@PySem.Calls.spliced_cons
def a0R:=@PySem.wpAny_call
def a0S:=@Nat.lt_of_le_of_lt
def a0T:=@PySem.wpAny_updateSeq
def a0U:=@PySem.Calls.callWith_builtin
def a0V:=@PySem.F.entry_dict_get
def a0W:=@Option.isSome_map
def a0X:=@PySem.wpAny_newObj_type
def a0Y:=@List.nodup_append
def a0Z:=@Nat.lt_trans
def a00:=@List.mem_of_getElem?
def a01:=@List.length_drop
def a02:=@PySem.codeAny_call_builtin
def a03:=@PySem.wpAny_isInstance
def a04:=@List.filter_cons
def a05:=@Nat.succ_le_succ
def a06:=@PySem.wpAny_standAt
def a07:=@List.getElem?_append_right
def a08:=@List.all_cons
def a09:=@Array.getElem?_eq_some_iff
def a1a:=@List.find?_cons
def a1b:=@List.drop_eq_getElem_cons
def a1c:=@PySem.typeLookup_type
def a1d:=@PySem.F.plain_extend_loop
def a1e:=@Nat.le_of_lt
def a1f:=@PySem.W.callWith_K
def a1g:=@List.getElem_range
def a1h:=@of_decide_eq_false
def a1i:=@PyProof.Rows.F.entry_set_update_loop
def a1j:=@PySem.wpAny_loadPart
def a1k:=@PySem.F.plainAttrs_dict
def a1l:=@PySem.wpAny_truthy_bool
def a1m:=@PySem.Calls.spliced_nil
def a1n:=@Nat.le_succ_of_le
def a1o:=@PySem.wpAny_pyIter_list
def a1p:=@List.take_of_length_le
def a1q:=@PySem.wpAny_attempt
def a1r:=@List.sum_cons
def a1s:=@List.length_singleton
def a1t:=@List.getElem?_reverse
def a1u:=@PySem.plainObj_wpAny_Assign_Attribute
def a1v:=@PySem.wpAny_execs_nil
def a1w:=@Nat.le_of_eq
def a1x:=@PySem.Calls.evalArgs_plain
def a1y:=@List.length_nil
def a1z:=@PySem.call_meetsIn
def a1A:=@PySem.wpAny_specialOf
def a1B:=@List.getElem?_append
def a1C:=@PySem.codeAny_extend_loopS
def a1D:=@Array.toArray_toList
def a1E:=@List.mem_of_mem_take
def a1F:=@List.filterMap_cons
def a1G:=@PySem.W.plainGet_of
def a1H:=@PySem.Heap.get?_update_ne
def a1I:=@List.length_reverse
def a1J:=@List.mergeSort_perm
def a1K:=@Int.toNat_of_nonneg
def a1L:=@Bool.and_false
def a1M:=@PySem.wpAny_field
def a1N:=@PySem.Code.quiet_builtin
def a1O:=@PySem.Calls.Name_function_global
def a1P:=@Bool.true_xor
def a1Q:=@List.map_take
def a1R:=@PySem.Moved.eq_with
def a1S:=@Array.perm_iff_toList_perm
def a1T:=@PyProof.Rows.listUpdate_at
def a1U:=@List.nodup_iff_pairwise_ne
def a1V:=@PySem.Within.cons
def a1W:=@Nat.le_of_succ_le
def a1X:=@List.Pairwise.map
def a1Y:=@List.reverse_cons
def a1Z:=@PySem.wpAny_load
def a10:=@List.getElem?_eq_none_iff
def a11:=@PySem.wpAny_rule
def a12:=@List.pairwise_iff_getElem
def a13:=@PySem.wpAny_eqBool_int
def a14:=@PySem.wpAny_lookBehind
def a15:=@PySem.pastItsLine_dict
def a16:=@PySem.W.looks_findIn
def a17:=@PySem.wpAny_comprehension_free
def a18:=@List.drop_length
def a19:=@PySem.F.args_list_init_2
def a2a:=@PyProof.Rows.KeyOrd.kle_trans
def a2b:=@PyProof.Rows.KeyOrd.klt_asymm
def a2c:=@Array.toList_inj
def a2d:=@List.ext_getElem
def a2e:=@List.Perm.eq_of_pairwise
def a2f:=@PySem.F.slot_dict_values
def a2g:=@List.eq_of_mem_replicate
def a2h:=@PySem.F.args_dict_get_2
def a2i:=@PySem.F.args_dict_get_3
def a2j:=@PySem.F.typeCall_list_1
def a2k:=@PySem.F.entry_list_init
def a2l:=@PySem.F.plain_list_iadd
def a2m:=@List.of_mem_zip
def a2n:=@PySem.pushCells_keeps
def a2o:=@PySem.W.cellsFrom_some
def a2p:=@PyProof.Rows.subscriptTail_builtinR
def a2q:=@PySem.W.looks_mroIn
def a2r:=@Array.getElem?_eq_none
def a2s:=@PyProof.Rows.boot_list
def a2t:=@PySem.wpAny_of_eq
def a2u:=@List.nodup_nil
def a2v:=@PySem.F.type_dict_get
def a2w:=@PySem.wpAny_setField
def a2x:=@PySem.W.methodCall_KW
def a2y:=@PyProof.Rows.boot_min
def a2z:=@PySem.isSubtype_type
def a2A:=@PySem.callType_codes
def a2B:=@List.length_filter_le
def a2C:=@Array.mem_toList_iff
def a2D:=@Bool.and_eq_true_iff
def a2E:=@PyProof.Rows.size_push'
def a2F:=@Bool.or_false
def a2G:=@Bool.true_and
def a2H:=@PySem.wpAny_newList
def a2I:=@PySem.F.called_list
def a2J:=@PySem.SeqAt.EqAt.int_str
def a2K:=@PySem.SeqAt.EqAt.str_int
def a2L:=@Array.append_assoc
def a2M:=@List.mem_filterMap
def a2N:=@Array.find?_toList
def a2O:=@PySem.wpAny_nsSet1
def a2P:=@PySem.seqIndex_neg
def a2Q:=@List.map_nil
def a2R:=@PySem.wpAny_mkText
def a2S:=@Int.le_total
def a2T:=@Nat.zero_add
def a2U:=@Array.forIn_toList
def a2V:=@List.pairwise_cons
def a2W:=@Array.append_empty
def a2X:=@PySem.seqIndex_of
def a2Y:=@PySem.W.looks_clsIn
def a2Z:=@PySem.wpAny_letGo
def a20:=@PySem.ItemsOf.nil
def a21:=@PySem.wpAny_throw
def a22:=@PySem.numAt_eq
def a23:=@Prod.ext
section
open PySem PySem.Spec PyProof.Rows PySem.W
abbrev Hz:=(List (Addr×Obj))
abbrev HA:=List Str
abbrev HB:=(Value->Shared->Prop)
abbrev HD:=(Str->Option Value)
abbrev HF:=List Nat
abbrev HI:=(Addr->Prop)
abbrev HJ:=Shared
abbrev HK:=List Value
abbrev HL:=List Expr
abbrev HQ:=(Nat->Addr)
abbrev HU:=PySem.W.Frag
abbrev HW:=List Bool
abbrev HY:=Expr
abbrev HZ:=Program
abbrev H_:=List (Option Nat)
abbrev Ie:=World
abbrev Ih:=Around
abbrev Ii:=FuncData
abbrev Ij:=List Int
abbrev Il:=Frag
abbrev Im:=(List (Str×Addr))
abbrev Io:=(List (Str×NameKind))
abbrev Ip:=Array (Option Value)
abbrev Iq:=List Stmt
abbrev Ir:=W.Frag
abbrev Iv:=Array Value
abbrev Iw:=Option Addr
abbrev Iy:=List Addr
abbrev Iz:=Array Nat
abbrev IA:=Stmt
abbrev IC:=(List (Str×Value))
abbrev IF:=Option Int
abbrev IG:=(Str->Option NameKind)
abbrev IJ:=(Nat->Nat->Bool)
abbrev IL:=(Nat->Prop)
abbrev IP:=Option Expr
abbrev IQ:=(Value->Option Bool)
abbrev IS:=(Nat->Shared->Prop)
abbrev IT:=(Nat->Value)
abbrev IU:=(Nat->Value->Prop)
end
namespace L2
open PySem PySem.Spec PyProof.Rows
abbrev Key:=Sum Int Str
abbrev IB:=List Key
abbrev ID:=(List (Key×Value))
abbrev IE:=(List (List Key×Int))
def cO:Key->Value->Bool
 |.inl k,v=>Value.isInt k v
 |.inr x,v=>Value.isStrOf x v
def GW(w:Ie):Key->Int
 |.inl k=>hashInt k
 |.inr x=>hashStr w x
def yf:∀{k:Key}{v:Value},cO k v=true->(∃i t,k=Sum.inl i/\v=Value.int i t)\/(∃x t,k=Sum.inr x/\v=Value.str x t)
 |.inl i,v,h=>by obtain⟨t,e⟩:=Value.isInt_shape (k:=i) (v:=v) h;exact .inl ⟨i,t,rfl,e⟩
 |.inr x,v,h=>by obtain⟨t,e⟩:=Value.isStrOf_shape (x:=x) (v:=v) h;exact .inr ⟨x,t,rfl,e⟩
def lC(i:Int)(t:Tok):cO (.inl i) (.int i t)=true:=by simp[cO,Value.isInt]
def lD(x:Str)(t:Tok):cO (.inr x) (.str x t)=true:=by simp[cO,Value.isStrOf]
def Cb(a b:Int):decide ((Sum.inl a:Key)=Sum.inl b)=(a==b):=by
 by_cases e:a=b
 .subst e;simp
 .have h:¬(Sum.inl a:Key)=Sum.inl b:=λq=>e (Sum.inl.inj q);rw[M4 h];exact(P8.mpr e).symm
def Cc(a b:Str):decide ((Sum.inr a:Key)=Sum.inr b)=decide (a=b):=by
 by_cases e:a=b
 .subst e;simp
 .have h:¬(Sum.inr a:Key)=Sum.inr b:=λq=>e (a0n q);rw[M4 h,M4 e]
def Cd(a:Int)(b:Str):decide ((Sum.inl a:Key)=Sum.inr b)=false:=M4 (λq=>nomatch q)
def Ce(a:Str)(b:Int):decide ((Sum.inr a:Key)=Sum.inl b)=false:=M4 (λq=>nomatch q)
def zT(prog:HZ)(w:Ie):PySem.KeyKind prog w Key where
 is:=cO
 hash:=GW w
 inj:=λv a b ha hb=>by
  rcases yf ha with⟨i,t,rfl,rfl⟩|⟨x,t,rfl,rfl⟩
  .rcases yf hb with⟨j,u,rfl,e⟩|⟨y,u,rfl,e⟩
   .injection e with e1 _;rw[e1]
   .exact nomatch e
  .rcases yf hb with⟨j,u,rfl,e⟩|⟨y,u,rfl,e⟩
   .exact nomatch e
   .injection e with e1 _;rw[e1]
 byValue:=λk v h=>by rcases yf h with⟨i,t,rfl,rfl⟩|⟨x,t,rfl,rfl⟩<;>rfl
 pyHash:=λhv h=>by
  rcases yf hv with⟨i,t,rfl,rfl⟩|⟨x,t,rfl,rfl⟩
  .exact wpAny_pyHash_int h
  .exact wpAny_pyHash_str h
 eqBool:=λhu hv h=>by
  rcases yf hu with⟨i,t,rfl,rfl⟩|⟨x,t,rfl,rfl⟩
  .rcases yf hv with⟨j,u,rfl,rfl⟩|⟨y,u,rfl,rfl⟩
   .rw[Cb]at h;exact a13 h
   .rw[Cd]at h;exact a2J i t y u _ _ _ _ h
  .rcases yf hv with⟨j,u,rfl,rfl⟩|⟨y,u,rfl,rfl⟩
   .rw[Ce]at h;exact a2K x t j u _ _ _ _ h
   .rw[Cc]at h;exact wpAny_eqBool_str h
 «strs»:=λk x t v h=>by
  rcases yf h with⟨i,u,rfl,e⟩|⟨y,u,rfl,e⟩
  .exact nomatch e
  .injection e with e1 _
   subst e1;cases v<;>rfl
def XH(prog:HZ)(w:Ie)(k:Key)(v:Value):(zT prog w).is k v=cO k v:=rfl
def cP(prog:HZ)(w:Ie)(i:Int)(t:Tok):(zT prog w).is (.inl i) (.int i t)=true:=lC i t
def cQ(prog:HZ)(w:Ie)(x:Str)(t:Tok):(zT prog w).is (.inr x) (.str x t)=true:=lD x t
inductive V where
 |non|bl (b:Bool)|int (i:Int)|str (x:Str)|byt (b:Array UInt8)|flt (b:UInt64)|ref (a:Addr)|ty (n:String)
 deriving DecidableEq
abbrev HN:=List V
abbrev HP:=(List (Key×V))
abbrev Ik:=(List (Str×V))
abbrev IH:=(List (List Key×V))
def RelV:V->Value->Prop
 |.non,u=>u=Value.none
 |.bl b,u=>u=Value.bool b
 |.int i,u=>∃t,u=Value.int i t
 |.str x,u=>∃t,u=Value.str x t
 |.byt b,u=>∃t,u=Value.bytes b t
 |.flt b,u=>∃t,u=Value.float b t
 |.ref a,u=>u=Value.ref a
 |.ty n,u=>u=Value.type n
abbrev Vals:List V->List Value->Prop:=Paired RelV
def Vals.length(r:Vals xs us):xs.length=us.length:=a0g r
def Vals.get:∀{xs:HN}{us:HK}{i:Nat}{x:V},Vals xs us->xs[i]?=some x->∃u,us[i]?=some u/\RelV x u
 |_,_,_,_,.nil,e=>by simp at e
 |_,_,0,_,.cons r _,e=>by simp at e;subst e;exact⟨_,rfl,r⟩
 |_,_,i+1,x,.cons _ t,e=>by obtain⟨u,h1,h2⟩:=Vals.get (i:=i) (x:=x) t (by simpa using e);exact⟨u,by simpa using h1,h2⟩
def Vals.set{x:V}{u:Value}(r:RelV x u):∀{xs:HN}{us:HK}(i:Nat),Vals xs us->Vals (xs.set i x) (us.set i u)
 |_,_,_,.nil=>.nil
 |_,_,0,.cons _ t=>.cons r t
 |_,_,i+1,.cons q t=>.cons q (Vals.set r i t)
def Vals.append:∀{xs ys:HN}{us ws:HK},Vals xs us->Vals ys ws->Vals (xs++ys) (us++ws)
 |_,_,_,_,.nil,s=>s
 |_,_,_,_,.cons r t,s=>.cons r (Vals.append t s)
def Vals.take:∀{xs:HN}{us:HK}(n:Nat),Vals xs us->Vals (xs.take n) (us.take n)
 |_,_,0,_=>.nil
 |_,_,_+1,.nil=>.nil
 |_,_,n+1,.cons r t=>.cons r (Vals.take n t)
def Vals.drop:∀{xs:HN}{us:HK}(n:Nat),Vals xs us->Vals (xs.drop n) (us.drop n)
 |_,_,0,r=>r
 |_,_,_+1,.nil=>.nil
 |_,_,n+1,.cons _ t=>Vals.drop n t
def Vs:Option V->Option Value->Prop
 |some v,some u=>RelV v u
 |none,none=>True
 |_,_=>False
def KV{κ:Type}:List (κ×V)->List (κ×Value)->Prop:=Paired λ(p:κ×V) (q:κ×Value)=>p.1=q.1/\RelV p.2 q.2
def kV:Key->V
 |.inl i=>.int i
 |.inr x=>.str x
inductive HO where
 |lst (xs:HN)
 |tup (xs:HN)
 |dK (kvs:HP)|dT (kvs:IH)
 |set (S:Int->Bool) (n:Nat)
 |ins (C dx:Addr) (fs:Ik)
 |own (x:Addr)
 |xd (fs:Ik)
 |met (f x:Addr)
 |rng (lo hi:Int)
 |frz (o:Obj) (u:HO)
 |tbl (ps:Iv)
 |ext (φ:Heap->Prop)
abbrev Hp:=Addr->Option HO
def upd(H:Hp)(a:Addr)(o:HO):Hp:=λb=>if b=a then some o else H b
def zg:upd H a o a=some o:=by unfold upd;rw[if_pos rfl]
def zi(h:b≠a):upd H a o b=H b:=by unfold upd;rw[if_neg h]
def VF:upd (upd H a o) a u=upd H a u:=by
 funext b;unfold upd;split<;>rfl
def E4{H:Hp}{a b:Addr}{o u:HO}(h:H a=some o)(h':H b=some u)(d:o≠u):a≠b:=by intro e;subst e;rw[h]at h';exact d (P5 h')
def ye{H:Hp}{a b:Addr}{o:HO}(h:H a=some o)(h':H b=none):a≠b:=by intro e;subst e;rw[h]at h';cases h'
section
variable (P:HZ) (w:Ie)
def yC(H:Hp)(h:Heap)(a:Addr):HO->Prop
 |.lst xs=>xs.length<=sizeLine/\∃(its:HK)(n:Nat),Vals xs its/\h.get? a=some { cls:=.type "list",data:=.seq its.toArray n }
 |.tup xs=>xs.length<=sizeLine/\∃its:List Value,Vals xs its/\IsTup h a its.toArray
 |.dK kvs=>kvs.length<=sizeLine/\(a==sysModules)=false/\∃vs,KV kvs vs/\h.DictOf (zT P w) a vs
 |.dT kvs=>kvs.length<=sizeLine/\(a==sysModules)=false/\∃xs:List (List Key×Addr×Value),
   Paired (λ(p:List Key×V) (q:List Key×Addr×Value)=>p.1=q.1/\H q.2.1=some (.tup (p.1.map kV))/\RelV p.2 q.2.2) kvs xs/\
   ∃o es ep,h.get? a=some o/\o.ExactDict/\o.data=.dict es ep/\es.toList=xs.map (entryOfKey (tupleKind (zT P w)))/\(xs.map (·.1)).Nodup
 |.set S n=>h.SetOf (intKind P w) a S n
 |.ins C dx fs=>H dx=some (.own a)/\fs.length<=1000/\dx≠a/\h.get? a=some (PySem.W.instObj C dx)/\
   ∃mA,h.Ns1 dx mA/\(∀f,Vs (fs.lookup f) (mA f))/\PySem.Within mA (fs.map (·.1))
 |.own _=>∃o,h.get? a=some o
 |.xd fs=>∃mA,h.Ns1 a mA/\∀f,Vs (fs.lookup f) (mA f)
 |.rng lo hi=>∃t u v,h.get? a=some { cls:=.type "range",data:=.fields #[.int lo t,.int hi u,.int 1 v] }
 |.frz o u=>h.get? a=some o/\yC H h a u
 |.tbl ps=>h.get? a=some { cls:=.none,data:=.fields ps }
 |.met f x=>h.get? a=some (PySem.W.methodObj (.ref f) (.ref x))
 |.ext φ=>φ h/\(∃o,h.get? a=some o)/\∀h1 h2:Heap,φ h1->(∀o,h1.get? a=some o->h2.get? a=some o)->φ h2
def HOk(H:Hp)(h:Heap):Prop:=∀a o,H a=some o->yC P w H h a o
end
section
variable {P:HZ}{w:Ie}{H H':Hp}{h h':Heap}{a:Addr}{o:HO}
def yC.lt(x:yC P w H h a o):a<h.objs.size:=by
 cases o with
 |lst xs=>obtain⟨_,_,_,_,e⟩:=x;exact L7 e
 |tup xs=>obtain⟨_,_,_,p⟩:=x;exact p.lt
 |dK kvs=>obtain⟨_,_,_,_,o,_,_,e,_⟩:=x;exact L7 e
 |dT kvs=>obtain⟨_,_,_,_,o,_,_,e,_⟩:=x;exact L7 e
 |set S n=>obtain⟨o,_,_,_,e,_⟩:=x;exact L7 e
 |ins C dx fs=>obtain⟨_,_,_,e,_⟩:=x;exact L7 e
 |own y=>obtain⟨_,e⟩:=x;exact L7 e
 |xd fs=>obtain⟨_,⟨_,_,_,e,_⟩,_⟩:=x;exact L7 e
 |rng lo hi=>obtain⟨_,_,_,e⟩:=x;exact L7 e
 |frz ob u=>obtain⟨e,_⟩:=x;exact L7 e
 |tbl ps=>exact L7 (show h.get? a=some _ from x)
 |met f y=>exact L7 (show h.get? a=some _ from x)
 |ext φ=>obtain⟨_,⟨_,e⟩,_⟩:=x;exact L7 e
def Paired.E5{α β:Type}{F G:α->β->Prop}:∀{l₁:List α}{l₂:List β},Paired F l₁ l₂->(∀a b,F a b->G a b)->Paired G l₁ l₂
 |_,_,.nil,_=>.nil
 |_,_,.cons r t,f=>.cons (f _ _ r) (Paired.E5 t f)
def yC.rA(x:yC P w H h a o)(k:∀b u,(b=a\/H b=some (.own a))->h.get? b=some u->h'.get? b=some u)
  (ho:∀b,H b=some (.own a)->H' b=some (.own a)) (ht:∀b xs,H b=some (.tup xs)->H' b=some (.tup xs)):yC P w H' h' a o:=by
 induction o with
 |lst xs=>obtain⟨z,its,n,r,e⟩:=x;exact⟨z,its,n,r,k _ _ (.inl rfl) e⟩
 |tup xs=>obtain⟨z,its,r,ob,e,c⟩:=x;exact⟨z,its,r,ob,k _ _ (.inl rfl) e,c⟩
 |dK kvs=>obtain⟨z,y,vs,r,ob,es,ep,e,c⟩:=x;exact⟨z,y,vs,r,ob,es,ep,k _ _ (.inl rfl) e,c⟩
 |dT kvs=>obtain⟨z,y,xs,r,ob,es,ep,e,c⟩:=x;exact⟨z,y,xs,Paired.E5 r λp q z=>⟨z.1,ht _ _ z.2.1,z.2.2⟩,ob,es,ep,k _ _ (.inl rfl) e,c⟩
 |set S n=>obtain⟨ob,es,ep,t,e,c⟩:=x;exact⟨ob,es,ep,t,k _ _ (.inl rfl) e,c⟩
 |ins C dx fs=>obtain⟨d,z,ne,e,mA,⟨od,es,ep,e2,c⟩,r⟩:=x;exact⟨ho _ d,z,ne,k _ _ (.inl rfl) e,mA,⟨od,es,ep,k _ _ (.inr d) e2,c⟩,r⟩
 |own y=>obtain⟨ob,e⟩:=x;exact⟨ob,k _ _ (.inl rfl) e⟩
 |xd fs=>obtain⟨mA,⟨od,es,ep,e,c⟩,r⟩:=x;exact⟨mA,⟨od,es,ep,k _ _ (.inl rfl) e,c⟩,r⟩
 |rng lo hi=>obtain⟨t,u,v,e⟩:=x;exact⟨t,u,v,k _ _ (.inl rfl) e⟩
 |frz ob u ih=>obtain⟨e,q⟩:=x;exact⟨k _ _ (.inl rfl) e,ih q⟩
 |tbl ps=>have e:h.get? a=some { cls:=.none,data:=.fields ps }:=x;show h'.get? a=some { cls:=.none,data:=.fields ps };exact k a _ (.inl rfl) e
 |met f y=>have e:h.get? a=some (PySem.W.methodObj (.ref f) (.ref y)):=x;show h'.get? a=some (PySem.W.methodObj (.ref f) (.ref y));exact k a _ (.inl rfl) e
 |ext φ=>obtain⟨p,⟨o,e⟩,st⟩:=x;exact⟨st _ _ p λo q=>k _ _ (.inl rfl) q,⟨o,k _ _ (.inl rfl) e⟩,st⟩
def HOk.lt(x:HOk P w H h)(e:H a=some o):a<h.objs.size:=(x a o e).lt
def HOk.fresh(x:HOk P w H h)(e:h.objs.size<=a):H a=none:=by
 cases q:H a with
 |none=>rfl
 |some u=>exact absurd (N5 (x.lt q) e) (T9 _)
def HOk.kept(x:HOk P w H h)(k:∀b u,h.get? b=some u->h'.get? b=some u):HOk P w H h':=λa o e=>
 (x a o e).rA (λb u _ q=>k b u q) (λ_ q=>q) λ_ _ q=>q
def HOk.laid(x:HOk P w H h)(k:∀b u,h.get? b=some u->h'.get? b=some u)(hp:h.objs.size<=a)(new:yC P w (upd H a o) h' a o):HOk P w (upd H a o) h':=λb u e=>by
 have hn:=x.fresh hp;by_cases hb:b=a
 .subst hb;rw[zg]at e;cases e;exact new
 .rw[zi hb]at e;exact(x b u e).rA (λc v _ q=>k c v q) (λc q=>by rw[zi (ye q hn)];exact q) λc xs q=>by rw[zi (ye q hn)];exact q
end
def Rd(H:Hp)(a:Addr)(u:HO):Prop:=H a=some u\/∃o,H a=some (.frz o u)
def Rd.ok(r:Rd H a u)(x:HOk P w H h):yC P w H h a u:=by
 rcases r with r|⟨o,r⟩
 .exact x a u r
 .obtain⟨_,q⟩:=x a _ r;exact q
def Mut:Option HO->Prop
 |some (.lst _)=>True
 |some (.dK _)=>True
 |some (.dT _)=>True
 |some (.set _ _)=>True
 |some (.ins _ _ _)=>True
 |some (.ext _)=>True
 |_=>False
def HOk.write(ok:HOk P w H h)(mu:Mut (H x))(he:e=x\/H e=some (.own x))(k:∀b u,b≠e->h.get? b=some u->h'.get? b=some u)(heo:∃u,h'.get? e=some u)
  (new:yC P w (upd H x o') h' x o'):HOk P w (upd H x o') h':=λb u q=>by
 have nown:∀c y,H c=some (.own y)->c≠x:=λc y r z=>by subst z;rw[r]at mu;exact mu
 have ntup:∀c xs,H c=some (.tup xs)->c≠x:=λc xs r z=>by subst z;rw[r]at mu;exact mu
 by_cases hb:b=x
 .subst hb;rw[zg]at q;cases q;exact new
 .rw[zi hb]at q;by_cases hbe:b=e
  .have q':H b=some (.own x):=by
    rcases he with z|z
    .exact absurd (hbe.trans z) hb
    .rw[hbe];exact z
   rw[q]at q';cases q';obtain⟨v,hv⟩:=heo;exact⟨v,by rw[hbe];exact hv⟩
  .refine(ok b u q).rA (λc v hc r=>k c v ?_ r) (λc r=>by rw[zi (nown c b r)];exact r) λc xs r=>by rw[zi (ntup c xs r)];exact r
   rcases hc with rfl|hc
   .exact hbe
   .rintro rfl
    rcases he with z|z
    .exact nown c b hc z
    .rw[hc]at z;cases z;exact hb rfl
structure Un(fs ex:Iy)(H H':Hp)(h h':Heap):Prop where
 keep:∀b o,h.get? b=some o->H b=none->b∉fs->b∉ex->h'.get? b=some o
 slot:∀b o,h.get? b=some o->H b=none->b∈fs->b∉ex->∃sl,h'.get? b=some { o with slots:=sl }
 free:∀b o,h.get? b=some o->H b=none->b∉ex->H' b=none
 there:∀b o,h.get? b=some o->b∉ex->∃o',h'.get? b=some o'
 lA:∀b xs,H b=some (.tup xs)->H' b=some (.tup xs)
 pK:∀b o u,H b=some (.frz o u)->H' b=some (.frz o u)
 uA:∀b ps,H b=some (.tbl ps)->∃more,H' b=some (.tbl (ps++more))
section
variable {fs fs' ex ex':Iy}{H H1 H2:Hp}{h h1 h2 h':Heap}{a x e:Addr}{o:HO}
def Un.any(u:Un fs ex H H1 h h1)(q:h.get? b=some ob)(n:H b=none)(hx:b∉ex):∃sl,h1.get? b=some { ob with slots:=sl }:=by
 by_cases hb:b∈fs
 .exact u.slot b ob q n hb hx
 .exact⟨ob.slots,u.keep b ob q n hb hx⟩
def Un.kept(k:∀b u,h.get? b=some u->h'.get? b=some u):Un fs ex H H h h':=
 ⟨λb ob q _ _ _=>k b ob q,λb ob q _ _ _=>⟨ob.slots,k b ob q⟩,λ_ _ _ n _=>n,λb ob q _=>⟨ob,k b ob q⟩,λ_ _ q=>q,λ_ _ _ q=>q,λ_ ps q=>⟨#[],by rw[q];simp⟩⟩
def Un.refl:Un fs ex H H h h:=Un.kept λ_ _ q=>q
def Un.laid(k:∀b u,h.get? b=some u->h'.get? b=some u)(hp:h.objs.size<=a)(hn:H a=none):Un fs ex H (upd H a o) h h' where
 keep:=λb u q _ _ _=>k b u q
 slot:=λb u q _ _ _=>⟨u.slots,k b u q⟩
 free:=λb u q n _=>by rw[zi (L9 (N5 (L7 q) hp))];exact n
 there:=λb u q _=>⟨u,k b u q⟩
 lA:=λb xs q=>by rw[zi (ye q hn)];exact q
 pK:=λb u xs q=>by rw[zi (ye q hn)];exact q
 uA:=λb ps q=>⟨#[],by rw[zi (ye q hn),q];simp⟩
def Un.write(mu:Mut (H x))(he:e=x\/H e=some (.own x))(k:∀b u,b≠e->h.get? b=some u->h'.get? b=some u)(heo:∃u,h'.get? e=some u):Un fs ex H (upd H x o) h h':=by
 have hx:∀b,H b=none->b≠x:=λb n z=>by subst z;rw[n]at mu;exact mu
 have hb:∀b,H b=none->b≠e:=λb n z=>by
  subst z;rcases he with r|r
  .exact hx b n r
  .rw[n]at r;cases r
 have hm:∀b u,H b=some u->¬Mut (some u)->b≠x:=λb u q nm z=>by subst z;rw[q]at mu;exact nm mu
 refine⟨λb u q n _ _=>k b u (hb b n) q,λb u q n _ _=>⟨u.slots,k b u (hb b n) q⟩,λb u q n _=>by rw[zi (hx b n)];exact n,λb u q _=>?_,
  λb xs q=>by rw[zi (hm b _ q λz=>z)];exact q,λb u xs q=>by rw[zi (hm b _ q λz=>z)];exact q,λb ps q=>⟨#[],by rw[zi (hm b _ q λz=>z),q];simp⟩⟩
 by_cases hbe:b=e
 .subst hbe;exact heo
 .exact⟨u,k b u hbe q⟩
end
def trk(h:Heap)(H:Hp):List Addr:=(List.range h.objs.size).filter λa=>(H a).isSome
def rB(h:Heap)(H:Hp):Heap:=PySem.W.hideAll h (trk h H)
def lE(h:Heap)(H:Hp):(rB h H).objs.size=h.objs.size:=PySem.W.hideAll_size _ _
def rC(e:h.get? b=some o)(n:H b=none):(rB h H).get? b=some o:=
 PySem.W.hideAll_get _ e λhm=>by have q:(H b).isSome=true:=(a0P.mp hm).2;rw[n]at q;simp at q
def xU(e:(rB h H).get? b=some o):h.get? b=some o/\H b=none:=by
 have e':h.get? b=some o:=PySem.W.of_hideAll (trk h H) e;refine⟨e',?_⟩;cases q:H b with
 |none=>rfl
 |some x=>have hm:b∈trk h H:=a0P.mpr ⟨a0l.mpr (L7 e'),by simp[q]⟩;have z:(rB h H).get? b=none:=PySem.W.hideAll_none (trk h H) hm;rw[z]at e;cases e
structure Mod(K:HU)(mg:HD)(base:Heap):Prop where
 kin:K.In base
 glob:base.Ns mainGlobals mg
 blt:∃mb,base.Ns builtinsNs mb/\∀x:Str,x≠"__name__"->mb x=bootBuiltins x
 nolimit:base.NoLimit
structure Cx where
 prog:Program
 w:World
 K:PySem.W.Frag
 mg:Str->Option Value
 base:Heap
 A:Around
 N:List Str
 s₀:Shared
 H₀:Hp
 env:Env
 outer:List Env
 stack:List Env
 ex:List Addr
 fn:Str->Bool
 calm:Bool
 pn:List (Addr×Obj)
 xe:Value->Shared->Prop
abbrev IW(X:Cx):=model X.prog X.w
def frs(l:List Env):List Addr:=l.filterMap (·.frame)
abbrev Cx.fs(X:Cx):List Addr:=frs X.outer
def Vis(sc:Scope)(x:Str):Prop:=sc.names.lookup x=some .local\/sc.names.lookup x=some .cell\/sc.names.lookup x=some .free
def Loc(sc:Scope)(x:Str):Prop:=sc.names.lookup x=some .local\/sc.names.lookup x=some .cell
def Look(env:Env)(h:Heap)(m:HD)(x:Str)(u:Value):Prop:=
 (env.kindOf x=some .local/\m x=some u)\/((env.kindOf x=some .cell\/env.kindOf x=some .free)/\∃c,env.cells.lookup x=some c/\h.IsCell c (some u))
structure Cx.Ok(X:Cx):Prop where
 mod:Mod X.K X.mg X.base
 kind:X.env.scope.kind=.function
 glob:X.env.globals=mainGlobals
 blt:X.env.builtins=builtinsNs
 above:X.s₀.heap.objs.size<=X.env.locals
 inj:∀x y c,X.env.cells.lookup x=some c->X.env.cells.lookup y=some c->x=y
 has:∀x,(X.env.kindOf x=some .cell\/X.env.kindOf x=some .free)->∃c,X.env.cells.lookup x=some c
 cab:∀x c,X.fn x=true->X.env.cells.lookup x=some c->X.s₀.heap.objs.size<=c
 hd:X.calm=true->X.A.handled=none
 frames:X.A.frames=some X.stack
 stk:X.stack=X.outer\/(X.stack=X.env::X.outer/\X.env.frame=some X.env.locals)
 exf:∀b∈X.ex,b≠X.env.locals/\∀x c,X.env.cells.lookup x=some c->c≠b
 bs:∀b o,X.base.get? b=some o->X.s₀.heap.get? b=some o/\X.H₀ b=none
 bsz:X.base.objs.size<=X.s₀.heap.objs.size
 EA:∀b o,X.base.get? b=some o->b∉X.ex
 EB:∀b∈X.ex,b∉X.fs
 eS:X.s₀.heap.FunFrames X.base X.outer
 frf:∀b∈X.fs,X.H₀ b=none
structure Inv(X:Cx)(pins:Hz)(σ:List (Option V))(H:Hp)(s:HJ):Prop where
 ok:X.Ok
 os:s.os=X.s₀.os
 bare:AllBare s.gens
 base:Un X.fs X.ex X.H₀ H X.s₀.heap s.heap
 loc:∃m,s.heap.Ns X.env.locals m/\∀(i:Nat)(x:Str)(v:V),X.N[i]?=some x->σ[i]?=some (some v)->Vis X.env.scope x->∃u,RelV v u/\Look X.env s.heap m x u
 cell:∀x c,X.env.cells.lookup x=some c->∃v,s.heap.IsCell c v
 free:H X.env.locals=none
 Vk:∀x c,X.env.cells.lookup x=some c->H c=none
 pin:∀p∈X.pn++pins,s.heap.get? p.1=some p.2/\H p.1=none/\p.1≠X.env.locals/\p.1∉X.fs/\∀v,p.2.data≠.cell v
 hok:HOk X.prog X.w H s.heap
 len:σ.length=X.N.length
section
variable {X:Cx}{pins:Hz}{σ:List (Option V)}{H H':Hp}{s:HJ}{h':Heap}
def Cx.Ok.GX(ok:X.Ok)(e:X.base.get? b=some o):b∉X.fs:=λhb=>by have:=(ok.eS.mem hb).1;rw[e]at this;cases this
def Inv.bs(I:Inv X pins σ H s):∀b o,X.base.get? b=some o->s.heap.get? b=some o/\H b=none:=λb o e=>
 ⟨I.base.keep b o (I.ok.bs b o e).1 (I.ok.bs b o e).2 (I.ok.GX e) (I.ok.EA b o e),I.base.free b o (I.ok.bs b o e).1 (I.ok.bs b o e).2 (I.ok.EA b o e)⟩
def Inv.bk(I:Inv X pins σ H s):∀b o,X.base.get? b=some o->s.heap.get? b=some o:=λb o e=>(I.bs b o e).1
def Inv.mod(I:Inv X pins σ H s):Mod X.K X.mg X.base:=I.ok.mod
def Inv.kIn(I:Inv X pins σ H s):X.K.In s.heap:=I.ok.mod.kin.keeps I.bk
def Inv.lt(I:Inv X pins σ H s):X.env.locals<s.heap.objs.size:=let⟨_,hn,_⟩:=I.loc;hn.lt
def Inv.sz(I:Inv X pins σ H s):X.s₀.heap.objs.size<=s.heap.objs.size:=O5 I.ok.above (a1e I.lt)
def Inv.GY(I:Inv X pins σ H s)(h:s.heap.objs.size<=a):a∉X.fs:=λhb=>by obtain⟨_,o,ho,_⟩:=I.ok.eS.mem hb;exact absurd (N5 (L7 ho) (O5 I.sz h)) (T9 _)
def Inv.cne(I:Inv X pins σ H s):∀x c,X.env.cells.lookup x=some c->c≠X.env.locals:=λx c e z=>by obtain⟨v,o,ho,hd⟩:=I.cell x c e;obtain⟨m,⟨o',es,ep,ho',hd',_⟩,_⟩:=I.loc;rw[z,ho']at ho;cases ho;rw[hd']at hd;cases hd
def Inv.eS(I:Inv X pins σ H s):s.heap.FunFrames X.base X.outer:=by
 have all:∀(l:List Env),(∀b∈frs l,b∈X.fs)->X.s₀.heap.FunFrames X.base l->s.heap.FunFrames X.base l:=by
  intro l
  induction l with
  |nil=>intro _ _;trivial
  |cons env r ih=>intro hs hl;obtain⟨hk,⟨L,o,hf,hn,ho,hd⟩,hr⟩:=hl;have hL:L∈X.fs:=hs L (by unfold frs;rw[a1F,hf];exact L4);obtain⟨sl,e⟩:=I.base.slot L o ho (I.ok.frf L hL) hL λz=>I.ok.EB L z hL;exact⟨hk,⟨L,_,hf,hn,e,hd⟩,ih (λb hb=>hs b (by unfold frs;rw[a1F,hf];exact L8 _ hb)) hr⟩
 exact all X.outer (λ_ hb=>hb) I.ok.eS
def Inv.stack(I:Inv X pins σ H s):s.heap.FunFrames X.base X.stack:=by
 rcases I.ok.stk with e|⟨e,hf⟩
 .rw[e];exact I.eS
 .rw[e];obtain⟨m,hn,_⟩:=I.loc;refine .cons (by rw[I.ok.kind];decide) hf hn ?_ I.eS;exact Heap.get?_none_of_le (O5 I.ok.bsz I.ok.above)
def Inv.XI(I:Inv X pins σ H s):∀b∈frs X.stack,b∈X.env.locals::X.fs:=λb hb=>by
 rcases I.ok.stk with e|⟨e,hf⟩
 .rw[e]at hb;exact L8 _ hb
 .rw[e]at hb;unfold frs at hb;rw[a1F,hf]at hb;exact hb
def Inv.Ui(I:Inv X pins σ H s):∀b∈frs X.stack,H b=none:=λb hb=>by
 rcases N4.mp (I.XI b hb)with e|hb
 .rw[e];exact I.free
 .obtain⟨_,o,ho,_⟩:=I.ok.eS.mem hb;exact I.base.free b o ho (I.ok.frf b hb) λz=>I.ok.EB b z hb
def Inv.step{g':Array GenState}{t':Nat}{d':Drawn}{ch:Iy}(I:Inv X pins σ H s)
  (hch:∀b∈ch,(b∈X.ex\/X.s₀.heap.objs.size<=b)/\b≠X.env.locals/\(∀x c,X.env.cells.lookup x=some c->c≠b)/\∀p∈X.pn++pins,p.1≠b)
  (keep:∀b o,b≠X.env.locals->b∉X.fs->b∉ch->s.heap.get? b=some o->H b=none->h'.get? b=some o)
  (slot:∀b o,b≠X.env.locals->b∈X.fs->b∉ch->s.heap.get? b=some o->H b=none->∃sl,h'.get? b=some { o with slots:=sl }) (free:∀b o,b∉ch->s.heap.get? b=some o->H b=none->H' b=none)
  (there:∀b o,b∉ch->s.heap.get? b=some o->∃o',h'.get? b=some o')
  (lA:∀b xs,H b=some (.tup xs)->H' b=some (.tup xs)) (pK:∀b o u,H b=some (.frz o u)->H' b=some (.frz o u)) (uA:∀b ps,H b=some (.tbl ps)->∃more,H' b=some (.tbl (ps++more)))
  (ns:∀m,s.heap.Ns X.env.locals m->h'.Ns X.env.locals m) (hok:HOk X.prog X.w H' h') (hg:AllBare g'):
  Inv X pins σ H' { s with heap:=h',gens:=g',drawn:=d',toks:=t' }:=by
 have neL:∀b o,X.s₀.heap.get? b=some o->b≠X.env.locals:=λb o e=>L9 (N5 (L7 e) I.ok.above);have neC:∀b o,X.s₀.heap.get? b=some o->b∉X.ex->b∉ch:=λb o e hx hb=>by
  rcases(hch b hb).1 with z|z
  .exact hx z
  .exact absurd (N5 (L7 e) z) (T9 _)
 have cellK:∀x c,X.env.cells.lookup x=some c->∀v,s.heap.IsCell c v->h'.IsCell c v:=λx c e v ⟨o,ho,hd⟩=>by
  have nch:c∉ch:=λz=>(hch c z).2.2.1 x c e rfl;by_cases hc:c∈X.fs
  .obtain⟨sl,q⟩:=slot c o (I.cne x c e) hc nch ho (I.Vk x c e);exact⟨_,q,hd⟩
  .exact⟨o,keep c o (I.cne x c e) hc nch ho (I.Vk x c e),hd⟩
 refine⟨I.ok,I.os,hg,⟨λb o e n hb hx=>?_,λb o e n hb hx=>?_,λb o e n hx=>?_,λb o e hx=>?_,λb xs e=>lA b xs (I.base.lA b xs e),λb o xs e=>pK b o xs (I.base.pK b o xs e),λb ps e=>?_⟩,?_,λx c e=>?_,?_,λx c e=>?_,λp hp=>?_,hok,I.len⟩
 .exact keep b o (neL b o e) hb (neC b o e hx) (I.base.keep b o e n hb hx) (I.base.free b o e n hx)
 .obtain⟨sl,e1⟩:=I.base.slot b o e n hb hx;obtain⟨sl',e2⟩:=slot b _ (neL b o e) hb (neC b o e hx) e1 (I.base.free b o e n hx);exact⟨sl',e2⟩
 .obtain⟨o',e1⟩:=I.base.there b o e hx;exact free b o' (neC b o e hx) e1 (I.base.free b o e n hx)
 .obtain⟨o',e1⟩:=I.base.there b o e hx;exact there b o' (neC b o e hx) e1
 .obtain⟨m1,e1⟩:=I.base.uA b ps e;obtain⟨m2,e2⟩:=uA b _ e1;exact⟨m1++m2,by rw[e2,a2L]⟩
 .obtain⟨m,hn,hl⟩:=I.loc;refine⟨m,ns m hn,λi x v e1 e2 e3=>?_⟩;obtain⟨u,r,l⟩:=hl i x v e1 e2 e3;refine⟨u,r,?_⟩;rcases l with l|⟨k,c,e,z⟩
  .exact .inl l
  .exact .inr ⟨k,c,e,cellK x c e _ z⟩
 .obtain⟨v,z⟩:=I.cell x c e;exact⟨v,cellK x c e v z⟩
 .obtain⟨m,⟨o,_,_,ho,_⟩,_⟩:=I.loc;exact free _ o (λz=>(hch _ z).2.1 rfl) ho I.free
 .obtain⟨v,o,ho,hd⟩:=I.cell x c e;exact free c o (λz=>(hch c z).2.2.1 x c e rfl) ho (I.Vk x c e)
 .obtain⟨e,n,ne,nf,d⟩:=I.pin p hp;have nch:p.1∉ch:=λz=>(hch p.1 z).2.2.2 p hp rfl;exact⟨keep p.1 p.2 ne nf nch e n,free p.1 p.2 nch e n,ne,nf,d⟩
def Inv.un(I:Inv X pins σ H s)(u:Un X.fs [] H H' s.heap h')(hok:HOk X.prog X.w H' h'):Inv X pins σ H' { s with heap:=h',toks:=t' }:=by
 obtain⟨m,⟨o,es,ep,ho,r⟩,_⟩:=id I.loc;obtain⟨sl,hL⟩:=u.any ho I.free (by simp);exact I.step (g':=s.gens) (d':=s.drawn) (ch:=[]) (λ_ z=>nomatch z) (λb o _ hb _ e n=>u.keep b o e n hb (by simp)) (λb o _ hb _ e n=>u.slot b o e n hb (by simp)) (λb o _ e n=>u.free b o e n (by simp)) (λb o _ e=>u.there b o e (by simp)) u.lA u.pK u.uA (λm' hm=>by
  obtain⟨o',es',ep',ho',r'⟩:=hm;rw[ho]at ho';cases ho';exact⟨_,es',ep',hL,r'⟩) hok I.bare
def Inv.call(I:Inv X pins σ H s)(u:Un (frs X.stack) ch H H' s.heap h')(hok:HOk X.prog X.w H' h')(hg:AllBare g')
  (hch:∀b∈ch,(b∈X.ex\/X.s₀.heap.objs.size<=b)/\b≠X.env.locals/\(∀x c,X.env.cells.lookup x=some c->c≠b)/\∀p∈X.pn++pins,p.1≠b):
  Inv X pins σ H' { s with heap:=h',gens:=g',drawn:=d',toks:=t' }:=by
 obtain⟨m,⟨o,es,ep,ho,r⟩,_⟩:=id I.loc;obtain⟨sl,hL⟩:=u.any ho I.free λz=>(hch _ z).2.1 rfl;exact I.step (ch:=ch) hch (λb o hL hb hc e n=>u.keep b o e n (λz=>(N4.mp (I.XI b z)).elim hL hb) hc) (λb o _ _ hc e n=>u.any e n hc) (λb o hc e n=>u.free b o e n hc) (λb o hc e=>u.there b o e hc) u.lA u.pK u.uA (λm' hm=>by
  obtain⟨o',es',ep',ho',r'⟩:=hm;rw[ho]at ho';cases ho';exact⟨_,es',ep',hL,r'⟩) hok hg
def Inv.turned(I:Inv X pins σ H s)(k:∀b o,b≠it->s.heap.get? b=some o->h'.get? b=some o)(hn:H it=none)(hL:it≠X.env.locals)
  (h1:it∈X.ex\/X.s₀.heap.objs.size<=it) (h2:∀x c,X.env.cells.lookup x=some c->c≠it) (h3:∀p∈X.pn++pins,p.1≠it):Inv X pins σ H { s with heap:=h',toks:=t' }:=by
 have nit:∀b u,H b=some u->b≠it:=λb u e z=>by rw[z,hn]at e;cases e
 refine I.step (g':=s.gens) (d':=s.drawn) (ch:=[it]) (λb hb=>?_) (λb o _ _ hc e _=>k b o (λz=>hc (by simp[z])) e) (λb o _ _ hc e _=>⟨o.slots,k b o (λz=>hc (by simp[z])) e⟩) (λ_ _ _ _ n=>n)
  (λb o hc e=>⟨o,k b o (λz=>hc (by simp[z])) e⟩) (λ_ _ e=>e) (λ_ _ _ e=>e) (λb ps e=>⟨#[],by rw[e];simp⟩) (λm hm=>?_) (λb u e=>?_) I.bare
 .have e:b=it:=by simpa using hb
  subst e;exact⟨h1,hL,h2,h3⟩
 .obtain⟨o,es,ep,ho,r⟩:=hm;exact⟨o,es,ep,k _ o (Ne.symm hL) ho,r⟩
 .refine(I.hok b u e).rA (λc v hc q=>k c v ?_ q) (λ_ q=>q) λ_ _ q=>q;rcases hc with z|z
  .rw[z];exact nit b u e
  .exact nit c _ z
def Inv.tok(I:Inv X pins σ H s)(t:Nat):Inv X pins σ H { s with toks:=t }:=I.un (h':=s.heap) (t':=t) Un.refl I.hok
def Inv.kept(I:Inv X pins σ H s)(k:∀b u,s.heap.get? b=some u->h'.get? b=some u):Inv X pins σ H { s with heap:=h',toks:=t' }:=I.un (Un.kept k) (I.hok.kept k)
def Inv.laid(I:Inv X pins σ H s)(k:∀b u,s.heap.get? b=some u->h'.get? b=some u)(hp:s.heap.objs.size<=a)(new:yC X.prog X.w (upd H a o) h' a o):
  Inv X pins σ (upd H a o) { s with heap:=h',toks:=t' }:=I.un (Un.laid k hp (I.hok.fresh hp)) (I.hok.laid k hp new)
def Inv.write(I:Inv X pins σ H s)(mu:Mut (H x))(he:e=x\/H e=some (.own x))(k:∀b u,b≠e->s.heap.get? b=some u->h'.get? b=some u)(heo:∃u,h'.get? e=some u)
  (new:yC X.prog X.w (upd H x o) h' x o):Inv X pins σ (upd H x o) { s with heap:=h',toks:=t' }:=I.un (Un.write mu he k heo) (I.hok.write mu he k heo new)
def Inv.Uj(I:Inv X pins σ H s)(h:∀p∈pins',s.heap.get? p.1=some p.2/\H p.1=none/\p.1≠X.env.locals/\p.1∉X.fs/\∀v,p.2.data≠.cell v):Inv X pins' σ H s:=
 ⟨I.ok,I.os,I.bare,I.base,I.loc,I.cell,I.free,I.Vk,λp hp=>(S4.mp hp).elim (λz=>I.pin p (a0F _ z)) (h p),I.hok,I.len⟩
def eU{N:HA}(hN:N.Nodup){i j:Nat}{x:Str}(a:N[i]?=some x)(b:N[j]?=some x):i=j:=by obtain⟨h1,e1⟩:=M9.mp a;obtain⟨h2,e2⟩:=M9.mp b;exact(List.getElem_inj hN).mp (e1.trans e2.symm)
def aE(I:Inv X pins σ H s)(hN:X.N.Nodup)(hi:X.N[i]?=some x)(hx:Loc X.env.scope x)(r:RelV v u)
  (h:∀s',Inv X pins (σ.set i (some v)) H s'->(∃a,Heap.SameBut a s.heap s'.heap/\(a=X.env.locals\/X.env.cells.lookup x=some a))->Q () s') (hf:X.fn x=true\/X.env.scope.names.lookup x=some .local:=by first|exact .inl rfl|exact .inr rfl|assumption):wpAny M A (storeName X.env x u) Q E s:=by
 obtain⟨m,hn,hl⟩:=id I.loc;have hcls:(X.env.scope.kind == .class||(X.env.scope.kind == .module&&X.env.locals != X.env.globals))=false:=by rw[I.ok.kind];rfl
 have hiσ:i<σ.length:=by rw[I.len];exact(M9.mp hi).1
 have cne:=I.cne;have tracked:∀{a:Addr}{h':Heap},(∃o,s.heap.get? a=some o/\H a=none)->Heap.SameBut a s.heap h'->HOk X.prog X.w H h':=λ{a h'} ha hs b ob e=>by
  obtain⟨_,_,hfree⟩:=ha;refine(I.hok b ob e).rA (λc w' hc q=>(hs.2 c ?_).trans q) (λ_ q=>q) λ_ _ q=>q
  rintro rfl
  rcases hc with rfl|hc
  .rw[hfree]at e;cases e
  .rw[hfree]at hc;cases hc
 rcases hx with hk|hk
 .refine wpAny_storeName_local hk hn (λh' hn' hs=>?_) hcls;obtain⟨oL,_,_,hoL,_⟩:=id hn;refine h _ ⟨I.ok,I.os,I.bare,⟨λb o e n hb hx=>?_,λb o e n hb hx=>?_,I.base.free,λb o e hx=>?_,I.base.lA,I.base.pK,I.base.uA⟩,⟨_,hn',λj y v' e1 e2 e3=>?_⟩,λy c e=>?_,I.free,I.Vk,λp hp=>?_,tracked ⟨oL,hoL,I.free⟩ hs,by simpa using I.len⟩ ⟨_,hs,.inl rfl⟩
  .exact(hs.2 b (L9 (N5 (L7 e) I.ok.above))).trans (I.base.keep b o e n hb hx)
  .obtain⟨sl,e1⟩:=I.base.slot b o e n hb hx;exact⟨sl,(hs.2 b (L9 (N5 (L7 e) I.ok.above))).trans e1⟩
  .obtain⟨o',e1⟩:=I.base.there b o e hx;exact⟨o',(hs.2 b (L9 (N5 (L7 e) I.ok.above))).trans e1⟩
  .by_cases hj:j=i
   .subst hj;rw[hi]at e1;cases e1;rw[O4 hiσ]at e2;cases e2;exact⟨u,r,.inl ⟨hk,by simp⟩⟩
   .rw[O6 (Ne.symm hj)]at e2;obtain⟨u',r',q⟩:=hl j y v' e1 e2 e3;refine⟨u',r',?_⟩;rcases q with⟨k,e⟩|⟨k,c,e,z⟩
    .refine .inl ⟨k,?_⟩;have:y≠x:=λe=>hj (eU hN e1 (e▸hi));simp[this,e]
    .exact .inr ⟨k,c,e,z.sameBut hs (cne y c e)⟩
  .obtain⟨w',z⟩:=I.cell y c e;exact⟨w',z.sameBut hs (cne y c e)⟩
  .obtain⟨e,n,ne,nf,d⟩:=I.pin p hp;exact⟨(hs.2 p.1 ne).trans e,n,ne,nf,d⟩
 .have hfn:X.fn x=true:=by
   rcases hf with z|z
   .exact z
   .rw[z]at hk;cases hk
  obtain⟨c,hc⟩:=I.ok.has x (.inl hk);obtain⟨w',z⟩:=I.cell x c hc;refine wpAny_storeName_cell I.ok.kind hk hc z (λh' hc' hs=>?_);obtain⟨oc,hoc,hocd⟩:=id z;refine h { s with heap:=h' } ⟨I.ok,I.os,I.bare,⟨λb o e n hb hx=>?_,λb o e n hb hx=>?_,I.base.free,λb o e hx=>?_,I.base.lA,I.base.pK,I.base.uA⟩,⟨m,hn.sameBut hs (Ne.symm (cne x c hc)),λj y v' e1 e2 e3=>?_⟩,λy c' e=>?_,I.free,I.Vk,λp hp=>?_,tracked ⟨oc,hoc,I.Vk x c hc⟩ hs,by simpa using I.len⟩ ⟨c,hs,.inr hc⟩
  .exact(hs.2 b (L9 (N5 (L7 e) (I.ok.cab x c hfn hc)))).trans (I.base.keep b o e n hb hx)
  .obtain⟨sl,e1⟩:=I.base.slot b o e n hb hx;exact⟨sl,(hs.2 b (L9 (N5 (L7 e) (I.ok.cab x c hfn hc)))).trans e1⟩
  .obtain⟨o',e1⟩:=I.base.there b o e hx;exact⟨o',(hs.2 b (L9 (N5 (L7 e) (I.ok.cab x c hfn hc)))).trans e1⟩
  .by_cases hj:j=i
   .subst hj;rw[hi]at e1;cases e1;rw[O4 hiσ]at e2;cases e2;exact⟨u,r,.inr ⟨.inl hk,c,hc,hc'⟩⟩
   .rw[O6 (Ne.symm hj)]at e2;obtain⟨u',r',q⟩:=hl j y v' e1 e2 e3;refine⟨u',r',?_⟩;rcases q with q|⟨k,c',e,z'⟩
    .exact .inl q
    .refine .inr ⟨k,c',e,z'.sameBut hs ?_⟩
     rintro rfl
     exact hj (eU hN e1 (I.ok.inj _ _ _ e hc▸hi))
  .by_cases hcc:c'=c
   .subst hcc;exact⟨_,hc'⟩
   .obtain⟨w2,z2⟩:=I.cell y c' e;exact⟨w2,z2.sameBut hs hcc⟩
  .obtain⟨e,n,ne,nf,d⟩:=I.pin p hp;refine⟨(hs.2 p.1 ?_).trans e,n,ne,nf,d⟩;intro q;rw[q,hoc]at e;have q':oc=p.2:=P5 e;exact d w' (by rw[<- q'];exact hocd)
def eV(I:Inv X pins σ H s)(hN:X.N.Nodup)(hi:X.N[i]?=some x)(hx:Loc X.env.scope x)(r:RelV v u)
  (h:∀s',Inv X pins (σ.set i (some v)) H s'->Q () s') (hf:X.fn x=true\/X.env.scope.names.lookup x=some .local:=by first|exact .inl rfl|exact .inr rfl|assumption):wpAny M A (storeName X.env x u) Q E s:=
 aE I hN hi hx r (λs' I' _=>h s' I') hf
def Inv.Cf(I:Inv X pins σ H s)(ho:s'.os=s.os)(u:Un (frs X.stack) ch H H' s.heap s'.heap)(hok:HOk X.prog X.w H' s'.heap)(hg:AllBare s'.gens)
  (hch:∀b∈ch,(b∈X.ex\/X.s₀.heap.objs.size<=b)/\b≠X.env.locals/\(∀x c,X.env.cells.lookup x=some c->c≠b)/\∀p∈X.pn++pins,p.1≠b):Inv X pins σ H' s':=by
 obtain⟨h',g',d',t',o'⟩:=s';have e:o'=s.os:=ho;subst e;exact I.call (g':=g') (t':=t') (d':=d') u hok hg hch
end
abbrev XK:=Value->Option Addr->Hp->Prop
abbrev St:=List (Option V)
abbrev VK:=V->Hp->Prop
abbrev TE:=St->Hp->VK->Prop
abbrev TT:=St->Hp->(Bool->Hp->Prop)->Prop
abbrev TA:=St->Hp->(List V->Hp->Prop)->Prop
structure Ends where
 nx:St->Hp->Prop
 rt:VK
 bk:St->Hp->Prop:=λ_ _=>False
 ct:St->Hp->Prop:=λ_ _=>False
abbrev TS:=Ends->St->Hp->Prop
def EP(X:Cx)(pins:Hz)(σ:St)(Q:VK)(u:Value)(s':HJ):Prop:=∃v H',Inv X pins σ H' s'/\RelV v u/\Q v H'
def TP(X:Cx)(pins:Hz)(σ:St)(Q:Bool->Hp->Prop)(b:Bool)(s':HJ):Prop:=∃H',Inv X pins σ H' s'/\Q b H'
def AP(X:Cx)(pins:Hz)(σ:St)(Q:List V->Hp->Prop)(us:HK)(s':HJ):Prop:=∃vs H',Inv X pins σ H' s'/\Vals vs us/\Q vs H'
def SP(X:Cx)(pins:Hz)(D:Ends)(f:Flow)(s':HJ):Prop:=
 match f with
 |.next=>∃σ' H',Inv X pins σ' H' s'/\D.nx σ' H'
 |.brk=>∃σ' H',Inv X pins σ' H' s'/\D.bk σ' H'
 |.cont=>∃σ' H',Inv X pins σ' H' s'/\D.ct σ' H'
 |.ret u=>∃v σ' H',Inv X pins σ' H' s'/\RelV v u/\D.rt v H'
def PE(X:Cx)(e:HY)(t:TE):Prop:=
 ∀(pins:Hz)(s:HJ)(σ:St)(H:Hp)(Q:VK),Inv X pins σ H s->t σ H Q->wpAny (IW X) X.A (eval e X.env) (EP X pins σ Q) X.xe s
def PT(X:Cx)(e:HY)(t:TT):Prop:=
 ∀(pins:Hz)(s:HJ)(σ:St)(H:Hp)(Q:Bool->Hp->Prop),Inv X pins σ H s->t σ H Q->wpAny (IW X) X.A (isTrue e X.env (eval e X.env)) (TP X pins σ Q) X.xe s
def PW(X:Cx)(e:HY)(t:TT):Prop:=
 ∀(whole:Sem Value)(pins:Hz)(s:HJ)(σ:St)(H:Hp)(Q:Bool->Hp->Prop),Inv X pins σ H s->t σ H Q->wpAny (IW X) X.A (isTrue e X.env whole) (TP X pins σ Q) X.xe s
def PW.pt(h:PW X e t):PT X e t:=h _
def PA(X:Cx)(es:HL)(t:TA):Prop:=
 ∀(pos:Pos)(pins:Hz)(s:HJ)(σ:St)(H:Hp)(Q:List V->Hp->Prop),Inv X pins σ H s->t σ H Q->wpAny (IW X) X.A (spliced (backTo pos (starEach es X.env))) (AP X pins σ Q) X.xe s
def PS(X:Cx)(st:IA)(t:TS):Prop:=
 ∀(pins:Hz)(s:HJ)(σ:St)(H:Hp)(D:Ends),Inv X pins σ H s->t D σ H->wpAny (IW X) X.A (exec st X.env) (SP X pins D) X.xe s
def PSs(X:Cx)(st:Iq)(t:TS):Prop:=
 ∀(pins:Hz)(s:HJ)(σ:St)(H:Hp)(D:Ends),Inv X pins σ H s->t D σ H->wpAny (IW X) X.A (execs st X.env) (SP X pins D) X.xe s
def thn{α:Type}{t:Sem α}{Q Q':α->Shared->Prop}(h:wpAny M A t Q E s)(hQ:∀a s,Q a s->Q' a s):wpAny M A t Q' E s:=S7 h hQ λ_ _ x=>x
section
variable {X:Cx}
def cR(i:Nat):TE:=λσ H Q=>∃v,σ[i]?=some (some v)/\Q v H
def tC(v:V):TE:=λ_ H Q=>Q v H
def Cg(hN:X.N[i]?=some x)(hv:Vis X.env.scope x)(hd:(x==("__debug__":Str))=false:=by decide)(hcd:(x==("__classdict__":Str))=false:=by decide):PE X (.Name x pos) (cR i):=by
 intro pins s σ H Q I h;obtain⟨v,e,h⟩:=h;obtain⟨m,hn,hl⟩:=I.loc;obtain⟨u,r,l⟩:=hl i x v hN e hv;have fin:EP X pins σ Q u s:=⟨v,H,I,r,h⟩;rcases l with⟨hk,hm⟩|⟨hk,c,hc,hcell⟩
 .exact wpAny_Name (wpAny_loadName_local I.ok.kind hk hn hm fin) hd
 .rcases hk with hk|hk
  .exact wpAny_Name (wpAny_loadName_cell I.ok.kind hk hc hcell fin) hd
  .exact wpAny_Name (wpAny_loadName_free I.ok.kind hk hc hcell fin hcd) hd
def Ci{i j pos}:PE X (.Constant (.int i) j pos) (tC (.int i)):=λ_ _ _ H _ I h=>wpAny_Constant_int ⟨.int i,H,I.tok _,⟨_,rfl⟩,h⟩
def YM{b j pos}:PE X (.Constant (.bool b) j pos) (tC (.bl b)):=λ_ _ _ H _ I h=>Constant_bool ⟨.bl b,H,I,rfl,h⟩
def Zy{j pos}:PE X (.Constant .none j pos) (tC .non):=λ_ _ _ H _ I h=>Constant_none ⟨.non,H,I,rfl,h⟩
def uF{x j pos}:PE X (.Constant (.str x) j pos) (tC (.str x)):=λ_ _ _ H _ I h=>Calls.Constant_str ⟨.str x,H,I.tok _,⟨_,rfl⟩,h⟩
def Gl(X:Cx)(x:Str):Prop:=X.env.kindOf x=some .globalImplicit
def Uk(I:Inv X pins σ H s)(hg:Gl X x)(hm:X.mg x=some u)(h:Q u s)
  (hd:(x==("__debug__":Str))=false:=by decide):wpAny (IW X) X.A (eval (.Name x pos) X.env) Q E s:=
 a1O I.ok.kind hg (Calls.loadGlobal_global (by rw[I.ok.glob];exact I.mod.glob.keeps I.bk) hm h) hd
def VG(I:Inv X pins σ H s)(hg:Gl X x)(hm:X.mg x=none)(hv:bootBuiltins x=some u)(h:Q u s)
  (hn:x≠"__name__":=by decide) (hd:(x==("__debug__":Str))=false:=by decide):wpAny (IW X) X.A (eval (.Name x pos) X.env) Q E s:=by
 obtain⟨mb,h1,h2⟩:=I.mod.blt;exact a1O I.ok.kind hg (Calls.loadGlobal_builtin (by rw[I.ok.glob];exact I.mod.glob.keeps I.bk) hm (by rw[I.ok.blt];exact h1.keeps I.bk) ((h2 x hn).trans hv) h) hd
def zK(hg:Gl X x)(hm:X.mg x=some u)(r:RelV v u)(hd:(x==("__debug__":Str))=false:=by decide):PE X (.Name x pos) (tC v):=
 λ_ _ _ H _ I h=>Uk I hg hm ⟨v,H,I,r,h⟩ hd
def J3(hg:Gl X x)(hm:X.mg x=none)(hv:bootBuiltins x=some u)(r:RelV v u)(hn:x≠"__name__":=by decide)(hd:(x==("__debug__":Str))=false:=by decide):PE X (.Name x pos) (tC v):=
 λ_ _ _ H _ I h=>VG I hg hm hv ⟨v,H,I,r,h⟩ hn hd
variable {a b:HY}{ta tb:TE}{pos:Pos}
def eX(b:HY)(h:op≠.In)(h2:op≠.NotIn):behindInMarks op b=false:=by
 have e1:(op==CmpOp.In)=false:=by cases op<;>first|rfl|exact absurd rfl h
 have e2:(op==CmpOp.NotIn)=false:=by cases op<;>first|rfl|exact absurd rfl h2
 cases b<;>simp[behindInMarks,e1,e2]
def tB(t:TE):TT:=λσ H Q=>t σ H λx H1=>∃c,x=.bl c/\Q c H1
def Cj(h:PE X e t)(he:∀whole,isTrue e X.env whole=(do let v<-whole;standAt e.pos;holding [v] (truthy v)):=by intro _;rfl):PT X e (tB t):=by intro pins s σ H Q I hw;refine isTrue_plain (thn (h pins s σ H _ I hw) λv s1 ⟨x,H1,I1,r1,q1⟩=>?_) (he _);obtain⟨d,rfl,q⟩:=q1;cases r1;exact a1l ⟨H1,I1,q⟩
variable {tA tB':TT}{rest:HL}
def GZ(t u:TT):TT:=λσ H Q=>t σ H λc H1=>if c=true then u σ H1 Q else Q false H1
def tOr(t u:TT):TT:=λσ H Q=>t σ H λc H1=>if c=true then Q true H1 else u σ H1 Q
def G0(t:TT):TT:=λσ H Q=>t σ H λc H1=>Q (!c) H1
def pw_and1(ha:PT X a tA):PW X (.BoolOp .And [a] pos) tA:=by
 intro wh pins s σ H Q I h;refine isTrue_and (thn (ha pins s σ H Q I h) λc s1 e=>?_);cases c with
 |true=>exact isTrue_and_nil e
 |false=>exact e
def pw_or1(ha:PT X a tA):PW X (.BoolOp .Or [a] pos) tA:=by
 intro wh pins s σ H Q I h;refine isTrue_or (thn (ha pins s σ H Q I h) λc s1 e=>?_);cases c with
 |false=>exact isTrue_or_nil e
 |true=>exact e
def pw_and(ha:PT X a tA)(hb:PW X (.BoolOp .And (b::rest) pos) tB'):PW X (.BoolOp .And (a::b::rest) pos) (GZ tA tB'):=by
 intro wh pins s σ H Q I h;refine isTrue_and (thn (ha pins s σ H _ I h) λc s1 ⟨H1,I1,q1⟩=>?_);cases c with
 |true=>exact hb wh pins s1 σ H1 Q I1 q1
 |false=>exact⟨H1,I1,q1⟩
def pw_or(ha:PT X a tA)(hb:PW X (.BoolOp .Or (b::rest) pos) tB'):PW X (.BoolOp .Or (a::b::rest) pos) (tOr tA tB'):=by
 intro wh pins s σ H Q I h;refine isTrue_or (thn (ha pins s σ H _ I h) λc s1 ⟨H1,I1,q1⟩=>?_);cases c with
 |true=>exact⟨H1,I1,q1⟩
 |false=>exact hb wh pins s1 σ H1 Q I1 q1
def Ck(ha:PT X a tA):PT X (.UnaryOp .Not a pos) (G0 tA):=by intro pins s σ H Q I h;exact isTrue_not (ha pins s σ H (λc H1=>Q (!c) H1) I h)
def E6(ta tb:TE):TE:=λσ H Q=>ta σ H λx H1=>∃c,x=.bl c/\if c=true then tb σ H1 Q else Q (.bl false) H1
def E7(ta:TE):TE:=λσ H Q=>ta σ H λx H1=>∃c,x=.bl c/\Q (.bl (!c)) H1
def Cm{op}(h:PE X a t):PE X (.BoolOp op [a] pos) t:=λpins s σ H Q I hw=>BoolOp_one (h pins s σ H Q I hw)
def Cn(ha:PE X a ta)(hb:PE X (.BoolOp .And (b::rest) pos) tb):PE X (.BoolOp .And (a::b::rest) pos) (E6 ta tb):=by
 intro pins s σ H Q I h;refine BoolOp_and (thn (ha pins s σ H _ I h) λv s1 ⟨x,H1,I1,r1,q1⟩=>?_);obtain⟨c,rfl,q1⟩:=q1;cases r1;refine a1l ?_;cases c with
 |true=>exact hb pins s1 σ H1 Q I1 q1
 |false=>exact⟨.bl false,H1,I1,rfl,q1⟩
def Co(ha:PE X a ta):PE X (.UnaryOp .Not a pos) (E7 ta):=by intro pins s σ H Q I h;refine UnaryOp_ (thn (ha pins s σ H _ I h) λv s1 ⟨x,H1,I1,r1,q1⟩=>?_);obtain⟨c,rfl,q1⟩:=q1;cases r1;exact not_of (a1l ⟨.bl (!c),H1,I1,rfl,q1⟩)
end
def SqL(K:HU)(H:Hp)(a:Addr)(xs:HN):Prop:=
 Rd H a (.lst xs)\/
  ∃(o:Obj)(its:Iv)(n:Nat),K.lookup a=some o/\o.cls=.type "list"/\o.dict=none/\o.data=.seq its n/\its.size<=sizeLine/\Vals xs its.toList
def SqT(K:HU)(H:Hp)(a:Addr)(xs:HN):Prop:=
 Rd H a (.tup xs)\/
  ∃(o:Obj)(its:Iv)(n:Nat),K.lookup a=some o/\o.cls=.type "tuple"/\o.data=.seq its n/\its.size<=sizeLine/\Vals xs its.toList
def G4:Value->Option V
 |.none=>some .non
 |.bool b=>some (.bl b)
 |.int i _=>some (.int i)
 |.str x _=>some (.str x)
 |.bytes b _=>some (.byt b)
 |.float b _=>some (.flt b)
 |.ref a=>some (.ref a)
 |.type n=>some (.ty n)
 |_=>none
def RelV.abs(r:RelV x u):G4 u=some x:=by
 cases x with
 |non=>cases r;rfl
 |bl _=>cases r;rfl
 |int _=>obtain⟨t,rfl⟩:=r;rfl
 |str _=>obtain⟨t,rfl⟩:=r;rfl
 |byt _=>obtain⟨t,rfl⟩:=r;rfl
 |flt _=>obtain⟨t,rfl⟩:=r;rfl
 |ref _=>cases r;rfl
 |ty _=>cases r;rfl
def RelV.inj(r:RelV x u)(q:RelV y u):x=y:=P5 (r.abs.symm.trans q.abs)
def Vals.inj:∀{xs ys:HN}{us:HK},Vals xs us->Vals ys us->xs=ys
 |_,_,_,.nil,.nil=>rfl
 |_,_,_,.cons r t,.cons r' t'=>by rw[r.inj r',Vals.inj t t']
def SqL.of{K:HU}(h:H a=some (.lst xs)):SqL K H a xs:=.inl (.inl h)
def SqT.of{K:HU}(h:H a=some (.tup xs)):SqT K H a xs:=.inl (.inl h)
def Inv.list(I:Inv X pins σ H s)(h:SqL X.K H a xs):∃its:List Value,Vals xs its/\PlainL s.heap a its.toArray/\xs.length<=sizeLine:=by
 rcases h with h|⟨o,its,n,hk,hc,hd,hs,hz,r⟩
 .obtain⟨z,its,n,r,e⟩:=h.ok I.hok;exact⟨its,r,⟨_,n,e,rfl,rfl,rfl⟩,z⟩
 .refine⟨its.toList,r,⟨o,n,I.kIn a o hk,hc,hd,by simpa using hs⟩,?_⟩;have e:=r.length;simp only[Array.length_toList]at e;omega
def Inv.tuple(I:Inv X pins σ H s)(h:SqT X.K H a xs):∃its:List Value,Vals xs its/\IsTup s.heap a its.toArray/\xs.length<=sizeLine:=by
 rcases h with h|⟨o,its,n,hk,hc,hs,hz,r⟩
 .obtain⟨z,its,r,p⟩:=h.ok I.hok;exact⟨its,r,p,z⟩
 .refine⟨its.toList,r,⟨o,I.kIn a o hk,hc,n,by simpa using hs⟩,?_⟩;have e:=r.length;simp only[Array.length_toList]at e;omega
def Inv.rD(I:Inv X pins σ H s)(h:SqL X.K H a xs)(h':SqL X.K H a ys):xs=ys:=by
 obtain⟨its,r,⟨o,n,e,_,_,d⟩,_⟩:=I.list h;obtain⟨its',r',⟨o',n',e',_,_,d'⟩,_⟩:=I.list h';rw[e]at e';cases e';rw[d]at d';injection d' with d1 _
 have:its=its':=by simpa using R8 Array.toList d1
 subst this;exact r.inj r'
def Inv.aF(I:Inv X pins σ H s)(h:SqT X.K H a xs)(h':SqT X.K H a ys):xs=ys:=by
 obtain⟨its,r,⟨o,e,_,n,d⟩,_⟩:=I.tuple h;obtain⟨its',r',⟨o',e',_,n',d'⟩,_⟩:=I.tuple h';rw[e]at e';cases e';rw[d]at d';injection d' with d1 _
 have:its=its':=by simpa using R8 Array.toList d1
 subst this;exact r.inj r'
abbrev Cx.aG(X:Cx)(E:HB):Cx:={ X with xe:=E }
abbrev Cx.nox(X:Cx):Cx:=X.aG λ_ _=>False
def Cx.Ok.aG{X:Cx}(ok:X.Ok)(E:HB):(X.aG E).Ok:=
 ⟨ok.mod,ok.kind,ok.glob,ok.blt,ok.above,ok.inj,ok.has,ok.cab,ok.hd,ok.frames,ok.stk,ok.exf,ok.bs,ok.bsz,ok.EA,ok.EB,ok.eS,ok.frf⟩
def Cx.Ok.YR{X:Cx}{E:HB}(ok:(X.aG E).Ok):X.Ok:=
 ⟨ok.mod,ok.kind,ok.glob,ok.blt,ok.above,ok.inj,ok.has,ok.cab,ok.hd,ok.frames,ok.stk,ok.exf,ok.bs,ok.bsz,ok.EA,ok.EB,ok.eS,ok.frf⟩
def Inv.aG(I:Inv X pins σ H s)(E:HB):Inv (X.aG E) pins σ H s:=⟨I.ok.aG E,I.os,I.bare,I.base,I.loc,I.cell,I.free,I.Vk,I.pin,I.hok,I.len⟩
def Inv.YR(I:Inv (X.aG E) pins σ H s):Inv X pins σ H s:=⟨I.ok.YR,I.os,I.bare,I.base,I.loc,I.cell,I.free,I.Vk,I.pin,I.hok,I.len⟩
def SP.YR(h:SP (X.aG E) pins D f s'):SP X pins D f s':=by
 cases f with
 |next=>obtain⟨σ',H',I,q⟩:=h;exact⟨σ',H',I.YR,q⟩
 |brk=>obtain⟨σ',H',I,q⟩:=h;exact⟨σ',H',I.YR,q⟩
 |cont=>obtain⟨σ',H',I,q⟩:=h;exact⟨σ',H',I.YR,q⟩
 |ret u=>obtain⟨v,σ',H',I,r,q⟩:=h;exact⟨v,σ',H',I.YR,r,q⟩
section
variable {X:Cx}{st:IA}{rest:Iq}{t u:TS}{e:HY}{te:TE}{pos:Pos}
def E8:TS:=λD σ H=>D.nx σ H
def E9(t u:TS):TS:=λD σ H=>t { D with nx:=u D } σ H
def xV:PSs X [] E8:=λ_ _ σ H _ I h=>a1v ⟨σ,H,I,h⟩
def Ul(h1:PS X st t)(h2:PSs X rest u):PSs X (st::rest) (E9 t u):=by
 intro pins s σ H D I h;refine wpAny_execs_cons (thn (h1 pins s σ H { D with nx:=u D } I h) λf s1 q=>?_);cases f with
 |next=>obtain⟨σ',H',I',q⟩:=q;exact h2 pins s1 σ' H' D I' q
 |ret v=>exact q
 |brk=>exact q
 |cont=>exact q
def jT(h1:PS X st t):PSs X [st] t:=by
 intro pins s σ H D I h;refine wpAny_execs_cons (thn (h1 pins s σ H D I h) λf s1 q=>?_);cases f with
 |next=>exact a1v q
 |ret v=>exact q
 |brk=>exact q
 |cont=>exact q
def Inv.quiet(I:Inv X pins σ H s):interactive X.env=false:=by simp[interactive,I.ok.kind]
def E_(te:TE):TS:=λD σ H=>te σ H λ_ H1=>D.nx σ H1
def cS(he:PE X e te)(hs:swapsWith e none pos.line X.env=pure false:=by rfl):PS X (.Expr e pos) (E_ te):=by intro pins s σ H D I h;exact wpAny_Expr_any (thn (he pins s σ H _ I h) λv s1 ⟨x,H1,I1,r1,q1⟩=>⟨σ,H1,I1,q1⟩) I.quiet hs
def G5(te:TE):TS:=λD σ H=>te σ H D.rt
def lF(he:PE X e te):PS X (.Return (some e) pos) (G5 te):=by intro pins s σ H D I h;exact wpAny_Return_some (thn (he pins s σ H _ I h) λv s1 ⟨x,H1,I1,r1,q1⟩=>⟨x,σ,H1,I1,r1,q1⟩)
def G6(c:TT)(t u:TS):TS:=λD σ H=>c σ H λb H1=>if b=true then t D σ H1 else u D σ H1
def Fb(hc:PT X c tc)(ha:PSs X a t)(hb:PSs X b u):PS X (.If c a b pos) (G6 tc t u):=by
 intro pins s σ H D I h;refine wpAny_If (thn (hc pins s σ H _ I h) λd s1 ⟨H1,I1,q1⟩=>?_);cases d with
 |true=>exact ha pins s1 σ H1 D I1 q1
 |false=>exact hb pins s1 σ H1 D I1 q1
end
abbrev TG:=V->St->Hp->(St->Hp->Prop)->Prop
abbrev TGs:=List V->St->Hp->(St->Hp->Prop)->Prop
def PG(X:Cx)(target:HY)(t:TG):Prop:=
 ∀(pins:Hz)(s:HJ)(σ:St)(H:Hp)(v:V)(u:Value)(Q:St->Hp->Prop),Inv X pins σ H s->RelV v u->t v σ H Q->
  wpAny (IW X) X.A (assign target X.env u) (λ_ s'=>∃σ' H',Inv X pins σ' H' s'/\Q σ' H') X.xe s
def PGs(X:Cx)(ts:HL)(t:TGs):Prop:=
 ∀(pins:Hz)(s:HJ)(σ:St)(H:Hp)(vs:HN)(us:HK)(Q:St->Hp->Prop),Inv X pins σ H s->Vals vs us->t vs σ H Q->
  wpAny (IW X) X.A (assignInOrder ((assignEach ts X.env).map (·.2)) us) (λ_ s'=>∃σ' H',Inv X pins σ' H' s'/\Q σ' H') X.xe s
abbrev Gq:=V->V->V->Hp->(Hp->Prop)->Prop
def Gr(X:Cx)(t:Gq):Prop:=
 ∀(pins:Hz)(s:HJ)(σ:St)(H:Hp)(o i v:V)(ov iv u:Value)(Q:Hp->Prop),Inv X pins σ H s->RelV o ov->RelV i iv->RelV v u->t o i v H Q->
  wpAny (IW X) X.A (setItem ov iv u) (λ_ s'=>∃H',Inv X pins σ H' s'/\Q H') X.xe s
section
variable {X:Cx}{pos:Pos}
def g_(i:Nat):TG:=λv σ H Q=>Q (σ.set i (some v)) H
def lG(hN:X.N.Nodup)(hi:X.N[i]?=some x)(hx:Loc X.env.scope x)(hf:X.fn x=true\/X.env.scope.names.lookup x=some .local:=by first|exact .inl rfl|exact .inr rfl|assumption):PG X (.Name x pos) (g_ i):=by intro pins s σ H v u Q I r h;exact wpAny_assign_Name (eV I hN hi hx r (λs' I'=>⟨_,H,I',h⟩) hf)
def G7:TGs:=λvs σ H Q=>vs=[]/\Q σ H
def Fc(t:TG)(u:TGs):TGs:=λvs σ H Q=>∃v r,vs=v::r/\t v σ H λσ' H'=>u r σ' H' Q
def xW:PGs X [] G7:=by intro pins s σ H vs us Q I r h;obtain⟨e,h⟩:=h;subst e;cases r;exact assignInOrder_nil ⟨σ,H,I,h⟩
def rE(h1:PG X e t)(h2:PGs X es u)
  (hs:(assignEach (e::es) X.env).map (·.2)=assign e X.env::(assignEach es X.env).map (·.2):=by rfl):PGs X (e::es) (Fc t u):=by
 intro pins s σ H vs us Q I r h;obtain⟨v,vr,e1,h⟩:=h;subst e1;cases r with
 |cons r rr=>rw[hs];refine assignInOrder_cons (thn (h1 pins s σ H _ _ _ I r h) λ_ s1 ⟨σ1,H1,I1,q1⟩=>?_);exact h2 pins s1 σ1 H1 _ _ Q I1 rr q1
def G8(K:HU)(n:Nat)(t:TGs):TG:=λv σ H Q=>∃a xs,v=.ref a/\SqT K H a xs/\xs.length=n/\t xs σ H Q
def Cp(hc:X.calm=true)(h:PGs X es t)
  (hn:(assignEach es X.env).length=n:=by rfl) (hst:(assignEach es X.env).findIdx? (·.1)=none:=by rfl):PG X (.Tuple es k pos) (G8 X.K n t):=by
 intro pins s σ H v u Q I r hw;obtain⟨a,xs,e1,hq,hl,hw⟩:=hw;subst e1;cases r;obtain⟨its,rv,ht,hz⟩:=I.tuple hq;refine assign_Tuple_tuple (I.ok.hd hc) ht (by simp[hn,<- hl,rv.length]) hst λh' hx=>?_;have I1:Inv X pins σ H { s with heap:=h' }:=I.kept (t':=s.toks) λb o e=>hx b o (L9 (L7 e)) e;exact h pins _ σ H xs _ Q I1 (by simpa using rv) hw
def G9(to ti:TE)(t:Gq):TG:=λv σ H Q=>to σ H λo H1=>ti σ H1 λi H2=>t o i v H2 λH3=>Q σ H3
def Cq(ho:PE X o to)(hi:PE X i ti)(hs:Gr X t)
  (ha:∀v,assign (.Subscript o i pos) X.env v=(do
   let ov<-holding [v] (eval o X.env)
   let iv<-holding [v,ov] (eval i X.env)
   standAt pos
   holding [v,ov,iv] (setItem ov iv v)
   release [v,ov,iv] []):=by intro _;rfl):PG X (.Subscript o i pos) (G9 to ti t):=by
 intro pins s σ H v u Q I r h;rw[ha];refine f8 (P7 (thn (ho pins s σ H _ I h) λov s1 ⟨x,H1,I1,r1,q1⟩=>?_));refine f8 (P7 (thn (hi pins s1 σ H1 _ I1 q1) λiv s2 ⟨y,H2,I2,r2,q2⟩=>?_));refine f8 (a06 (f8 (P7 (thn (hs pins s2 σ H2 x y v ov iv u _ I2 r1 r2 r q2) λ_ s3 ⟨H3,I3,q3⟩=>?_))));exact wpAny_release ⟨σ,H3,I3,q3⟩
def Cr(te:TE)(g:TG):TS:=λD σ H=>te σ H λx H1=>g x σ H1 D.nx
def Cs(he:PE X e te)(hg:PG X tg g)(hs:swapsWithSole [tg] e pos.line X.env=pure false:=by rfl)(hw:swappedStores [tg] e X.env=pure none:=by rfl)
  (h1:(assignEach [tg] X.env).map (·.2)=[assign tg X.env]:=by rfl):PS X (.Assign [tg] e pos) (Cr te g):=by
 intro pins s σ H D I h;refine wpAny_Assign_stores (thn (he pins s σ H _ I h) λv s1 ⟨x,H1,I1,r1,q1⟩=>?_) hs hw;rw[h1];exact thn (hg pins s1 σ H1 x v _ I1 r1 q1) λ_ s2 q=>q
def uG(hN:X.N.Nodup)(hi:X.N[i]?=some x)(hx:Loc X.env.scope x)(he:PE X e te)(hs:swapsWith e (some (.Name x pos')) pos.line X.env=pure false:=by rfl)(hf:X.fn x=true\/X.env.scope.names.lookup x=some .local:=by first|exact .inl rfl|exact .inr rfl|assumption):
  PS X (.Assign [.Name x pos'] e pos) (Cr te (g_ i)):=by
 intro pins s σ H D I h;refine wpAny_Assign_Name (thn (he pins s σ H _ I h) λv s1 ⟨y,H1,I1,r1,q1⟩=>?_) hs;exact eV I1 hN hi hx r1 (λs2 I2=>⟨_,H1,I2,q1⟩) hf
end
section
variable {X:Cx}{pos:Pos}
def uH(c:TT)(tb:TS):TS:=λD σ H=>∃W:Nat->St->Hp->Prop,(∃m,W m σ H)/\∀m σ H,W m σ H->
 c σ H λb H1=>if b=true then ∃N:St->Hp->Prop,(∀σ' H',N σ' H'->∃m',m'<m/\W m' σ' H')/\tb { D with nx:=N,ct:=N,bk:=D.nx } σ H1 else D.nx σ H1
def rF(hp:PassesOwn (IW X) X.A X.env X.xe)(hc:PT X c tc)(hb:PSs X body tb):PS X (.While c body [] pos) (uH tc tb):=by
 intro pins s σ H D I h;obtain⟨W,⟨m0,w0⟩,turn⟩:=h;refine wpAny_While (codeAny_whileLoop (λn s'=>∃σ' H',Inv X pins σ' H' s'/\W n σ' H') ?_ m0 ⟨σ,H,I,w0⟩)
 rintro n s1 ⟨σ1,H1,I1,w1⟩
 refine a0z hp (thn (hc pins s1 σ1 H1 _ I1 (turn n σ1 H1 w1)) λb s2 ⟨H2,I2,q2⟩=>?_);cases b with
 |true=>
  obtain⟨N,hN,q2⟩:=q2;rw[if_pos rfl];refine a0z hp (thn (hb pins s2 σ1 H2 _ I2 q2) λf s3 q3=>?_);cases f with
  |next=>obtain⟨σ3,H3,I3,n3⟩:=q3;obtain⟨m',hm,w3⟩:=hN σ3 H3 n3;exact⟨m',hm,σ3,H3,I3,w3⟩
  |cont=>obtain⟨σ3,H3,I3,n3⟩:=q3;obtain⟨m',hm,w3⟩:=hN σ3 H3 n3;exact⟨m',hm,σ3,H3,I3,w3⟩
  |brk=>exact q3
  |ret v=>exact q3
 |false=>rw[if_neg N6];exact a1v ⟨σ1,H2,I2,q2⟩
end
structure It where
 go:Nat->Hp->Prop
 yld:Nat->Hp->V->Hp->Prop
 stop:Nat->Hp->Prop
def pZ(X:Cx)(pins:Hz)(H:Hp)(b:Addr):Prop:=
 H b=none/\b≠X.env.locals/\b∉X.fs/\(b∈X.ex\/X.s₀.heap.objs.size<=b)/\(∀x c,X.env.cells.lookup x=some c->c≠b)/\∀p∈X.pn++pins,p.1≠b
def Inv.BY(I:Inv X pins σ H s)(hb:s.heap.objs.size<=b)(hn:H' b=none):pZ X pins H' b:=by
 refine⟨hn,a0a (N5 I.lt hb),I.GY hb,.inr (O5 I.sz hb),λx c e z=>?_,λp hp z=>?_⟩
 .obtain⟨v,q⟩:=I.cell x c e;exact absurd (N5 q.lt (by rw[z];exact hb)) (T9 _)
 .exact absurd (N5 (L7 (I.pin p hp).1) (by rw[z];exact hb)) (T9 _)
structure Turn(P:HZ)(w:Ie)(K:HU)(tg:HY)(J:It)(fp:Iy)(it:Addr)(tn:Nat->Heap->Prop):Prop where
 mem:it∈fp
 obj:∀i h,tn i h->∀b∈fp,∃o,h.get? b=some o/\∀v,o.data≠.cell v
 keep:∀i h h',tn i h->(∀b∈fp,∀o,h.get? b=some o->h'.get? b=some o)->tn i h'
 item:∀(X:Cx),X.prog=P->X.w=w->X.K=K->X.calm=true->∀(i:Nat)(pins:Hz)(s:HJ)(σ:St)(H:Hp)(E:HB),Inv X pins σ H s->(∀b∈fp,pZ X pins H b)->tn i s.heap->J.go i H->
  wpAny (model P w) X.A (pyNext (.ref it)) (λr s1=>∃u,r=some u/\
   wpAny (model P w) X.A (letOwnedTupleGo tg (.ref it) u) (λ_ s2=>∃x H',Inv X pins σ H' s2/\RelV x u/\J.yld i H x H'/\tn (i+1) s2.heap/\∀b∈fp,H' b=none) E s1) E s
 done:∀(X:Cx),X.prog=P->X.w=w->X.K=K->X.calm=true->∀(i:Nat)(pins:Hz)(s:HJ)(σ:St)(H:Hp)(E:HB),Inv X pins σ H s->(∀b∈fp,pZ X pins H b)->tn i s.heap->J.stop i H->
  wpAny (model P w) X.A (pyNext (.ref it)) (λr s1=>r=none/\Inv X pins σ H s1) E s
 self:∀(A:Ih)(i:Nat)(s:HJ)(Q:HB)(E:HB),tn i s.heap->Q (.ref it) s->wpAny (model P w) A (pyIter (.ref it)) Q E s
abbrev TI:=St->Hp->(It->Hp->Prop)->Prop
def PIE(X:Cx)(pins:Hz)(σ:St)(tg:HY)(R:It->Hp->Prop)(itv:Value)(s2:HJ):Prop:=
 ∃(it:Addr)(fp:Iy)(tn:Nat->Heap->Prop)(J:It)(H':Hp),itv=.ref it/\Inv X pins σ H' s2/\Turn X.prog X.w X.K tg J fp it tn/\tn 0 s2.heap/\(∀b∈fp,pZ X pins H' b)/\R J H'
def PI(X:Cx)(tg qR:HY)(wi:TI):Prop:=
 ∀(pins:Hz)(s:HJ)(σ:St)(H:Hp)(R:It->Hp->Prop),Inv X pins σ H s->wi σ H R->
  wpAny (IW X) X.A (eval qR X.env) (λv s1=>wpAny (IW X) X.A (pyIter v) (PIE X pins σ tg R) X.xe s1) X.xe s
def rG(ho:s.heap.get? it=some o)(hc:o.cls=.type n)(hd:o.data=.fields vs)
    (hn:["enumerate","zip","dict_itemiterator","dict_reverseitemiterator","odict_iterator","itertools.zip_longest","itertools.pairwise"].contains n=false) (hQ:Q () s):wpAny M A (letOwnedTupleGo tg (.ref it) u) Q E s:=by
  unfold letOwnedTupleGo;cases tg<;>first
    |exact L6 hQ
    | (cases u<;>first
        |exact L6 hQ
        | (refine f8 (a1Z ho ?_)
           rw[hc,hd];show wpAny M A (if(["enumerate","zip","dict_itemiterator","dict_reverseitemiterator","odict_iterator","itertools.zip_longest","itertools.pairwise"].contains n&&vs[0]?==some (rawInt _))=true then _ else _) Q E s;rw[if_neg (by intro h;rw[hn,Bool.false_and]at h;cases h)];exact L6 hQ))
def Itl(K:HU)(a:Addr):It:=
 ⟨λi H=>∃xs x,SqL K H a xs/\xs[i]?=some x,λi H x H'=>H'=H/\∀xs,SqL K H a xs->xs[i]?=some x,λi H=>∃xs,SqL K H a xs/\xs.length<=i⟩
def Itt(K:HU)(a:Addr):It:=
 ⟨λi H=>∃xs x,SqT K H a xs/\xs[i]?=some x,λi H x H'=>H'=H/\∀xs,SqT K H a xs->xs[i]?=some x,λi H=>∃xs,SqT K H a xs/\xs.length<=i⟩
def Itr(lo:Int)(n:Nat):It:=⟨λi _=>i<n,λi H x H'=>H'=H/\x=.int (lo+i),λi _=>n<=i⟩
def lH{P:HZ}{w:Ie}{K:HU}{tg:HY}(a it:Addr):Turn P w K tg (Itl K a) [it] it (λi h=>h.IsListIter it a i)where
 mem:=by simp
 obj:=λi h st b hb=>by
  have e:b=it:=by simpa using hb
  subst e;obtain⟨o,e,c,d⟩:=st;exact⟨o,e,λv z=>by rw[d]at z;cases z⟩
 keep:=λi h h' st k=>st.at λo e=>k it (by simp) o e
 item:=by intro X hP hw hK hc i pins s σ H E I hf st hg;subst hP hw hK;obtain⟨xs,x,hq,hx⟩:=hg;obtain⟨its,rv,p,hz⟩:=I.list hq;obtain⟨u,hu,ru⟩:=rv.get hx;obtain⟨f0,f1,f2,f3,f4,f5⟩:=hf it (by simp);refine wpAny_pyNext_list_item st p.isList (x:=u) (by simpa using hu) λh' st' sb=>?_;have I1:Inv X pins σ H { s with heap:=h' }:=I.turned (t':=s.toks) (λb o hb e=>(sb.2 b hb).trans e) f0 f1 f3 f4 f5;obtain⟨o,e,c,d⟩:=id st';exact⟨u,rfl,rG (s:={ s with heap:=h' }) e c d (by decide) ⟨x,H,I1,ru,⟨rfl,λys hy=>by rw[I.rD hy hq];exact hx⟩,st',λb hb=>(hf b hb).1⟩⟩
 done:=by intro X hP hw hK hc i pins s σ H E I hf st hg;subst hP hw hK;obtain⟨xs,hq,hx⟩:=hg;obtain⟨its,rv,p,hz⟩:=I.list hq;obtain⟨f0,f1,f2,f3,f4,f5⟩:=hf it (by simp);have hl:=rv.length;exact wpAny_pyNext_list_end (I.ok.hd hc) st p.isList (by simp;omega) λh' eb=>⟨rfl,I.turned (t':=s.toks) (λb o hb e=>eb b o hb e) f0 f1 f3 f4 f5⟩
 self:=λ_ _ _ _ _ st h=>wpAny_pyIter_listiter st h
def hU{P:HZ}{w:Ie}{K:HU}{tg:HY}(a it:Addr):Turn P w K tg (Itt K a) [it] it (λi h=>h.IsTupleIter it a i)where
 mem:=by simp
 obj:=λi h st b hb=>by
  have e:b=it:=by simpa using hb
  subst e;obtain⟨o,e,c,d⟩:=st;exact⟨o,e,λv z=>by rw[d]at z;cases z⟩
 keep:=λi h h' st k=>st.at λo e=>k it (by simp) o e
 item:=by intro X hP hw hK hc i pins s σ H E I hf st hg;subst hP hw hK;obtain⟨xs,x,hq,hx⟩:=hg;obtain⟨its,rv,p,hz⟩:=I.tuple hq;obtain⟨u,hu,ru⟩:=rv.get hx;obtain⟨f0,f1,f2,f3,f4,f5⟩:=hf it (by simp);refine wpAny_pyNext_tuple_item st (show s.heap.IsTuple a its.toArray from p) (x:=u) (by simpa using hu) λh' st' sb=>?_;have I1:Inv X pins σ H { s with heap:=h' }:=I.turned (t':=s.toks) (λb o hb e=>(sb.2 b hb).trans e) f0 f1 f3 f4 f5;obtain⟨o,e,c,d⟩:=id st';exact⟨u,rfl,rG (s:={ s with heap:=h' }) e c d (by decide) ⟨x,H,I1,ru,⟨rfl,λys hy=>by rw[I.aF hy hq];exact hx⟩,st',λb hb=>(hf b hb).1⟩⟩
 done:=by intro X hP hw hK hc i pins s σ H E I hf st hg;subst hP hw hK;obtain⟨xs,hq,hx⟩:=hg;obtain⟨its,rv,p,hz⟩:=I.tuple hq;obtain⟨f0,f1,f2,f3,f4,f5⟩:=hf it (by simp);have hl:=rv.length;exact wpAny_pyNext_tuple_end (I.ok.hd hc) st (show s.heap.IsTuple a its.toArray from p) (by simp;omega) λh' eb=>⟨rfl,I.turned (t':=s.toks) (λb o hb e=>eb b o hb e) f0 f1 f3 f4 f5⟩
 self:=λ_ _ _ _ _ st h=>wpAny_pyIter_tupleiter st h
def hX{P:HZ}{w:Ie}{K:HU}{tg:HY}(it:Addr)(lo:Int)(n:Nat):Turn P w K tg (Itr lo n) [it] it (λi h=>IsRangeIter h it (lo+(i:Nat)*1) ((n:Int)-(i:Nat)) 1)where
 mem:=by simp
 obj:=λi h st b hb=>by
  have e:b=it:=by simpa using hb
  subst e;exact⟨_,st,λv z=>by
   have z':Data.fields _=Data.cell v:=z;cases z'⟩
 keep:=λi h h' st k=>k it (by simp) _ st
 item:=by intro X hP hw hK hc i pins s σ H E I hf st hg;subst hP hw hK;obtain⟨f0,f1,f2,f3,f4,f5⟩:=hf it (by simp);have W:=Walks.range (prog:=X.prog) (w:=X.w) (I.ok.hd hc) it lo 1 n;refine W.item i s _ _ hg st λv h' tk hv st' kk=>?_;obtain⟨t,rfl⟩:=hv;have I1:Inv X pins σ H { s with heap:=h',toks:=tk }:=I.turned (λb o hb e=>kk b o (by simpa using hb) e) f0 f1 f3 f4 f5;refine⟨_,rfl,rG (s:={ s with heap:=h',toks:=tk }) (n:="range_iterator") st' rfl rfl (by decide) ⟨.int (lo+i),H,I1,⟨t,?_⟩,⟨rfl,rfl⟩,st',λb hb=>(hf b hb).1⟩⟩;rw[Int.mul_one]
 done:=by intro X hP hw hK hc i pins s σ H E I hf st hg;subst hP hw hK;obtain⟨f0,f1,f2,f3,f4,f5⟩:=hf it (by simp);exact wpAny_pyNext_range_end (I.ok.hd hc) st (by have:n<=i:=hg;omega) λh' eb=>⟨rfl,I.turned (t':=s.toks) (λb o hb e=>eb b o hb e) f0 f1 f3 f4 f5⟩
 self:=λ_ _ _ _ _ st h=>wpAny_pyIter_rangeiter st h
section
variable {X:Cx}{tg:HY}
def rH{pins:Hz}{σ:St}{H:Hp}{s:HJ}{R:It->Hp->Prop}{E:HB}{lo hi:Int}{t u v:Tok}{tk:Nat}(I:Inv X pins σ H s)(h1:-(2 ^ 62)<=lo)(h2:lo<2 ^ 62)(h3:-(2 ^ 62)<=hi)(h4:hi<2 ^ 62)
  (q:R (Itr lo (hi-lo).toNat) H):wpAny (IW X) X.A (pyIter (.ref s.heap.objs.size)) (PIE X pins σ tg R) E { s with heap:=s.heap.push { cls:=.type "range",data:=.fields #[.int lo t,.int hi u,.int 1 v] },toks:=tk }:=by
 refine wpAny_pyIter_range (IsRange.new ..) (small_one h1 h2 h3 h4) ?_;have I1:Inv X pins σ H { s with heap:=s.heap.push { cls:=.type "range",data:=.fields #[.int lo t,.int hi u,.int 1 v] },toks:=tk }:=I.kept λb o e=>u8 _ e;refine⟨(s.heap.push { cls:=.type "range",data:=.fields #[.int lo t,.int hi u,.int 1 v] }).objs.size,[(s.heap.push { cls:=.type "range",data:=.fields #[.int lo t,.int hi u,.int 1 v] }).objs.size],_,_,H,rfl,
  I1.kept (t':=tk) λb o e=>u8 _ e,hX _ lo (hi-lo).toNat,?_,λb hb=>?_,q⟩
 .have e1:lo+((0:Nat):Int)*1=lo:=by simp
  have e2:(((hi-lo).toNat:Nat):Int)-((0:Nat):Int)=Builtin.Range.rangeSize lo hi 1:=by rw[rangeSize_one];split<;>omega
  show IsRangeIter _ _ (lo+((0:Nat):Int)*1) ((((hi-lo).toNat:Nat):Int)-((0:Nat):Int)) 1;rw[e1,e2];exact M7 _ rfl
 .have e:b=(s.heap.push { cls:=.type "range",data:=.fields #[.int lo t,.int hi u,.int 1 v] }).objs.size:=by simpa using hb
  subst e;exact I1.BY (L5 _) (I1.hok.fresh (L5 _))
def Fd(ta:TA):TI:=λσ H R=>ta σ H λvs H1=>∃j:Int,vs=[.int j]/\-(2 ^ 62)<=j/\j<2 ^ 62/\R (Itr 0 j.toNat) H1
def lI(hg:Gl X "range")(hm:X.mg "range"=none)(ha:PA X [a] ta)(hs:starEach [a] X.env=[(false,eval a X.env)]:=by rfl):PI X tg (.Call (.Name "range" p) [a] [] pos) (Fd ta):=by
 intro pins s σ H R I h;refine Call_ (VG I hg hm boot_range (a0v (thn (ha pos pins s σ H _ I h) λus s1 ⟨vs,H1,I1,r1,q1⟩=>?_) hs rfl));obtain⟨j,e,q1,q2,q⟩:=q1;subst e;cases r1 with
 |cons r rr=>cases rr;obtain⟨t,rfl⟩:=r;exact call_range_1 (rH I1 (by omega) (by omega) q1 q2 (by simpa using q))
def EI(wi:TI)(g:TG)(tb:TS):TS:=λD σ H=>wi σ H λJ H1=>∃W:Nat->Nat->St->Hp->Prop,(∃m,W 0 m σ H1)/\∀i m σ H,W i m σ H->
 (J.stop i H/\D.nx σ H)\/(J.go i H/\∃N:St->Hp->Prop,(∀σ' H',N σ' H'->∃m',m'<m/\W (i+1) m' σ' H')/\∀x H',J.yld i H x H'->g x σ H' λσ2 H2=>tb { D with nx:=N,ct:=N,bk:=D.nx } σ2 H2)
def aH(fp:Iy)(h:Heap):List (Addr×Obj):=fp.filterMap λb=>(h.get? b).map λo=>(b,o)
def YB(hb:b∈fp)(e:h.get? b=some o):(b,o)∈aH fp h:=a2M.mpr ⟨b,hb,by rw[e];rfl⟩
def lJ(hp:p∈aH fp h):p.1∈fp/\h.get? p.1=some p.2:=by
 obtain⟨b,hb,e⟩:=a2M.mp hp;cases q:h.get? b with
 |none=>rw[q]at e;cases e
 |some o=>rw[q]at e;have e':(b,o)=p:=P5 e;subst e';exact⟨hb,q⟩
def Inv.pinned(I:Inv X pins σ H s)(hf:∀b∈fp,pZ X pins H b)(ho:∀b∈fp,∃o,s.heap.get? b=some o/\∀v,o.data≠.cell v):Inv X (pins++aH fp s.heap) σ H s:=
 I.Uj λp hp=>(S4.mp hp).elim (λz=>I.pin p (O2 _ z)) λz=>by obtain⟨hb,e⟩:=lJ z;obtain⟨f0,f1,f2,_⟩:=hf p.1 hb;obtain⟨o,e',d⟩:=ho p.1 hb;rw[e]at e';cases e';exact⟨e,f0,f1,f2,d⟩
def Inv.kQ(I:Inv X (pins++pl) σ H s):Inv X pins σ H s:=I.Uj λp hp=>I.pin p (O2 _ (a0F _ hp))
def uI(hp:PassesOwn (IW X) X.A X.env X.xe)(hc:X.calm=true)(hi:PI X tg qR wi)(hg:PG X tg g)(hb:PSs X body tb)
  (hs:∀x,foldedSetIterable qR X.env x=pure x:=by intro _;rfl):PS X (.For tg qR body [] pos) (EI wi g tb):=by
 intro pins s σ H D I h;refine wpAny_For (thn (hi pins s σ H _ I h) λv s1 h1=>thn h1 λitv s2 h2=>?_) hs;obtain⟨it,fp,tn,J,H2,e,I2,T,st2,f2,W,⟨m0,w0⟩,turn⟩:=h2;subst e
 -- what stays true of the iterator's objects through the loop
 have stat:∀{H':Hp},(∀b∈fp,H' b=none)->∀b∈fp,pZ X pins H' b:=λhn b hb=>⟨hn b hb,(f2 b hb).2⟩;refine codeAny_forLoop_any (λn s'=>∃i σ' H',Inv X pins σ' H' s'/\tn i s'.heap/\(∀b∈fp,H' b=none)/\W i n σ' H') ?_ m0 ⟨0,σ,H2,I2,st2,λb hb=>(f2 b hb).1,w0⟩
 rintro n s3 ⟨i,σ3,H3,I3,st3,fr3,w3⟩
 rcases turn i n σ3 H3 w3 with⟨stop,qn⟩|⟨go,N,hN,step⟩
 .refine a0z hp (thn (T.done X rfl rfl rfl hc i pins s3 σ3 H3 X.xe I3 (stat fr3) st3 stop) λr s4 ⟨hr,I4⟩=>?_);subst hr;exact a1v ⟨σ3,H3,I4,qn⟩
 .refine a0z hp (thn (T.item X rfl rfl rfl hc i pins s3 σ3 H3 X.xe I3 (stat fr3) st3 go) λr s4 ⟨u,hr,h4⟩=>?_);subst hr;refine a0z hp (thn h4 λ_ s5 ⟨x,H5,I5,r5,y5,st5,fr5⟩=>?_);have I5':=I5.pinned (stat fr5) (T.obj _ _ st5);refine a0z hp (thn (hg _ s5 σ3 H5 x u _ I5' r5 (step x H5 y5)) λ_ s6 ⟨σ6,H6,I6,q6⟩=>?_);refine a0z hp (thn (hb _ s6 σ6 H6 _ I6 q6) λf s7 q7=>?_);have again:∀{σ7:St}{H7:Hp},Inv X (pins++aH fp s5.heap) σ7 H7 s7->N σ7 H7->∃m,m<n/\∃i σ' H',Inv X pins σ' H' s7/\tn i s7.heap/\(∀b∈fp,H' b=none)/\W i m σ' H':=λ{σ7 H7} I7 n7=>by obtain⟨m',hm,w7⟩:=hN σ7 H7 n7;refine⟨m',hm,i+1,σ7,H7,I7.kQ,T.keep _ _ _ st5 λb hb o e=>(I7.pin (b,o) (O2 _ (O2 _ (YB hb e)))).1,λb hb=>?_,w7⟩;obtain⟨o,e,d⟩:=T.obj _ _ st5 b hb;exact(I7.pin (b,o) (O2 _ (O2 _ (YB hb e)))).2.1
  cases f with
  |next=>obtain⟨σ7,H7,I7,n7⟩:=q7;exact again I7 n7
  |cont=>obtain⟨σ7,H7,I7,n7⟩:=q7;exact again I7 n7
  |brk=>obtain⟨σ7,H7,I7,q7⟩:=q7;exact⟨σ7,H7,I7.kQ,q7⟩
  |ret v=>obtain⟨x7,σ7,H7,I7,r7,q7⟩:=q7;exact⟨x7,σ7,H7,I7.kQ,r7,q7⟩
end
abbrev R2:=V->V->Hp->VK->Prop
def OpR(X:Cx)(f:Value->Value->Sem Value)(r:R2):Prop:=
 ∀(pins:Hz)(s:HJ)(σ:St)(H:Hp)(x y:V)(v u:Value)(Q:VK),Inv X pins σ H s->RelV x v->RelV y u->r x y H Q->
  wpAny (IW X) X.A (f v u) (EP X pins σ Q) X.xe s
def UnR(X:Cx)(f:Value->Sem Value)(r:V->Hp->VK->Prop):Prop:=
 ∀(pins:Hz)(s:HJ)(σ:St)(H:Hp)(x:V)(v:Value)(Q:VK),Inv X pins σ H s->RelV x v->r x H Q->
  wpAny (IW X) X.A (f v) (EP X pins σ Q) X.xe s
def jr(X:Cx)(f:Value)(r:List V->Hp->VK->Prop):Prop:=
 ∀(pins:Hz)(s:HJ)(σ:St)(H:Hp)(xs:HN)(us:HK)(Q:VK),Inv X pins σ H s->Vals xs us->r xs H Q->
  wpAny (IW X) X.A (call f us) (EP X pins σ Q) X.xe s
def tOp(r:R2)(ta tb:TE):TE:=λσ H Q=>ta σ H λx H1=>tb σ H1 λy H2=>r x y H2 Q
def tUn(r:V->Hp->VK->Prop)(ta:TE):TE:=λσ H Q=>ta σ H λx H1=>r x H1 Q
def rI(C:Int->Int->Prop)(g:Int->Int->V):R2:=λx y H Q=>∃i j,x=.int i/\y=.int j/\C i j/\Q (g i j) H
def rI0(g:Int->Int->V):R2:=λx y H Q=>∃i j,x=.int i/\y=.int j/\Q (g i j) H
def rU(g:Int->V):V->Hp->VK->Prop:=λx H Q=>∃i,x=.int i/\Q (g i) H
section
variable {X:Cx}{a b c:HY}{ta tb tc:TE}{pos:Pos}
def Fe(ha:PE X a ta)(hb:PE X b tb){pins:Hz}{s:HJ}{σ:St}{H:Hp}{R:V->V->Hp->Prop}(I:Inv X pins σ H s)
  (h:ta σ H λx H1=>tb σ H1 λy H2=>R x y H2) {Q:HB}{f:Value->Value->Sem Value}
  (hf:∀v u s2 x y H2,Inv X pins σ H2 s2->RelV x v->RelV y u->R x y H2->wpAny (IW X) X.A (f v u) Q X.xe s2):
  wpAny (IW X) X.A (eval a X.env) (λv s₁=>wpAny (IW X) X.A (eval b X.env) (λu s₂=>wpAny (IW X) X.A (f v u) Q X.xe s₂) X.xe s₁) X.xe s:=by
 refine thn (ha pins s σ H _ I h) λv s1 ⟨x,H1,I1,r1,q1⟩=>?_;refine thn (hb pins s1 σ H1 _ I1 q1) λu s2 ⟨y,H2,I2,r2,q2⟩=>?_;exact hf v u s2 x y H2 I2 r1 r2 q2
def Ct(ho:OpR X (binaryOp op) r)(ha:PE X a ta)(hb:PE X b tb):PE X (.BinOp a op b pos) (tOp r ta tb):=by intro pins s σ H Q I h;exact wpAny_BinOp (Fe ha hb I h λv u s2 x y H2 I2 rx ry q=>ho pins s2 σ H2 x y v u Q I2 rx ry q)
def Ff(ho:UnR X (unaryOp op) r)(ha:PE X a ta):PE X (.UnaryOp op a pos) (tUn r ta):=by intro pins s σ H Q I h;exact UnaryOp_ (thn (ha pins s σ H _ I h) λv s1 ⟨x,H1,I1,r1,q1⟩=>ho pins s1 σ H1 x v Q I1 r1 q1)
def opI{f:Value->Value->Sem Value}{C:Int->Int->Prop}{g:Int->Int->Int}
  (rule:∀(i j:Int)(t u:Tok)(s:HJ)(Q:HB)(E:HB),C i j->Q (.int (g i j) s.toks) { s with toks:=s.toks+1 }->wpAny (IW X) X.A (f (.int i t) (.int j u)) Q E s):
  OpR X f (rI C λi j=>.int (g i j)):=by
 intro pins s σ H x y v u Q I rx ry h;obtain⟨i,j,rfl,rfl,hc,q⟩:=h;obtain⟨t,rfl⟩:=rx;obtain⟨t',rfl⟩:=ry;exact rule i j t t' s _ _ hc ⟨.int (g i j),H,I.tok _,⟨_,rfl⟩,q⟩
def Gs{f:Value->Value->Sem Value}{g:Int->Int->Int}
  (rule:∀(i j:Int)(t u:Tok)(s:HJ)(Q:HB)(E:HB),Q (.int (g i j) s.toks) { s with toks:=s.toks+1 }->wpAny (IW X) X.A (f (.int i t) (.int j u)) Q E s):
  OpR X f (rI0 λi j=>.int (g i j)):=by
 intro pins s σ H x y v u Q I rx ry h;obtain⟨i,j,rfl,rfl,q⟩:=h;obtain⟨t,rfl⟩:=rx;obtain⟨t',rfl⟩:=ry;exact rule i j t t' s _ _ ⟨.int (g i j),H,I.tok _,⟨_,rfl⟩,q⟩
def EJ{f:Value->Value->Sem Value}{g:Int->Int->Bool}
  (rule:∀(i j:Int)(t u:Tok)(s:HJ)(Q:HB)(E:HB),Q (.bool (g i j)) s->wpAny (IW X) X.A (f (.int i t) (.int j u)) Q E s):
  OpR X f (rI0 λi j=>.bl (g i j)):=by
 intro pins s σ H x y v u Q I rx ry h;obtain⟨i,j,rfl,rfl,q⟩:=h;obtain⟨t,rfl⟩:=rx;obtain⟨t',rfl⟩:=ry;exact rule i j t t' s _ _ ⟨.bl (g i j),H,I,rfl,q⟩
def BZ(i j:Int):Prop:=0<j/\j<1073741824
def Cu(i j:Int):Prop:=0<=j/\j<=1000000/\i.natAbs<2 ^ 64
def uJ(i j:Int):Prop:=(-(2 ^ 64)<i/\i<2 ^ 64)\/(-(2 ^ 64)<j/\j<2 ^ 64)
def uJ.ok(h:uJ i j):IntMulOk i j:=by
 rcases h with⟨h1,h2⟩|⟨h1,h2⟩
 .exact .of_left (intBits_le_64 h1 h2)
 .exact .of_right (intBits_le_64 h1 h2)
def Cv:OpR X (binaryOp .Add) (rI0 λi j=>.int (i+j)):=Gs λ_ _ _ _ _ _ _ q=>add_int q
def Kt:OpR X (binaryOp .Sub) (rI0 λi j=>.int (i-j)):=Gs λ_ _ _ _ _ _ _ q=>sub_int q
def Cw:OpR X (binaryOp .Mult) (rI uJ λi j=>.int (i*j)):=opI λ_ _ _ _ _ _ _ hc q=>mul_int q hc.ok
def xX:OpR X (binaryOp .FloorDiv) (rI BZ λi j=>.int (i / j)):=opI λi j _ _ _ _ _ hc q=>by have h1:(0:Int)<j:=hc.1;have h2:j<1073741824:=hc.2;exact floordiv_int (by omega) (by rw[Int.fdiv_eq_ediv_of_nonneg i (by omega)];exact q) (.inl (PyProof.noPylong_small (by omega)))
def Cy:OpR X (binaryOp .Mod) (rI (λ_ j=>0<j) λi j=>.int (i % j)):=opI λi j _ _ _ _ _ hc q=>by have h1:(0:Int)<j:=hc;exact mod_int' (by omega) (by rw[Int.fmod_eq_emod_of_nonneg i (by omega)];exact q)
def xY:OpR X (binaryOp .Mod) (rI (λ_ j=>j≠0) λi j=>.int (i.fmod j)):=opI λ_ _ _ _ _ _ _ hc q=>mod_int' hc q
def aI:OpR X (binaryOp .Pow) (rI Cu λi j=>.int (i ^ j.toNat)):=opI λ_ _ _ _ _ _ _ hc q=>pow_int_small hc.1 hc.2.1 hc.2.2 q
def unI{f:Value->Sem Value}{g:Int->Int}
  (rule:∀(i:Int)(t:Tok)(s:HJ)(Q:HB)(E:HB),Q (.int (g i) s.toks) { s with toks:=s.toks+1 }->wpAny (IW X) X.A (f (.int i t)) Q E s):
  UnR X f (rU λi=>.int (g i)):=by
 intro pins s σ H x v Q I rx h;obtain⟨i,rfl,q⟩:=h;obtain⟨t,rfl⟩:=rx;exact rule i t s _ _ ⟨.int (g i),H,I.tok _,⟨_,rfl⟩,q⟩
def lK:UnR X (unaryOp .USub) (rU λi=>.int (-i)):=unI λ_ _ _ _ _ q=>neg_int q
end
section
variable {X:Cx}{a b c:HY}{ta tb tc:TE}{pos:Pos}
def lL(I:Inv X pins σ H s)(q:Q (.bl k) H)(e:k=k'):EP X pins σ Q (.bool k') s:=by subst e;exact⟨.bl k,H,I,rfl,q⟩
def lM:OpR X (compareOp .Lt) (rI0 λi j=>.bl (decide (i<j))):=EJ λ_ _ _ _ _ _ _ q=>lt_int q
def rJ:OpR X (compareOp .LtE) (rI0 λi j=>.bl (decide (i<=j))):=EJ λ_ _ _ _ _ _ _ q=>le_int q
def cT:OpR X (compareOp .Gt) (rI0 λi j=>.bl (decide (j<i))):=EJ λ_ _ _ _ _ _ _ q=>gt_int q
def Cz:OpR X (compareOp .GtE) (rI0 λi j=>.bl (decide (j<=i))):=EJ λ_ _ _ _ _ _ _ q=>ge_int q
def lN:OpR X (compareOp .In) (λx y H Q=>∃i j,x=.str i/\y=.str j/\Q (.bl (!(Builtin.Str.occurrences j i 0 j.length 1).isEmpty)) H):=by intro pins s σ H x y v u Q I rx ry h;obtain⟨i,j,rfl,rfl,q⟩:=h;obtain⟨t,rfl⟩:=rx;obtain⟨t',rfl⟩:=ry;exact in_str (lL I q rfl)
def eY:OpR X (compareOp .Is) (λx y H Q=>y=.non/\Q (.bl (decide (x=.non))) H):=by
 intro pins s σ H x y v u Q I rx ry h;obtain⟨rfl,q⟩:=h;cases ry;refine is_none_gen (lL I q ?_);cases x<;>first
  | (cases rx;rfl)
  | (obtain⟨t,rfl⟩:=rx;rfl)
def lO:OpR X (compareOp .IsNot) (λx y H Q=>y=.non/\Q (.bl (!decide (x=.non))) H):=by
 intro pins s σ H x y v u Q I rx ry h;obtain⟨rfl,q⟩:=h;cases ry;refine isnot_none_gen (lL I q ?_);cases x<;>first
  | (cases rx;rfl)
  | (obtain⟨t,rfl⟩:=rx;rfl)
def OpR.or(h:OpR X f r)(h':OpR X f r'):OpR X f (λx y H Q=>r x y H Q\/r' x y H Q):=by
 intro pins s σ H x y v u Q I rx ry q;rcases q with q|q
 .exact h pins s σ H x y v u Q I rx ry q
 .exact h' pins s σ H x y v u Q I rx ry q
def yT(b:HY)(h:op≠.In:=by decide)(h2:op≠.NotIn:=by decide):behindInMarks op b=false:=by
 have e1:(op==CmpOp.In)=false:=by cases op<;>first|rfl|exact absurd rfl h
 have e2:(op==CmpOp.NotIn)=false:=by cases op<;>first|rfl|exact absurd rfl h2
 cases b<;>simp[behindInMarks,e1,e2]
def xZ(ho:OpR X (compareOp op) r)(ha:PE X a ta)(hb:PE X b tb)(hm:behindInMarks op b=false):PE X (.Compare a [op] [b] pos) (tOp r ta tb):=by intro pins s σ H Q I h;exact wpAny_Compare1 (Fe ha hb I h λv u s2 x y H2 I2 rx ry q=>ho pins s2 σ H2 x y v u Q I2 rx ry q) hm
def CA(t:TE):TT:=λσ H Q=>t σ H λx H'=>∃k,x=.bl k/\Q k H'
def cU(ho:OpR X (compareOp op) r)(ha:PE X a ta)(hb:PE X b tb)(hm:behindInMarks op b=false):PT X (.Compare a [op] [b] pos) (CA (tOp r ta tb)):=by
 intro pins s σ H Q I h;refine wpAny_isTrue_Compare1 (thn (ha pins s σ H _ I h) λv s1 ⟨x,H1,I1,r1,q1⟩=>thn (hb pins s1 σ H1 _ I1 q1) λu s2 ⟨y,H2,I2,r2,q2⟩=>
  thn (ho pins s2 σ H2 x y v u _ I2 r1 r2 q2) λc s3 ⟨z,H3,I3,r3,k,e,q3⟩=>?_) hm
 subst e;cases r3;exact a1l ⟨H3,I3,q3⟩
def aJ:(sizeLine:Nat)<2 ^ 63:=by rw[S0];decide
def h8:OpR X (binaryOp .Add) (λx y H Q=>∃i j,x=.str i/\y=.str j/\i.length+j.length<=sizeLine/\Q (.str (i++j)) H):=by intro pins s σ H x y v u Q I rx ry h;obtain⟨i,j,rfl,rfl,hz,q⟩:=h;obtain⟨t,rfl⟩:=rx;obtain⟨t',rfl⟩:=ry;exact add_str (λt' tk=>⟨.str (i++j),H,I.tok _,⟨_,rfl⟩,q⟩) hz
def vals1(r:Vals [x] us):∃u,us=[u]/\RelV x u:=by
 cases r with
 |cons r1 r2=>cases r2;exact⟨_,rfl,r1⟩
def vals2(r:Vals [x,y] us):∃u w',us=[u,w']/\RelV x u/\RelV y w':=by
 cases r with
 |cons r1 r2=>
  cases r2 with
  |cons r3 r4=>cases r4;exact⟨_,_,rfl,r1,r3⟩
def lR(hc:X.calm=true):jr X (.builtin "max") (λxs H Q=>∃i j,xs=[.int i,.int j]/\Q (.int (if j>i then j else i)) H):=by
 intro pins s σ H xs us Q I r h;obtain⟨i,j,rfl,q⟩:=h;obtain⟨u,w',rfl,⟨t,rfl⟩,⟨t',rfl⟩⟩:=vals2 r;refine max_two_ints (I.ok.hd hc) λh' tk k=>⟨_,H,I.kept k,?_,q⟩;by_cases hj:j>i
 .rw[if_pos hj,if_pos hj];exact⟨_,rfl⟩
 .rw[if_neg hj,if_neg hj];exact⟨_,rfl⟩
def lU(hc:X.calm=true):jr X (.builtin "min") (λxs H Q=>∃i j,xs=[.int i,.int j]/\Q (.int (if j<i then j else i)) H):=by
 intro pins s σ H xs us Q I r h;obtain⟨i,j,rfl,q⟩:=h;obtain⟨u,w',rfl,⟨t,rfl⟩,⟨t',rfl⟩⟩:=vals2 r;refine min_two_ints (I.ok.hd hc) λh' tk k=>⟨_,H,I.kept k,?_,q⟩;by_cases hj:j<i
 .rw[if_pos hj,if_pos hj];exact⟨_,rfl⟩
 .rw[if_neg hj,if_neg hj];exact⟨_,rfl⟩
def Gu(K:HU)(x:V)(H:Hp)(n:Nat):Prop:=
 match x with
 |.str y=>y.length<=sizeLine/\n=y.length
 |.byt y=>y.size<=sizeLine/\n=y.size
 |.ref p=>(∃xs,SqL K H p xs/\n=xs.length)\/∃xs,SqT K H p xs/\n=xs.length
 |_=>False
def rK:jr X (.builtin "len") (λxs H Q=>∃x n,xs=[x]/\Gu X.K x H n/\Q (.int n) H):=by
 intro pins s σ H xs us Q I r h;obtain⟨x,n,rfl,e,q⟩:=h;obtain⟨u,rfl,rx⟩:=vals1 r;have hl:=aJ;have hs:sizeLine=16777216:=S0;cases x with
 |str y=>obtain⟨t,rfl⟩:=rx;obtain⟨hy,e'⟩:y.length<=sizeLine/\n=y.length:=e;subst e';exact len_str (by omega) ⟨.int _,H,I.tok _,⟨_,rfl⟩,q⟩
 |byt y=>obtain⟨t,rfl⟩:=rx;obtain⟨hy,e'⟩:y.size<=sizeLine/\n=y.size:=e;subst e';exact PySem.W.len_bytes (by omega) ⟨.int _,H,I.tok _,⟨_,rfl⟩,q⟩
 |ref p=>
  cases rx;have e':(∃xs,SqL X.K H p xs/\n=xs.length)\/∃xs,SqT X.K H p xs/\n=xs.length:=e;rcases e' with⟨xs,hx,e'⟩|⟨xs,hx,e'⟩
  .subst e';obtain⟨its,r',pl,hz⟩:=I.list hx;have hlen:=r'.length;exact Calls.call_len_list pl.isList (by simp only[List.size_toArray];omega) ⟨.int xs.length,H,I.tok _,⟨_,by simp only[List.size_toArray];rw[hlen]⟩,q⟩
  .subst e';obtain⟨its,r',pl,hz⟩:=I.tuple hx;have hlen:=r'.length;exact len_tuple pl (by simp only[List.size_toArray];omega) ⟨.int xs.length,H,I.tok _,⟨_,by simp only[List.size_toArray];rw[hlen]⟩,q⟩
 |_=>exact(show False from e).elim
end
structure x3(h:Heap)(x dx C:Addr)(mA:HD):Prop where
 obj:h.get? x=some (PySem.W.instObj C dx)
 ns:h.Ns1 dx mA
 ne:dx≠x
def VH{h:Heap}{dx:Addr}{mA:HD}(n:h.Ns1 dx mA):∃od,h.get? dx=some od/\∀name,PySem.W.lookIn name od=some (mA name):=by
 obtain⟨o,es,ep,ho,hd,hk,_,hm⟩:=n;refine⟨o,ho,λname=>?_⟩;have e:=hm name;unfold nsFind findBy at e;rw[<- a2N]at e;unfold PySem.W.lookIn;rw[hd];dsimp only;split
 .rename_i y q;rw[q]at e;exact R8 some e
 .rename_i q;rw[q]at e;have a:es.toList.any (·.refKey)=false:=by rw[List.any_eq_false];intro y hy;obtain⟨z,t,hkey⟩:=hk y (a2C.mp hy);simp[DictEntry.refKey,hkey]
  have a':¬es.toList.any (·.refKey)=true:=by rw[a];exact N6
  rw[if_neg a'];exact R8 some e
def x3.look(I:x3 h x dx C mA):∃od,PySem.W.InstAt h x (PySem.W.instObj C dx) C (some od)/\∀name,PySem.W.lookIn name od=some (mA name):=
 let⟨od,ho,hl⟩:=VH I.ns
 ⟨od,⟨I.obj,rfl,rfl,ho⟩,hl⟩
section
variable {prog:HZ}{w:Ie}{A:Ih}{E:HB}{s:HJ}{K:HU}{x dx C f:Addr}{mA:HD}{name:Str}{v:Value}
def get_map(X:K.In s.heap)(I:x3 s.heap x dx C mA)(hg:PySem.W.plainGet K C name=true)(hh:PySem.W.hasDictIn K C=true)
  (ha:PySem.W.findIn K (.ref C) name=some none) (hv:mA name=some v) (hv':PySem.W.handedIn v=true) (h:Q v { s with toks:=s.toks+1 }):
  wpAny (model prog w) A (getAttr (.ref x) name expr) Q E s:=by
 obtain⟨od,J,hl⟩:=I.look;exact PySem.W.get_value X J (a1G hg).1 (PySem.W.findObj_own hh ha rfl (by rw[hl,hv])) hv' h
def rL(X:K.In s.heap)(I:x3 s.heap x dx C mA)(hg:PySem.W.plainGet K C name=true)
  (hf:PySem.W.findIn K (.ref C) name=some (some (.ref f))) (ht:PySem.W.isFn K (.ref f)=true) (hv:mA name=none) (h:Q (.ref f,[.ref x]) s):
  wpAny (model prog w) A (getMethod (.ref x) name pl) Q E s:=by
 obtain⟨od,J,hl⟩:=I.look;exact PySem.W.method_fn X J (a1G hg).1 (a1G hg).2 hf (O7.mp ht) (by show(PySem.W.lookIn name od).map (·.isSome)=some false;rw[hl,hv];rfl) h
def x4(X:K.In s.heap)(I:x3 s.heap x dx C mA)
  (hs:PySem.W.findIn K (.ref C) "__setattr__"=some (some (.builtin "object.__setattr__"))) (hp:PySem.W.plainOver K C=true) (ht:PySem.W.takerIn K C name=some none) (hh:PySem.W.hasDictIn K C=true)
  (hw:PySem.Within mA ns) (hsz:ns.length<=sizeLine)
  (h:∀h',x3 h' x dx C (λy=>if y=name then some v else mA y)->Heap.SameBut dx s.heap h'->Q () { s with heap:=h',toks:=s.toks+2 }):
  wpAny (model prog w) A (setAttr (.ref x) name v) Q E s:=by
 obtain⟨od,J,hl⟩:=I.look;refine PySem.W.set_plain X J hs (PySem.W.osa_open (s:={ s with toks:=s.toks+1 }) (r:=none) X J hp ht λb=>?_);obtain⟨cd,hc,hd'⟩:=PySem.W.any_some hh;have hx:s.heap.get? x=some ⟨.ref C,some dx,.plain,#[]⟩:=I.obj;refine f8 (L6 (f8 (f8 (a1j hx (f8 (PySem.W.Looks.here (s:={ s with toks:=s.toks+1 }) (PySem.W.looks_clsIn X hc) ?_))))));rw[hd'];refine L6 (a:=some dx) (f8 (L6 (f8 ?_)));refine a2O (s:={ s with toks:=s.toks+1 }) I.ns λh' hn2 hs2=>?_;obtain⟨oD,esD,epD,hoD,hdD,hcD⟩:=hn2.count (a1V name v hw);refine f8 (a14 hoD (by rw[hdD];exact a15 (O5 hcD (by rw[I0];omega))) ?_);exact L6 (h _ ⟨(hs2.2 _ (Ne.symm I.ne)).trans I.obj,hn2,I.ne⟩ hs2)
def rM(X:K.In s.heap)(hm:PySem.W.makesIn K C=true)
  (hi:PySem.W.findIn K (.ref C) "__init__"=some (some (.ref f))) (hf:PySem.W.typeIn K (.ref f)=some (.type "function"))
  (h:codeAny (model prog w) (A.under (.builtin "type.__call__" ⟨.ref C::vs,kw⟩)) (.call (.ref f) ⟨.ref (s.heap.objs.size+1)::vs,kw⟩) (PySem.W.InitBack (s.heap.objs.size+1) R)
   { s with heap:=(s.heap.push PySem.W.emptyDict).push (PySem.W.instObj C s.heap.objs.size) }):
  codeAny (model prog w) A (.call (.ref C) ⟨vs,kw⟩) R s:=by
 obtain⟨hh,g,d,t,os⟩:=s;exact PySem.W.make_core (PySem.W.makes_of X hm) (PySem.W.looks_findIn X hi) (λself=>PySem.W.bind_fn X self hf) (.inl rfl) h
end
def JZ(f:Str)(v:V):List (Str×V)->List (Str×V)
 |[]=>[(f,v)]
 | (g,x)::r=>if g=f then(g,v)::r else(g,x)::JZ f v r
def QC(f g:Str)(v:V):∀fs:List (Str×V),(JZ f v fs).lookup g=if g=f then some v else fs.lookup g
 |[]=>by
  show List.lookup g [(f,v)]=_;by_cases h:g=f
  .have hb:(g==f)=true:=O7.mpr h;simp only[List.lookup,hb,if_pos h]
  .have hb:(g==f)=false:=P8.mpr h;simp only[List.lookup,hb,if_neg h]
 | (k,x)::r=>by
  have ih:=QC f g v r;rw[show JZ f v ((k,x)::r)=(if k=f then(k,v)::r else(k,x)::JZ f v r)from rfl];by_cases hk:k=f
  .rw[if_pos hk];by_cases h:g=k
   .have hb:(g==k)=true:=O7.mpr h;simp only[List.lookup,hb,if_pos (h.trans hk)]
   .have hb:(g==k)=false:=P8.mpr h;simp only[List.lookup,hb,if_neg (λe:g=f=>h (e.trans hk.symm))]
  .rw[if_neg hk];by_cases h:g=k
   .have hb:(g==k)=true:=O7.mpr h;simp only[List.lookup,hb,if_neg (λe:g=f=>hk (h.symm.trans e))]
   .have hb:(g==k)=false:=P8.mpr h;simp only[List.lookup,hb];exact ih
def Zz(f:Str)(v:V):∀fs:List (Str×V),f∈(JZ f v fs).map (·.1)/\∀g,g∈fs.map (·.1)->g∈(JZ f v fs).map (·.1)
 |[]=>⟨by simp[JZ],λg h=>by simp at h⟩
 | (k,x)::r=>by
  obtain⟨i1,i2⟩:=Zz f v r;rw[show JZ f v ((k,x)::r)=(if k=f then(k,v)::r else(k,x)::JZ f v r)from rfl];by_cases hk:k=f
  .rw[if_pos hk];subst hk;exact⟨by simp,λg h=>by simpa using h⟩
  .rw[if_neg hk];refine⟨?_,λg h=>?_⟩
   .rw[M3];exact L8 _ i1
   .rw[M3]at h ⊢;rcases N4.mp h with e|e
    .exact N4.mpr (.inl e)
    .exact L8 _ (i2 g e)
def QD(f:Str)(v:V):∀fs:List (Str×V),(JZ f v fs).length<=fs.length+1
 |[]=>by simp[JZ]
 | (k,x)::r=>by
  have ih:=QD f v r;rw[show JZ f v ((k,x)::r)=(if k=f then(k,v)::r else(k,x)::JZ f v r)from rfl];by_cases hk:k=f
  .rw[if_pos hk,I0,I0];omega
  .rw[if_neg hk,I0,I0];omega
def Vs.some_of(r:Vs (some v) o):∃u,o=some u/\RelV v u:=by
 cases o with
 |none=>exact(show False from r).elim
 |some u=>exact⟨u,rfl,r⟩
def Vs.none_of(r:Vs none o):o=none:=by
 cases o with
 |none=>rfl
 |some u=>exact(show False from r).elim
def lV(r:RelV v u):PySem.W.handedIn u=true:=by
 cases v with
 |non=>cases(show u=Value.none from r);rfl
 |bl b=>cases(show u=Value.bool b from r);rfl
 |int i=>obtain⟨t,e⟩:=(show ∃t,u=Value.int i t from r);cases e;rfl
 |str x=>obtain⟨t,e⟩:=(show ∃t,u=Value.str x t from r);cases e;rfl
 |byt b=>obtain⟨t,e⟩:=(show ∃t,u=Value.bytes b t from r);cases e;rfl
 |flt b=>obtain⟨t,e⟩:=(show ∃t,u=Value.float b t from r);cases e;rfl
 |ref a=>cases(show u=Value.ref a from r);rfl
 |ty n=>cases(show u=Value.type n from r);rfl
def Um(hok:HOk P w H h)(e:H a=some (.ins C dx fs)):∃mA,x3 h a dx C mA/\(∀f,Vs (fs.lookup f) (mA f))/\PySem.Within mA (fs.map (·.1))/\fs.length<=1000/\H dx=some (.own a):=by obtain⟨d,z,ne,ob,mA,n,r,q⟩:=(show yC P w H h a (.ins C dx fs)from hok a _ e);exact⟨mA,⟨ob,n,ne⟩,r,q,z,d⟩
structure Cls(K:HU)(C:Addr):Prop where
 pg:PySem.W.plainGet K C Str.empty=true
 hd:PySem.W.hasDictIn K C=true
 po:PySem.W.plainOver K C=true
 sa:PySem.W.findIn K (.ref C) "__setattr__"=some (some (.builtin "object.__setattr__"))
def Cls.get{K:HU}{C:Addr}(c:Cls K C)(f:Str):PySem.W.plainGet K C f=true:=c.pg
def jF(K:HU)(C:Addr)(f:Str):Prop:=PySem.W.findIn K (.ref C) f=some none
def jF.Fg{K:HU}{C:Addr}{f:Str}(n:jF K C f):PySem.W.takerIn K C f=some none:=by unfold PySem.W.takerIn;rw[show PySem.W.findIn K (.ref C) f=some none from n];rfl
structure Meth(K:HU)(C:Addr)(m:Str)(f:Addr):Prop where
 at_:PySem.W.findIn K (.ref C) m=some (some (.ref f))
 fn:PySem.W.isFn K (.ref f)=true
 kp:PySem.W.keepIn K (.ref f)=true
def h9(I:Inv X pins σ H s)(e:H a=some (.ins C dx fs))(c:Cls X.K C)(n:jF X.K C f)(l:fs.lookup f=some v)
  (h:∀u s',Inv X pins σ H s'->RelV v u->Q u s'):wpAny (IW X) A (getAttr (.ref a) f b) Q E s:=by
 obtain⟨mA,O,r,_,_,_⟩:=Um I.hok e;obtain⟨u,hu,ru⟩:=Vs.some_of (v:=v) (o:=mA f) (by rw[<- l];exact r f);exact get_map I.kIn O (c.get f) c.hd n hu (lV ru) (h u _ (I.tok _) ru)
def XJ(I:Inv X pins σ H s)(e:H a=some (.ins C dx fs))(c:Cls X.K C)(k:Meth X.K C m g)(l:fs.lookup m=none)
  (h:Q (.ref g,[.ref a]) s):wpAny (IW X) A (getMethod (.ref a) m pl) Q E s:=by
 obtain⟨mA,O,r,_,_,_⟩:=Um I.hok e;have hn:mA m=none:=Vs.none_of (by rw[<- l];exact r m);exact rL I.kIn O (c.get m) k.at_ k.fn hn h
def h_(I:Inv X pins σ H s)(e:H a=some (.ins C dx fs))(c:Cls X.K C)(n:jF X.K C f)(hl:fs.length<1000)(ry:RelV y u)
  (h:∀s',Inv X pins σ (upd H a (.ins C dx (JZ f y fs))) s'->Q () s'):wpAny (IW X) A (setAttr (.ref a) f u) Q E s:=by
 obtain⟨mA,O,r,wi,_,ho⟩:=Um I.hok e;have hz:(fs.map (·.1)).length<=sizeLine:=by rw[t0,S0];omega
 refine x4 I.kIn O c.sa c.po n.Fg c.hd wi hz λh' O' sb=>h _ ?_;have hd:∃o,h'.get? dx=some o:=let⟨o,_,_,e',_⟩:=O'.ns;⟨o,e'⟩
 refine I.write (x:=a) (e:=dx) (by rw[e];exact True.intro) (.inr ho) (λb q hb z=>(sb.2 b hb).trans z) hd ?_;refine⟨by rw[zi O.ne];exact ho,?_,O.ne,O'.obj,_,O'.ns,λg=>?_,λg hg=>?_⟩
 .have:=QD f y fs;omega
 .show Vs ((JZ f y fs).lookup g) (if g=f then some u else mA g);rw[QC];by_cases q:g=f
  .rw[if_pos q,if_pos q];exact ry
  .rw[if_neg q,if_neg q];exact r g
 .by_cases q:g=f
  .rw[q];exact(Zz f y fs).1
  .refine(Zz f y fs).2 g (wi g λz=>hg ?_);show(if g=f then some u else mA g)=none;rw[if_neg q];exact z
def Inv.made(I:Inv X pins σ H s):Inv X pins σ (upd (upd H s.heap.objs.size (.own (s.heap.objs.size+1))) (s.heap.objs.size+1) (.ins C s.heap.objs.size []))
  { s with heap:=(s.heap.push PySem.W.emptyDict).push (PySem.W.instObj C s.heap.objs.size) }:=by
 have e1:(s.heap.push PySem.W.emptyDict).get? s.heap.objs.size=some PySem.W.emptyDict:=M7 s.heap rfl;have e2:((s.heap.push PySem.W.emptyDict).push (PySem.W.instObj C s.heap.objs.size)).get? (s.heap.objs.size+1)=some (PySem.W.instObj C s.heap.objs.size):=by
  have:=M7 (s.heap.push PySem.W.emptyDict) (o:=PySem.W.instObj C s.heap.objs.size) rfl
  rwa [a0i]at this
 have e3:(s.heap.push PySem.W.emptyDict).Ns s.heap.objs.size (λ_=>none):=⟨PySem.W.emptyDict,#[],_,e1,rfl,(λe he=>absurd he (by simp)),λ_=>rfl⟩;have I1:=I.laid (a:=s.heap.objs.size) (o:=.own (s.heap.objs.size+1)) (h':=s.heap.push PySem.W.emptyDict) (t':=s.toks) (λb u q=>u8 _ q) (L5 _) ⟨_,e1⟩;refine I1.laid (a:=s.heap.objs.size+1) (o:=.ins C s.heap.objs.size []) (t':=s.toks) (λb u q=>u8 _ q) (a1w (a0i _ _)) ?_;have ne:s.heap.objs.size≠s.heap.objs.size+1:=L9 (a0r _);refine⟨by rw[zi ne,zg],P1 _,ne,e2,λ_=>none,(Heap.Ns1.of_empty e3).at λo q=>u8 _ q,λ_=>True.intro,λy hy=>absurd rfl hy⟩
def x5(hb:attributeBase e f env (eval e env)=eval e env)
  (h:wpAny (model prog w) A (eval e env) (λo s₁=>wpAny (model prog w) A (getAttr o f true) Q E s₁) E s):wpAny (model prog w) A (eval (.Attribute e f pos) env) Q E s:=
 Attribute_any_ h (by rw[arm_eval_Attribute,hb])
def G_(K:HU)(ta:TE)(f:Str):TE:=λσ H Q=>ta σ H λx H1=>∃a C dx fs v,x=.ref a/\H1 a=some (.ins C dx fs)/\Cls K C/\jF K C f/\fs.lookup f=some v/\Q v H1
def Ha(K:HU)(ta tv:TE)(f:Str):TS:=λD σ H=>tv σ H λy H1=>ta σ H1 λx H2=>∃a C dx fs,x=.ref a/\H2 a=some (.ins C dx fs)/\Cls K C/\jF K C f/\fs.length<1000/\
 D.nx σ (upd H2 a (.ins C dx (JZ f y fs)))
def uK(he:PE X e ta)(hb:attributeBase e f X.env (eval e X.env)=eval e X.env):PE X (.Attribute e f pos) (G_ X.K ta f):=by intro pins s σ H Q I h;refine x5 hb (thn (he pins s σ H _ I h) λu s1 ⟨x,H1,I1,rx,a,C,dx,fs,v,ex,ea,c,n,l,q⟩=>?_);subst ex;obtain rfl:u=Value.ref a:=rx;exact h9 I1 ea c n l λu' s2 I2 ru=>⟨v,H1,I2,ru,q⟩
def uL(ha:PE X o ta)(hv:PE X value tv)(hs:swapsWith value (some (.Attribute o f pos')) pos.line X.env=pure false):PS X (.Assign [.Attribute o f pos'] value pos) (Ha X.K ta tv f):=by intro pins s σ H D I h;refine a1u (thn (hv pins s σ H _ I h) λu s1 ⟨y,H1,I1,ry,q⟩=>thn (ha pins s1 σ H1 _ I1 q) λov s2 ⟨x,H2,I2,rx,a,C,dx,fs,ex,ea,c,n,l,q2⟩=>?_) hs;subst ex;obtain rfl:ov=Value.ref a:=rx;exact h_ I2 ea c n l ry λs3 I3=>⟨σ,_,I3,q2⟩
section
variable {X:Cx}{pins:Hz}{σ:St}{H:Hp}{s:HJ}{A:Ih}{E:HB}{Q:HB}{c:Value}{b:Bool}
inductive lb(K:HU)(H:Hp):V->Value->Prop where
 |non:lb K H .non (.type "NoneType")
 |bl (x:Bool):lb K H (.bl x) (.type "bool")
 |int (i:Int):lb K H (.int i) (.type "int")
 |str (x:Str):lb K H (.str x) (.type "str")
 |flt (x:UInt64):lb K H (.flt x) (.type "float")
 |lst {a:Addr}{xs:HN}(e:H a=some (.lst xs)):lb K H (.ref a) (.type "list")
 |frz {a:Addr}{o:Obj}{xs:HN}(e:H a=some (.frz o (.lst xs))):lb K H (.ref a) (.type "list")
 |tup {a:Addr}{xs:HN}(e:H a=some (.tup xs)):lb K H (.ref a) (.type "tuple")
 |dK {a:Addr}{kvs:HP}(e:H a=some (.dK kvs)):lb K H (.ref a) (.type "dict")
 |dT {a:Addr}{kvs:IH}(e:H a=some (.dT kvs)):lb K H (.ref a) (.type "dict")
 |ins {a C dx:Addr}{fs:Ik}(e:H a=some (.ins C dx fs)) (cl:Cls K C) (ha:PySem.W.findIn K (.ref C) "__class__"=some (some (.builtin "object.__class__")))
   (hn:PySem.W.specialIn K (.builtin "object.__class__") "__get__"=some (some (.builtin "getset_descriptor.__get__"))) (htk:PySem.W.takesIn K (.builtin "object.__class__")=some true)
   (hm:PySem.W.mroIn K C (.type "object")=some true):lb K H (.ref a) (.ref C)
end
structure jU(k:Nat)(A:Ih):Prop where
 hd:A.handled=none
 dp:A.depth+3*k+5<recursionLimit
 un:A.units+16*k+200<cLine
def jU.mono(r:jU k A)(h:j<=k):jU j A:=⟨r.hd,by have:=r.dp;omega,by have:=r.un;omega⟩
def jU.deeper(r:jU (k+1) A)(env:Env):jU k (A.deeper env):=
 ⟨r.hd,by have:=r.dp;show A.depth+1+3*k+5<_;omega,by have:=r.un;show A.units+3+16*k+200<_;omega⟩
def jU.in1(r:jU (k+1) A):jU k A.in1:=
 ⟨r.hd,by have:=r.dp;show A.depth+3*k+5<_;omega,by have:=r.un;show A.units+1+16*k+200<_;omega⟩
def ia{A:Ih}{C:Addr}{us:HK}{kw:IC}:(A.under (.builtin "type.__call__" ⟨.ref C::us,kw⟩)).depth=A.depth+1:=by
 first|rfl|simp[Around.under,Code.weight,Code.isCreation,Code.isGuard,Code.isCaller,Code.frames,Code.isFrame,guardIds]
def ib{A:Ih}{C:Addr}{us:HK}{kw:IC}:(A.under (.builtin "type.__call__" ⟨.ref C::us,kw⟩)).units=A.units+1:=by
 first|rfl|simp[Around.under,Code.cUnits,Code.frames,Code.isFrame]
def jU.make(r:jU (k+1) A)(C:Addr)(us:HK)(kw:IC):jU k (A.under (.builtin "type.__call__" ⟨.ref C::us,kw⟩)):=
 ⟨r.hd,by have:=r.dp;rw[ia];omega,by have:=r.un;rw[ib];omega⟩
def jU.depth(r:jU k A):A.depth<recursionLimit:=by have:=r.dp;omega
def jU.units(r:jU k A):A.units+64<cLine:=by have:=r.un;omega
def Fh:TA:=λ_ H Q=>Q [] H
def CB(ta:TE)(tr:TA):TA:=λσ H Q=>ta σ H λx H1=>tr σ H1 λxs H2=>Q (x::xs) H2
section
variable {X:Cx}{e:HY}{es:HL}{te:TE}{t:TA}{pos:Pos}
def aL:PA X [] Fh:=λ_ _ _ _ H Q I h=>a1m ⟨[],H,I,.nil,h⟩
def J5(ha:PE X e te)(hr:PA X es t)(hs:starEach (e::es) X.env=(false,eval e X.env)::starEach es X.env:=by rfl):PA X (e::es) (CB te t):=by intro pos pins s σ H Q I h;rw[hs];show wpAny _ _ (spliced ((false,eval e X.env)::backTo pos (starEach es X.env))) _ _ s;refine a0Q (thn (ha pins s σ H _ I h) λu s1 ⟨x,H1,I1,r1,q1⟩=>?_);exact thn (hr pos pins s1 σ H1 _ I1 q1) λus s2 ⟨xs,H2,I2,r2,q2⟩=>⟨x::xs,H2,I2,.cons r1 r2,q2⟩
def Gv(t:TA):TE:=λσ H Q=>t σ H λxs H1=>xs.length<=sizeLine/\∀p,H1 p=none->Q (.ref p) (upd H1 p (.tup xs))
def Hb(t:TA):TE:=λσ H Q=>t σ H λxs H1=>xs.length<=sizeLine/\∀p,H1 p=none->Q (.ref p) (upd H1 p (.lst xs))
def XM{x1}(h:PA X es t):PE X (.Tuple es x1 pos) (Gv t):=by intro pins s σ H Q I hq;refine wpAny_Tuple_spliced (thn (h pos pins s σ H _ I hq) λus s1 ⟨xs,H1,I1,r,z,q⟩=>⟨by rw[<- r.length];exact z,?_⟩);have hf:H1 s1.heap.objs.size=none:=I1.hok.fresh (L5 _);refine⟨.ref s1.heap.objs.size,upd H1 s1.heap.objs.size (.tup xs),I1.laid (t':=s1.toks) (λb u e=>u8 _ e) (L5 _) ?_,rfl,q _ hf⟩;exact⟨z,us,r,⟨_,M7 _ rfl,rfl,_,rfl⟩⟩
def CC(h:PA X es t):PE X (.List es pos) (Hb t):=by intro pins s σ H Q I hq;refine wpAny_List_spliced (thn (h pos pins s σ H _ I hq) λus s1 ⟨xs,H1,I1,r,z,q⟩=>⟨by rw[<- r.length];exact z,?_⟩);have hf:H1 s1.heap.objs.size=none:=I1.hok.fresh (L5 _);refine⟨.ref s1.heap.objs.size,upd H1 s1.heap.objs.size (.lst xs),I1.laid (t':=s1.toks) (λb u e=>u8 _ e) (L5 _) ?_,rfl,q _ hf⟩;exact⟨z,us,0,r,M7 _ rfl⟩
end
abbrev Sp:=List V->Hp->VK->XK->Prop
abbrev CXT:=List Env->Hp->Shared->XK->Value->Shared->Prop
structure p4(P:HZ)(w:Ie)(K:HU)(mg:HD)(base:Heap)(A:Ih)(outer:List Env)(s:HJ)(H:Hp):Prop where
 frames:A.frames=some outer
 mod:Mod K mg base
 bs:∀b o,base.get? b=some o->s.heap.get? b=some o/\H b=none
 bsz:base.objs.size<=s.heap.objs.size
 eS:s.heap.FunFrames base outer
 frf:∀b∈frs outer,H b=none
 hok:HOk P w H s.heap
 bare:AllBare s.gens
def CE(outer:List Env)(P:HZ)(w:Ie)(H:Hp)(s:HJ)(Q:VK)(u:Value)(s':HJ):Prop:=
 ∃v H',s'.os=s.os/\AllBare s'.gens/\Un (frs outer) [] H H' s.heap s'.heap/\HOk P w H' s'.heap/\RelV v u/\Q v H'
def CR(CX:CXT)(outer:List Env)(P:HZ)(w:Ie)(H:Hp)(s:HJ)(Q:VK)(E:XK)(r:Result)(s':HJ):Prop:=
 match r with
 |.ok (.ret u)=>CE outer P w H s Q u s'
 |.ok _=>False
 |.error e=>CX outer H s E e s'
structure yU(P:HZ)(w:Ie)(K:HU)(mg:HD)(base:Heap)(CX:CXT)(k:Nat)(f:Addr)(fd:Ii)(ps:HA)(sp:Sp):Prop where
 len:∀vs H Q E,sp vs H Q E->vs.length=ps.length
 run:∀(A:Ih)(outer:List Env)(s:HJ)(H:Hp)(args:Args)(us:HK)(vs:HN) (Q:VK) (E:XK),jU k A->p4 P w K mg base A outer s H->BindsTo s fd args (ps.zip us)->Vals vs us->sp vs H Q E->
  codeAny (model P w) A (.call (.ref f) args) (CR CX outer P w H s Q E) s
def yU.imp{P:HZ}{w:Ie}{K:HU}{mg:HD}{base:Heap}{CX:CXT}{k:Nat}{f:Addr}{fd:Ii}{ps:HA}{sp sp':Sp}(F:yU P w K mg base CX k f fd ps sp)
  (h:∀vs H Q E,sp' vs H Q E->sp vs H Q E):yU P w K mg base CX k f fd ps sp':=
 ⟨λvs H Q E q=>F.len vs H Q E (h _ _ _ _ q),λA outer s H args us vs Q E hr he hb hv hs=>F.run A outer s H args us vs Q E hr he hb hv (h _ _ _ _ hs)⟩
def p4.make{P:HZ}{w:Ie}{K:HU}{mg:HD}{base:Heap}{A:Ih}{outer:List Env}{s:HJ}{H:Hp}(e:p4 P w K mg base A outer s H)(C:Addr)(us:HK)(kw:IC):
  p4 P w K mg base (A.under (.builtin "type.__call__" ⟨.ref C::us,kw⟩)) outer s H:=⟨by first|exact e.frames|(simpa[Around.under,Code.envs,Code.isFrame,pushEnvs]using e.frames),e.mod,e.bs,e.bsz,e.eS,e.frf,e.hok,e.bare⟩
def Inv.lX(I:Inv X pins σ H s):p4 X.prog X.w X.K X.mg X.base X.A X.stack s H:=
 ⟨I.ok.frames,I.ok.mod,I.bs,O5 I.ok.bsz I.sz,I.stack,I.Ui,I.hok,I.bare⟩
def Inv.after(I:Inv X pins σ H s)(h:CE X.stack X.prog X.w H s Q u s'):EP X pins σ Q u s':=by obtain⟨v,H',os,bare,un,hok,r,q⟩:=h;obtain⟨hh,g,d,t,os'⟩:=s';obtain rfl:os'=s.os:=os;exact⟨v,H',I.call (h':=hh) (g':=g) (d':=d) (t':=t) (ch:=[]) un hok bare (λb z=>absurd z (by simp)),r,q⟩
def Fi(sp:Sp)(dvs:HN)(E:XK)(t:TA):TE:=λσ H Q=>t σ H λvs H1=>sp (vs++dvs) H1 Q E
def Fj(C:Addr)(sp:Sp)(dvs:HN)(E:XK)(t:TA):TE:=λσ H Q=>t σ H λvs H1=>∀x dx,H1 x=none->H1 dx=none->dx≠x->
 sp (.ref x::(vs++dvs)) (upd (upd H1 dx (.own x)) x (.ins C dx [])) (λv H2=>v=.non/\Q (.ref x) H2) E
def Binds(K:HU)(fd:Ii)(ps:HA)(ds:HK):Prop:=
 ∀(s:HJ)(us:HK),K.In s.heap->(us++ds).length=ps.length->BindsTo s fd ⟨us,[]⟩ (ps.zip (us++ds))
def Binds.all{K:HU}{fd:Ii}{ps:HA}(h:∀us:List Value,us.length=ps.length->bindArgs fd ⟨us,[]⟩=pure (ps.zip us)):Binds K fd ps []:=λs us _ hl=>by rw[P0]at hl ⊢;exact .of_eq (h us hl)
def Passes(CX:CXT)(X:Cx)(E:XK):Prop:=∀(pins:Hz)(σ:St)(H:Hp)(s:HJ)(e:Value)(s':HJ),Inv X pins σ H s->CX X.stack H s E e s'->X.xe e s'
section
variable {X:Cx}{CX:CXT}{k:Nat}{f C:Addr}{fd:Ii}{ps:HA}{sp:Sp}{dvs:HN}{ds:HK}{E:XK}{x m:Str}{p pos qE:Pos}{e o:HY}{es:HL}{ta:TE}{t:TA}
def lY(F:yU X.prog X.w X.K X.mg X.base CX k f fd ps sp)(hr:jU k X.A)(hb:Binds X.K fd ps ds)(hd:Vals dvs ds)(hx:Passes CX X E)
  (I:Inv X pins σ H s) (r:Vals vs us) (h:sp (vs++dvs) H Q E):wpAny (IW X) X.A (call (.ref f) us) (EP X pins σ Q) X.xe s:=by
 have r2:Vals (vs++dvs) (us++ds):=r.append hd;have hl:(us++ds).length=ps.length:=by rw[<- r2.length];exact F.len _ _ _ _ h
 refine a0R (a0w (F.run X.A X.stack s H ⟨us,[]⟩ (us++ds) (vs++dvs) Q E hr I.lX (hb s us I.kIn hl) r2 h) λr s' hq=>?_);cases r with
 |error e=>exact hx pins σ H s e s' I hq
 |ok fl=>
  cases fl with
  |ret u=>exact I.after hq
  |next=>exact False.elim hq
  |brk=>exact False.elim hq
  |cont=>exact False.elim hq
def lZ(F:yU X.prog X.w X.K X.mg X.base CX k f fd ps sp)(hr:jU k X.A)(hg:Gl X x)(hm:X.mg x=some (.ref f))(hk:PySem.W.keepIn X.K (.ref f)=true)(hb:Binds X.K fd ps ds)(hd:Vals dvs ds)(hx:Passes CX X E)
  (ha:PA X (e::es) t) (hdb:(x==("__debug__":Str))=false:=by decide) (he:starEach (e::es) X.env=(false,eval e X.env)::starEach es X.env:=by rfl) (hpl:(backTo pos (starEach es X.env)).any (·.1)=false:=by rfl):
  PE X (.Call (.Name x p) (e::es) [] pos) (Fi sp dvs E t):=by
 intro pins s σ H Q I h;refine a0d (Uk I hg hm ?_ hdb);refine a1f (h₀:=X.base) I.ok.mod.kin hk (thn (ha pos pins s σ H _ I h) λus s1 ⟨vs,H1,I1,r,q⟩=>⟨I1.kIn,?_⟩) he hpl;exact lY F hr hb hd hx I1 r q
structure Mk(K:HU)(C f:Addr):Prop where
 makes:PySem.W.makesIn K C=true
 init:PySem.W.findIn K (.ref C) "__init__"=some (some (.ref f))
 fn:PySem.W.isFn K (.ref f)=true
 kp:PySem.W.keepIn K (.ref C)=true
def rN(M:Mk X.K C f)(F:yU X.prog X.w X.K X.mg X.base CX k f fd ps sp)(hr:jU (k+1) X.A)(hb:Binds X.K fd ps ds)(hd:Vals dvs ds)
  (hx:Passes CX X E) (I:Inv X pins σ H s) (r:Vals vs us)
  (h:∀x dx,H x=none->H dx=none->dx≠x->sp (.ref x::(vs++dvs)) (upd (upd H dx (.own x)) x (.ins C dx [])) (λv H2=>v=.non/\Q (.ref x) H2) E):
  wpAny (IW X) X.A (call (.ref C) us) (EP X pins σ Q) X.xe s:=by
 have hq:=h (s.heap.objs.size+1) s.heap.objs.size (I.hok.fresh (T8 _)) (I.hok.fresh (L5 _)) (L9 (a0r _));have I2:=Inv.made (C:=C) I;have r2:Vals (V.ref (s.heap.objs.size+1)::(vs++dvs)) (Value.ref (s.heap.objs.size+1)::(us++ds)):=.cons rfl (r.append hd);have hl:(Value.ref (s.heap.objs.size+1)::us++ds).length=ps.length:=by have e:=r2.length;rw[F.len _ _ _ _ hq]at e;exact e.symm
 refine a0R (rM (f:=f) I.kIn M.makes M.init (O7.mp M.fn) (a0w (F.run _ X.stack _ _ ⟨Value.ref (s.heap.objs.size+1)::us,[]⟩ (Value.ref (s.heap.objs.size+1)::(us++ds)) _ _ E (hr.make C us [])
  (I2.lX.make C us []) (hb _ (Value.ref (s.heap.objs.size+1)::us) I2.kIn hl) r2 hq) λr s' hq'=>?_))
 cases r with
 |error e=>exact hx pins σ _ _ e s' I2 hq'
 |ok fl=>
  cases fl with
  |ret u=>obtain⟨v,H',I3,rv,ev,q3⟩:=I2.after hq';subst ev;exact⟨rv,⟨V.ref (s.heap.objs.size+1),H',I3,rfl,q3⟩⟩
  |next=>exact False.elim hq'
  |brk=>exact False.elim hq'
  |cont=>exact False.elim hq'
def l0(M:Mk X.K C f)(F:yU X.prog X.w X.K X.mg X.base CX k f fd ps sp)(hr:jU (k+1) X.A)(hg:Gl X x)(hm:X.mg x=some (.ref C))(hb:Binds X.K fd ps ds)(hd:Vals dvs ds)(hx:Passes CX X E)
  (ha:PA X (e::es) t) (hdb:(x==("__debug__":Str))=false:=by decide) (he:starEach (e::es) X.env=(false,eval e X.env)::starEach es X.env:=by rfl) (hpl:(backTo pos (starEach es X.env)).any (·.1)=false:=by rfl):
  PE X (.Call (.Name x p) (e::es) [] pos) (Fj C sp dvs E t):=by
 intro pins s σ H Q I h;refine a0d (Uk I hg hm ?_ hdb);refine a1f (h₀:=X.base) I.ok.mod.kin M.kp (thn (ha pos pins s σ H _ I h) λus s1 ⟨vs,H1,I1,r,q⟩=>⟨I1.kIn,?_⟩) he hpl;exact rN M F hr hb hd hx I1 r q
end
def PK(X:Cx)(kws:List Keyword)(t:TA):Prop:=
 ∀(pos:Pos)(pins:Hz)(s:HJ)(σ:St)(H:Hp)(Q:List V->Hp->Prop),Inv X pins σ H s->t σ H Q->wpAny (IW X) X.A (evalAll ((backToKw pos (keywordEach kws X.env)).map (·.2))) (AP X pins σ Q) X.xe s
section
variable {X:Cx}{CX:CXT}{k:Nat}{f C:Addr}{fd:Ii}{ps ks:HA}{sp:Sp}{E:XK}{x m:Str}{p pos qE kpos:Pos}{e o:HY}{es:HL}{kws:List Keyword}{te ta:TE}{t tk:TA}{nm:Option Str}
def CD:PK X [] Fh:=λ_ _ _ _ H Q I h=>wpAny_evalAll_nil ⟨[],H,I,.nil,h⟩
def x6(ha:PE X e te)(hr:PK X kws t):PK X (⟨nm,e,kpos⟩::kws) (CB te t):=by intro pos pins s σ H Q I h;show wpAny _ _ (evalAll ((do let v<-eval e X.env;standAt pos;pure v)::(backToKw pos (keywordEach kws X.env)).map (·.2))) _ _ s;refine wpAny_evalAll_cons (f8 (thn (ha pins s σ H _ I h) λu s1 ⟨x,H1,I1,r1,q1⟩=>f8 (a06 (L6 ?_))));exact thn (hr pos pins s1 σ H1 _ I1 q1) λus s2 ⟨xs,H2,I2,r2,q2⟩=>⟨x::xs,H2,I2,.cons r1 r2,q2⟩
variable {g:List Value->List Value->List Value}{gV:List V->List V->List V}
end
structure zm(N P:HA)(sc:Scope):Prop where
 kind:sc.kind=.function
 co:sc.isCoroutine=false
 gen:sc.isGenerator=false
 nd:N.Nodup
 pre:N.take P.length=P
 par:∀x∈P,sc.names.lookup x=some .local\/sc.names.lookup x=some .cell
 EC:∀y∈sc.names,y.2≠.free
def aM{kindOf:IG}{x:Str}:∀{binds:IC}{m:HD},(∀v,(x,v)∉binds)->bindL kindOf binds m x=m x
 |[],_,_=>rfl
 | (n,v)::r,m,h=>by
  unfold bindL;rw[aM λw hw=>h w (L8 _ hw)];split
  .have:x≠n:=by rintro rfl;exact h v L4
   simp[this]
  .rfl
def aN{kindOf:IG}{x:Str}:∀{binds:IC}{m:HD},(∀v,(x,v)∉binds)->bindC kindOf binds m x=m x
 |[],_,_=>rfl
 | (n,v)::r,m,h=>by
  unfold bindC;rw[aN λw hw=>h w (L8 _ hw)];split
  .rfl
  .have:x≠n:=by rintro rfl;exact h v L4
   simp[this]
def aO{kindOf:IG}{x:Str}{v:Value}:∀{P:HA}{vs:HK}{i:Nat}{m:HD},P.Nodup->P[i]?=some x->vs[i]?=some v->kindOf x=some .local->
  bindL kindOf (P.zip vs) m x=some v
 |[],_,_,_,_,h,_,_=>by simp at h
 |_::_,[],_,_,_,_,h,_=>by simp at h
 |p::P,w::vs,0,m,nd,h1,h2,hk=>by simp at h1 h2;subst h1;subst h2;show bindL kindOf ((p,w)::P.zip vs) m p=_;unfold bindL;rw[aM λv hv=>(S8.mp nd).1 (a2m hv).1,if_pos hk];simp
 |p::P,w::vs,i+1,m,nd,h1,h2,hk=>by show bindL kindOf ((p,w)::P.zip vs) m x=_;unfold bindL;exact aO (i:=i) (S8.mp nd).2 (by simpa using h1) (by simpa using h2) hk
def aQ{kindOf:IG}{x:Str}{v:Value}:∀{P:HA}{vs:HK}{i:Nat}{m:HD},P.Nodup->P[i]?=some x->vs[i]?=some v->kindOf x≠some .local->
  bindC kindOf (P.zip vs) m x=some v
 |[],_,_,_,_,h,_,_=>by simp at h
 |_::_,[],_,_,_,_,h,_=>by simp at h
 |p::P,w::vs,0,m,nd,h1,h2,hk=>by simp at h1 h2;subst h1;subst h2;show bindC kindOf ((p,w)::P.zip vs) m p=_;unfold bindC;rw[aN λv hv=>(S8.mp nd).1 (a2m hv).1,if_neg hk];simp
 |p::P,w::vs,i+1,m,nd,h1,h2,hk=>by show bindC kindOf ((p,w)::P.zip vs) m x=_;unfold bindC;exact aQ (i:=i) (S8.mp nd).2 (by simpa using h1) (by simpa using h2) hk
def start(N:HA)(vs:HN):St:=vs.map some++List.replicate (N.length-vs.length) none
def ic(CX:CXT)(P:HZ)(w:Ie)(K:HU)(mg:HD)(base:Heap)(N:HA)(qual:Str)(scope:Scope)(f:Addr)(cd:Value)(A:Ih)(outer:List Env)(s:HJ)(H:Hp)(E:XK):Cx where
 prog:=P
 w:=w
 K:=K
 mg:=mg
 base:=base
 A:=A.deeper (envOfC qual scope s.heap.objs.size f cd)
 N:=N
 s₀:=s
 H₀:=H
 env:=envOfC qual scope s.heap.objs.size f cd
 outer:=outer
 stack:=envOfC qual scope s.heap.objs.size f cd::outer
 ex:=[]
 calm:=true
 fn:=λ_=>true
 pn:=[]
 xe:=λe s'=>wpAny (model P w) (A.deeper (envOfC qual scope s.heap.objs.size f cd)) (leaving (envOfC qual scope s.heap.objs.size f cd) e) (λ_ s''=>CX outer H s E e s'') (λe' s''=>CX outer H s E e' s'') s'
def eZ{sc:Scope}{n:Nat}{x:Str}(h:sc.names.lookup x=some .cell):∃c,(cellsFrom n sc.names []).lookup x=some c:=by have q:=a2o sc.names n [] (.inl h);exact a0e.mp q
def l4{CX:CXT}{P:HZ}{w:Ie}{K:HU}{mg:HD}{base:Heap}{N ps:HA}{qual:Str}{scope:Scope}{f:Addr}{cd:Value}{A:Ih}{outer:List Env}{s s1:HJ}{H:Hp}{E:XK}{us:HK}{vs:HN}
  (S:zm N ps scope) (hd:A.handled=none) (e0:p4 P w K mg base A outer s H) (hl:vs.length=ps.length) (r:Vals vs us)
  (x:InCallC s s.heap.objs.size (bindL (envOfC qual scope s.heap.objs.size f cd).kindOf (ps.zip us) λ_=>none) (cellsFrom (s.heap.objs.size+1) scope.names []) (bindC (envOfC qual scope s.heap.objs.size f cd).kindOf (ps.zip us) λ_=>none) s1):
  Inv (ic CX P w K mg base N qual scope f cd A outer s H E) [] (start N vs) H s1:=by
 have hpl:ps.length<=N.length:=by have:=R8 List.length S.pre;rw[T2]at this;omega
 obtain⟨h1,tk,rfl,hk⟩:=x.done;have noA:∀b:Addr,b∉(ic CX P w K mg base N qual scope f cd A outer s H E).ex:=λb z=>absurd (show b∈([]:List Addr)from z) (by simp);refine⟨⟨e0.mod,S.kind,rfl,rfl,L5 _,λy z c h1 h2=>?_,λy hy=>?_,λy c _ h=>?_,λ_=>hd,Around.frames_deeper e0.frames,.inr ⟨rfl,rfl⟩,λb z=>absurd z (noA b),e0.bs,e0.bsz,λb _ _=>noA b,λb z=>absurd z (noA b),e0.eS,e0.frf⟩,
  rfl,e0.bare,Un.kept hk,⟨_,x.toInCall.ns,λi y v h1 h2 h3=>?_⟩,λy c h=>⟨_,x.cell y c h⟩,e0.hok.fresh (L5 _),λy c h=>?_,λp hp=>absurd (show p∈([]:List (Addr×Obj))from hp) (by simp),e0.hok.kept hk,?_⟩
 .exact name_of_addr x.apart (a0K h1) (a0K h2)
 .have hy:scope.names.lookup y=some .cell\/scope.names.lookup y=some .free:=hy;rcases hy with hy|hy
  .exact eZ hy
  .exact absurd rfl (S.EC _ (a0K hy))
 .exact a1e (x.above y c (a0K h))
 .have hi:i<vs.length:=by
   unfold start at h2;by_cases hi:i<vs.length
   .exact hi
   .rw[a07 (by simpa using hi)]at h2;rw[a0N]at h2;split at h2<;>cases h2
  have ha:vs[i]?=some v:=by
   unfold start at h2;rw[T4 (by simpa using hi),N7]at h2;cases e:vs[i]? with
   |none=>rw[e]at h2;cases h2
   |some a=>rw[e]at h2;cases h2;rfl
  obtain⟨u,hu,rv⟩:=r.get ha;have hp:ps[i]?=some y:=by rw[<- S.pre,List.getElem?_take_of_lt (by omega)];exact h1
  have ndP:ps.Nodup:=by rw[<- S.pre];exact S.nd.sublist (List.take_sublist _ _)
  refine⟨u,rv,?_⟩;rcases S.par y (a00 hp)with k|k
  .exact .inl ⟨k,aO ndP hp hu k⟩
  .obtain⟨c,e⟩:=eZ (n:=s.heap.objs.size+1) k;refine .inr ⟨.inl k,c,e,?_⟩;have q:=x.cell y c e;rw[aQ ndP hp hu (by show scope.names.lookup y≠_;rw[k];decide)]at q;exact q
 .exact e0.hok.fresh (a1e (x.above y c (a0K h)))
 .unfold start;show _=N.length;rw[N8,t0,a0A];omega
def Fm{CX:CXT}{P:HZ}{w:Ie}{K:HU}{mg:HD}{base:Heap}{k:Nat}{f:Addr}{name qual:Str}{params:Arguments}{body:Iq}{scope:Scope}{dV kV doc pm cdv ct oc:Value}{an od:Iw}
  {osl:Ip}{N ps:HA}{sp:Sp}(lk:K.lookup f=some ⟨oc,od,.func (PySem.W.fnOf name qual params body scope dV kV doc pm an cdv ct),osl⟩) (hcd:PySem.W.codeIn K cdv qual=true) (S:zm N ps scope)
  (len:∀vs H Q E,sp vs H Q E->vs.length=ps.length)
  (la:∀(A:Ih)(outer:List Env)(s:HJ)(H:Hp)(vs:HN)(Q:VK)(E:XK),jU k (A.deeper (envOfC qual scope s.heap.objs.size f cdv))->sp vs H Q E->
   ∃t,PSs (ic CX P w K mg base N qual scope f cdv A outer s H E) body t/\t { nx:=λ_ H'=>Q .non H',rt:=Q } (start N vs) H):
  yU P w K mg base CX (k+1) f (PySem.W.fnOf name qual params body scope dV kV doc pm an cdv ct) ps sp:=by
 refine⟨len,λA outer s H args us vs Q E hr e0 hb r hsp=>?_⟩;have hl:=len _ _ _ _ hsp;have KX:K.In s.heap:=e0.mod.kin.keeps λb o e=>(e0.bs b o e).1;have lim:s.heap.NoLimit:=e0.mod.nolimit.keeps λb o e=>(e0.bs b o e).1;have hkind:∀y∈ps.zip us,scope.names.lookup y.1=some .local\/(scope.names.lookup y.1=some .cell/\((cellsFrom (s.heap.objs.size+1) scope.names []).lookup y.1).isSome=true):=λ⟨n,v⟩ hy=>by
  rcases S.par n (a2m hy).1 with q|q
  .exact .inl q
  .exact .inr ⟨q,a2o _ _ _ (.inl q)⟩
 refine codeAny_call_function hr.depth (KX _ _ lk) rfl S.co S.gen rfl (PySem.W.codeRec_of KX hcd) (hb _ _ _ _ ?_);refine wpAny_newFunctionEnv_cells S.kind hkind λenv he s1 x=>?_;subst he;refine⟨lim.keeps x.toInCall.keep,codeAny_func ?_⟩;obtain⟨t,ht,hq⟩:=la A outer s H vs Q E (hr.deeper _) hsp;have I:Inv (ic CX P w K mg base N qual scope f cdv A outer s H E) [] (start N vs) H s1:=l4 S hr.hd e0 hl r x;refine S7 (ht [] s1 (start N vs) H _ I hq) (λfl s' hs=>?_) λe s' hs=>hs;have fin:∀{σ':St}{H':Hp}{v:V}{u:Value},Inv (ic CX P w K mg base N qual scope f cdv A outer s H E) [] σ' H' s'->RelV v u->Q v H'->CE outer P w H s Q u s':=
  λ{σ' H' v u} J rv q=>⟨v,H',J.os,J.bare,J.base,J.hok,rv,q⟩
 cases fl with
 |ret u=>obtain⟨v,σ',H',J,rv,q⟩:=hs;exact fin J rv q
 |next=>obtain⟨σ',H',J,q⟩:=hs;exact fin (v:=V.non) (u:=Value.none) J rfl q
 |brk=>obtain⟨_,_,_,q⟩:=hs;exact False.elim q
 |cont=>obtain⟨_,_,_,q⟩:=hs;exact False.elim q
section
variable {X:Cx}{x:Str}{p pos:Pos}{e:HY}{es:HL}{t:TA}{id T:String}{r:List V->Hp->VK->Prop}
def tCB(r:List V->Hp->VK->Prop)(t:TA):TE:=λσ H Q=>t σ H λvs H1=>r vs H1 Q
def Vt(hc:jr X (.builtin id) r)(hg:Gl X x)(hm:X.mg x=none)(hv:bootBuiltins x=some (.builtin id))(ha:PA X (e::es) t)(hn:x≠"__name__":=by decide)(hdb:(x==("__debug__":Str))=false:=by decide)
  (he:starEach (e::es) X.env=(false,eval e X.env)::starEach es X.env:=by rfl) (hpl:(backTo pos (starEach es X.env)).any (·.1)=false:=by rfl):PE X (.Call (.Name x p) (e::es) [] pos) (tCB r t):=by
 intro pins s σ H Q I h;refine a0d (VG I hg hm hv ?_ hn hdb);exact PyProof.Rows.callWith_builtin1 (thn (ha pos pins s σ H _ I h) λus s1 ⟨vs,H1,I1,r1,q1⟩=>hc pins s1 σ H1 vs us Q I1 r1 q1) he hpl
def aR(hc:jr X (.type T) r)(hg:Gl X x)(hm:X.mg x=none)(hv:bootBuiltins x=some (.type T))(ha:PA X (e::es) t)(hn:x≠"__name__":=by decide)(hdb:(x==("__debug__":Str))=false:=by decide)
  (he:starEach (e::es) X.env=(false,eval e X.env)::starEach es X.env:=by rfl) (hpl:(backTo pos (starEach es X.env)).any (·.1)=false:=by rfl):PE X (.Call (.Name x p) (e::es) [] pos) (tCB r t):=by
 intro pins s σ H Q I h;refine a0d (VG I hg hm hv ?_ hn hdb);exact a0v (thn (ha pos pins s σ H _ I h) λus s1 ⟨vs,H1,I1,r1,q1⟩=>hc pins s1 σ H1 vs us Q I1 r1 q1) he hpl
end
end L2
namespace HT
open PySem PyProof.Rows
section
open PySem.SeqAt
open PySem.AutoSeq1 (wpAny_loadPart')
open PySem.MeetsSeq PySem.MeetsSeq2 PySem.MeetsSeq3
end
section
variable {prog:HZ}{w:Ie}{A:Ih}{E:HB}{s:HJ}
def sIx(n d:Nat):Option Int->Nat
 |none=>d
 |some v=>if v<0 then(v+(n:Int)).toNat else min v.toNat n
end
end HT
namespace L2
open PySem PySem.Spec PyProof.Rows
abbrev TO:=St->Hp->(Option Int->Hp->Prop)->Prop
def PO(X:Cx)(e:IP)(t:TO):Prop:=
 ∀(pins:Hz)(s:HJ)(σ:St)(H:Hp)(Q:Option Int->Hp->Prop),Inv X pins σ H s->t σ H Q->
  wpAny (IW X) X.A (evalPart e X.env) (λu s'=>∃o H',Inv X pins σ H' s'/\IsPart u o/\Q o H') X.xe s
def x8:TO:=λ_ H Q=>Q none H
def Fn(t:TE):TO:=λσ H Q=>t σ H λx H1=>∃i,x=.int i/\Q (some i) H1
section
variable {X:Cx}{e:HY}{te:TE}{lo hi:IP}{tl th:TO}{pos p2:Pos}
def x9:PO X none x8:=by intro pins s σ H Q I h;rw[evalPart_none];exact L6 ⟨none,H,I,.none,h⟩
def x_(h:PE X e te):PO X (some e) (Fn te):=by intro pins s σ H Q I hw;rw[evalPart_some];refine thn (h pins s σ H _ I hw) λu s1 ⟨x,H1,I1,r1,q1⟩=>?_;obtain⟨i,rfl,q⟩:=q1;obtain⟨t,rfl⟩:=r1;exact⟨some i,H1,I1,.int i t,q⟩
def SlR(X:Cx)(r:V->Option Int->Option Int->Hp->VK->Prop):Prop:=
 ∀(pins:Hz)(s:HJ)(σ:St)(H:Hp)(x:V)(v vl vu:Value)(lo hi:IF) (sl:Addr) (Q:VK),Inv X pins σ H s->RelV x v->s.heap.IsSliceOf sl vl vu .none->IsPart vl lo->IsPart vu hi->r x lo hi H Q->
  ∃T id,typeLookup (.type T) "__getitem__"=pure (some (.builtin id))/\s.TypeIs v T/\wpAny (IW X) X.A (getItem v (.ref sl)) (EP X pins σ Q) X.xe s
def SlR.or(h:SlR X r)(h':SlR X r'):SlR X (λx lo hi H Q=>r x lo hi H Q\/r' x lo hi H Q):=by
 intro pins s σ H x v vl vu lo hi sl Q I rx hs pl pu q;rcases q with q|q
 .exact h pins s σ H x v vl vu lo hi sl Q I rx hs pl pu q
 .exact h' pins s σ H x v vl vu lo hi sl Q I rx hs pl pu q
def tSl(r:V->Option Int->Option Int->Hp->VK->Prop)(te:TE)(tl th:TO):TE:=λσ H Q=>te σ H λx H1=>tl σ H1 λl H2=>th σ H2 λu H3=>r x l u H3 Q
def e_(hr:SlR X r)(he:PE X e te)(hl:PO X lo tl)(hu:PO X hi th):PE X (.Subscript e (.Slice lo hi none p2) pos) (tSl r te tl th):=by intro pins s σ H Q I h;refine Subscript_ (thn (he pins s σ H _ I h) λv s1 ⟨x,H1,I1,r1,q1⟩=>?_);refine wpAny_Slice (thn (hl pins s1 σ H1 _ I1 q1) λvl s2 ⟨l,H2,I2,pl,q2⟩=>thn (hu pins s2 σ H2 _ I2 q2) λvu s3 ⟨u,H3,I3,pu,q3⟩=>?_);rw[evalPart_none];refine L6 ?_;have I4:Inv X pins σ H3 { s3 with heap:=s3.heap.push { cls:=.type "slice",data:=.fields #[vl,vu,.none] } }:=I3.kept (t':=s3.toks) λb ob q=>u8 _ q;obtain⟨T,id,hT,ht,hg⟩:=hr pins { s3 with heap:=s3.heap.push { cls:=.type "slice",data:=.fields #[vl,vu,.none] } } σ H3 x v vl vu l u s3.heap.objs.size Q I4 r1 (Heap.IsSliceOf.new ..) pl pu q3;show wpAny (IW X) X.A (subscriptTail e (.Slice lo hi none p2) v (.ref s3.heap.objs.size)) (EP X pins σ Q) X.xe { s3 with heap:=s3.heap.push { cls:=.type "slice",data:=.fields #[vl,vu,.none] } };exact tail_any (ops:=[.ref s3.heap.objs.size,v]) ht hT hg (by with_unfolding_all rfl)
def uM(xs:HN)(lo hi:IF):List V:=(xs.drop (HT.sIx xs.length 0 lo)).take (HT.sIx xs.length xs.length hi-HT.sIx xs.length 0 lo)
def cV(xs:HN)(lo hi:IF):(uM xs lo hi).length<=xs.length:=by unfold uM;rw[T2,a01];omega
end
def ixN(n:Nat)(i:Int):Option Nat:=if 0<=i then(if i<n then some i.toNat else none)else if -(n:Int)<=i then some (i+n).toNat else none
def atI{α:Type}(xs:List α)(i:Int):Option α:=(ixN xs.length i).bind λj=>xs[j]?
def l5(h:ixN n i=some j):seqIndex? i n=some j/\j<n/\-(n:Int)<=i/\i<n:=by
 unfold ixN at h;by_cases h0:0<=i
 .rw[if_pos h0]at h;by_cases h1:i<n
  .rw[if_pos h1]at h;have e:i.toNat=j:=P5 h;exact⟨by rw[a2X h0 h1,e],by omega,by omega,h1⟩
  .rw[if_neg h1]at h;cases h
 .rw[if_neg h0]at h;by_cases h1:-(n:Int)<=i
  .rw[if_pos h1]at h;have e:(i+n).toNat=j:=P5 h;exact⟨by rw[a2P (by omega) h1,e],by omega,h1,by omega⟩
  .rw[if_neg h1]at h;cases h
def cW{α:Type}{xs:List α}{v:α}(h:atI xs i=some v):∃j,seqIndex? i xs.length=some j/\xs[j]?=some v/\j<xs.length/\-(xs.length:Int)<=i/\i<xs.length:=by
 unfold atI at h;cases e:ixN xs.length i with
 |none=>rw[e]at h;cases h
 |some j=>rw[e]at h;obtain⟨h1,h2,h3,h4⟩:=l5 e;exact⟨j,h1,h,h2,h3,h4⟩
def Uo(b:HY):Prop:=∀o i,subscripted b false o i=operate [o,i] (getItem o i)
def IxR(X:Cx)(r:R2):Prop:=
 ∀(value slice:HY)(pins:Hz)(s:HJ)(σ:St)(H:Hp)(x y:V)(v u:Value) (Q:VK),Inv X pins σ H s->RelV x v->RelV y u->r x y H Q->
  subscripted slice false v u=operate [v,u] (getItem v u)->wpAny (IW X) X.A (subscriptTail value slice v u) (EP X pins σ Q) X.xe s
def MtR(X:Cx)(id:String)(r:V->List V->Hp->VK->Prop):Prop:=
 ∀(pins:Hz)(s:HJ)(σ:St)(H:Hp)(x:V)(xs:HN)(v:Value) (us:HK) (Q:VK),Inv X pins σ H s->RelV x v->Vals xs us->r x xs H Q->
  wpAny (IW X) X.A (call (.builtin id) (v::us)) (EP X pins σ Q) X.xe s
section
variable {X:Cx}{a b:HY}{ta tb:TE}{pos:Pos}
def IxR.or(h:IxR X r)(h':IxR X r'):IxR X (λx y H Q=>r x y H Q\/r' x y H Q):=by
 intro value slice pins s σ H x y v u Q I rx ry q hs;rcases q with q|q
 .exact h value slice pins s σ H x y v u Q I rx ry q hs
 .exact h' value slice pins s σ H x y v u Q I rx ry q hs
def CF(hr:IxR X r)(ha:PE X a ta)(hb:PE X b tb)(hs:Uo b):PE X (.Subscript a b pos) (tOp r ta tb):=by intro pins s σ H Q I h;exact Subscript_ (Fe ha hb I h λv u s2 x y H2 I2 rx ry q=>hr a b pins s2 σ H2 x y v u Q I2 rx ry q (hs _ _))
def Gw(K:HU):R2:=λx y H Q=>∃p xs i v,x=.ref p/\y=.int i/\SqL K H p xs/\atI xs i=some v/\Q v H
def Gx(K:HU):R2:=λx y H Q=>∃p xs i v,x=.ref p/\y=.int i/\SqT K H p xs/\atI xs i=some v/\Q v H
def Gy:R2:=λx y H Q=>∃z i c,x=.str z/\y=.int i/\z.length<=sizeLine/\atI z.cps.toList i=some c/\Q (.str ⟨#[c]⟩) H
def Aa:IxR X (Gw X.K):=by
 intro value slice pins s σ H x y v u Q I rx ry h hs;obtain⟨p,xs,i,z,rfl,rfl,hq,he,q⟩:=h;cases rx;obtain⟨t,rfl⟩:=ry;obtain⟨its,r,pl,hz⟩:=I.list hq;obtain⟨j,h1,h2,h3,h4,h5⟩:=cW he;obtain⟨w,ew,rw'⟩:=r.get h2;have hl:=r.length;have hn:=aJ;have fin:EP X pins σ Q w s:=⟨z,H,I,rw',q⟩;by_cases h0:0<=i
 .have hj:i.toNat=j:=by rw[a2X h0 h5]at h1;exact P5 h1
  exact item_listR pl.isList h0 (by omega) (by rw[hj];simpa using ew) fin hs
 .have hj:(i+(its.toArray.size:Int)).toNat=j:=by rw[a2P (by omega) h4]at h1;rw[M8,<- hl];exact P5 h1
  exact a2p (x:=w) pl.isList.typeIs slot_list_getitem.lookup
   (wpAny_getItem_list_neg (Q:=λr s'=>r=w/\EP X pins σ Q r s') pl.isList (by omega) (by rw[M8]<;>omega) (by omega) (by rw[hj];simpa using ew) ⟨rfl,fin⟩) hs
def CG:IxR X (Gx X.K):=by
 intro value slice pins s σ H x y v u Q I rx ry h hs;obtain⟨p,xs,i,z,rfl,rfl,hq,he,q⟩:=h;cases rx;obtain⟨t,rfl⟩:=ry;obtain⟨its,r,pl,hz⟩:=I.tuple hq;obtain⟨j,h1,h2,h3,h4,h5⟩:=cW he;obtain⟨w,ew,rw'⟩:=r.get h2;have hl:=r.length;have hn:=aJ;have fin:EP X pins σ Q w s:=⟨z,H,I,rw',q⟩;exact a2p (x:=w) pl.typeIs slot_tuple_getitem.lookup
  (getItem_tuple (j:=j) (Q:=λr s'=>r=w/\EP X pins σ Q r s') pl (by omega) (by omega) (by rw[M8,<- hl];exact h1) (by simpa using ew) ⟨rfl,fin⟩) hs
def fb:IxR X Gy:=by
 intro value slice pins s σ H x y v u Q I rx ry h hs;obtain⟨z,i,c,rfl,rfl,hz,he,q⟩:=h;obtain⟨t,rfl⟩:=rx;obtain⟨t',rfl⟩:=ry;obtain⟨j,h1,h2,h3,h4,h5⟩:=cW he;have hl:z.cps.toList.length=z.length:=by simp[Str.length]
 rw[hl]at h1 h4 h5;have hn:=aJ;exact tail_any (typeIs_str s z t) slot_str_getitem.lookup (getItem_str (c:=c) (by
  have e1:decide (i < -(2 ^ 63:Int))=false:=M4 (by omega);have e2:decide (i ≥ 2 ^ 63)=false:=M4 (by omega);rw[e1,e2,a2F]) (by rw[h1];simpa using h2) ⟨.str ⟨#[c]⟩,H,I.tok _,⟨_,rfl⟩,q⟩) hs
def rIx(K:HU):R2:=λx y H Q=>Gw K x y H Q\/Gx K x y H Q\/Gy x y H Q
def CH:IxR X (rIx X.K):=Aa.or (CG.or fb)
def ie(its:HK)(n j:Nat)(u:Value):Obj.mapSeq (·.setIfInBounds j u) { cls:=.type "list",data:=.seq its.toArray n }={ cls:=.type "list",data:=.seq (its.set j u).toArray n }:=by simp[Obj.mapSeq]
def Inv.lst(I:Inv X pins σ H s)(h:H p=some (.lst xs)):
  ∃(its:HK)(n:Nat),Vals xs its/\s.heap.get? p=some { cls:=.type "list",data:=.seq its.toArray n }/\xs.length<=sizeLine:=by
 obtain⟨z,its,n,r,e⟩:=I.hok p _ h;exact⟨its,n,r,e,z⟩
def Inv.CJ{pins:Hz}{σ:St}{H:Hp}{s:HJ}{p:Addr}{xs ys:HN}{its its':HK}{n n':Nat}{f:Obj->Obj}(I:Inv X pins σ H s)(h:H p=some (.lst xs))
  (ho:s.heap.get? p=some { cls:=.type "list",data:=.seq its.toArray n }) (hf:f { cls:=.type "list",data:=.seq its.toArray n }={ cls:=.type "list",data:=.seq its'.toArray n' }) (r:Vals ys its') (hz:ys.length<=sizeLine) (t:Nat):
  Inv X pins σ (upd H p (.lst ys)) { s with heap:=s.heap.update p f,toks:=t }:=by
 have e:(s.heap.update p f).get? p=some { cls:=.type "list",data:=.seq its'.toArray n' }:=by rw[R7 f ho (by rw[hf]<;>rfl),hf]
 refine I.write (x:=p) (e:=p) (by rw[h];trivial) (.inl rfl) (λb u hb q=>(N9 _ _ (Ne.symm hb)).trans q) ⟨_,e⟩ ?_;exact⟨hz,its',n',r,e⟩
def Fo:V->V->V->Hp->(Hp->Prop)->Prop:=λo i v H Q=>∃p xs k j,o=.ref p/\i=.int k/\H p=some (.lst xs)/\ixN xs.length k=some j/\Q (upd H p (.lst (xs.set j v)))
def set_list:Gr X Fo:=by
 intro pins s σ H o i v ov iv u Q I ro ri rv h;obtain⟨p,xs,k,j,rfl,rfl,hp,hj,q⟩:=h;cases ro;obtain⟨t,rfl⟩:=ri;obtain⟨its,n,r,ho,hz⟩:=I.lst hp;obtain⟨h1,h2,h3,h4⟩:=l5 hj;have hl:=r.length;have hn:=aJ;have I':Inv X pins σ (upd H p (.lst (xs.set j v))) { s with heap:=s.heap.update p (Obj.mapSeq (·.setIfInBounds j u)) }:=
  I.CJ hp ho (ie its n j u) (r.set rv j) (by rw[P6];exact hz) s.toks
 by_cases h0:0<=k
 .have hk:k.toNat=j:=by rw[a2X h0 h4]at h1;exact P5 h1
  exact PySem.W.ki_setAt ho h0 (by omega) (by rw[M8,<- hl];exact h4) (by rw[hk];exact⟨_,I',q⟩)
 .have hk:(k+(its.toArray.size:Int)).toNat=j:=by rw[a2P (by omega) h3]at h1;rw[M8,<- hl];exact P5 h1
  exact PySem.W.ki_setBack ho (by omega) (by rw[M8,<- hl];exact h3) (by omega) (by rw[hk];exact⟨_,I',q⟩)
def aS(lo hi:IF)(n:Nat):(sliceBounds lo hi none n).1=((HT.sIx n 0 lo:Nat):Int)/\(sliceBounds lo hi none n).2.1=((HT.sIx n n hi:Nat):Int)/\(sliceBounds lo hi none n).2.2=1:=by
 refine⟨?_,?_,rfl⟩
 .cases lo with
  |none=>simp[sliceBounds,HT.sIx]
  |some i=>
   simp only[sliceBounds,HT.sIx,Option.getD_none,show(1:Int)>0 by decide,if_true];by_cases h:i<0
   .simp only[h,if_true]<;>omega
   .simp only[h,if_false]<;>omega
 .cases hi with
  |none=>simp[sliceBounds,HT.sIx]
  |some i=>
   simp only[sliceBounds,HT.sIx,Option.getD_none,show(1:Int)>0 by decide,if_true];by_cases h:i<0
   .simp only[h,if_true]<;>omega
   .simp only[h,if_false]<;>omega
def Uq(its:HK)(lo hi:IF):slicePick its.toArray lo hi none=((its.drop (HT.sIx its.length 0 lo)).take (HT.sIx its.length its.length hi-HT.sIx its.length 0 lo)).toArray:=by obtain⟨h1,h2,h3⟩:=aS lo hi its.toArray.size;unfold slicePick;rw[h1,h2,h3];simp only[sliceRange_one,pick_run,List.size_toArray]<;>rfl
def Hc(K:HU):V->Option Int->Option Int->Hp->VK->Prop:=λx lo hi H Q=>∃a xs,x=.ref a/\SqL K H a xs/\∀p,H p=none->Q (.ref p) (upd H p (.lst (uM xs lo hi)))
def l6:SlR X (Hc X.K):=by intro pins s σ H x v vl vu lo hi sl Q I rx hs pl pu h;obtain⟨a,xs,rfl,hx,q⟩:=h;cases rx;obtain⟨its,r,ht,hz⟩:=I.list hx;have hlen:=r.length;refine⟨"list",_,slot_list_getitem.lookup,ht.isList.typeIs,?_⟩;refine wpAny_getItem_list_slice ht.isList hs pl pu .none (by simp) ?_ (by rw[List.size_toArray]<;>omega);rw[Uq,<- hlen];refine⟨.ref s.heap.objs.size,_,I.laid (t':=s.toks) (o:=.lst (uM xs lo hi)) (λb ob q=>u8 _ q) (L5 _) ?_,rfl,q _ (I.hok.fresh (L5 _))⟩;exact⟨O5 (cV xs lo hi) hz,_,0,(r.drop (HT.sIx xs.length 0 lo)).take (HT.sIx xs.length xs.length hi-HT.sIx xs.length 0 lo),M7 _ rfl⟩
def K_:V->Bool
 |.non=>true
 |.bl _=>true
 |.int _=>true
 |.str _=>true
 |_=>false
def eqV:V->V->Bool
 |.non,.non=>true
 |.bl a,.bl b=>a==b
 |.bl a,.int b=>(if a then 1 else 0)==b
 |.int a,.bl b=>a==(if b then 1 else 0)
 |.int a,.int b=>a==b
 |.str a,.str b=>a==b
 |_,_=>false
def uN(ry:RelV y u)(rx:RelV x v)(fy:K_ y=true)(fx:K_ x=true):SeqAt.EqAt A s u v (eqV y x):=by
 cases y with
 |non=>
  cases ry;cases x with
  |non=>cases rx;exact SeqAt.EqAt.same _
  |bl b=>cases rx;exact SeqAt.EqAt.none_bool b
  |int b=>obtain⟨t,rfl⟩:=rx;exact SeqAt.EqAt.none_int b t
  |str b=>obtain⟨t,rfl⟩:=rx;exact SeqAt.EqAt.none_str b t
  |_=>exact absurd (show false=true from fx) N6
 |bl a=>
  cases ry;cases x with
  |non=>cases rx;exact SeqAt.EqAt.bool_none a
  |bl b=>cases rx;exact SeqAt.EqAt.bool_bool a b
  |int b=>obtain⟨t,rfl⟩:=rx;exact SeqAt.EqAt.bool_int a b t
  |str b=>obtain⟨t,rfl⟩:=rx;exact SeqAt.EqAt.bool_str a b t
  |_=>exact absurd (show false=true from fx) N6
 |int a=>
  obtain⟨t',rfl⟩:=ry;cases x with
  |non=>cases rx;exact SeqAt.EqAt.int_none a t'
  |bl b=>cases rx;exact SeqAt.EqAt.int_bool a t' b
  |int b=>obtain⟨t,rfl⟩:=rx;exact SeqAt.EqAt.int_int a t' b t
  |str b=>obtain⟨t,rfl⟩:=rx;exact a2J a t' b t
  |_=>exact absurd (show false=true from fx) N6
 |str a=>
  obtain⟨t',rfl⟩:=ry;cases x with
  |non=>cases rx;exact SeqAt.EqAt.str_none a t'
  |bl b=>cases rx;exact SeqAt.EqAt.str_bool a t' b
  |int b=>obtain⟨t,rfl⟩:=rx;exact a2K a t' b t
  |str b=>obtain⟨t,rfl⟩:=rx;exact SeqAt.EqAt.str_str a t' b t
  |_=>exact absurd (show false=true from fx) N6
 |_=>exact absurd (show false=true from fy) N6
def eqU(x:V)(u:Value):Bool:=match u with
 |.none=>eqV .non x
 |.bool b=>eqV (.bl b) x
 |.int i _=>eqV (.int i) x
 |.str z _=>eqV (.str z) x
 |_=>false
def uO(r:RelV y u)(f:K_ y=true):eqU x u=eqV y x:=by
 cases y with
 |non=>cases r;rfl
 |bl b=>cases r;rfl
 |int i=>obtain⟨t,rfl⟩:=r;rfl
 |str z=>obtain⟨t,rfl⟩:=r;rfl
 |_=>exact absurd (show false=true from f) N6
def VI{x:V}:∀{xs:HN}{us:HK},Vals xs us->xs.all K_=true->us.any (eqU x)=xs.any λy=>eqV y x
 |_,_,.nil,_=>rfl
 |y::xs,u::us,.cons r t,f=>by rw[a08,a0G]at f;rw[T7,T7,uO r f.1,VI t f.2]
def Q1{A:Ih}{s:HJ}{x:V}{v:Value}(rx:RelV x v)(fx:K_ x=true):∀{xs:HN}{us:HK},Vals xs us->xs.all K_=true->∀u∈us,SeqAt.EqAt A s u v (eqU x u)
 |_,_,.nil,_=>λu hu=>by cases hu
 |y::xs,u::us,.cons r t,f=>λu' hu=>by
  rw[a08,a0G]at f;rcases N4.mp hu with rfl|hu
  .rw[uO r f.1];exact uN r rx f.1 fx
  .exact Q1 rx fx t f.2 u' hu
def inV(x:V)(xs:HN):Bool:=xs.any λy=>eqV y x
def rIn(K:HU)(neg:Bool):R2:=λx y H Q=>∃p xs,y=.ref p/\(SqL K H p xs\/SqT K H p xs)/\K_ x=true/\xs.all K_=true/\Q (.bl (if neg then !inV x xs else inV x xs)) H
def l7:OpR X (compareOp .In) (rIn X.K false):=by
 intro pins s σ H x y v u Q I rx ry h;obtain⟨p,xs,rfl,hq,fx,fs,q⟩:=h;cases ry;rcases hq with hq|hq
 .obtain⟨its,r,pl,hz⟩:=I.list hq;refine SeqAt.in_listAt (eqU x) pl.isList (λw hw=>Q1 rx fx r fs w (by simpa using hw)) ⟨.bl _,H,I,rfl,?_⟩;rw[show its.toArray.any (eqU x)=its.any (eqU x) by simp,VI r fs];exact q
 .obtain⟨its,r,pl,hz⟩:=I.tuple hq;refine SeqAt.in_tupleAt (eqU x) pl (λw hw=>Q1 rx fx r fs w (by simpa using hw)) ⟨.bl _,H,I,rfl,?_⟩;rw[show its.toArray.any (eqU x)=its.any (eqU x) by simp,VI r fs];exact q
def aT:OpR X (compareOp .NotIn) (rIn X.K true):=by
 intro pins s σ H x y v u Q I rx ry h;obtain⟨p,xs,rfl,hq,fx,fs,q⟩:=h;cases ry;rcases hq with hq|hq
 .obtain⟨its,r,pl,hz⟩:=I.list hq;refine SeqAt.notIn_listAt (eqU x) pl.isList (λw hw=>Q1 rx fx r fs w (by simpa using hw)) ⟨.bl _,H,I,rfl,?_⟩;rw[show its.toArray.any (eqU x)=its.any (eqU x) by simp,VI r fs];exact q
 .obtain⟨its,r,pl,hz⟩:=I.tuple hq;refine SeqAt.notIn_tupleAt (eqU x) pl (λw hw=>Q1 rx fx r fs w (by simpa using hw)) ⟨.bl _,H,I,rfl,?_⟩;rw[show its.toArray.any (eqU x)=its.any (eqU x) by simp,VI r fs];exact q
def aU:OpR X (compareOp .NotIn) (λx y H Q=>∃i j,x=.str i/\y=.str j/\Q (.bl (!(!(Builtin.Str.occurrences j i 0 j.length 1).isEmpty))) H):=by intro pins s σ H x y v u Q I rx ry h;obtain⟨i,j,rfl,rfl,q⟩:=h;obtain⟨t,rfl⟩:=rx;obtain⟨t',rfl⟩:=ry;exact notIn_str ⟨.bl _,H,I,rfl,q⟩
def jr.or(h:jr X f r)(h':jr X f r'):jr X f (λxs H Q=>r xs H Q\/r' xs H Q):=by
 intro pins s σ H xs us Q I rs q;rcases q with q|q
 .exact h pins s σ H xs us Q I rs q
 .exact h' pins s σ H xs us Q I rs q
def aV:jr X (.type "list") (λxs H Q=>∃p ys,xs=[.ref p]/\(SqL X.K H p ys\/SqT X.K H p ys)/\∀l,H l=none->Q (.ref l) (upd H l (.lst ys))):=by
 intro pins s σ H xs us Q I r h;obtain⟨p,ys,rfl,hq,q⟩:=h;obtain⟨u,rfl,rx⟩:=vals1 r;cases rx;have fin:∀(its:HK),Vals ys its->ys.length<=sizeLine->∀(h':Heap)(c':Nat),(∀b o',s.heap.get? b=some o'->h'.get? b=some o')->
   h'.get? s.heap.objs.size=some { cls:=.type "list",dict:=none,data:=.seq its.toArray c',slots:=#[] }->EP X pins σ Q (.ref s.heap.objs.size) { s with heap:=h' }:=λits r' hz h' c' kp e=>
  ⟨.ref s.heap.objs.size,_,I.laid (t':=s.toks) kp (L5 _) (show yC X.prog X.w _ h' _ (.lst ys)from⟨hz,its,c',r',e⟩),rfl,q _ (I.hok.fresh (L5 _))⟩
 rcases hq with hq|hq
 .obtain⟨its,r',pl,hz⟩:=I.list hq;have hlen:=r'.length;obtain⟨o,ho,hc,n,hd⟩:=pl.isList;exact call_list_seq p (.inl rfl) ho hc hd (λh' c' kp e=>fin its r' hz h' c' kp e) (by simp only[List.size_toArray]<;>omega)
 .obtain⟨its,r',pl,hz⟩:=I.tuple hq;have hlen:=r'.length;obtain⟨o,ho,hc,n,hd⟩:=pl;exact call_list_seq p (.inr rfl) ho hc hd (λh' c' kp e=>fin its r' hz h' c' kp e) (by simp only[List.size_toArray]<;>omega)
def tyV(K:HU)(T:String)(x:V)(H:Hp):Prop:=match x with
 |.str _=>T="str"
 |.int _=>T="int"
 |.ref p=>(T="list" /\ ∃xs,SqL K H p xs)\/(T="tuple" /\ ∃o,K.lookup p=some o/\o.cls=.type "tuple"/\o.dict=none)\/
   (T="dict"/\((∃kvs,H p=some (.dK kvs))\/∃kvs,H p=some (.dT kvs)))\/(T="set" /\ ∃S n,H p=some (.set S n))
 |_=>False
def CK(I:Inv X pins σ H s)(r:RelV x v)(ty:tyV X.K T x H):
  s.TypeIs v T/\∀a,v=.ref a->∃ob,s.heap.get? a=some ob/\ob.dict=none:=by
 cases x with
 |str z=>obtain⟨t,rfl⟩:=r;cases(show T="str" from ty);exact⟨typeIs_str s z t,λ_ e=>nomatch e⟩
 |int i=>obtain⟨t,rfl⟩:=r;cases(show T="int" from ty);exact⟨typeIs_int s i t,λ_ e=>nomatch e⟩
 |ref p=>
  cases r;rcases ty with⟨rfl,xs,hq⟩|⟨rfl,o,hk,hc,hd⟩|⟨rfl,hk⟩|⟨rfl,S,n,hk⟩
  .obtain⟨its,_,pl,_⟩:=I.list hq;refine⟨pl.isList.typeIs,λa e=>?_⟩;cases e;obtain⟨o,n,e,c,hd,_⟩:=pl;exact⟨o,e,hd⟩
  .refine⟨⟨o,I.kIn p o hk,hc⟩,λa e=>?_⟩;cases e;exact⟨o,I.kIn _ o hk,hd⟩
  .have z:∃o,s.heap.get? p=some o/\o.ExactDict:=by
    rcases hk with⟨kvs,hk⟩|⟨kvs,hk⟩
    .obtain⟨_,_,_,_,o,_,_,e,ex,_⟩:=I.hok p _ hk;exact⟨o,e,ex⟩
    .obtain⟨_,_,_,_,o,_,_,e,ex,_⟩:=I.hok p _ hk;exact⟨o,e,ex⟩
   obtain⟨o,e,ex⟩:=z;refine⟨⟨o,e,ex.1⟩,λa e2=>?_⟩;cases e2;exact⟨o,e,ex.2.1⟩
  .obtain⟨o,_,_,_,e,ex,_⟩:=I.hok p _ hk;refine⟨⟨o,e,ex.1⟩,λa e2=>?_⟩;cases e2;exact⟨o,e,ex.2.1⟩
 |_=>exact False.elim ty
def tBM(K:HU)(T:String)(r:V->List V->Hp->VK->Prop)(to:TE)(t:TA):TE:=λσ H Q=>to σ H λx H1=>tyV K T x H1/\t σ H1 λxs H2=>r x xs H2 Q
variable {o e:HY}{es:HL}{to:TE}{t:TA}{name:Str}{qE kM:Pos}{T id:String}{r:V->List V->Hp->VK->Prop}
def CL(pa:PlainAttrs T)(slot:Slot T name id)(hty:typeOf (.builtin id)=pure (.type "method_descriptor"))(hm:MtR X id r)(ho:PE X o to)(ha:PA X (e::es) t)
  (aC:attributeBase o name X.env (eval o X.env)=eval o X.env:=by rfl)
  (EH:((backTo kM (starEach (e::es) X.env)).all (λx=>!x.1)&&(backToKw kM (keywordEach [] X.env)).all (λx=>x.1.isSome)
   && decide ((e::es).length+([]:List Keyword).length+(if([]:List Keyword).isEmpty then 0 else 1)<30))=true:=by rfl)
  (aB:(qE.endLine==kM.line)=true:=by rfl) (hs:starEach (e::es) X.env=(false,eval e X.env)::starEach es X.env:=by rfl) (hplain:(backTo kM (starEach es X.env)).any (·.1)=false:=by rfl):
  PE X (.Call (.Attribute o name qE) (e::es) [] kM) (tBM X.K T r to t):=by
 intro pins s σ H Q I h;refine wpAny_Call_method_late aC EH aB rfl (thn (ho pins s σ H _ I h) λv s1 ⟨x,H1,I1,r1,ty,q1⟩=>?_);obtain⟨h1,h2⟩:=CK I1 r1 ty;refine⟨T,id,pa,slot,hty,h1,h2,?_⟩;have hA:=ha kM pins s1 σ H1 _ I1 q1;rw[hs]at hA ⊢;refine a0U (by show(false||(backTo kM (starEach es X.env)).any (·.1))=false;rw[hplain]<;>rfl) (a1x ?_);exact thn hA λus s2 ⟨vs,H2,I2,r2,q2⟩=>hm pins s2 σ H2 x vs v us Q I2 r1 r2 q2
end
def MtM(X:Cx)(id:String)(r:V->List V->Hp->VK->Prop):Prop:=
 ∀(pins:Hz)(s:HJ)(σ:St)(H:Hp)(x:V)(xs:HN)(v:Value) (us:HK) (Q:VK),Inv X pins σ H s->RelV x v->Vals xs us->r x xs H Q->
  wpAny (IW X) X.A (call (.builtin id) (v::us)) (EP X pins σ Q) X.xe s
def Vals.one:∀{x:V}{us:HK},Vals [x] us->∃u,us=[u]/\RelV x u
 |_,_,.cons r .nil=>⟨_,rfl,r⟩
def Vals.rep{xs:HN}{us:HK}(h:Vals xs us):∀k:Nat,Vals (List.replicate k xs).flatten (List.replicate k us).flatten
 |0=>.nil
 |k+1=>by rw[a0j,a0j,a0E,a0E];exact Vals.append h (Vals.rep h k)
def foldl_rep(its:HK):∀(k:Nat)(acc:HK),
  List.foldl (λx1 x2=>x1++x2) acc.toArray (List.replicate k its.toArray)=(acc++(List.replicate k its).flatten).toArray
 |0,acc=>by simp
 |k+1,acc=>by
  have e:acc.toArray++its.toArray=(acc++its).toArray:=by simp
  have e2:(acc++its)++(List.replicate k its).flatten=acc++(List.replicate (k+1) its).flatten:=by rw[a0j,a0E,T6]
  rw[<- e2,<- foldl_rep its k (acc++its),<- e,a0j,a0o]
def Inv.Hd{its its':HK}{n:Nat}{f:Array Value->Array Value}{t':Nat}(I:Inv X pins σ H s)(hH:H l=some (.lst xs))
  (e:s.heap.get? l=some { cls:=.type "list",data:=.seq its.toArray n }) (hf:f its.toArray=its'.toArray) (hv:Vals ys its') (hz:ys.length<=sizeLine):
  Inv X pins σ (upd H l (.lst ys)) { s with heap:=s.heap.update l (Obj.mapSeq f),toks:=t' }:=by
 have q:=PySem.IsL.update e f;rw[hf]at q;refine I.write (x:=l) (e:=l) (by rw[hH];exact trivial) (.inl rfl) (λb' u hb hu=>(N9 s.heap (Obj.mapSeq f) (Ne.symm hb)).trans hu) ⟨_,q⟩ ?_;exact⟨hz,its',_,hv,q⟩
def Inv.Fp(I:Inv X pins σ H s)(hv:Vals ys its)(hz:ys.length<=sizeLine):
  Inv X pins σ (upd H s.heap.objs.size (.lst ys)) { s with heap:=s.heap.push { cls:=.type "list",data:=.seq its.toArray },toks:=t' }:=
 I.laid (λ_ _ q=>u8 _ q) (L5 _) ⟨hz,its,0,hv,M7 _ rfl⟩
def Inv.fresh(I:Inv X pins σ H s):H s.heap.objs.size=none:=I.hok.fresh (L5 _)
def Inv.EK(I:Inv X pins σ H s)(hH:H l=some (.lst xs)):xs.length<=sizeLine/\∃(its:HK)(n:Nat),Vals xs its/\xs.length=its.length/\s.heap.get? l=some { cls:=.type "list",data:=.seq its.toArray n }:=by obtain⟨z,its,n,r,e⟩:=I.hok l _ hH;exact⟨z,its,n,r,r.length,e⟩
def rO(h:n<=sizeLine):Builtin.List.listTooLong n=false:=by unfold Builtin.List.listTooLong;exact M4 (by omega)
section
variable {X:Cx}
def Ab:V->List V->Hp->VK->Prop:=λx vs H Q=>∃l xs y,x=.ref l/\vs=[y]/\H l=some (.lst xs)/\xs.length<sizeLine/\Q .non (upd H l (.lst (xs++[y])))
def aW:MtM X "list.append" Ab:=by intro pins s σ H x vs v us Q I rx rv h;obtain⟨l,xs,y,rfl,rfl,hH,hz,q⟩:=h;cases rx;obtain⟨u,rfl,ru⟩:=rv.one;obtain⟨z,its,n,r,hl,e⟩:=I.EK hH;refine call_meets F.slot_list_append ⟨_,e,rfl⟩ F.entry_list_append (F.args_list_append_2 _ _) (PySem.list_append l its.toArray n u (by rw[M8];omega)) ⟨e,?_⟩;refine⟨.non,_,I.Hd (its':=its++[u]) hH e (by simp) (r.append (.cons ru .nil)) ?_,rfl,q⟩;rw[N8,a1s];omega
def Gz:R2:=λx y H Q=>∃l b xs zs,x=.ref l/\y=.ref b/\H l=some (.lst xs)/\H b=some (.lst zs)/\xs.length+zs.length<=sizeLine/\∀p,H p=none->Q (.ref p) (upd H p (.lst (xs++zs)))
def uP:OpR X (binaryOp .Add) Gz:=by
 intro pins s σ H x y v u Q I rx ry h;obtain⟨l,b,xs,zs,rfl,rfl,hH,hB,hz,q⟩:=h;cases rx;cases ry;obtain⟨z,its,n,r,hl,e⟩:=I.EK hH;obtain⟨z2,its2,n2,r2,hl2,e2⟩:=I.EK hB;refine PySem.P.add_list e e2 ?_ (by rw[M8,M8];omega);have ea:its.toArray++its2.toArray=(its++its2).toArray:=by simp
 rw[ea];exact⟨.ref _,_,I.Fp (t':=s.toks) (r.append r2) (by rw[N8];omega),rfl,q _ I.fresh⟩
def GA:R2:=λx y H Q=>∃l k xs,x=.ref l/\y=.int k/\H l=some (.lst xs)/\-(2 ^ 63)<=k/\k<2 ^ 63/\xs.length*k.toNat<=sizeLine/\
 ∀p,H p=none->Q (.ref p) (upd H p (.lst (List.replicate k.toNat xs).flatten))
def len_rep{α:Type}(xs:List α)(k:Nat):(List.replicate k xs).flatten.length=k*xs.length:=by
 induction k with
 |zero=>simp
 |succ k ih=>rw[a0j,a0E,N8,ih,Nat.succ_mul,Nat.add_comm]
def CM:OpR X (binaryOp .Mult) GA:=by
 intro pins s σ H x y v u Q I rx ry h;obtain⟨l,k,xs,rfl,rfl,hH,h1,h2,hz,q⟩:=h;cases rx;obtain⟨t,rfl⟩:=ry;obtain⟨z,its,n,r,hl,e⟩:=I.EK hH;have hlen:its.toArray.size*k.toNat<=sizeLine:=by rw[M8,<- hl];exact hz
 have hcap:¬its.toArray.size*k.toNat>(2 ^ 63-1) / 8:=by
  have:(sizeLine:Nat)<=(2 ^ 63-1) / 8:=by decide
  omega
 have hfit:¬(!Builtin.List.listFitsIndex k)=true:=by rw[fitsIndex_both h1 h2];exact N6
 have hlong:¬Builtin.List.listTooLong (its.toArray.size*k.toNat)=true:=by rw[rO hlen];exact N6
 have hnew:List.foldl (λx1 x2=>x1++x2) #[] (List.replicate (if its.toArray.isEmpty=true then 0 else k.toNat) its.toArray)=(List.replicate k.toNat its).flatten.toArray:=by
  have f0:∀m:Nat,List.foldl (λx1 x2=>x1++x2) #[] (List.replicate m its.toArray)=(List.replicate m its).flatten.toArray:=λm=>by have:=foldl_rep its m [];rw[a0B]at this;exact this
  rw[f0];cases its with
  |nil=>simp
  |cons a r'=>rw[if_neg (by simp)]
 refine wpAny_binaryOp_repeat_ref (T:="list") (U:="int") (by decide) ⟨_,e,rfl⟩ (λs'=>typeIs_int s' k t) noFill_list_mul F.fills_int_mul F.slot_int_rmul repeat_list F.slot_int_index.lookup
  (call_meets F.slot_int_rmul (typeIs_int s k t) F.entry_int_rmul (F.args_int_rmul_2 _ _) (int___rmul___int_list k t l its.toArray n)
   ⟨e,rfl,⟨_,e,rfl⟩,call_meets F.slot_list_mul ⟨_,e,rfl⟩ F.entry_list_mul (F.args_list_mul_2 _ _) (AutoListH.list___mul___list_int_3 l its.toArray n k t hfit hcap hlong) ⟨e,?_⟩⟩)
 rw[hnew];exact⟨.ref _,_,I.Fp (t':=s.toks) (r.rep k.toNat) (by rw[len_rep,Nat.mul_comm];exact hz),rfl,q _ I.fresh⟩
end
section
variable {prog:HZ}{w:Ie}{A:Ih}{E:HB}{s:HJ}
end
section
variable {X:Cx}
end
section
variable {κ:Type}[DecidableEq κ]
def W7(kvs:List (κ×V))(k:κ):Option V:=(kvs.find? λkv=>decide (kv.1=k)).map (·.2)
def putK(kvs:List (κ×V))(k:κ)(v:V):List (κ×V):=
 if(kvs.any λkv=>decide (kv.1=k))=true then kvs.map (λkv=>if kv.1=k then(kv.1,v)else kv)else kvs++[(k,v)]
def Ur{p:κ×V}{r:List (κ×V)}{k:κ}(e:p.1=k):W7 (p::r) k=some p.2:=by simp[W7,List.find?_cons,e]
def Us{p:κ×V}{r:List (κ×V)}{k:κ}(e:¬p.1=k):W7 (p::r) k=W7 r k:=by simp[W7,List.find?_cons,e]
def fc(k:κ):∀kvs:List (κ×V),(kvs.any λkv=>decide (kv.1=k))=(W7 kvs k).isSome
 |[]=>rfl
 |p::r=>by
  rw[T7];by_cases e:p.1=k
  .simp only[Ur e,decide_eq_true e,Bool.true_or,Option.isSome_some]
  .rw[Us e,M4 e,Bool.false_or];exact fc k r
def QE(kvs:List (κ×V))(k:κ)(v:V):(putK kvs k v).length<=kvs.length+1:=by
 unfold putK;split
 .rw[t0];omega
 .rw[N8,I0,a1y];omega
def Vs.ZA(r:Vs o u):o.isSome=u.isSome:=by
 cases o with
 |none=>cases u with
  |none=>rfl
  |some _=>exact(show False from r).elim
 |some _=>cases u with
  |none=>exact(show False from r).elim
  |some _=>rfl
def Vs.getD(r:Vs o u)(rd:RelV d d'):RelV (o.getD d) (u.getD d'):=by
 cases o with
 |none=>cases u with
  |none=>exact rd
  |some _=>exact(show False from r).elim
 |some _=>cases u with
  |none=>exact(show False from r).elim
  |some _=>exact r
def KV.val{kvs:List (κ×V)}{vs:List (κ×Value)}(r:KV kvs vs)(k:κ):Vs (W7 kvs k) (valueAt vs k):=by
 unfold KV at r
 induction r with
 |nil=>exact True.intro
 |@cons p q ps qs h t ih=>
  obtain⟨h1,h2⟩:=h;by_cases e:p.1=k
  .have e':q.1=k:=h1.symm.trans e;have b:valueAt (q::qs) k=some q.2:=by simp[valueAt,List.find?_cons,e']
   rw[Ur e,b];exact h2
  .have e':¬q.1=k:=λz=>e (h1.trans z);have b:valueAt (q::qs) k=valueAt qs k:=by simp[valueAt,List.find?_cons,e']
   rw[Us e,b];exact ih
def KV.any{kvs:List (κ×V)}{vs:List (κ×Value)}(r:KV kvs vs)(k:κ):(kvs.any λkv=>decide (kv.1=k))=vs.any λkv=>decide (kv.1=k):=by
 unfold KV at r
 induction r with
 |nil=>rfl
 |cons h t ih=>rw[T7,T7,ih,h.1]
def KV.Fq{kvs:List (κ×V)}{vs:List (κ×Value)}(r:KV kvs vs)(k:κ)(ry:RelV y u):
  KV (kvs.map λkv=>if kv.1=k then(kv.1,y)else kv) (vs.map λkv=>if kv.1=k then(kv.1,u)else kv):=by
 unfold KV at r ⊢
 induction r with
 |nil=>exact .nil
 |@cons p q ps qs h t ih=>
  rw[M3,M3];refine .cons ?_ ih;obtain⟨h1,h2⟩:=h;by_cases e:p.1=k
  .rw[if_pos e,if_pos (h1.symm.trans e)];exact⟨h1,ry⟩
  .rw[if_neg e,if_neg (λz=>e (h1.trans z))];exact⟨h1,h2⟩
def KV.put{kvs:List (κ×V)}{vs:List (κ×Value)}(r:KV kvs vs)(k:κ)(ry:RelV y u):KV (putK kvs k y) (stored vs k u):=by
 unfold putK stored;rw[r.any k];by_cases e:(vs.any λkv=>decide (kv.1=k))=true
 .rw[if_pos e,if_pos e];exact r.Fq k ry
 .rw[if_neg e,if_neg e];exact Paired.snoc r ⟨rfl,ry⟩
def KV.length{kvs:List (κ×V)}{vs:List (κ×Value)}(r:KV kvs vs):kvs.length=vs.length:=a0g r
end
def Ut(r:RelV (kV k) u):(zT P w).is k u=true:=by
 cases k with
 |inl i=>obtain⟨t,e⟩:=(show ∃t,u=Value.int i t from r);subst e;exact cP P w i t
 |inr x=>obtain⟨t,e⟩:=(show ∃t,u=Value.str x t from r);subst e;exact cQ P w x t
def aX{P:HZ}{w:Ie}:∀{ks:IB}{us:HK},Vals (ks.map kV) us->ItemsAre (zT P w) ks us
 |[],_,r=>by rw[a2Q]at r;cases r;exact .nil
 |k::ks,_,r=>by
  rw[M3]at r;cases r with
  |cons h t=>exact .cons (Ut h) (aX t)
abbrev KT(H:Hp):List (List Key×V)->List (List Key×Addr×Value)->Prop:=Paired λp q=>p.1=q.1/\H q.2.1=some (.tup (p.1.map kV))/\RelV p.2 q.2.2
def KT.val(r:KT H kvs xs)(k:IB):Vs (W7 kvs k) ((atKey xs k).map (·.2)):=by
 induction r with
 |nil=>exact True.intro
 |@cons p q ps qs h t ih=>
  obtain⟨h1,_,h2⟩:=h;by_cases e:p.1=k
  .have e':q.1=k:=h1.symm.trans e;have b:atKey (q::qs) k=some q.2:=by simp[atKey,List.find?_cons,e']
   rw[Ur e,b];exact h2
  .have e':¬q.1=k:=λz=>e (h1.trans z);have b:atKey (q::qs) k=atKey qs k:=by simp[atKey,List.find?_cons,e']
   rw[Us e,b];exact ih
def KT.Fq(r:KT H kvs xs)(k:IB)(ry:RelV y u):
  KT H (kvs.map λkv=>if kv.1=k then(kv.1,y)else kv) (xs.map (putAt k u)):=by
 induction r with
 |nil=>exact .nil
 |@cons p q ps qs h t ih=>
  rw[M3,M3];refine .cons ?_ ih;obtain⟨h1,h2,h3⟩:=h;unfold putAt;by_cases e:p.1=k
  .rw[if_pos e,if_pos (h1.symm.trans e)];exact⟨h1,h2,ry⟩
  .rw[if_neg e,if_neg (λz=>e (h1.trans z))];exact⟨h1,h2,h3⟩
def KT.put(r:KT H kvs xs)(k:IB)(hb:H b=some (.tup (k.map kV)))(ry:RelV y u):
  KT H (putK kvs k y) (storedH xs k b u):=by
 have e:(kvs.any λkv=>decide (kv.1=k))=(atKey xs k).isSome:=by rw[fc,(r.val k).ZA,a0W]
 unfold putK storedH;rw[e];by_cases q:(atKey xs k).isSome=true
 .rw[if_pos q,if_pos q];exact r.Fq k ry
 .rw[if_neg q,if_neg q];exact Paired.snoc r ⟨rfl,hb,ry⟩
def KT.keeps(r:KT H kvs xs)(ht:∀b ys,H b=some (.tup ys)->H' b=some (.tup ys)):KT H' kvs xs:=
 Paired.E5 r λ_ _ z=>⟨z.1,ht _ _ z.2.1,z.2.2⟩
def CN(ok:HOk P w H h)(e:Rd H a u):yC P w H h a u:=e.ok ok
def Zw(ok:HOk P w H h)(e:Rd H a (.dK kvs)):kvs.length<=sizeLine/\(a==sysModules)=false/\∃vs,KV kvs vs/\h.DictOf (zT P w) a vs:=
 show yC P w H h a (.dK kvs)from CN ok e
def CO(ok:HOk P w H h)(e:H a=some (.dK kvs)):kvs.length<=sizeLine/\(a==sysModules)=false/\∃vs,KV kvs vs/\h.DictOf (zT P w) a vs:=Zw ok (.inl e)
def VJ(ok:HOk P w H h)(e:H a=some (.tup (ks.map kV))):(tupleKind (zT P w)).is h ks a:=by obtain⟨_,its,r,o,h1,h2,n,h3⟩:=(show yC P w H h a (.tup (ks.map kV))from ok a _ e);exact⟨o,its.toArray,n,h1,h2,h3,by simpa using aX r⟩
def aY(ok:HOk P w H h)(e:Rd H a (.dT kvs)):kvs.length<=sizeLine/\(a==sysModules)=false/\
  ∃xs,KT H kvs xs/\h.DictOfH (tupleKind (zT P w)) a xs:=by
 obtain⟨z,y,xs,r,o,es,ep,h1,h2,h3,h4,h5⟩:=(show yC P w H h a (.dT kvs)from CN ok e);refine⟨z,y,xs,r,o,es,ep,h1,h2,h3,h4,λx hx=>?_,h5⟩;have all:∀{l:IH}{m:List (List Key×Addr×Value)},KT H l m->∀x∈m,(tupleKind (zT P w)).is h x.1 x.2.1:=by
  intro l m q
  induction q with
  |nil=>intro x hx;exact nomatch hx
  |@cons p q ps qs hq t ih=>
   intro x hx;rcases N4.mp hx with e|hx
   .subst e;exact VJ ok (by rw[<- hq.1];exact hq.2.1)
   .exact ih x hx
 exact all r x hx
def Fs(ok:HOk P w H h)(e:H a=some (.dT kvs)):kvs.length<=sizeLine/\(a==sysModules)=false/\
  ∃xs,KT H kvs xs/\h.DictOfH (tupleKind (zT P w)) a xs:=aY ok (.inl e)
def fe(H:Hp)(a:Addr)(y:V)(r:Option V):Prop:=
 (∃kvs k,Rd H a (.dK kvs)/\y=kV k/\r=W7 kvs k)\/∃kvs k b,Rd H a (.dT kvs)/\y=.ref b/\H b=some (.tup (k.map kV))/\r=W7 kvs k
def rP(H:Hp)(a:Addr)(y v:V)(H':Hp):Prop:=
 (∃kvs k,H a=some (.dK kvs)/\y=kV k/\kvs.length<sizeLine/\H'=upd H a (.dK (putK kvs k v)))\/
 ∃kvs k b,H a=some (.dT kvs)/\y=.ref b/\H b=some (.tup (k.map kV))/\kvs.length<sizeLine/\H'=upd H a (.dT (putK kvs k v))
def rP.k{H:Hp}{a:Addr}{kvs:HP}{k:Key}{v:V}(e:H a=some (.dK kvs))(hl:kvs.length<sizeLine):rP H a (kV k) v (upd H a (.dK (putK kvs k v))):=.inl ⟨kvs,k,e,rfl,hl,rfl⟩
def rP.t{H:Hp}{a b:Addr}{kvs:IH}{k:IB}{v:V}(e:H a=some (.dT kvs))(eb:H b=some (.tup (k.map kV)))(hl:kvs.length<sizeLine):
  rP H a (.ref b) v (upd H a (.dT (putK kvs k v))):=.inr ⟨kvs,k,b,e,rfl,eb,hl,rfl⟩
def Inv.big(I:Inv X pins σ H s):sysModules<s.heap.objs.size:=by have h:mainGlobals<s.heap.objs.size:=(I.mod.glob.keeps I.bk).lt;exact a0Z (by decide) h
def l8(hu:A.units+1<cLine)(I:Inv X pins σ H s)(g:fe H a y (some v))(ry:RelV y u)(h:∀w' s',Inv X pins σ H s'->RelV v w'->Q w' s'):
  wpAny (IW X) A (getItem (.ref a) u) Q E s:=by
 rcases g with⟨kvs,k,e,ey,l⟩|⟨kvs,k,b,e,ey,eb,l⟩
 .subst ey;obtain⟨z,hd,vs,rel,dd⟩:=Zw I.hok e;obtain⟨w',hw,rw'⟩:=Vs.some_of (v:=v) (o:=valueAt vs k) (by rw[l];exact rel.val k);exact wpAny_getItem_of (Ut ry) dd.mapOf hw (h w' _ (I.tok _) rw')
 .subst ey;cases(show u=Value.ref b from ry);obtain⟨z,hd,xs,rel,dd⟩:=aY I.hok e;obtain⟨w',hw,rw'⟩:=Vs.some_of (v:=v) (o:=(atKey xs k).map (·.2)) (by rw[l];exact rel.val k);obtain⟨p,hp,hp2⟩:=v4.mp hw;refine wpAny_getItem_heap (a0x hu) (VJ I.hok eb) dd hp ?_;rw[hp2];exact h w' _ (I.tok _) rw'
def He(hu:A.units+1<cLine)(I:Inv X pins σ H s)(g:fe H a y o)(ry:RelV y u)(h:∀s',Inv X pins σ H s'->Q (.bool o.isSome) s'):
  wpAny (IW X) A (compareOp .In u (.ref a)) Q E s:=by
 rcases g with⟨kvs,k,e,ey,l⟩|⟨kvs,k,b,e,ey,eb,l⟩
 .subst ey;obtain⟨z,hd,vs,rel,dd⟩:=Zw I.hok e;refine wpAny_in_of (Ut ry) hd dd.mapOf ?_;rw[<- (rel.val k).ZA,<- l];exact h _ (I.tok _)
 .subst ey;cases(show u=Value.ref b from ry);obtain⟨z,hd,xs,rel,dd⟩:=aY I.hok e;refine wpAny_in_heap (a0x hu) (VJ I.hok eb) hd dd ?_;have q:=(rel.val k).ZA;rw[a0W]at q;rw[<- q,<- l];exact h _ (I.tok _)
def Ac(hu:A.units+1<cLine)(I:Inv X pins σ H s)(g:fe H a y o)(ry:RelV y u)(h:∀s',Inv X pins σ H s'->Q (.bool (!o.isSome)) s'):
  wpAny (IW X) A (compareOp .NotIn u (.ref a)) Q E s:=by
 rcases g with⟨kvs,k,e,ey,l⟩|⟨kvs,k,b,e,ey,eb,l⟩
 .subst ey;obtain⟨z,hd,vs,rel,dd⟩:=Zw I.hok e;refine wpAny_notIn_of (Ut ry) hd dd.mapOf ?_;rw[<- (rel.val k).ZA,<- l];exact h _ (I.tok _)
 .subst ey;cases(show u=Value.ref b from ry);obtain⟨z,hd,xs,rel,dd⟩:=aY I.hok e;refine wpAny_notIn_heap (a0x hu) (VJ I.hok eb) hd dd ?_;have q:=(rel.val k).ZA;rw[a0W]at q;rw[<- q,<- l];exact h _ (I.tok _)
def cX(I:Inv X pins σ H s)(mu:Mut (H a))(hs:Heap.SameBut a s.heap h')(he:∃q,h'.get? a=some q)(new:yC X.prog X.w (upd H a ob) h' a ob):
  Inv X pins σ (upd H a ob) { s with heap:=h',toks:=t' }:=
 I.write (x:=a) (e:=a) mu (.inl rfl) (λb q hb z=>(hs.2 b hb).trans z) he new
def ff(z:kvs.length<=sizeLine)(hd:(a==sysModules)=false)(rel:KV kvs vs)(dd:h'.DictOf (zT P w) a vs):
  yC P w H' h' a (.dK kvs):=⟨z,hd,vs,rel,dd⟩
def l9(hu:A.units+1<cLine)(I:Inv X pins σ H s)(g:rP H a y v H')(ry:RelV y u)(rv:RelV v r)(h:∀s',Inv X pins σ H' s'->Q () s'):
  wpAny (IW X) A (setItem (.ref a) u r) Q E s:=by
 rcases g with⟨kvs,k,e,ey,l,eH⟩|⟨kvs,k,b,e,ey,eb,l,eH⟩
 .subst ey eH;obtain⟨z,hd,vs,rel,dd⟩:=CO I.hok e;have hz:vs.length<=sizeLine:=by rw[<- rel.length];exact z
  have hl:(putK kvs k v).length<=sizeLine:=by have:=QE kvs k v;omega
  refine wpAny_setItem_pairs (hsz:=hz) (Ut ry) dd λh' dd' hs=>h _ ?_;have he:∃q,h'.get? a=some q:=let⟨q,_,_,hq,_⟩:=dd';⟨q,hq⟩
  exact cX I (by rw[e];exact True.intro) hs he (ff hl hd (rel.put k rv) dd')
 .subst ey eH;cases(show u=Value.ref b from ry);obtain⟨z,hd,xs,rel,dd⟩:=Fs I.hok e;have hz:xs.length<=sizeLine:=by rw[<- a0g rel];exact z
  have hl:(putK kvs k v).length<=sizeLine:=by have:=QE kvs k v;omega
  refine wpAny_setItem_heap (hsz:=hz) (a0x hu) (VJ I.hok eb) dd λh' dd' hs=>h _ ?_;obtain⟨q,es,ep,hq,h2,h3,h4,_,h5⟩:=dd';refine cX I (by rw[e];exact True.intro) hs ⟨q,hq⟩ ⟨hl,hd,_,(rel.put k eb rv).keeps λc ys ec=>?_,q,es,ep,hq,h2,h3,h4,h5⟩;rw[zi (E4 ec e (λz=>nomatch z))];exact ec
def Ft(I:Inv X pins σ H s)(e:Rd H a (.dK kvs))(h:∀t s',Inv X pins σ H s'->Q (.int kvs.length t) s'):wpAny (IW X) A (call (.builtin "len") [.ref a]) Q E s:=by obtain⟨z,hd,vs,rel,dd⟩:=Zw I.hok e;refine call_len_dict hd dd (by rw[<- rel.length];rw[S0]at z;omega) ?_;rw[<- rel.length];exact h _ _ (I.tok _)
def cY(I:Inv X pins σ H s)(g:fe H a y o):s.TypeIs (.ref a) "dict":=by
 rcases g with⟨kvs,k,e,_,_⟩|⟨kvs,k,b,e,_,_,_⟩
 .obtain⟨_,_,vs,_,dd⟩:=Zw I.hok e;exact dd.typeIs
 .obtain⟨_,_,xs,_,dd⟩:=aY I.hok e;exact dd.typeIs
def Fu(td ty tv:TE):TS:=λD σ H=>tv σ H λv H1=>td σ H1 λx H2=>ty σ H2 λy H3=>∃a H4,x=.ref a/\rP H3 a y v H4/\D.nx σ H4
def cZ(hu:X.A.units+1<cLine)(ho:PE X o td)(hi:PE X i ty)(hv:PE X value tv)(hs:swapsWith value (some (.Subscript o i pos')) pos.line X.env=pure false):
  PS X (.Assign [.Subscript o i pos'] value pos) (Fu td ty tv):=by
 intro pins s σ H D I h;refine wpAny_Assign_Subscript (thn (hv pins s σ H _ I h) λr s1 ⟨v,H1,I1,rv,q1⟩=>thn (ho pins s1 σ H1 _ I1 q1) λu s2 ⟨x,H2,I2,rx,q2⟩=>thn (hi pins s2 σ H2 _ I2 q2) λiv s3 ⟨y,H3,I3,ry,a,H4,ex,g,q3⟩=>?_) hs;subst ex;obtain rfl:u=Value.ref a:=rx;exact l9 hu I3 g ry rv λs4 I4=>⟨σ,H4,I4,q3⟩
def fg(h:Heap)(hb:sysModules<h.objs.size):yC P w H (h.push { cls:=.type "dict",data:=.dict #[] }) h.objs.size (.dK []):=
 ⟨P1 _,P8.mpr (Ne.symm (L9 hb)),[],.nil,Heap.DictOf.new h⟩
def rQ(h:Heap)(hb:sysModules<h.objs.size):yC P w H (h.push { cls:=.type "dict",data:=.dict #[] }) h.objs.size (.dT []):=
 ⟨P1 _,P8.mpr (Ne.symm (L9 hb)),[],.nil,_,#[],0,M7 _ rfl,⟨rfl,rfl,rfl⟩,rfl,rfl,a2u⟩
def CP:TE:=λ_ H Q=>∀p,H p=none->Q (.ref p) (upd H p (.dK []))
def CQ:TE:=λ_ H Q=>∀p,H p=none->Q (.ref p) (upd H p (.dT []))
def rR:PE X (.Dict [] [] pos) CP:=λpins s σ H Q I h=>
 wpAny_Dict_empty ⟨.ref s.heap.objs.size,_,I.laid (a:=s.heap.objs.size) (o:=.dK []) (t':=s.toks) (λ_ _ q=>u8 _ q) (L5 _) (fg s.heap I.big),rfl,h _ (I.hok.fresh (L5 _))⟩
def rS:PE X (.Dict [] [] pos) CQ:=λpins s σ H Q I h=>
 wpAny_Dict_empty ⟨.ref s.heap.objs.size,_,I.laid (a:=s.heap.objs.size) (o:=.dT []) (t':=s.toks) (λ_ _ q=>u8 _ q) (L5 _) (rQ s.heap I.big),rfl,h _ (I.hok.fresh (L5 _))⟩
def l_:List (TE×TE)->St->Hp->(List (V×V)->Hp->Prop)->Prop
 |[],_,H,Q=>Q [] H
 | (tk,tv)::r,σ,H,Q=>tk σ H λx H1=>tv σ H1 λy H2=>l_ r σ H2 λps H3=>Q ((x,y)::ps) H3
abbrev VV:List (V×V)->List (Value×Value)->Prop:=Paired λp q=>RelV p.1 q.1/\RelV p.2 q.2
def PPs(X:Cx)(pos:Pos)(keys:List (Option Expr))(values:HL)(trs:List (TE×TE)):Prop:=
 ∀(pins:Hz)(s:HJ)(σ:St)(H:Hp)(Q:List (V×V)->Hp->Prop),Inv X pins σ H s->l_ trs σ H Q->
  wpAny (IW X) X.A (evalPairs (pairTrees keys values X.env pos)) (λvs s'=>∃ps H',Inv X pins σ H' s'/\VV ps vs/\Q ps H') X.xe s
def Ad:PPs X pos [] [] []:=λpins s σ H Q I h=>pairTrees_nil_walk ⟨[],H,I,.nil,h⟩
def rT(hk:PE X k tk)(hv:PE X v tv)(hr:PPs X pos ks vs trs):
  PPs X pos (some k::ks) (v::vs) ((tk,tv)::trs):=λpins s σ H Q I h=>
 pairTrees_cons_walk (thn (hk pins s σ H _ I h) λu s1 ⟨x,H1,I1,rx,q1⟩=>thn (hv pins s1 σ H1 _ I1 q1) λw2 s2 ⟨y,H2,I2,ry,q2⟩=>
  thn (hr pins s2 σ H2 _ I2 q2) λws s3 ⟨ps,H3,I3,rel,q3⟩=>⟨(x,y)::ps,H3,I3,.cons ⟨rx,ry⟩ rel,q3⟩)
def aZ(kvs more:HP):List (Key×V):=more.foldl (λacc kv=>putK acc kv.1 kv.2) kvs
def KV.merge:∀{more:HP}{rs:ID}{kvs:HP}{vs:ID},KV more rs->KV kvs vs->KV (aZ kvs more) (merged vs rs):=by
 intro more rs kvs vs r;unfold KV at r
 induction r generalizing kvs vs with
 |nil=>intro q;exact q
 |@cons p q ps qs h t ih=>
  intro r0;have e:KV (putK kvs p.1 p.2) (stored vs q.1 q.2):=by have:=r0.put p.1 h.2;rw[<- h.1];exact this
  exact ih e
def Q2:∀(more kvs:HP),(aZ kvs more).length<=kvs.length+more.length
 |[],kvs=>by show kvs.length<=kvs.length+0;omega
 |p::r,kvs=>by have h1:=Q2 r (putK kvs p.1 p.2);have h2:=QE kvs p.1 p.2;show(aZ (putK kvs p.1 p.2) r).length<=_;rw[I0];omega
def XN{P:HZ}{w:Ie}:∀{kvs:HP}{ws:List (Value×Value)},VV (kvs.map λkv=>(kV kv.1,kv.2)) ws->∃rs,Carries (zT P w) ws rs/\KV kvs rs
 |[],_,r=>by rw[a2Q]at r;cases r;exact⟨[],True.intro,.nil⟩
 |p::kvs,_,r=>by
  rw[M3]at r;cases r with
  |@cons a b as bs h t=>obtain⟨rs,c,q⟩:=XN (P:=P) (w:=w) t;obtain⟨b1,b2⟩:=b;exact⟨(p.1,b2)::rs,⟨Ut h.1,rfl,c⟩,.cons ⟨rfl,h.2⟩ q⟩
def Fv(trs:List (TE×TE)):TE:=λσ H Q=>∀p,H p=none->l_ trs σ (upd H p (.dK [])) λps H2=>H2 p=some (.dK [])/\∃kvs:List (Key×V),ps=kvs.map (λkv=>(kV kv.1,kv.2))/\kvs.length<=15/\Q (.ref p) (upd H2 p (.dK (aZ [] kvs)))
def Ae(h:PPs X pos keys values trs)(hall:keys.all (·.isSome)=true)(hl:keys.length=values.length)(h0:keys≠[])
  (h15:keys.length<=15):PE X (.Dict keys values pos) (Fv trs):=by
 intro pins s σ H Q I q;have hn:=I.hok.fresh (L5 s.heap.objs.size);have I1:=I.laid (a:=s.heap.objs.size) (o:=.dK []) (h':=s.heap.push { cls:=.type "dict",data:=.dict #[] }) (t':=s.toks) (λ_ _ q=>u8 _ q) (L5 _) (fg s.heap I.big);refine wpAny_Dict_walk (knd:=zT X.prog X.w) hall hl h0 h15 (thn (h pins _ σ _ _ I1 (q _ hn)) λws s2 ⟨ps,H2,I2,rel,e,kvs,ep,lk,q2⟩=>?_);subst ep;obtain⟨rs,c,rk⟩:=XN (P:=X.prog) (w:=X.w) rel;obtain⟨z,hd,vs0,r0,dd⟩:=CO I2.hok e;cases r0;refine⟨rs,c,dd,λh' dd' hs=>⟨.ref s.heap.objs.size,_,?_,rfl,q2⟩⟩;have hz:(aZ [] kvs).length<=sizeLine:=by have h1:=Q2 kvs [];rw[a1y]at h1;rw[S0];omega
 have he:∃q,h'.get? s.heap.objs.size=some q:=let⟨q,_,_,hq,_⟩:=dd';⟨q,hq⟩
 exact cX I2 (by rw[e];exact True.intro) hs he (ff hz hd (rk.merge .nil) dd')
structure M1(X:Cx)(o:HY)(m:Str)(qE:Pos)(e:HY)(kM:Pos):Prop where
 base:attributeBase o m X.env (eval o X.env)=eval o X.env
 few:((backTo kM (starEach [e] X.env)).all (λx=>!x.1)&&(backToKw kM (keywordEach [] X.env)).all (λx=>x.1.isSome)
  && decide (([e]:List Expr).length+([]:List Keyword).length+(if([]:List Keyword).isEmpty then 0 else 1)<30))=true
 line:(qE.endLine==kM.line)=true
 trees:backTo kM (starEach [e] X.env)=[(false,eval e X.env)]
structure M2(X:Cx)(o:HY)(m:Str)(qE:Pos)(e f:HY)(kM:Pos):Prop where
 base:attributeBase o m X.env (eval o X.env)=eval o X.env
 few:((backTo kM (starEach [e,f] X.env)).all (λx=>!x.1)&&(backToKw kM (keywordEach [] X.env)).all (λx=>x.1.isSome)
  && decide (([e,f]:List Expr).length+([]:List Keyword).length+(if([]:List Keyword).isEmpty then 0 else 1)<30))=true
 line:(qE.endLine==kM.line)=true
 trees:backTo kM (starEach [e,f] X.env)=[(false,eval e X.env),(false,eval f X.env)]
def IsD(H:Hp)(a:Addr):Prop:=(∃kvs,Rd H a (.dK kvs))\/∃kvs,Rd H a (.dT kvs)
def mf(I:Inv X pins σ H s)(d:IsD H a):
  s.TypeIs (.ref a) "dict"/\(∀b,Value.ref a=.ref b->∃ob,s.heap.get? b=some ob/\ob.dict=none)/\(a==sysModules)=false:=by
 rcases d with⟨kvs,e⟩|⟨kvs,e⟩
 .obtain⟨_,hd,vs,_,dd⟩:=Zw I.hok e;refine⟨dd.typeIs,λb q=>?_,hd⟩;cases q;obtain⟨ob,_,_,h1,h2,_⟩:=dd;exact⟨ob,h1,h2.2.1⟩
 .obtain⟨_,hd,xs,_,dd⟩:=aY I.hok e;refine⟨dd.typeIs,λb q=>?_,hd⟩;cases q;obtain⟨ob,_,_,h1,h2,_⟩:=dd;exact⟨ob,h1,h2.2.1⟩
def CS(hu:A.units+1<cLine)(I:Inv X pins σ H s)(g:fe H a y o)(ry:RelV y u)(h:∀w' s',Inv X pins σ H s'->RelV (o.getD .non) w'->Q w' s'):
  wpAny (IW X) A (call (.builtin "dict.get") [.ref a,u]) Q E s:=by
 rcases g with⟨kvs,k,e,ey,l⟩|⟨kvs,k,b,e,ey,eb,l⟩
 .subst ey;obtain⟨z,hd,vs,rel,dd⟩:=Zw I.hok e;refine a1z a0m dd.typeIs a0V (a2h _ _) (meets_dict_get (zT X.prog X.w) a (Ut ry) hd) ⟨_,dd.mapOf,h _ _ (I.tok _) ?_⟩;rw[l];exact(rel.val k).getD rfl
 .subst ey;cases(show u=Value.ref b from ry);obtain⟨z,hd,xs,rel,dd⟩:=aY I.hok e;refine a1z a0m dd.typeIs a0V (a2h _ _) (meetsH_dict_get (tupleKind (zT X.prog X.w)) a b hd) ⟨a0x hu,k,xs,VJ I.hok eb,dd,h _ _ (I.tok _) ?_⟩;rw[l];exact(rel.val k).getD rfl
def CT(hu:A.units+1<cLine)(I:Inv X pins σ H s)(g:fe H a y o)(ry:RelV y u)(rd:RelV d r)(h:∀w' s',Inv X pins σ H s'->RelV (o.getD d) w'->Q w' s'):
  wpAny (IW X) A (call (.builtin "dict.get") [.ref a,u,r]) Q E s:=by
 rcases g with⟨kvs,k,e,ey,l⟩|⟨kvs,k,b,e,ey,eb,l⟩
 .subst ey;obtain⟨z,hd,vs,rel,dd⟩:=Zw I.hok e;refine a1z a0m dd.typeIs a0V (a2i _ _ _) (meets_dict_get_default (zT X.prog X.w) a (Ut ry) hd r) ⟨_,dd.mapOf,h _ _ (I.tok _) ?_⟩;rw[l];exact(rel.val k).getD rd
 .subst ey;cases(show u=Value.ref b from ry);obtain⟨z,hd,xs,rel,dd⟩:=aY I.hok e;refine a1z a0m dd.typeIs a0V (a2i _ _ _) (meetsH_dict_get_default (tupleKind (zT X.prog X.w)) a b hd r) ⟨a0x hu,k,xs,VJ I.hok eb,dd,h _ _ (I.tok _) ?_⟩;rw[l];exact(rel.val k).getD rd
def CU(td ty:TE):TE:=λσ H Q=>td σ H λx H1=>∃a,x=.ref a/\IsD H1 a/\ty σ H1 λy H2=>∃o,fe H2 a y o/\Q (o.getD .non) H2
def CV(td ty tx:TE):TE:=λσ H Q=>td σ H λx H1=>∃a,x=.ref a/\IsD H1 a/\ty σ H1 λy H2=>tx σ H2 λz H3=>∃o,fe H3 a y o/\Q (o.getD z) H3
def rV(hu:X.A.units+1<cLine)(ho:PE X o td)(he:PE X e ty)(m:M1 X o "get" qE e kM):PE X (.Call (.Attribute o "get" qE) [e] [] kM) (CU td ty):=by intro pins s σ H Q I h;refine wpAny_Call_method m.base m.few m.line a1k a0m a2v (thn (ho pins s σ H _ I h) λu s1 ⟨x,H1,I1,rx,a,ex,d,q1⟩=>?_);subst ex;obtain rfl:u=Value.ref a:=rx;obtain⟨t1,t2,_⟩:=mf I1 d;refine⟨t1,t2,?_⟩;rw[m.trees];refine a0U rfl (a1x (a0Q (thn (he pins s1 σ H1 _ I1 q1) λiv s2 ⟨y,H2,I2,ry,ov,g,q2⟩=>a1m ?_)));exact CS hu I2 g ry λw' s3 I3 rw'=>⟨_,H2,I3,rw',q2⟩
def rW(hu:X.A.units+1<cLine)(ho:PE X o td)(he:PE X e ty)(hf:PE X f tx)(m:M2 X o "get" qE e f kM):PE X (.Call (.Attribute o "get" qE) [e,f] [] kM) (CV td ty tx):=by
 intro pins s σ H Q I h;refine wpAny_Call_method m.base m.few m.line a1k a0m a2v (thn (ho pins s σ H _ I h) λu s1 ⟨x,H1,I1,rx,a,ex,d,q1⟩=>?_);subst ex;obtain rfl:u=Value.ref a:=rx;obtain⟨t1,t2,_⟩:=mf I1 d;refine⟨t1,t2,?_⟩;rw[m.trees];refine a0U rfl (a1x (a0Q (thn (he pins s1 σ H1 _ I1 q1) λiv s2 ⟨y,H2,I2,ry,q2⟩=>
  a0Q (thn (hf pins s2 σ H2 _ I2 q2) λfv s3 ⟨z,H3,I3,rz,ov,g,q3⟩=>a1m ?_))))
 exact CT hu I3 g ry rz λw' s4 I4 rw'=>⟨_,H3,I4,rw',q3⟩
def rX(I:Inv X pins σ H s)(e:Rd H a (.dK kvs))(h:∀p s',H p=none->Inv X pins σ (upd H p (.dK kvs)) s'->Q (.ref p) s'):wpAny (IW X) A (call (.type "dict") [.ref a]) Q E s:=by obtain⟨z,hd,vs,rel,dd⟩:=Zw I.hok e;refine kt_call_dict hd dd (by rw[<- rel.length];exact z) λh' dd' hs=>?_;refine h _ _ (I.hok.fresh (L5 _)) (I.laid (a:=s.heap.objs.size) (o:=.dK kvs) (t':=s.toks) (λb q hq=>?_) (L5 _) (ff z (P8.mpr (Ne.symm (L9 I.big))) rel dd'));exact(hs.2 b (L9 (L7 hq))).trans (u8 _ hq)
section
variable {X:Cx}{pins:Hz}{σ:St}{H:Hp}{s:HJ}{a:Addr}{y:V}{u:Value}{A:Ih}{E:HB}
end
end L2
namespace Att
open PySem PySem.W PySem.Calls PyProof.Rows
def VL:∀(ns:Ij)(vs:HK),WellAll P h vs (ns.map WData.int)->IntsAre vs ns:=by
 intro ns
 induction ns with
 |nil=>intro vs w;rw[a2Q]at w;cases w;exact .nil
 |cons n ns ih=>
  intro vs w;rw[M3]at w;cases w with
  |cons a b=>cases a;exact .cons _ _ (ih _ b)
def mj{l:OpenLaw}{n:Nat}(hn:l.most=some n){P:Params}{h:Heap}{args:List WData}{vals:HK}
  (hpre:l.row.toRowW.claim.pre args=true) (hwl:WellAll P h vals args):
  ∃a vs ns,vals=[Value.ref a]/\args=[WData.list (ns.map WData.int)]/\h.get? a=some { cls:=.type "list",data:=.seq vs.toArray }/\IntsAre vs ns/\ns.length<=n:=by
 have hsh:WShape.hasAll [] args [.list .int]=true:=(pre_splitW hpre).1;have hc:l.pre.holds [] { args:=args }=true:=(pre_splitW hpre).2;obtain⟨d,r,rfl,h1,h2⟩:=hasAllW_cons hsh;obtain rfl:=hasAllW_nil h2;obtain⟨xs,rfl,h3⟩:=hasW_list h1;obtain⟨ns,rfl⟩:=items_int h3;have hlen:ns.length<=n:=by
  unfold OpenLaw.pre at hc;have h4:(WTm.not (.lt (.lit (.int (n:Int))) (.len (.arg 0)))).holds [] { args:=[.list (ns.map .int)] }=true:=by have h4:=(holds_andW hc).1;rw[hn]at h4;exact h4
  have h5:=condW_of h4 (w_not (w_lt w_lit (w_len_list (w_arg rfl))));rw[t0]at h5;refine Nat.le_of_not_lt λq=>?_;have q':(n:Int)<((ns.length:Nat):Int):=by omega
  first
   | (rw[M6 q']at h5;exact absurd h5 (by decide))
   | (simp at h5;omega)
 cases hwl with
 |cons w1 w2=>
  cases w2;cases w1 with
  |list ho hall=>exact⟨_,_,ns,rfl,rfl,ho,VL ns _ hall,hlen⟩
def mq(l:OpenLaw)(args:List WData):l.row.toRowW.claim.post args (.bool true) args=true:=
 postW_of (r:=l.row.toRowW) (X:=(true==true))
  (show WShape.has [] (.bool true) .bool=true by first|rfl|decide|simp[WShape.has,WShape.arms,WShape.armsAll])
  (show(WTm.eq .res (.lit (.bool true))).value [] { args:=args,res:=some (.bool true),after:=args }=some (.bool (true==true))from w_eq_bool (w_res rfl) w_lit) rfl
def c4{l:OpenLaw}{n:Nat}{q:HZ}{loose:HA}{XP:(Str->Option Value)->Heap->Prop}{YP:World->Heap->Prop}{d:DefRec}
  (hn:l.most=some n) (hdf:d.params.defaults=[])
  (call:∀(w:Ie)(s₀ s₁:HJ)(mg mb:HD)(fa:Addr)(o:Obj)(pm cd doc:Value)(a:Addr) (vs:HK) (ns:Ij),
   Ground q loose [] XP w s₀ mg mb s₁.heap->YP w s₁.heap->
   s₁.heap.get? fa=some o->o.data=.func (docDef d.name d.params d.body d.scope pm cd doc)->s₁.heap.CodeRec cd d.name->mg d.name=some (.ref fa)->
   s₁.heap.get? a=some { cls:=.type "list",data:=.seq vs.toArray }->IntsAre vs ns->ns.length<=n->s₁.gens = #[]->
   codeAny (model l.prog w) callerA (.call (.ref fa) ⟨[.ref a],[]⟩) (λr s'=>r=.ok (.ret (.bool true))/\OldK s₁.heap s'.heap/\s'.os=s₁.os/\AllBare s'.gens) s₁):
  WalkO q loose XP YP l.row.toRowW d [] (λf vs=>PySem.call f vs):=by
 intro w s₀ s₁ mg mb G Y fa o pm cd doc dV kV ho hd hcd hD hmg hg args vals as hpre hlay hrd hwl hlo;obtain rfl:dV=.none:=Dflts.none hD hdf;obtain rfl:kV=.none:=Dflts.noKw hD;obtain⟨a,vs,ns,rfl,rfl,hobj,hints,hlen⟩:=mj hn hpre hwl;refine enter_call (a0w (call w s₀ s₁ mg mb fa o pm cd doc a vs ns G Y ho (fd_plain hd) hcd hmg hobj hints hlen hg) λr s' hq=>?_);obtain⟨rfl,h2,h3,h4⟩:=hq;exact⟨.inl ⟨.bool true,.bool true,[],rfl,λ_=>rfl,.bool true,mq l _,λ_=>⟨List.Pairwise.nil,λ_ hm=>(nomatch hm)⟩⟩,h2,h3,h4⟩
section
variable {prog:HZ}{w:Ie}{A:Ih}{E:HB}{s:HJ}{K:Il}
end
end Att
namespace L2
open PySem PySem.Spec PyProof.Rows
def a8:∀{vs:HK}{ns:Ij},IntsAre vs ns->Vals (ns.map V.int) vs
 |_,_,.nil=>.nil
 |_,_,.cons n t h=>.cons ⟨t,rfl⟩ (a8 h)
def Fx(H:Hp):Prop:=∀b,H b=none\/∃o xs,H b=some (.frz o (.lst xs))
def rY{P:HZ}{w:Ie}{K:HU}{mg mb:HD}{CX:CXT}{k:Nat}{fa a:Addr}{fd:Ii}{x:Str}{sp:Sp}{s₁:HJ}{vs:HK}{ns:Ij}
  (KX:K.In s₁.heap) (hns:s₁.heap.Ns mainGlobals mg) (hb:s₁.heap.Ns builtinsNs mb) (hbb:∀x:Str,x≠"__name__"->mb x=bootBuiltins x) (hlim:s₁.heap.NoLimit) (hg:s₁.gens = #[])
  (ha:s₁.heap.get? a=some { cls:=.type "list",data:=.seq vs.toArray }) (hi:IntsAre vs ns) (hl:ns.length<=sizeLine) (hr:jU k callerA)
  (F:∀base:Heap,K.In base->base.Ns mainGlobals mg->yU P w K mg base CX k fa fd [x] sp) (hbind:∀(s:HJ)(u:Value),BindsTo s fd ⟨[u],[]⟩ [(x,u)])
  (hsp:∀H:Hp,Fx H->SqL K H a (ns.map V.int)->sp [.ref a] H (λv _=>v=.bl true) λ_ _ _=>False)
  (hCX:∀H e s',CX [] H s₁ (λ_ _ _=>False) e s'->False):
  codeAny (model P w) callerA (.call (.ref fa) ⟨[.ref a],[]⟩) (λr s'=>r=.ok (.ret (.bool true))/\OldK s₁.heap s'.heap/\s'.os=s₁.os/\AllBare s'.gens) s₁:=by
 have rv:=a8 hi;have Ca:=hi.length
 -- from an abstract heap in which nothing but the script may be tracked
 have core:∀H:Hp,Fx H->SqL K H a (ns.map V.int)->HOk P w H s₁.heap->(∀b,H b≠none->b=a)->(H a≠none->K.lookup a=none)->
   codeAny (model P w) callerA (.call (.ref fa) ⟨[.ref a],[]⟩) (λr s'=>r=.ok (.ret (.bool true))/\OldK s₁.heap s'.heap/\s'.os=s₁.os/\AllBare s'.gens) s₁:=by
  intro H hO hS hok hA hK;have base_of:∀{b:Addr}{o:Obj},s₁.heap.get? b=some o->H b=none->(rB s₁.heap H).get? b=some o:=λe n=>rC e n;have noA:∀{b:Addr}{o:Obj}{es:Array DictEntry}{ep:Nat},s₁.heap.get? b=some o->o.data=.dict es ep->H b=none:=λ{b o es ep} e d=>by
   cases q:H b with
   |none=>rfl
   |some u=>have e':b=a:=hA b (by rw[q];simp);subst e';rw[ha]at e;cases e;have d':Data.seq vs.toArray _=Data.dict es ep:=d;cases d'
  have nsK:∀{b:Addr}{m:HD},s₁.heap.Ns b m->(rB s₁.heap H).Ns b m:=λ{b m} ⟨o,es,ep,e,d,r⟩=>⟨o,es,ep,base_of e (noA e d),d,r⟩;have hKb:K.In (rB s₁.heap H):=λb o e=>base_of (KX b o e) (by
   cases q:H b with
   |none=>rfl
   |some u=>
    have e':b=a:=hA b (by rw[q];simp);subst e';rw[hK (by rw[q];simp)]at e;cases e)
  have hM:Mod K mg (rB s₁.heap H):=⟨hKb,nsK hns,⟨mb,nsK hb,hbb⟩,let⟨mc,h1,h2⟩:=hlim;⟨mc,nsK h1,h2⟩⟩;have e0:p4 P w K mg (rB s₁.heap H) callerA [] s₁ H:=⟨rfl,hM,λb o e=>xU e,a1w (lE _ _),trivial,λb hb=>absurd (show b∈([]:List Addr)from hb) (by simp),hok,.of_eq hg⟩;refine a0w ((F _ hKb (nsK hns)).run callerA [] s₁ H ⟨[.ref a],[]⟩ [.ref a] [.ref a] _ _ hr e0 (hbind s₁ (.ref a)) (.cons rfl .nil) (hsp H hO hS)) λr s' h=>?_;cases r with
  |error e=>exact(hCX H e s' h).elim
  |ok fl=>
   cases fl with
   |next=>exact False.elim h
   |brk=>exact False.elim h
   |cont=>exact False.elim h
   |ret u=>
    obtain⟨v,H',os,bare,un,hok',r',q⟩:=h;have q':v=.bl true:=q;subst q';obtain rfl:u=Value.bool true:=r';refine⟨rfl,OldK.of_keep λb o e=>?_,os,bare⟩;cases q:H b with
    |none=>exact un.keep b o e q (by intro z;exact absurd (show b∈([]:List Addr)from z) (by simp)) (by simp)
    |some u=>
     rcases hO b with z|⟨ob,xs,z⟩
     .rw[q]at z;cases z
     .have z2:=un.pK b ob _ z;obtain⟨e1,_⟩:=hok b _ z;obtain⟨e2,_⟩:=hok' b _ z2;rw[e]at e1;cases e1;exact e2
 cases hk:K.lookup a with
 |some o=>
  -- the script is one of the module's own objects
  have e:=KX a o hk;rw[ha]at e;cases e;refine core (λ_=>none) (λ_=>.inl rfl) (.inr ⟨_,vs.toArray,_,hk,rfl,rfl,rfl,by rw[M8,Ca];exact hl,by simpa using rv⟩) (λb u z=>by have z':(none:Option HO)=some u:=z;cases z') (λb z=>absurd rfl z) λz=>absurd rfl z
 |none=>
  refine core (λb=>if b=a then some (.frz { cls:=.type "list",data:=.seq vs.toArray } (.lst (ns.map V.int)))else none) (λb=>?_) (.inl (.inr ⟨{ cls:=.type "list",data:=.seq vs.toArray },if_pos rfl⟩)) (λb u z=>?_) (λb z=>?_) λ_=>hk
  .by_cases hb:b=a
   .exact .inr ⟨_,_,if_pos hb⟩
   .exact .inl (if_neg hb)
  .by_cases hb:b=a
   .have z':=(if_pos hb).symm.trans z;cases z';subst hb;exact⟨ha,by rw[t0];exact hl,vs,_,rv,ha⟩
   .have z':=(if_neg hb).symm.trans z;cases z'
  .by_cases hb:b=a
   .exact hb
   .exact absurd (if_neg hb) z
def Af{l:PySem.W.OpenLaw}{n k:Nat}{q:HZ}{loose:HA}{XP:(Str->Option Value)->Heap->Prop}{YP:World->Heap->Prop}{d:DefRec}{K:Params->PySem.W.Frag}{CX:World->CXT}{sp:World->Sp}{x:Str}
  (hn:l.most=some n) (hn2:n<=sizeLine) (hdf:d.params.defaults=[]) (hr:jU k callerA)
  (hY:∀(w:Ie)(h:Heap),YP w h->(K w.params).In h)
  (F:∀(w:Ie)(mg:HD)(fa:Addr)(h:Heap),(K w.params).In h->h.Ns mainGlobals mg->mg d.name=some (.ref fa)->
   ∃fd:FuncData,(∀(s:HJ)(u:Value),BindsTo s fd ⟨[u],[]⟩ [(x,u)])/\
    ∀base:Heap,(K w.params).In base->base.Ns mainGlobals mg->yU l.prog w (K w.params) mg base (CX w) k fa fd [x] (sp w))
  (hsp:∀(w:Ie)(H:Hp)(a:Addr)(ns:Ij),ns.length<=n->Fx H->SqL (K w.params) H a (ns.map V.int)->sp w [.ref a] H (λv _=>v=.bl true) λ_ _ _=>False)
  (hCX:∀(w:Ie)(H:Hp)(s:HJ)(e:Value)(s':HJ),CX w [] H s (λ_ _ _=>False) e s'->False):
  PySem.W.WalkO q loose XP YP l.row.toRowW d [] (λf vs=>PySem.call f vs):=by
 refine Att.c4 hn hdf λw s₀ s₁ mg mb fa o pm cd doc a vs ns G Y ho hd hcd hmg hobj hints hlen hg=>?_;have KX:=hY w _ Y;obtain⟨fd,hb,hF⟩:=F w mg fa _ KX G.T.g hmg;exact rY KX G.T.g G.T.b G.T.builtins G.T.nolimit hg hobj hints (O5 hlen hn2) hr hF hb (λH hO hS=>hsp w H a ns hlen hO hS) λH e s'=>hCX w H s₁ e s'
def inClass(s:IA)(j:Nat):Stmt:=match s with
 |.ClassDef _ _ _ body _ _ _ _ _ _ _=>body.getD j (.Pass ⟨0,0,0,0⟩)
 |_=>.Pass ⟨0,0,0,0⟩
def VM(s:IA):Arguments:=match s with
 |.FunctionDef _ a _ _ _ _ _ _ _ _=>a
 |_=>{ posonlyargs:=[],args:=[],vararg:=none,kwonlyargs:=[],kw_defaults:=[],kwarg:=none,defaults:=[] }
def wx(s:IA):List Stmt:=match s with
 |.FunctionDef _ _ b _ _ _ _ _ _ _=>b
 |_=>[]
def zh(s:IA):Scope:=match s with
 |.FunctionDef _ _ _ _ _ _ sc _ _ _=>sc
 |_=>{ kind:=.function,names:=[],isGenerator:=false,isCoroutine:=false }
abbrev E0:XK:=λ_ _ _=>False
structure Fun(K:HU)(x qual:Str)(st:IA)(f:Addr)(fd:Ii):Prop where
 ex:∃(oc:Value)(od:Iw)(kV doc pm:Value)(an:Iw)(cdv ct:Value)(osl:Ip),
  fd=PySem.W.fnOf x qual (VM st) (wx st) (zh st) .none kV doc pm an cdv ct/\K.lookup f=some ⟨oc,od,.func fd,osl⟩/\PySem.W.codeIn K cdv qual=true
 kp:PySem.W.keepIn K (.ref f)=true
section
variable {P:HZ}{w:Ie}{K:HU}{mg:HD}{base:Heap}
def Fun.binds{x qual:Str}{st:IA}{f:Addr}{fd:Ii}{ps:HA}(F:Fun K x qual st f fd)
  (h:∀(kV doc pm:Value)(an:Iw)(cdv ct:Value)(us:HK),us.length=ps.length->bindArgs (PySem.W.fnOf x qual (VM st) (wx st) (zh st) .none kV doc pm an cdv ct) ⟨us,[]⟩=pure (ps.zip us)):Binds K fd ps []:=by
 obtain⟨oc,od,kV,doc,pm,an,cdv,ct,osl,rfl,lk,hcd⟩:=F.ex;exact .all (h kV doc pm an cdv ct)
def uQ{x qual:Str}{st:IA}{f:Addr}{oc:Value}{od an:Iw}{osl:Ip}{kV doc pm cdv ct:Value}(l:K.lookup f=some ⟨oc,od,.func (PySem.W.fnOf x qual (VM st) (wx st) (zh st) .none kV doc pm an cdv ct),osl⟩)
  (c:PySem.W.codeIn K cdv qual=true) (k:PySem.W.keepIn K (.ref f)=true):Fun K x qual st f (PySem.W.fnOf x qual (VM st) (wx st) (zh st) .none kV doc pm an cdv ct):=⟨⟨oc,od,kV,doc,pm,an,cdv,ct,osl,rfl,l,c⟩,k⟩
end
def qi(hr:jU k A):A.units+1<cLine:=a0S (Nat.add_le_add_left (by decide:1<=64) _) hr.units
def pv(i:Nat)(hN:X.N[i]?=some x:=by rfl)(hv:Vis X.env.scope x:=by first|exact Or.inl rfl|exact Or.inr (Or.inl rfl)|exact Or.inr (Or.inr rfl))(hd:(x==("__debug__":Str))=false:=by decide)
  (hcd:(x==("__classdict__":Str))=false:=by decide):PE X (.Name x pos) (cR i):=Cg hN hv hd hcd
def B0{A B:Prop}(h:B):if false=true then A else B:=by rw[if_neg N6];exact h
def B3{A B:Prop}(h:A):if true=true then A else B:=by rw[if_pos rfl];exact h
def zr(H H':Hp):Prop:=∀b o,H b=some o->H' b=some o
def zr.refl(H:Hp):zr H H:=λ_ _ h=>h
def zr.trans(a:zr H H1)(b:zr H1 H2):zr H H2:=λc o h=>b c o (a c o h)
section
variable {κ:Type}[DecidableEq κ]
end
end L2
set_option maxHeartbeats 4000000
namespace L2
open PySem PySem.Spec PyProof.Rows PySem.W
def js:List Value:=[.type "ValueError",.type "Exception",.type "BaseException",.type "object"]
def a9:List Value->List Value
 |.ref _::r=>a9 r
 |l=>l
structure YS(K:Il)(C:Addr):Prop where
 over:(clsIn K C).any (λcd=>a9 cd.mro==js && !cd.mro.isEmpty&&cd.hasDict)=true
 sa:findIn K (.ref C) "__setattr__"=some (some (.builtin "object.__setattr__"))
 ga:findIn K (.ref C) "__getattribute__"=some (some (.builtin "BaseException.__getattribute__"))
 gn:findIn K (.ref C) "__getattr__"=some none
 ty:typeIn K (.ref C)=some (.type "type")
def Ku(self:Value):∀l:List Value,a9 l=js->refuseLoop self "__setattr__" l=pure ()
 |[],e=>by cases e
 |.ref c::r,e=>by rw[refuseLoop_ref];exact Ku self r e
 |.type n::r,e=>by rw[show Value.type n::r=js from e];exact PySem.F.store_ValueError.passes self
 |.none::r,e=>by cases e
 |.bool _::r,e=>by cases e
 |.int _ _::r,e=>by cases e
 |.str _ _::r,e=>by cases e
 |.bytes _ _::r,e=>by cases e
 |.float _ _::r,e=>by cases e
 |.builtin _::r,e=>by cases e
 |.ellipsis::r,e=>by cases e
 |.notImplemented::r,e=>by cases e
def a_{x:String}(hx:js.contains (.type x)=true):∀l:List Value,a9 l=js->l.contains (.type x)=true
 |[],e=>by cases e
 |.ref c::r,e=>by rw[List.contains_cons,a_ hx r e,Bool.or_true]
 |.type n::r,e=>by rw[show Value.type n::r=js from e];exact hx
 |.none::r,e=>by cases e
 |.bool _::r,e=>by cases e
 |.int _ _::r,e=>by cases e
 |.str _ _::r,e=>by cases e
 |.bytes _ _::r,e=>by cases e
 |.float _ _::r,e=>by cases e
 |.builtin _::r,e=>by cases e
 |.ellipsis::r,e=>by cases e
 |.notImplemented::r,e=>by cases e
def YS.cd{K:Il}{C:Addr}(c:YS K C):∃cd,clsIn K C=some cd/\a9 cd.mro=js/\cd.mro.isEmpty=false/\cd.hasDict=true:=by obtain⟨cd,hc,h⟩:=any_some c.over;simp only[Bool.and_eq_true,beq_iff_eq,Bool.not_eq_true']at h;exact⟨cd,hc,h.1.1,h.1.2,h.2⟩
def YS.sub{K:Il}{C:Addr}(c:YS K C){x:String}(hx:js.contains (.type x)=true):mroIn K C (.type x)=some true:=by obtain⟨cd,hc,h1,h2,_⟩:=c.cd;unfold mroIn;rw[hc,Option.bind_some,if_neg (by rw[h2];decide),a_ hx _ h1]
def yL(C:Addr)(od:Iw)(t:Addr)(T:Value)(sl:Ip):Obj:=⟨.ref C,od,.fields #[.ref t,T,.none,.none,.bool false,.none],sl⟩
section
variable {prog:HZ}{w:Ie}{A:Ih}{E:HB}{s:HJ}{K:Il}{x dx C t:Addr}{T:Value}{sl:Ip}{mA:HD}{name:Str}{v:Value}{R:Result->Shared->Prop}
def fh(X:K.In s.heap)(c:YS K C)(I:InstAt s.heap x (yL C od t T sl) C oo)(ht:takerIn K C name=some none)
  (h:∀b,wpAny (model prog w) A.in1 (Builtin.ObjectAttr.storeInOwnDict (.ref x) (.ref C) (.str name tk) name v b)
   (λfin s'=>match fin with | .done f=>R (.ok f) s' | .again c'=>c'.quiet=true/\codeAny (model prog w) A c' R s') (λe s'=>R (.error e) s') s):
  codeAny (model prog w) A (.call (.builtin "object.__setattr__") ⟨[.ref x,.str name tk,v],[]⟩) R s:=by
 have SF:=PySem.F.store_object;obtain⟨cd,hc,ho,ne,_⟩:=c.cd;have sub:Looks (model prog w) s.heap (isInstance (.ref x) (.type "object")) true:=I.type.andThen (a2q X (c.sub (x:="object") (by decide)));refine a02 SF.slot.plain SF.entry (@check_slot (model prog w) _ _ s "object.__setattr__" "object" "__setattr__" (.ref x) [.str name tk,v] [] _ SF.kind SF.split sub (SF.args (.ref x) (.str name tk) v) ?_);obtain⟨attr,ha,hr⟩:=O1.mp ht;have hm:Looks (model prog w) s.heap (mroOf (.ref C)) cd.mro:=(a2Y X hc).andThen .now;have L3:Looks (model prog w) s.heap (Builtin.ObjectAttr.storeTaker? attr) none:=by
  cases attr with
  |none=>exact .now
  |some a=>
   obtain⟨b,hb,e⟩:=v4.mp hr;refine(looks_takesIn X hb).andThen ?_;cases b with
   |true=>cases e
   |false=>exact .now
 rw[osa_eq,refuse_eq];refine f8 (f8 (I.type.here (f8 (hm.here ?_))));rw[Ku _ _ ho];refine L6 (f8 (I.type.here (f8 ((a16 X ha).here (f8 (L3.here ?_))))));exact h _
def ig(X:K.In s.heap)(c:YS K C)(hx:s.heap.get? x=some (yL C none t T sl))(ht:takerIn K C name=some none)
  (h:∀h',h'.get? x=some (yL C (some s.heap.objs.size) t T sl)->h'.Ns1 s.heap.objs.size (λy=>if y=name then some v else none)->
   (∀b o,b≠x->s.heap.get? b=some o->h'.get? b=some o)->Q () { s with heap:=h',toks:=s.toks+2 }):
  wpAny (model prog w) A (setAttr (.ref x) name v) Q E s:=by
 have I:InstAt s.heap x (yL C none t T sl) C none:=⟨hx,rfl,rfl,trivial⟩;refine set_plain X I c.sa (fh (s:={ s with toks:=s.toks+1 }) X c I ht λb=>?_);obtain⟨cd,hc,_,_,hd⟩:=c.cd;have hxs:x≠s.heap.objs.size:=L9 (L7 hx);have hx1:(s.heap.push emptyDict).get? x=some (yL C none t T sl):=u8 _ hx;refine f8 (L6 (f8 (f8 (a1j hx (f8 (Looks.here (s:={ s with toks:=s.toks+1 }) (a2Y X hc) ?_))))));rw[hd];refine f8 (wpAny_alloc' (f8 (wpAny_update' hx1 (L6 ?_))));have hgx:((s.heap.push emptyDict).update x λo=>{ o with dict:=some s.heap.objs.size }).get? x=some (yL C (some s.heap.objs.size) t T sl):=R7 _ hx1 rfl;have hgd:((s.heap.push emptyDict).update x λo=>{ o with dict:=some s.heap.objs.size }).get? s.heap.objs.size=some emptyDict:=(a1H _ _ _ _ hxs.symm).trans (Heap.get?_push_at rfl rfl);have hnd:((s.heap.push emptyDict).update x λo=>{ o with dict:=some s.heap.objs.size }).Ns s.heap.objs.size (λ_=>none):=⟨_,#[],_,hgd,rfl,λe he=>absurd he (by simp),λ_=>rfl⟩;refine f8 (L6 (f8 ?_));refine a2O (s:={ s with heap:=(s.heap.push emptyDict).update x λo=>{ o with dict:=some s.heap.objs.size },toks:=s.toks+1 }) (Heap.Ns1.of_empty hnd) λh' hn' hs=>?_;obtain⟨oD,esD,epD,hoD,hdD,hcD⟩:=hn'.count (a1V name v PySem.Within.nil);refine f8 (a14 hoD (by rw[hdD];exact a15 (O5 hcD (by rw[I0,a1y,S0];omega))) ?_);refine L6 (h _ ((hs.2 _ hxs).trans hgx) hn' λb o hb e=>?_);exact(hs.2 _ (L9 (L7 e))).trans ((a1H _ _ _ _ hb).trans (u8 _ e))
def mr(X:K.In s.heap)(c:YS K C)(hx:s.heap.get? x=some (yL C (some dx) t T sl))(hn:s.heap.Ns1 dx mA)(hne:dx≠x)(ht:takerIn K C name=some none)
  (hw:PySem.Within mA ns) (hsz:ns.length<=sizeLine)
  (h:∀h',h'.Ns1 dx (λy=>if y=name then some v else mA y)->Heap.SameBut dx s.heap h'->Q () { s with heap:=h',toks:=s.toks+2 }):
  wpAny (model prog w) A (setAttr (.ref x) name v) Q E s:=by
 obtain⟨od,hod,_⟩:=VH hn;have I:InstAt s.heap x (yL C (some dx) t T sl) C (some od):=⟨hx,rfl,rfl,hod⟩;refine set_plain X I c.sa (fh (s:={ s with toks:=s.toks+1 }) X c I ht λb=>?_);obtain⟨cd,hc,_,_,hd⟩:=c.cd;refine f8 (L6 (f8 (f8 (a1j hx (f8 (Looks.here (s:={ s with toks:=s.toks+1 }) (a2Y X hc) ?_))))));rw[hd];refine L6 (a:=some dx) (f8 (L6 (f8 ?_)));refine a2O (s:={ s with toks:=s.toks+1 }) hn λh' hn2 hs2=>?_;obtain⟨oD,esD,epD,hoD,hdD,hcD⟩:=hn2.count (a1V name v hw);refine f8 (a14 hoD (by rw[hdD];exact a15 (O5 hcD (by rw[I0];omega))) ?_);exact L6 (h _ hn2 hs2)
end
def strKeys(es:Array DictEntry):Bool:=es.toList.all λe=>match e.key with | .str _ _=>true|_=>false
def ba(K:Il):List Value->Bool
 |.ref a::r=>(match K.lookup a with
   |some ⟨_,_,.cls cd,_⟩=>(match K.lookup cd.ns with
     |some ⟨_,_,.dict es _,_⟩=>strKeys es&&(es.toList.all λe=>!e.key.isStr "__init__")
     |_=>false)
   |_=>false)&&ba K r
 |l=>l==js
def ij{h:Heap}{N:Addr}{c:Value}{dd:Iw}{es:Array DictEntry}{ep:Nat}{sl:Ip}(e:h.get? N=some ⟨c,dd,.dict es ep,sl⟩)(k:strKeys es=true)
  (hi:(es.toList.all λe=>!e.key.isStr "__init__")=true):∃m,h.Ns N m/\m "__init__"=none:=by
 refine⟨λn=>nsFind es n,⟨_,es,ep,e,rfl,λx hx=>?_,λ_=>rfl⟩,?_⟩
 .have q:=a0H.mp k x (a2C.mpr hx);split at q
  .rename_i n t hk;exact⟨n,t,hk⟩
  .cases q
 .show nsFind es "__init__"=none;unfold nsFind findBy;rw[<- a2N,List.find?_eq_none.mpr λx hx=>by simpa using a0H.mp hi x hx];rfl
def mw{K:Il}{h:Heap}(X:K.In h):∀l:List Value,ba K l=true->OwnTail h js l
 |.ref a::r,e=>by
  unfold ba at e;obtain⟨e1,e2⟩:=a2D.mp e;split at e1
  .rename_i c dd cd sl hl;split at e1
   .rename_i c2 dd2 es ep sl2 hl2;obtain⟨k1,k2⟩:=a2D.mp e1;obtain⟨m,hm,hm0⟩:=ij (X _ _ hl2) k1 k2;exact .own (X _ _ hl) hm hm0 (mw X r e2)
   .cases e1
  .cases e1
 |[],e=>by cases e
 |.type n::r,e=>by rw[show Value.type n::r=js from O7.mp e];exact .base
 |.none::r,e=>by rw[show Value.none::r=js from O7.mp e];exact .base
 |.bool _::r,e=>by rw[O7.mp e];exact .base
 |.int _ _::r,e=>by rw[O7.mp e];exact .base
 |.str _ _::r,e=>by rw[O7.mp e];exact .base
 |.bytes _ _::r,e=>by rw[O7.mp e];exact .base
 |.float _ _::r,e=>by rw[O7.mp e];exact .base
 |.builtin _::r,e=>by rw[O7.mp e];exact .base
 |.ellipsis::r,e=>by rw[O7.mp e];exact .base
 |.notImplemented::r,e=>by rw[O7.mp e];exact .base
structure XMk(K:Il)(C f:Addr):Prop where
 cls:∃nm q N bs bm sn sub ab col dd k0 k1 k2 k3 k5,K.lookup C=some (excClassObj nm q C N bs bm true sn sub ab col dd k0 k1 k2 k3 k5 "ValueError.__new__")/\ba K bm=true
 init:findIn K (.ref C) "__init__"=some (some (.ref f))
 fn:typeIn K (.ref f)=some (.type "function")
 kp:keepIn K (.ref C)=true
section
variable {prog:HZ}{w:Ie}{A:Ih}{E:HB}{K:Il}{C f:Addr}{h:Heap}{g:Array GenState}{d:Drawn}{t:Nat}{os:OsState}
def uR(rest:HK):Obj:={ cls:=.type "tuple",data:=.seq rest.toArray }
def Fy{rest:HK}{Q:HB}(M:XMk K C f)(X:K.In h)(hrest:rest.length<=sizeLine)
  (hq:codeAny (model prog w) (A.under (.builtin "type.__call__" ⟨.ref C::rest,[]⟩)) (.call (.ref f) ⟨.ref (h.objs.size+1)::rest,[]⟩) (λr s'=>match r with | .ok (.ret v)=>v=.none/\Q (.ref (h.objs.size+1)) s' | .ok _=>False | .error e=>E e s')
   ⟨(h.push (uR rest)).push (yL C none h.objs.size .none #[]),g,d,t,os⟩):
  wpAny (model prog w) A (call (.ref C) rest) Q E ⟨h,g,d,t,os⟩:=by
 obtain⟨nm,q,N,bs,bm,sn,sub,ab,col,dd,k0,k1,k2,k3,k5,hK,hT⟩:=M.cls;have hC:=X _ _ hK;have T:=mw X _ hT;have F:=PySem.F.excBase_ValueError;have f1:=tc_lookup;have f2:=tc_bind (.ref C);have hTy:(⟨h,g,d,t,os⟩:Shared).TypeIs (.ref C) "type":=⟨_,hC,rfl⟩;refine a0R (codeAny_of_tree ?_);show wpAny _ _ (callAny (.ref C) _) _ _ _
 repeat(any_goals(first|assumption|with_reducible refine wpAny_loadPart_at hC ?_|wp_step))
 refine And.intro rfl (codeAny_call_builtin_at (a1N _ (by decide +kernel)) entry_typeCall (wpAny_check_type_call_sub hC ?_))
 repeat(first|with_reducible refine wpAny_loadPart_at hC ?_|with_reducible refine wpAny_madeBy_exc hC ?_|wp_step)
 refine codeAny_call_builtin_code (a1N _ F.quiet) (wpAny_check_new_subT F T hC (codeAny_exc_new_subT F T hC ?_ hrest));show wpAny _ _ _ _ _ ⟨(h.push (uR rest)).push (yL C none h.objs.size .none #[]),g,d,t,os⟩;have kp:∀b o,h.get? b=some o->((h.push (uR rest)).push (yL C none h.objs.size .none #[])).get? b=some o:=λb o e=>u8 _ (u8 _ e);have hx:((h.push (uR rest)).push (yL C none h.objs.size .none #[])).get? (h.objs.size+1)=some (yL C none h.objs.size .none #[]):=by heap_get
 have X1:K.In ((h.push (uR rest)).push (yL C none h.objs.size .none #[])):=X.keeps kp;have t1:Looks (model prog w) ((h.push (uR rest)).push (yL C none h.objs.size .none #[])) (typeOf (.ref (h.objs.size+1))) (.ref C):=(Looks.ld hx).andThen .now;have s1:Looks (model prog w) ((h.push (uR rest)).push (yL C none h.objs.size .none #[])) (isSubtype (.ref C) (.ref C)) true:=a2q X1 (by
  unfold mroIn clsIn;rw[hK];simp)
 have i1:=a16 (M:=model prog w) X1 M.init;have b1:=bind_fn (M:=model prog w) X1 (.ref (h.objs.size+1)) M.fn;unfold isInstance callSpecial? specialOf
 repeat(first|with_reducible refine a0R ?_|lk)
 refine a0w hq λr s' z=>?_;rcases r with e|(v|_|_|_)<;>first|exact z|exact z.elim|skip
 obtain⟨rfl,z⟩:=z;exact L6 (L6 z)
end
def XO(e C:Addr)(od:Iw)(T:Value):HO:=.ext λh=>∃t sl,h.get? e=some (yL C od t T sl)
def XD(dx:Addr)(fs:Ik):HO:=.ext λh=>∃mA,h.Ns1 dx mA/\(∀f,Vs (fs.lookup f) (mA f))/\PySem.Within mA (fs.map (·.1))/\fs.length<=1000
def XO.ok(x:h.get? e=some (yL C od t T sl)):yC P w H h e (XO e C od T):=
 ⟨⟨t,sl,x⟩,⟨_,x⟩,λ_ _ ⟨t',sl',p⟩ k=>⟨t',sl',k _ p⟩⟩
def XO.get(x:yC P w H h e (XO e C od T)):∃t sl,h.get? e=some (yL C od t T sl):=x.1
def XD.ok(n:h.Ns1 dx mA)(r:∀f,Vs (fs.lookup f) (mA f))(wi:PySem.Within mA (fs.map (·.1)))(l:fs.length<=1000):yC P w H h dx (XD dx fs):=by refine⟨⟨mA,n,r,wi,l⟩,?_,λh1 h2 ⟨m,⟨o,es,ep,ho,q⟩,r1⟩ k=>⟨m,⟨o,es,ep,k _ ho,q⟩,r1⟩⟩;obtain⟨o,es,ep,ho,_⟩:=n;exact⟨o,ho⟩
def XD.get(x:yC P w H h dx (XD dx fs)):∃mA,h.Ns1 dx mA/\(∀f,Vs (fs.lookup f) (mA f))/\PySem.Within mA (fs.map (·.1))/\fs.length<=1000:=x.1
def Inv.Ag(I:Inv X pins σ H s)(he:H e=some (XO e C od T))(ch:Iy)(hch:∀b∈ch,X.s₀.heap.objs.size<=b/\H b=none/\b≠X.env.locals/\(∀x c,X.env.cells.lookup x=some c->c≠b)/\∀p∈X.pn++pins,p.1≠b)
  (keep:∀b o,b≠e->b∉ch->b∉frs X.stack->s.heap.get? b=some o->h'.get? b=some o)
  (slot:∀b o,b∈frs X.stack->s.heap.get? b=some o->∃sl,h'.get? b=some { o with slots:=sl })
  (hx:∃t sl,h'.get? e=some (yL C od t T' sl)):Inv X pins σ (upd H e (XO e C od T')) { s with heap:=h' }:=by
 have ne:∀b,H b=none->b≠e:=λb n z=>by rw[z,he]at n;cases n
 have nf:∀b o,H b=some o->b∉frs X.stack:=λb o q z=>by rw[I.Ui b z]at q;cases q
 have nc:∀b o,H b=some o->b∉ch:=λb o q z=>by rw[(hch b z).2.1]at q;cases q
 obtain⟨t',sl',hx'⟩:=hx;have any:∀b o,b∉ch->b≠e->s.heap.get? b=some o->∃sl,h'.get? b=some { o with slots:=sl }:=λb o hb hne q=>by
  by_cases hf:b∈frs X.stack
  .exact slot b o hf q
  .exact⟨o.slots,keep b o hne hb hf q⟩
 refine I.step (g':=s.gens) (d':=s.drawn) (t':=s.toks) (ch:=ch) (λb hb=>⟨.inr (hch b hb).1,(hch b hb).2.2⟩) (λb o hL hb hc q n=>keep b o (ne b n) hc (λz=>?_) q) (λb o _ _ hc q n=>any b o hc (ne b n) q)
  (λb o _ _ n=>by rw[zi (ne b n)];exact n) (λb o hc q=>?_) (λb xs q=>?_) (λb o u q=>?_) (λb ps q=>⟨#[],?_⟩) (λm hm=>?_) (λb u q=>?_) I.bare
 .rcases N4.mp (I.XI b z)with z|z
  .exact hL z
  .exact hb z
 .by_cases hbe:b=e
  .exact⟨_,hbe▸hx'⟩
  .obtain⟨sl,q'⟩:=any b o hc hbe q;exact⟨_,q'⟩
 .have:b≠e:=λz=>by rw[z,he]at q;cases q
  rw[zi this];exact q
 .have:b≠e:=λz=>by rw[z,he]at q;cases q
  rw[zi this];exact q
 .have:b≠e:=λz=>by rw[z,he]at q;cases q
  rw[zi this,q];simp
 .obtain⟨o,es,ep,ho,r⟩:=hm;have hL:H X.env.locals=none:=I.free;obtain⟨sl,q'⟩:=any _ o (λz=>(hch _ z).2.2.1 rfl) (ne _ hL) ho;exact⟨_,es,ep,q',r⟩
 .by_cases hbe:b=e
  .subst hbe;rw[zg]at q;cases q;exact XO.ok hx'
  .rw[zi hbe]at q;refine(I.hok b u q).rA (λc v hc r=>?_) (λc r=>?_) λc xs r=>?_
   .rcases hc with z|z
    .subst z;exact keep c v hbe (nc c u q) (nf c u q) r
    .have:c≠e:=λz2=>by rw[z2,he]at z;cases z
     exact keep c v this (nc c _ z) (nf c _ z) r
   .have:c≠e:=λz2=>by rw[z2,he]at r;cases r
    rw[zi this];exact r
   .have:c≠e:=λz2=>by rw[z2,he]at r;cases r
    rw[zi this];exact r
structure Tb(X:Cx)(pins:Hz)(H:Hp)(s:HJ)(Ta:Addr)(fl:Value):Prop where
 tbk:∃oT ts,s.heap.get? Ta=some oT/\oT.data=.fields ts/\ts[3]?=some fl
 new:X.s₀.heap.objs.size<=Ta
 free:H Ta=none
 pin:∀p∈X.pn++pins,p.1≠Ta
def Own(X:Cx):Prop:=X.stack=X.env::X.outer/\X.env.frame=some X.env.locals
def Tb.ok(I:Inv X pins σ H s)(b:Tb X pins H s Ta fl):Ta≠X.env.locals/\(∀x c,X.env.cells.lookup x=some c->c≠Ta)/\Ta∉frs X.stack:=by
 obtain⟨oT,ts,h1,h2,_⟩:=b.tbk;have nL:Ta≠X.env.locals:=λz=>by obtain⟨m,⟨o,es,ep,ho,hd,_⟩,_⟩:=I.loc;rw[z]at h1;rw[h1]at ho;cases ho;rw[h2]at hd;cases hd
 refine⟨nL,λx c q z=>?_,λz=>?_⟩
 .obtain⟨v,o,ho,hd⟩:=I.cell x c q;rw[z,h1]at ho;cases ho;rw[h2]at hd;cases hd
 .rcases N4.mp (I.XI _ z)with z|z
  .exact nL z
  .obtain⟨_,o,ho,hn⟩:=I.eS.mem z;rw[h1]at ho;cases ho;exact hn _ h2
def mx(I:Inv X pins σ H s)(he:H e=some (XO e C od (.ref Ta)))(b:Tb X pins H s Ta fl)
  (hQ:∀h',Inv X pins σ (upd H e (XO e C od (.ref Ta))) { s with heap:=h' }->Tb X pins (upd H e (XO e C od (.ref Ta))) { s with heap:=h' } Ta (f.elim .none λf=>rawInt f)->Q () { s with heap:=h' }):
  wpAny M A (setFlight (.ref e) f) Q E s:=by
 obtain⟨t,sl,hx⟩:=XO.get (I.hok e _ he);obtain⟨oT,ts,h1,h2,h3⟩:=id b.tbk;obtain⟨n1,n2,n3⟩:=b.ok I;have nTe:Ta≠e:=λz=>by have:=b.free;rw[z,he]at this;cases this
 have sz:=(a09.mp h3).1;unfold setFlight;refine f8 (a1M hx rfl (x:=.ref Ta) rfl ?_);rw[if_pos (show(Value.ref Ta != Value.none)=true from by simp)];refine a2w h1 h2 sz ?_;have oth:∀c,c≠Ta->(s.heap.update Ta (Obj.mapFields (·.setIfInBounds 3 (f.elim .none λf=>rawInt f)))).get? c=s.heap.get? c:=λc hc=>N9 _ _ (Ne.symm hc);refine hQ _ (I.Ag he [Ta] (λc hc=>?_) (λc o _ hc _ q=>(oth c (by simpa using hc)).trans q) (λc o hc q=>⟨o.slots,(oth c (λz=>n3 (z▸hc))).trans q⟩) ⟨t,sl,(oth e (Ne.symm nTe)).trans hx⟩) ⟨⟨_,_,Heap.get?_update_self _ h1 (Obj.isFreed_of_fields (Obj.data_mapFields h2 _)),Obj.data_mapFields h2 _,by simp[sz]⟩,b.new,by rw[zi nTe];exact b.free,b.pin⟩;obtain rfl:c=Ta:=by simpa using hc
 exact⟨b.new,b.free,n1,n2,b.pin⟩
def rZ(I:Inv X pins σ H s)(he:H e=some (XO e C od .none))(hQ:Q () s):wpAny M A (setFlight (.ref e) f) Q E s:=by obtain⟨t,sl,hx⟩:=XO.get (I.hok e _ he);unfold setFlight;refine f8 (a1M hx rfl (x:=.none) rfl ?_);exact L6 hQ
def bb(own:Own X)(hA:A.frames=some X.stack)(I:Inv X pins σ H s)(he:H e=some (XO e C od T))
  (hQ:∀Tn h',Inv X pins σ (upd H e (XO e C od (.ref Tn))) { s with heap:=h' }->Tb X pins (upd H e (XO e C od (.ref Tn))) { s with heap:=h' } Tn (rawInt X.env.locals)->Q () { s with heap:=h' }):
  wpAny M A (do setField (.ref e) 1 (<- EntryCells.newEntry head (<- frameOf X.env) .none (rawInt X.env.locals) .none (<- entryPlaceOf X.env.locals hadNext))) Q E s:=by
 obtain⟨t,sl,hx⟩:=XO.get (I.hok e _ he);have hst:=I.stack;rw[own.1]at hst hA;refine f8 (wpAny_frameOf_fun hA hst own.2 λh1 hs1=>?_);refine f8 (wpAny_entryPlaceOf λpl hpl=>?_);unfold EntryCells.newEntry newFields;refine f8 (a0X ?_ (hpl.sizeOk5 _ _ _ _ _));have nef:e∉frs (X.env::X.outer):=λz=>by have:=I.Ui e (by rw[own.1];exact z);rw[he]at this;cases this
 have hx1:h1.get? e=some (yL C od t T sl):=(hs1.2.1 e nef).trans hx;have hnT:e≠h1.objs.size:=L9 (L7 hx1);refine a2w (u8 _ hx1) rfl (by show 1<6;decide) ?_;have hold:∀c o,c≠e->h1.get? c=some o->∀tb:Obj,((h1.push tb).update e (Obj.mapFields (·.setIfInBounds 1 (Value.ref h1.objs.size)))).get? c=some o:=λc o hc q tb=>
  (N9 _ _ (Ne.symm hc)).trans (u8 _ q)
 have hfr:H h1.objs.size=none:=I.hok.fresh (a1w hs1.1.symm);refine hQ h1.objs.size _ (I.Ag he [] (λ_ z=>nomatch z) (λc o hc _ hf q=>hold c o hc ((hs1.2.1 c (by rw[own.1]at hf;exact hf)).trans q) _) (λc o hf q=>?_) ⟨t,sl,?_⟩) ⟨⟨_,_,(N9 _ _ hnT).trans (M7 _ rfl),rfl,?_⟩,?_,?_,λp hp z=>?_⟩
 .obtain⟨sl',q'⟩:=hs1.2.2 c o q;exact⟨sl',hold c _ (λz=>nef (by rw[own.1]at hf;exact z▸hf)) q' _⟩
 .exact R7 _ (u8 _ hx1) rfl
 .rcases hpl with rfl|⟨_,_,_,_,_,_,_,rfl⟩<;>simp
 .rw[hs1.1];exact I.sz
 .rw[zi (Ne.symm hnT)];exact hfr
 .have q:=(I.pin p hp).1;exact absurd (L7 q) (by rw[z,hs1.1];exact T9 _)
structure XIs(K:Il)(C:Addr):Prop where
 ha:findIn K (.ref C) "__class__"=some (some (.builtin "object.__class__"))
 hn:specialIn K (.builtin "object.__class__") "__get__"=some (some (.builtin "getset_descriptor.__get__"))
 htk:takesIn K (.builtin "object.__class__")=some true
section
variable {prog:HZ}{w:Ie}{A:Ih}{E:HB}{s:HJ}{K:Il}{x dx C t:Addr}{T:Value}{sl:Ip}{mA:HD}{name:Str}{v:Value}{R:Result->Shared->Prop}
def CW(X:K.In s.heap)(c:YS K C)(z:XIs K C)(I:InstAt s.heap x ox C (some od))
  (h:Q (some (.ref C)) { s with toks:=s.toks+1 }):wpAny (model prog w) A (getAttr? (.ref x) "__class__") Q E s:=by
 obtain⟨cd,hc,ho,ne,hdct⟩:=c.cd;have hm:=c.sub (x:="object") (by decide);obtain⟨hp,g,d,tk,os⟩:=s;have L0:=I.type (M:=model prog w);have L1:=a16 (M:=model prog w) X c.ga;have L2:=a16 (M:=model prog w) X c.gn;have Lb:Looks (model prog w) hp (isInstance (.ref x) (.type "BaseException")) true:=L0.andThen (a2q X (c.sub (x:="BaseException") (by decide)));have hf:findObj K C (some od) "__class__"=some (.bind (.builtin "getset_descriptor.__get__") (.builtin "object.__class__")):=findObj_data (by rw[hc];rfl) z.ha z.hn z.htk;have L3:=looks_find (M:=model prog w) X I hf;have ga:=PySem.F.excAttr_ValueError.ga;have f3:=ga.bind (.ref x);unfold getAttr? getAttrBy? getAttrBy;refine f8 (a2R (f8 (a1q (P7 (f8 (L0.at (f8 (L1.at ?_))))))));dsimp only;rw[show(onTheHeap (Value.ref C)&&Value.builtin "BaseException.__getattribute__"==Value.builtin "object.__getattribute__")=false from by
  rw[show(Value.builtin "BaseException.__getattribute__"==Value.builtin "object.__getattribute__")=false from by decide +kernel];rfl]
 show wpAny _ _ (getAttrByItsOwn _ _ _ _ _ _) _ _ _;unfold getAttrByItsOwn;refine f8 (show wpAny _ _ (typeLookup (.ref C) "__getattr__") _ _ _ from L2.at ?_);refine f8 (a1q (P7 ?_));show wpAny _ _ (bindSpecial _ _ >>= _) _ _ _;rw[f3];refine f8 (L6 (a0R (a02 ga.plain F.entry_bexc_ga ?_)));have hk:builtinKind "BaseException.__getattribute__"=some .slot:=by decide +kernel
 have hs:splitId "BaseException.__getattribute__"=some ("BaseException","__getattribute__"):=by decide +kernel
 refine @check_slot (model prog w) _ _ ⟨hp,g,d,tk+1,os⟩ "BaseException.__getattribute__" "BaseException" "__getattribute__" (.ref x) [.str "__class__" tk] [] _ hk hs Lb (F.args_bexc_ga (.ref x) (.str "__class__" tk)) ?_;unfold Builtin.«object.__getattribute__»
 repeat(first|with_reducible refine a0R ?_|lk)
 refine class_get (s:=⟨hp,g,d,tk+1,os⟩) (ox:=ox) (od:=some od) X I hm ?_;exact L6 (L6 (L6 h))
def r8{ox od:Obj}(c:YS K C)(z:XIs K C):KitX K (.ref x) (.ref C) (λh=>InstAt h x ox C (some od))where
 ty:=λ_ _ _ I=>I.type
 it:=λ_ _ X _=>by
  obtain⟨cd,hc,_⟩:=c.cd;unfold clsIn at hc;split at hc
  .rename_i c' d' cd' sl' hl;intro A' Q' E' s' k q;unfold isType loadHead;exact f8 (a1j (k _ _ (X _ _ hl)) (L6 q))
  .cases hc
 ne:=λh tp dd its n sl X htp=>by
  obtain⟨cd,hc,_⟩:=c.cd;refine Bool.eq_false_iff.mpr λq=>?_;obtain rfl:C=tp:=Value.ref.inj (O7.mp q);unfold clsIn at hc;split at hc
  .rename_i c' d' cd' sl' hl;cases(X _ _ hl).symm.trans htp
  .cases hc
 ca:=λX I k=>CW X c z I k
end
def Uu(h:H a=some o):upd H a o=H:=by
 funext b;unfold upd;split
 .rename_i e;rw[e,h]
 .rfl
def XC(e C dx:Addr):HO:=.ext λh=>∃t T sl,h.get? e=some (yL C (some dx) t T sl)
def XC.get(x:yC P w H h e (XC e C dx)):∃t T sl,h.get? e=some (yL C (some dx) t T sl):=x.1
section
variable {X:Cx}{pins:Hz}{σ:St}{H:Hp}{s:HJ}{e C dx Ta:Addr}{od:Iw}{T fl:Value}{M:Model}{A:Ih}{E:HB}{Q:Unit->Shared->Prop}
def Fl(X:Cx)(pins:Hz)(H:Hp)(s:HJ)(e C:Addr)(od:Iw):Prop:=
 ∃T,H e=some (XO e C od T)/\(T=.none\/∃Ta fl,T=.ref Ta/\Tb X pins H s Ta fl/\(fl=.none\/∃n:Int,fl=rawInt n))
def fi(own:Own X)(hA:A.frames=some X.stack)(I:Inv X pins σ H s)(f:Fl X pins H s e C od)
  (hQ:∀Tn h',Inv X pins σ (upd H e (XO e C od (.ref Tn))) { s with heap:=h' }->Tb X pins (upd H e (XO e C od (.ref Tn))) { s with heap:=h' } Tn (rawInt X.env.locals)->Q () { s with heap:=h' }):
  wpAny M A (noteFrame (.ref e) X.env) Q E s:=by
 obtain⟨T,he,hT⟩:=f;obtain⟨t,sl,hx⟩:=XO.get (I.hok e _ he);unfold noteFrame;simp only[own.2];refine f8 (a1M hx rfl (x:=T) rfl ?_);rcases hT with rfl|⟨Ta,fl,rfl,b,hfl⟩
 .rw[if_neg (by decide)];exact bb own hA I he hQ
 .rw[if_pos (show(Value.ref Ta != Value.none)=true from by simp)];obtain⟨oT,ts,h1,h2,h3⟩:=id b.tbk;refine f8 (a1M h1 h2 h3 ?_);by_cases hq:¬(fl==rawInt X.env.locals)=true
  .rw[if_neg hq];obtain⟨n1,n2,n3⟩:=b.ok I;have nTe:Ta≠e:=λz=>by have:=b.free;rw[z,he]at this;cases this
   have sz:=(a09.mp h3).1;refine f8 (a2w h1 h2 sz ?_);have oth:∀c,c≠Ta->(s.heap.update Ta (Obj.mapFields (·.setIfInBounds 3 .none))).get? c=s.heap.get? c:=λc hc=>N9 _ _ (Ne.symm hc);have I2:Inv X pins σ H { s with heap:=s.heap.update Ta (Obj.mapFields (·.setIfInBounds 3 .none)) }:=by
    have:=I.Ag (T':=.ref Ta) he [Ta] (h':=s.heap.update Ta (Obj.mapFields (·.setIfInBounds 3 .none))) (λc hc=>by
     obtain rfl:c=Ta:=by simpa using hc
     exact⟨b.new,b.free,n1,n2,b.pin⟩) (λc o _ hc _ q=>(oth c (by simpa using hc)).trans q) (λc o hc q=>⟨o.slots,(oth c (λz=>n3 (z▸hc))).trans q⟩) ⟨t,sl,(oth e (Ne.symm nTe)).trans hx⟩
    rwa [Uu he]at this
   exact bb own hA I2 he λTn h'=>hQ Tn h'
  .have hq:=Classical.not_not.mp hq;rw[if_pos hq];obtain rfl:fl=rawInt X.env.locals:=eq_of_beq hq;refine L6 ?_;have:=hQ Ta s.heap (by rw[Uu he];exact I) (by rw[Uu he];exact b);exact this
end
def Fz(X:Cx)(E:XK)(v:Value)(s':HJ):Prop:=∃σ H' e C dx,v=.ref e/\Inv X.nox [] σ H' s'/\Fl X.nox [] H' s' e C (some dx)/\E (.ref e) (some dx) (upd H' e (XC e C dx))
def CXe(P:HZ)(w:Ie):CXT:=λouter H s E v s'=>∃e C dx Ta oT ts H',v=.ref e/\s'.os=s.os/\AllBare s'.gens/\Un (frs outer) [] H H' s.heap s'.heap/\HOk P w H' s'.heap/\
 H' e=some (XO e C (some dx) (.ref Ta))/\s'.heap.get? Ta=some oT/\oT.data=.fields ts/\ts[3]?=some .none/\H' Ta=none/\s.heap.objs.size<=Ta/\E (.ref e) (some dx) (upd H' e (XC e C dx))
abbrev thr(X:Cx)(E:XK):Cx:=X.aG (Fz X E)
def Inv.thrown(I:Inv X pins σ H s)(h:CXe X.prog X.w X.stack H s E v s'):
  ∃H' e C dx,v=.ref e/\Inv X pins σ H' s'/\Fl X pins H' s' e C (some dx)/\E (.ref e) (some dx) (upd H' e (XC e C dx)):=by
 obtain⟨e,C,dx,Ta,oT,ts,H',rfl,os,bare,un,hok,he,h1,h2,h3,hn,hs,q⟩:=h;have I2:Inv X pins σ H' s':=I.Cf os un hok bare λb z=>absurd z (by simp);refine⟨H',e,C,dx,rfl,I2,⟨_,he,.inr ⟨Ta,_,rfl,⟨⟨oT,ts,h1,h2,h3⟩,O5 I.sz hs,hn,λp hp z=>?_⟩,.inl rfl⟩⟩,q⟩;have:=L7 (I.pin p hp).1;rw[z]at this;exact absurd hs (Nat.not_le.mpr this)
def Inv.fj(I:Inv X pins σ H s):Inv X [] σ H s:=I.Uj λ_ h=>nomatch h
def Fl.fj(f:Fl X pins H s e C od):Fl X [] H s e C od:=by obtain⟨T,he,h⟩:=f;refine⟨T,he,h.imp id λ⟨Ta,fl,e1,b,h2⟩=>⟨Ta,fl,e1,⟨b.tbk,b.new,b.free,λp hp=>b.pin p ?_⟩,h2⟩⟩;rw[P0]at hp;exact a0F _ hp
def Fl.aG(f:Fl X pins H s e C od):Fl (X.aG E) pins H s e C od:=by obtain⟨T,he,h⟩:=f;exact⟨T,he,h.imp id λ⟨Ta,fl,e1,b,h2⟩=>⟨Ta,fl,e1,⟨b.tbk,b.new,b.free,b.pin⟩,h2⟩⟩
def zW:Passes (CXe X.prog X.w) (thr X E) E:=λpins σ H s v s' I h=>by obtain⟨H',e,C,dx,rfl,I2,f,q⟩:=Inv.thrown (X:=thr X E) I h;exact⟨σ,H',e,C,dx,rfl,(I2.YR.aG _).fj,(Fl.aG (X:=thr X E) f.fj),q⟩
def fk:Passes (CXe P w) X E0:=λpins σ H s v s' I h=>by obtain⟨e,C,dx,Ta,oT,ts,H',_,_,_,_,_,_,_,_,_,_,_,q⟩:=h;exact False.elim q
def zx(own:Own X):PassesOwn (IW X) X.A X.env (Fz X E):=λv s' ⟨σ,H',e,C,dx,hv,I,f,q⟩=>by
 subst hv;have hA:X.A.frames=some X.nox.stack:=I.ok.frames;refine fi (X:=X.nox) own hA I f λTn h' I2 b=>?_;obtain⟨t,sl,hx⟩:=XO.get (I2.hok e _ zg);refine f8 (a1M hx rfl (x:=.ref Tn) rfl ?_);rw[if_neg (show ¬((Value.ref Tn==Value.none)=true)from by simp)];refine mx I2 zg b λh2 I3 b3=>?_;rw[VF]at I3 b3;refine⟨σ,_,e,C,dx,rfl,I3,⟨_,zg,.inr ⟨Tn,_,rfl,b3,.inr ⟨(X.env.locals:Int),?_⟩⟩⟩,?_⟩
 .rw[own.2];rfl
 .rw[VF];exact q
def CY{P:HZ}{w:Ie}{K:Il}{mg:HD}{base:Heap}{N:HA}{qual:Str}{scope:Scope}{f:Addr}{cd:Value}{A:Ih}{outer:List Env}{s:HJ}{H:Hp}{E:XK}{v:Value}{s':HJ}
  (h:Fz (ic (CXe P w) P w K mg base N qual scope f cd A outer s H E) E v s'):(ic (CXe P w) P w K mg base N qual scope f cd A outer s H E).xe v s':=by
 obtain⟨σ,H',e,C,dx,hv,I,fl,q⟩:=h;subst hv;have own:Own (ic (CXe P w) P w K mg base N qual scope f cd A outer s H E):=⟨rfl,rfl⟩;show wpAny (model P w) _ (leaving _ (.ref e)) _ _ s';unfold leaving;refine f8 (fi (X:=(ic (CXe P w) P w K mg base N qual scope f cd A outer s H E).nox) own I.ok.frames I fl λTn h' I2 b=>?_);refine mx I2 zg b λh2 I3 b3=>?_;rw[VF]at I3 b3;obtain⟨oT,ts,h1,h2',h3⟩:=b3.tbk;exact⟨e,C,dx,Tn,oT,ts,_,rfl,I3.os,I3.bare,I3.base,I3.hok,zg,h1,h2',h3,b3.free,b3.new,by rw[VF];exact q⟩
def PSs.FA{X:Cx}{E:HB}{st:Iq}{t:TS}(h:PSs (X.aG E) st t)(hE:∀v s,E v s->X.xe v s):PSs X st t:=λpins s σ H D I hw=>
 S7 (h pins s σ H D (I.aG E) hw) (λ_ _ q=>q.YR) hE
section
variable {P:HZ}{w:Ie}{K:Il}{mg:HD}{base:Heap}
def Fun.okX{x qual:Str}{st:IA}{f:Addr}{fd:Ii}{N ps:HA}{k:Nat}{sp:Sp}(F:Fun K x qual st f fd)(S:zm N ps (zh st))(len:∀vs H Q E,sp vs H Q E->vs.length=ps.length)
  (la:∀(cdv:Value)(A:Ih)(outer:List Env)(s:HJ)(H:Hp)(vs:HN)(Q:VK) (E:XK),jU k (A.deeper (envOfC qual (zh st) s.heap.objs.size f cdv))->sp vs H Q E->
   ∃t,PSs (thr (ic (CXe P w) P w K mg base N qual (zh st) f cdv A outer s H E) E) (wx st) t/\t { nx:=λ_ H'=>Q .non H',rt:=Q } (start N vs) H):yU P w K mg base (CXe P w) (k+1) f fd ps sp:=by
 obtain⟨oc,od,kV,doc,pm,an,cdv,ct,osl,rfl,lk,hcd⟩:=F.ex;refine Fm lk hcd S len λA outer s H vs Q E hr hsp=>?_;obtain⟨t,h,q⟩:=la cdv A outer s H vs Q E hr hsp;exact⟨t,h.FA λv s h=>CY h,q⟩
end
def CZ(C:Addr)(sp:Sp)(E:XK)(t:TA):TE:=λσ H Q=>t σ H λvs H1=>vs.length<=1000/\∀x,H1 x=none->sp (.ref x::vs) (upd H1 x (XO x C none .none)) (λv H2=>v=.non/\Q (.ref x) H2) E
def Inv.FC(I:Inv X pins σ H s):
  Inv X pins σ (upd H (s.heap.objs.size+1) (XO (s.heap.objs.size+1) C none .none)) { s with heap:=(s.heap.push (uR us)).push (yL C none s.heap.objs.size .none #[]) }:=
 I.laid (t':=s.toks) (λb u e=>u8 _ (u8 _ e)) (T8 _) (XO.ok (t:=s.heap.objs.size) (sl:=#[]) (by heap_get))
def my(M:XMk X.K C f)(F:yU X.prog X.w X.K X.mg X.base CX k f fd ps sp)(hr:jU (k+1) X.A)(hb:Binds X.K fd ps [])
  (hx:Passes CX X E) (I:Inv X pins σ H s) (r:Vals vs us) (hl:vs.length<=1000) (h:∀x,H x=none->sp (.ref x::vs) (upd H x (XO x C none .none)) (λv H2=>v=.non/\Q (.ref x) H2) E):
  wpAny (IW X) X.A (call (.ref C) us) (EP X pins σ Q) X.xe s:=by
 have hq:=h (s.heap.objs.size+1) (I.hok.fresh (T8 _));have I2:=Inv.FC (C:=C) (us:=us) I;have r2:Vals (V.ref (s.heap.objs.size+1)::vs) (Value.ref (s.heap.objs.size+1)::us):=.cons rfl r;have hl2:(Value.ref (s.heap.objs.size+1)::us++[]).length=ps.length:=by have e:=r2.length;rw[F.len _ _ _ _ hq]at e;rw[P0];exact e.symm
 have bd:=hb _ (Value.ref (s.heap.objs.size+1)::us) I2.kIn hl2;rw[P0]at bd;obtain⟨hh,g,d,tk,os⟩:=s;refine Fy M I.kIn (by rw[<- r.length,S0];omega) (a0w (F.run _ X.stack _ _ ⟨_::us,[]⟩ _ _ _ E (hr.make C us []) (I2.lX.make C us []) bd r2 hq) λr s' hq'=>?_);cases r with
 |error e=>exact hx pins σ _ _ e s' I2 hq'
 |ok fl=>
  cases fl with
  |ret u=>obtain⟨v,H',I3,rv,ev,q3⟩:=I2.after hq';subst ev;exact⟨rv,⟨V.ref (hh.objs.size+1),H',I3,rfl,q3⟩⟩
  |next=>exact False.elim hq'
  |brk=>exact False.elim hq'
  |cont=>exact False.elim hq'
def r9(M:XMk X.K C f)(F:yU X.prog X.w X.K X.mg X.base CX k f fd ps sp)(hr:jU (k+1) X.A)(hg:Gl X x)(hm:X.mg x=some (.ref C))(hb:Binds X.K fd ps [])(hx:Passes CX X E)
  (ha:PA X (e::es) t) (hdb:(x==("__debug__":Str))=false:=by decide) (he:starEach (e::es) X.env=(false,eval e X.env)::starEach es X.env:=by rfl) (hpl:(backTo pos (starEach es X.env)).any (·.1)=false:=by rfl):
  PE X (.Call (.Name x p) (e::es) [] pos) (CZ C sp E t):=by
 intro pins s σ H Q I h;refine a0d (Uk I hg hm ?_ hdb);refine a1f (h₀:=X.base) I.ok.mod.kin M.kp (thn (ha pos pins s σ H _ I h) λus s1 ⟨vs,H1,I1,r,hl,q⟩=>⟨I1.kIn,?_⟩) he hpl;exact my M F hr hb hx I1 r hl q
def FD(K:Il)(ta tv:TE)(f:Str):TS:=λD σ H=>tv σ H λy H1=>ta σ H1 λx H2=>∃e C T,x=.ref e/\YS K C/\takerIn K C f=some none/\
  ((H2 e=some (XO e C none T)/\∀dx,H2 dx=none->D.nx σ (upd (upd H2 dx (XD dx [(f,y)])) e (XO e C (some dx) T)))\/
   (∃dx fs,H2 e=some (XO e C (some dx) T)/\H2 dx=some (XD dx fs)/\dx≠e/\fs.length<1000/\D.nx σ (upd H2 dx (XD dx (JZ f y fs)))))
section
variable {X:Cx}{o value:HY}{f:Str}{pos pos':Pos}{ta tv:TE}
def vv(ha:PE X o ta)(hv:PE X value tv)(hs:swapsWith value (some (.Attribute o f pos')) pos.line X.env=pure false):PS X (.Assign [.Attribute o f pos'] value pos) (FD X.K ta tv f):=by
 intro pins s σ H D I h;refine a1u (thn (hv pins s σ H _ I h) λu s1 ⟨y,H1,I1,ry,q⟩=>thn (ha pins s1 σ H1 _ I1 q) λov s2 ⟨x,H2,I2,rx,e,C,T,ex,c,tk,q2⟩=>?_) hs;subst ex;obtain rfl:ov=Value.ref e:=rx;rcases q2 with⟨he,q2⟩|⟨dx,fs,he,hd,ne,l,q2⟩
 .obtain⟨t,sl,hx⟩:=XO.get (I2.hok e _ he);have hne:s2.heap.objs.size≠e:=a0a (L7 hx);have hfr:H2 s2.heap.objs.size=none:=I2.hok.fresh (L5 _);refine ig I2.kIn c hx tk λh' hx' hn' kp=>⟨σ,_,?_,q2 _ hfr⟩;have lt:∀b o,s2.heap.get? b=some o->b≠s2.heap.objs.size:=λb o q=>L9 (L7 q);have ltH:∀b o,H2 b=some o->b≠s2.heap.objs.size:=λb o q z=>by rw[z,hfr]at q;cases q
  refine I2.un (h':=h') (t':=s2.toks+2) ⟨λb o q n _ _=>kp b o (λz=>by rw[z,he]at n;cases n) q,λb o q n _ _=>⟨o.slots,kp b o (λz=>by rw[z,he]at n;cases n) q⟩,λb o q n _=>?_,λb o q _=>?_,λb xs q=>?_,λb o u q=>?_,λb ps q=>⟨#[],?_⟩⟩ λb ob q=>?_
  .rw[zi (λz=>by rw[z,he]at n;cases n),zi (lt b o q)];exact n
  .by_cases hb:b=e
   .exact⟨_,hb▸hx'⟩
   .exact⟨o,kp b o hb q⟩
  .rw[zi (λz=>by rw[z,he]at q;cases q),zi (ltH b _ q)];exact q
  .rw[zi (λz=>by rw[z,he]at q;cases q),zi (ltH b _ q)];exact q
  .rw[zi (λz=>by rw[z,he]at q;cases q),zi (ltH b _ q),q];simp
  .by_cases hb:b=e
   .subst hb;rw[zg]at q;cases q;exact XO.ok hx'
   .rw[zi hb]at q;by_cases hb2:b=s2.heap.objs.size
    .subst hb2;rw[zg]at q;cases q;refine XD.ok hn' (λg=>?_) (λg hg=>?_) (by show 1<=1000;decide)
     .show Vs (List.lookup g [(f,y)]) (if g=f then some u else none);by_cases z:g=f
      .subst z;rw[if_pos rfl];simp only[List.lookup,beq_self_eq_true];exact ry
      .rw[if_neg z];simp only[List.lookup,beq_eq_false_iff_ne.mpr z];exact True.intro
     .by_cases z:g=f
      .subst z;exact O0.mpr rfl
      .exact absurd (if_neg z) hg
    .rw[zi hb2]at q;refine(I2.hok b ob q).rA (λc v hc r=>kp c v ?_ r) (λc r=>?_) λc xs r=>?_
     .rcases hc with z|z
      .rw[z];exact hb
      .intro z2;rw[z2,he]at z;cases z
     .rw[zi (λz=>by rw[z,he]at r;cases r),zi (ltH c _ r)];exact r
     .rw[zi (λz=>by rw[z,he]at r;cases r),zi (ltH c _ r)];exact r
 .obtain⟨t,sl,hx⟩:=XO.get (I2.hok e _ he);obtain⟨mA,hn,r,wi,l1⟩:=XD.get (I2.hok dx _ hd);refine mr I2.kIn c hx hn ne tk wi (by rw[t0,S0];omega) λh' hn' sb=>⟨σ,_,?_,q2⟩;have hdx:∃u,h'.get? dx=some u:=let⟨o,_,_,e',_⟩:=hn';⟨o,e'⟩
  refine I2.write (x:=dx) (e:=dx) (t':=s2.toks+2) (by rw[hd];exact True.intro) (.inl rfl) (λb u hb z=>(sb.2 b hb).trans z) hdx (XD.ok hn' (λg=>?_) (λg hg=>?_) ?_)
  .show Vs ((JZ f y fs).lookup g) (if g=f then some u else mA g);rw[QC];by_cases q:g=f
   .rw[if_pos q,if_pos q];exact ry
   .rw[if_neg q,if_neg q];exact r g
  .by_cases q:g=f
   .rw[q];exact(Zz f y fs).1
   .refine(Zz f y fs).2 g (wi g λz=>hg ?_);show(if g=f then some u else mA g)=none;rw[if_neg q];exact z
  .have:=QD f y fs;omega
def FE(I:Inv X pins σ H s)(he:H e=some (XC e C dx)\/∃T,H e=some (XO e C (some dx) T)):∃t T sl,s.heap.get? e=some (yL C (some dx) t T sl):=by
 rcases he with he|⟨T,he⟩
 .exact XC.get (I.hok e _ he)
 .obtain⟨t,sl,h⟩:=XO.get (I.hok e _ he);exact⟨t,T,sl,h⟩
def C0(K:Il)(E:XK)(te:TE):TS:=λ_ σ H=>te σ H λv H1=>∃e C dx,v=.ref e/\YS K C/\H1 e=some (XO e C (some dx) .none)/\E (.ref e) (some dx) (upd H1 e (XC e C dx))
def r_(hh:X.calm=true)(he:PE (thr X E) e te):PS (thr X E) (.Raise (some e) none pos) (C0 X.K E te):=by
 intro pins s σ H D I h;rw[arm_exec_Raise];refine f8 (a06 ?_);show wpAny _ _ (raiseStmt X.env (some (do let v<-eval e X.env;standAt pos;pure v)) none) _ _ s;unfold raiseStmt;refine f8 (f8 (thn (he pins s σ H _ I h) λu s1 ⟨v,H1,I1,rv,a,C,dx,ev,c,hx,q⟩=>f8 (a06 (L6 ?_))));subst ev;obtain rfl:u=Value.ref a:=rv;obtain⟨t,sl,ho⟩:=XO.get (I1.hok a _ hx);obtain⟨cd,hcd,_⟩:=c.cd;have L0:Looks (IW X) s1.heap (typeOf (.ref a)) (.ref C):=(Looks.ld ho).andThen .now;have Lb:Looks (IW X) s1.heap (isSubtype (.ref C) (.type "BaseException")) true:=a2q I1.kIn (c.sub (x:="BaseException") (by decide));have LI:Looks (IW X) s1.heap (isInstance (.ref a) (.type "BaseException")) true:=L0.andThen Lb;have fin:(thr X E).xe (.ref a) s1:=⟨σ,H1,a,C,dx,rfl,(I1.YR.aG _).fj,⟨.none,hx,.inl rfl⟩,q⟩;have hd:(thr X E).A.handled=none:=I1.ok.hd hh;have LT:Looks (IW X) s1.heap (isType (.ref a)) false:=by intro A' Q' E' s' k q;unfold isType loadHead;exact f8 (a1j (k _ _ ho) (L6 q))
 have LE:Looks (IW X) s1.heap (isExcClass (.ref a)) false:=LT.andThen .now;refine f8 (L6 ?_);dsimp only;refine f8 (P7 ?_);unfold excFromValue;refine f8 (LE.here ?_);simp only[Bool.false_eq_true,if_false];refine f8 (LI.here ?_);simp only[if_true];refine L6 (f8 (LT.here ?_));simp only[Bool.false_eq_true,if_false];have LC:Looks (IW X) s1.heap (typeOf (.ref C)) (.type "type"):=looks_typeIn I1.kIn c.ty;have LR:Looks (IW X) s1.heap (raisedInstance (.ref a)) (.ref a):=by unfold raisedInstance;refine L0.andThen (LC.andThen ?_);rw[if_pos (by simp)];exact .now
 refine f8 (LR.here (f8 (rZ I1 hx ?_)));exact wpAny_raiseNew_none hd fin
end
def TyX(K:Il)(H:Hp)(x:V)(t:Value):Prop:=lb K H x t\/
 ∃e C dx fs,x=.ref e/\t=.ref C/\YS K C/\XIs K C/\(H e=some (XC e C dx)\/∃T,H e=some (XO e C (some dx) T))/\H dx=some (XD dx fs)
def FF:V->Option Value
 |.ref a=>some (.ref a)
 |.ty n=>some (.type n)
 |_=>none
def sf(r:RelV c u)(e:FF c=some v):u=v:=by
 cases c with
 |ref a=>cases e;exact r
 |ty n=>cases e;exact r
 |_=>cases e
def c5(I:Inv X pins σ H s)(rx:RelV x u)(ty:TyX X.K H x t):∃P,KitX X.K u t P/\P s.heap/\u≠.builtin "__main__.__loader__#opaque":=by
 rcases ty with ty|⟨e,C,dx,fs,rfl,rfl,c,z,he,hd⟩
 .cases ty with
  |non=>cases(show u=Value.none from rx);exact⟨_,kitx_none,True.intro,λz=>nomatch z⟩
  |bl y=>cases(show u=Value.bool y from rx);exact⟨_,kitx_bool,True.intro,λz=>nomatch z⟩
  |int i=>obtain⟨t,q⟩:=(show ∃t,u=Value.int i t from rx);cases q;exact⟨_,kitx_int,True.intro,λz=>nomatch z⟩
  |str y=>obtain⟨t,q⟩:=(show ∃t,u=Value.str y t from rx);cases q;exact⟨_,kitx_str,True.intro,λz=>nomatch z⟩
  |flt y=>obtain⟨t,q⟩:=(show ∃t,u=Value.float y t from rx);cases q;exact⟨_,kitx_float,True.intro,λz=>nomatch z⟩
  |@lst a xs ea=>cases(show u=Value.ref a from rx);obtain⟨_,_,n,_,h1⟩:=(show yC X.prog X.w H s.heap a (.lst xs)from I.hok a _ ea);exact⟨_,kitx_list,⟨_,h1,rfl⟩,λz=>nomatch z⟩
  |@frz a ob xs ea=>cases(show u=Value.ref a from rx);obtain⟨_,_,_,n,_,h1⟩:=(show yC X.prog X.w H s.heap a (.frz ob (.lst xs))from I.hok a _ ea);exact⟨_,kitx_list,⟨_,h1,rfl⟩,λz=>nomatch z⟩
  |@tup a xs ea=>cases(show u=Value.ref a from rx);obtain⟨_,_,_,p⟩:=(show yC X.prog X.w H s.heap a (.tup xs)from I.hok a _ ea);obtain⟨o,h1,h2,_⟩:=p;exact⟨_,kitx_tuple,⟨o,h1,h2⟩,λz=>nomatch z⟩
  |@dK a kvs ea=>cases(show u=Value.ref a from rx);obtain⟨_,_,vs,_,p⟩:=(show yC X.prog X.w H s.heap a (.dK kvs)from I.hok a _ ea);obtain⟨o,es,ep,h1,h2,_⟩:=p;exact⟨_,kitx_dict,⟨o,h1,h2.1⟩,λz=>nomatch z⟩
  |@dT a kvs ea=>cases(show u=Value.ref a from rx);obtain⟨_,_,xs,_,o,es,ep,h1,h2,_⟩:=(show yC X.prog X.w H s.heap a (.dT kvs)from I.hok a _ ea);exact⟨_,kitx_dict,⟨o,h1,h2.1⟩,λz=>nomatch z⟩
  |@ins a C dx fs ea cl ha hn htk hm=>cases(show u=Value.ref a from rx);obtain⟨mA,O,_⟩:=Um I.hok ea;obtain⟨od,J,_⟩:=O.look;exact⟨_,kitx_own (cl.get _) cl.hd ha hn htk hm,J,λz=>nomatch z⟩
 .cases(show u=Value.ref e from rx);obtain⟨t,T,sl,hx⟩:=FE I he;obtain⟨mA,hn,_⟩:=XD.get (I.hok dx _ hd);obtain⟨od,hod,_⟩:=VH hn;exact⟨_,r8 c z,⟨hx,rfl,rfl,hod⟩,λz=>nomatch z⟩
abbrev TEx:=St->Hp->VK->XK->Prop
section
variable {X:Cx}{k:Nat}{f C:Addr}{fd:Ii}{ps:HA}{sp:Sp}{x m:Str}{p pos qE:Pos}{e o:HY}{es:HL}{ta te:TE}{t:TA}
end
section
variable {X:Cx}{pins:Hz}{σ:St}{H:Hp}{s:HJ}{v:Value}
end
def si(i j:Int):Prop:=i.natAbs<2 ^ 8192/\j.natAbs<2 ^ 8192
def si.ok(h:si i j):IntMulOk i j:=IntMulOk.of_le (intBits_le_iff.mpr h.1) (intBits_le_iff.mpr h.2) (by decide)
def Ah:OpR X (binaryOp .Mult) (rI si λi j=>.int (i*j)):=opI λ_ _ _ _ _ _ _ hc q=>mul_int q hc.ok
section
variable {H:Hp}{Q:VK}{i j:Int}{x y:Str}{v:V}{o:Option V}{r:St}{n:Nat}
end
section
variable {K:Il}{C:Addr}{f g:Str}{E E':XK}{D:Ends}{σ:St}{H:Hp}{v u:V}{te tu:TE}
end
def zr.upd{H:Hp}{p:Addr}{o:HO}(h:H p=Option.none):zr H (upd H p o):=λb q e=>by rw[zi (ye e h)];exact e
def c6(cells:Im):List (Str×NameKind)->List (Str×Addr)->List (Str×Addr)
 |[],cs=>cs
 | (n,k)::r,cs=>c6 cells r (if k == .free then(match cells.lookup n with|some c=>(n,c)::cs|none=>cs)else cs)
def Kv{env:Env}:∀(names:Io)(cs:Im),(∀y∈names,y.2=.free->(env.cells.lookup y.1).isSome=true)->
  (forIn names cs λx r=>if(x.2==NameKind.free)=true then do let a<-cellOf env x.1;pure (ForInStep.yield ((x.1,a)::r))else pure (ForInStep.yield r))=(pure (c6 env.cells names cs):Sem _)
 |[],cs,_=>rfl
 | (n,k)::r,cs,h=>by
  rw[List.forIn_cons];have ih:=λcs=>Kv (env:=env) r cs λy hy=>h y (L8 _ hy);unfold c6;by_cases hk:(k==NameKind.free)=true
  .have hs:=h (n,k) L4 (O7.mp hk);obtain⟨c,hc⟩:=a0e.mp hs;have hc':List.lookup n env.cells=some c:=hc;simp only[hk,if_true,cellOf,hc',pure_bind];exact ih _
  .have hk':(k==NameKind.free)=false:=by simpa using hk
   simp only[hk',Bool.false_eq_true,if_false,pure_bind];exact ih _
def ik(h:∀y∈scope.names,y.2=.free->(env.cells.lookup y.1).isSome=true):closureFor scope env=pure (c6 env.cells scope.names []):=by have:=Kv scope.names [] h;simp only[closureFor];rw[this];rfl
def YC{cells:Im}{x:Str}{c:Addr}:∀(names:Io)(cs:Im),(∀d,cs.lookup x=some d->cells.lookup x=some d)->(c6 cells names cs).lookup x=some c->cells.lookup x=some c
 |[],cs,h,e=>h c e
 | (n,k)::r,cs,h,e=>by
  unfold c6 at e;refine YC r _ (λd hd=>?_) e;by_cases hk:(k==NameKind.free)=true
  .rw[if_pos hk]at hd;split at hd
   .rename_i c' hc';rw[O9]at hd;split at hd
    .rename_i hx;cases hd;rw[O7.mp hx];exact hc'
    .exact h d hd
   .exact h d hd
  .rw[if_neg hk]at hd;exact h d hd
def Uv{cells:Im}{x:Str}:∀(names:Io)(cs:Im),((cs.lookup x).isSome=true\/((x,NameKind.free)∈names/\(cells.lookup x).isSome=true))->((c6 cells names cs).lookup x).isSome=true
 |[],cs,h=>by
  rcases h with h|⟨h,_⟩
  .exact h
  .cases h
 | (n,k)::r,cs,h=>by
  unfold c6;refine Uv r _ ?_;rcases h with h|⟨h,hc⟩
  .left;by_cases hk:(k==NameKind.free)=true
   .rw[if_pos hk];split
    .rw[O9];split
     .rfl
     .exact h
    .exact h
   .rw[if_neg hk];exact h
  .rcases N4.mp h with e|e
   .left;cases e;rw[if_pos (by rfl)];obtain⟨c,hc⟩:=a0e.mp hc;rw[hc,O9];simp
   .exact .inr ⟨e,hc⟩
def Ai{x:Str}{c:Addr}:∀(names:Io)(h:Heap)(cs:Im),(cellsFrom h.objs.size names cs).lookup x=some c->cs.lookup x=some c\/(h.objs.size<=c/\∃v,(pushCells h names).IsCell c v)
 |[],_,_,e=>.inl e
 | (n,k)::r,h,cs,e=>by
  unfold cellsFrom at e;unfold pushCells;split at e
  .rename_i hk;rw[if_pos hk];have e':(cellsFrom (h.push { cls:=.type "cell",data:=.cell none }).objs.size r ((n,h.objs.size)::cs)).lookup x=some c:=by rw[a0i];exact e
   rcases Ai r _ _ e' with z|⟨z,v⟩
   .rw[O9]at z;split at z
    .cases z;exact .inr ⟨L5 _,none,_,a2n r _ _ _ (M7 _ rfl),rfl⟩
    .exact .inl z
   .rw[a0i]at z;exact .inr ⟨a1W z,v⟩
  .rename_i hk;rw[if_neg hk];exact Ai r h cs e
def mz:∀(names:Io)(lo:Nat)(cs:Im),(∀x y c,cs.lookup x=some c->cs.lookup y=some c->x=y)->(∀x c,cs.lookup x=some c->c<lo)->∀x y c,(cellsFrom lo names cs).lookup x=some c->(cellsFrom lo names cs).lookup y=some c->x=y
 |[],_,_,h,_=>h
 | (n,k)::r,lo,cs,h,hl=>by
  unfold cellsFrom;split
  .refine mz r _ _ (λx y c e1 e2=>?_) λx c e=>?_
   .rw[O9]at e1 e2;split at e1<;>split at e2
    .rename_i q1 _ q2;rw[O7.mp q1,O7.mp q2]
    .cases e1;exact absurd (hl _ _ e2) (T9 _)
    .cases e2;exact absurd (hl _ _ e1) (T9 _)
    .exact h x y c e1 e2
   .rw[O9]at e;split at e
    .cases e;exact a0r _
    .exact a0q (hl x c e)
  .exact mz r _ _ h hl
def mB{x:Str}:∀(names:Io)(lo:Nat)(cs:Im),((cs.lookup x).isSome=true\/(x,NameKind.cell)∈names)->((cellsFrom lo names cs).lookup x).isSome=true
 |[],_,_,h=>h.elim id λz=>nomatch z
 | (n,k)::r,lo,cs,h=>by
  unfold cellsFrom;split
  .refine mB r _ _ ?_;rcases h with h|h
   .left;rw[O9];split
    .rfl
    .exact h
   .rcases N4.mp h with e|e
    .cases e;left;rw[O9];simp
    .exact .inr e
  .rename_i hk;refine mB r _ _ (h.imp id λz=>?_);rcases N4.mp z with e|e
   .cases e;exact absurd rfl hk
   .exact e
def mD{x:Str}:∀(names:Io)(lo:Nat)(cs:Im),(x,NameKind.cell)∉names->(cellsFrom lo names cs).lookup x=cs.lookup x
 |[],_,_,_=>rfl
 | (n,k)::r,lo,cs,h=>by
  unfold cellsFrom;split
  .rename_i hk;rw[mD r _ _ λz=>h (L8 _ z),O9];have:(x==n)=false:=by
    cases q:x==n with
    |false=>rfl
    |true=>exact absurd (by rw[O7.mp q,O7.mp hk];exact L4) h
   rw[this]
  .exact mD r _ _ λz=>h (L8 _ z)
def mE{x:Str}{c:Addr}:∀(names:Io)(lo b:Nat)(cs:Im),b<=lo->((x,NameKind.cell)∈names\/∀d,cs.lookup x=some d->b<=d)->(cellsFrom lo names cs).lookup x=some c->b<=c
 |[],_,_,_,_,h,e=>h.elim (λz=>nomatch z) λz=>z c e
 | (n,k)::r,lo,b,cs,hb,h,e=>by
  unfold cellsFrom at e;split at e
  .refine mE r _ b _ (a1n hb) ?_ e;rcases h with h|h
   .rcases N4.mp h with z|z
    .cases z;refine .inr λd hd=>?_;rw[O9]at hd;simp at hd;rw[<- hd];exact hb
    .exact .inl z
   .refine .inr λd hd=>?_;rw[O9]at hd;split at hd
    .cases hd;exact hb
    .exact h d hd
  .rename_i hk;refine mE r _ b _ hb (h.imp (λz=>?_) id) e;rcases N4.mp z with q|q
   .cases q;exact absurd rfl hk
   .exact q
def il
  (h:Q (newEnv scope s.heap.objs.size globals (cellsFrom (s.heap.objs.size+1) scope.names cl) qual none .none (some env) builtinsNs) { s with heap:=pushCells (s.heap.push { cls:=.type "dict",data:=.dict #[] }) scope.names }):
  wpAny M A (newFunctionEnv scope globals cl [] qual none .none (some env)) Q E s:=by
 simp only[newFunctionEnv,Option.isSome_some,if_true];refine f8 (wpAny_alloc ?_);refine f8 (wpAny_layCells _ (λname kind cells=>by cases hkc:kind==NameKind.cell<;>simp[hkc]) _ _ _ _ ?_);rw[show({ s with heap:=s.heap.push { cls:=.type "dict",data:=.dict #[] } }:Shared).heap.objs.size=s.heap.objs.size+1 from a0i ..];refine f8 ?_;rw[List.forIn_nil];exact L6 (L6 h)
abbrev fm(scope:Scope)(cl:Im)(L:Addr)(env:Env):Env:={ compEnvC scope cl L env with cells:=cellsFrom (L+1) scope.names cl }
abbrev qd(X:Cx)(scope:Scope)(N:HA)(fp:Iy)(pn:Hz)(s:HJ)(H:Hp)(L:Addr):Cx:=
 { X with N:=N,s₀:=s,H₀:=H,env:=fm scope (c6 X.env.cells scope.names []) L X.env,outer:=X.stack,ex:=fp,fn:=λx=>scope.names.contains (x,.cell),pn:=pn,xe:=λ_ _=>False }
def p5(X:Cx)(scope:Scope)(N:HA)(fr:H_):Bool:=
 scope.kind == .function&&scope.names.all (λy=>y.2 != .cell || !scope.names.contains (y.1,.free))&&scope.names.all (λy=>y.2 != .local||scope.names.lookup y.1==some .local) &&
 scope.names.all (λy=>y.2 != .free||(X.env.kindOf y.1==some .cell||X.env.kindOf y.1==some .free))&&N.length==fr.length &&
 (N.zip fr).all λp=>match p.2 with|none=>true|some j=>X.N[j]?==some p.1&&scope.names.contains (p.1,.free)&&((relabel scope X.env).names.lookup p.1==some .cell||(relabel scope X.env).names.lookup p.1==some .free)
def p6(σ:St)(fr:H_):St:=fr.map λo=>match o with|none=>none|some j=>(σ[j]?).join
def PTs(X:Cx)(ifs:HL)(t:TT):Prop:=
 ∀(pins:Hz)(s:HJ)(σ:St)(H:Hp)(Q:Bool->Hp->Prop),Inv X pins σ H s->t σ H Q->
  wpAny (IW X) X.A (forIn ifs true λc r=>if r=true then do let ok<-isTrue c X.env (eval c X.env);pure (ForInStep.yield ok)else pure (ForInStep.yield r)) (TP X pins σ Q) X.xe s
def Hf:TT:=λ_ H Q=>Q true H
def Aj:PTs X [] Hf:=λ_ _ σ H _ I h=>wpAny_tests_nil ⟨H,I,h⟩
def Ak(h:PT X c t):PTs X [c] t:=λpins s σ H Q I q=>wpAny_tests_one (h pins s σ H Q I q)
def bc(h:(relabel scope env).names.lookup x=some .cell\/(relabel scope env).names.lookup x=some .free):(x,NameKind.free)∈scope.names\/(x,NameKind.cell)∈scope.names:=by
 have key:∀(names:Io) k,(names.map λ(n,k)=>if(k==NameKind.free&&env.scope.kind == .function&&env.kindOf n==some .cell)then(n,NameKind.cell)else(n,k)).lookup x=some k->(k=.cell\/k=.free)->(x,NameKind.free)∈names\/(x,NameKind.cell)∈names:=by
  intro names
  induction names with
  |nil=>intro k e _;simp at e
  |cons y r ih=>
   intro k e hk;obtain⟨n,kd⟩:=y;rw[M3,O9]at e;by_cases q:(kd==NameKind.free&&env.scope.kind == .function&&env.kindOf n==some .cell)=true
   .simp only[q,if_true]at e;split at e
    .rename_i hx;have hf:kd=.free:=by simp only[Bool.and_eq_true,beq_iff_eq]at q;exact q.1.1
     left;rw[O7.mp hx,hf];exact L4
    .exact(ih k e hk).imp (L8 _) (L8 _)
   .simp only[q,Bool.false_eq_true,if_false]at e;split at e
    .rename_i hx;have e':kd=k:=P5 e;rcases hk with z|z
     .right;rw[O7.mp hx,e',z];exact L4
     .left;rw[O7.mp hx,e',z];exact L4
    .exact(ih k e hk).imp (L8 _) (L8 _)
 rcases h with h|h
 .exact key _ _ h (.inl rfl)
 .exact key _ _ h (.inr rfl)
def c7(I:IS)
  (turn:∀n s,I n s->wpAny (model prog w) A (pyNext it) (λr s1=>match r with
   |none=>R (.ok .next) s1
   |some v=>wpAny (model prog w) A (letOwnedTupleGo target it v) (λ_ s1'=>wpAny (model prog w) A (assign target env v) (λ_ s2=>
     wpAny (model prog w) A (forIn ifs true λc r=>if r=true then do let ok<-isTrue c env (eval c env);pure (ForInStep.yield ok)else pure (ForInStep.yield r)) (λok s3=>
      if ok=true then wpAny (model prog w) A (eval elt env) (λx s4=>wpAny (model prog w) A (call (.builtin "list.append") [acc,x]) (λ_ s5=>∃m,m<n/\I m s5) (λ_ _=>False) s4) (λ_ _=>False) s3
      else ∃m,m<n/\I m s3) (λ_ _=>False) s2) (λ_ _=>False) s1') (λ_ _=>False) s1) (λ_ _=>False) s)
  (n:Nat) (h:I n s):codeAny (model prog w) A (.compLoop (.ListComp elt [⟨target,qR,ifs,0⟩] scope pos) 0 it acc env) R s:=by
 refine codeAny_loop rfl I (λn s hI=>?_) n h;show wpAny _ A ((compTurn (.ListComp elt [⟨target,qR,ifs,0⟩] scope pos) 0 it acc env).onRaise (λx=>do noteFrame x env;theTreesLotGoes x)) _ _ s;refine wpAny_noted ?_;rw[compTurn_list];refine f8 (a06 (f8 (S7 (turn n s hI) (λr s1 h1=>?_) λ_ _ z=>False.elim z)));cases r with
 |none=>exact L6 h1
 |some v=>
  refine f8 (S7 h1 (λ_ s1' h1'=>f8 (S7 h1' (λ_ s2 h2=>f8 (S7 h2 (λok s3 h3=>?_) λ_ _ z=>False.elim z)) λ_ _ z=>False.elim z)) λ_ _ z=>False.elim z);cases ok with
  |false=>exact L6 ⟨rfl,h3⟩
  |true=>exact f8 (f8 (S7 h3 (λx s4 h4=>f8 (S7 h4 (λ_ s5 h5=>L6 (L6 ⟨rfl,h5⟩)) λ_ _ z=>False.elim z)) λ_ _ z=>False.elim z))
def ip{X:Cx}{pins:Hz}{σ:St}{H2:Hp}{s2:HJ}{elt qR tg:HY}{ifs:HL}{scope:Scope}{pos:Pos}{N:HA}{fr:H_}{it:Addr}{fp:Iy}{tn:Nat->Heap->Prop}{J:It}
  {E:HB}{RR:Value->Addr->Result->Shared->Prop}
  (hc:X.calm=true) (hok:p5 X scope N fr=true) (I2:Inv X pins σ H2 s2) (T:Turn X.prog X.w X.K tg J fp it tn) (st:tn 0 s2.heap) (f2:∀b∈fp,pZ X pins H2 b)
  (k:∀(s3:HJ)(h1:Heap),Inv X pins σ (upd H2 s2.heap.objs.size (.lst [])) s3->Inv (qd X scope N fp (X.pn++pins) s3 (upd H2 s2.heap.objs.size (.lst [])) s3.heap.objs.size) [] (p6 σ fr) (upd H2 s2.heap.objs.size (.lst [])) { s3 with heap:=h1,toks:=s3.toks+0 }->(∀b o,s2.heap.get? b=some o->h1.get? b=some o)->(∀b∈fp,(upd H2 s2.heap.objs.size (.lst [])) b=none)->(∀H':Hp,(∀b∈fp,H' b=none)->∀b∈fp,pZ (qd X scope N fp (X.pn++pins) s3 (upd H2 s2.heap.objs.size (.lst [])) s3.heap.objs.size) [] H' b)->
   codeAny (IW X) X.A (.compLoop (.ListComp elt [⟨tg,qR,ifs,0⟩] scope pos) 0 (.ref it) (.ref s2.heap.objs.size) (fm scope (c6 X.env.cells scope.names []) s3.heap.objs.size X.env)) (RR (.ref s2.heap.objs.size) s3.heap.objs.size) { s3 with heap:=h1,toks:=s3.toks+0 }):
  wpAny (IW X) X.A (newList []) (λacc s3=>wpAny (IW X) X.A (newFunctionEnv scope X.env.globals (c6 X.env.cells scope.names []) [] X.env.qual none .none (some X.env)) (λcenv s4=>
   codeAny (IW X) X.A (.compStart (.ListComp elt [⟨tg,qR,ifs,0⟩] scope pos) 0 (.ref it) acc { cenv with scope:=relabel scope X.env }) (RR acc cenv.locals) s4) E s3) E s2:=by
 unfold p5 at hok;simp only[Bool.and_eq_true,beq_iff_eq,List.all_eq_true]at hok;obtain⟨⟨⟨⟨⟨k1,k2⟩,k3⟩,k4⟩,k5⟩,k6⟩:=hok;have hcf:∀x,(x,NameKind.free)∈scope.names->(x,NameKind.cell)∉scope.names:=λx hf hc'=>by have:=k2 _ hc';simp only[bne_self_eq_false,Bool.false_or,Bool.not_eq_true',List.contains_eq_mem,decide_eq_false_iff_not]at this;exact this hf
 refine a0X ?_;have I3:Inv X pins σ (upd H2 s2.heap.objs.size (.lst [])) { s2 with heap:=s2.heap.push { cls:=.type "list",data:=.seq ([]:List Value).toArray } }:=I2.Fp (ys:=[]) (its:=[]) (t':=s2.toks) .nil (P1 _);refine il ?_;generalize hs3:({ s2 with heap:=s2.heap.push { cls:=.type "list",data:=.seq ([]:List Value).toArray } }:Shared)=s3 at I3 ⊢;have hns1:=(Heap.Ns.new s3.heap (.type "dict")).keeps (a2n scope.names _);have kp1:∀b o,s3.heap.get? b=some o->(pushCells (s3.heap.push { cls:=.type "dict",data:=.dict #[] }) scope.names).get? b=some o:=λb o e=>a2n _ _ b o (u8 _ e);have cor:∀x c,(cellsFrom (s3.heap.objs.size+1) scope.names (c6 X.env.cells scope.names [])).lookup x=some c->X.env.cells.lookup x=some c\/(s3.heap.objs.size+1<=c/\∃v,(pushCells (s3.heap.push { cls:=.type "dict",data:=.dict #[] }) scope.names).IsCell c v):=λx c e=>by have:=Ai (x:=x) (c:=c) scope.names (s3.heap.push { cls:=.type "dict",data:=.dict #[] }) (c6 X.env.cells scope.names []) (by rw[a0i];exact e);rw[a0i]at this;exact this.imp (YC _ [] λ_ z=>by simp at z) id
 generalize hh1:pushCells (s3.heap.push { cls:=.type "dict",data:=.dict #[] }) scope.names=h1 at hns1 kp1 cor ⊢;have kp0:∀b o,s2.heap.get? b=some o->s3.heap.get? b=some o:=λb o e=>by rw[<- hs3];exact u8 _ e
 have fp3:∀b∈fp,b<s3.heap.objs.size/\(upd H2 s2.heap.objs.size (.lst [])) b=none:=λb hb=>by obtain⟨o,ho,_⟩:=T.obj _ _ st b hb;refine⟨L7 (kp0 _ _ ho),?_⟩;rw[zi (L9 (L7 ho))];exact(f2 b hb).1
 have okc:(qd X scope N fp (X.pn++pins) s3 (upd H2 s2.heap.objs.size (.lst [])) s3.heap.objs.size).Ok:=by
  refine⟨I3.ok.mod,k1,I3.ok.glob,I3.ok.blt,L5 _,mz _ _ _ (λx y c e1 e2=>I3.ok.inj x y c (YC _ [] (λ_ z=>by simp at z) e1) (YC _ [] (λ_ z=>by simp at z) e2)) (λx c e=>?_),λx hx=>?_,λx c z e=>?_,λ_=>I3.ok.hd hc,I3.ok.frames,.inl rfl,
   λb hb=>⟨L9 (fp3 b hb).1,λx c e=>?_⟩,I3.bs,O5 I3.ok.bsz I3.sz,λb o e hb=>?_,λb hb z=>?_,I3.stack,I3.Ui⟩
  .obtain⟨v,hv⟩:=I3.cell x c (YC _ [] (λ_ z=>by simp at z) e);exact a0q hv.lt
  .refine a0e.mp (mB _ _ _ ?_);rcases bc hx with hf|hf
   .have hk:=k4 _ hf;simp only[bne_self_eq_false,Bool.false_or,Bool.or_eq_true,beq_iff_eq]at hk;obtain⟨c,hcx⟩:=I3.ok.has x hk;exact .inl (Uv _ [] (.inr ⟨hf,by rw[hcx];rfl⟩))
   .exact .inr hf
  .exact mE scope.names (s3.heap.objs.size+1) s3.heap.objs.size _ (T8 _) (.inl (List.contains_iff_mem.mp z)) e
  .rcases cor x c e with z|⟨z,_⟩
   .exact(f2 b hb).2.2.2.2.1 x c z
   .exact λq=>absurd (a0S (a1W z) (show c<s3.heap.objs.size by rw[q];exact(fp3 b hb).1)) (T9 _)
  .rcases(f2 b hb).2.2.2.1 with z|z
   .exact I2.ok.EA b o e z
   .have:=L7 e;exact absurd (N5 this I2.ok.bsz) (Nat.not_lt.mpr z)
  .rcases N4.mp (I3.XI b z)with z|z
   .exact(f2 b hb).2.1 z
   .exact(f2 b hb).2.2.1 z
 have lenN:(p6 σ fr).length=N.length:=by unfold p6;rw[t0];exact k5.symm
 have J0:Inv (qd X scope N fp (X.pn++pins) s3 (upd H2 s2.heap.objs.size (.lst [])) s3.heap.objs.size) [] (p6 σ fr) (upd H2 s2.heap.objs.size (.lst [])) { s3 with heap:=h1,toks:=s3.toks+0 }:=by
  have I4:=I3.kept (h':=h1) (t':=s3.toks+0) kp1;refine⟨okc,rfl,I3.bare,Un.kept kp1,⟨_,hns1,λi x v e1 e2 _=>?_⟩,λx c e=>(cor x c e).elim (I4.cell x c) λz=>z.2,I3.hok.fresh (L5 _),λx c e=>(cor x c e).elim (I4.Vk x c) λz=>I3.hok.fresh (a1W z.1),λp hp=>?_,I4.hok,lenN⟩
  .unfold p6 at e2;rw[N7]at e2;cases hfi:fr[i]? with
   |none=>rw[hfi]at e2;cases e2
   |some o=>
    rw[hfi]at e2;cases o with
    |none=>cases e2
    |some j=>
     have e3:(σ[j]?).join=some v:=P5 e2;have hm:(x,some j)∈N.zip fr:=by refine a00 (i:=i) ?_;rw[List.getElem?_zip_eq_some];exact⟨e1,hfi⟩
     have hk:=k6 _ hm;simp only[Bool.and_eq_true,Bool.or_eq_true,beq_iff_eq,List.contains_iff_mem]at hk;obtain⟨⟨g1,g2⟩,g3⟩:=hk;have hσ:σ[j]?=some (some v):=by
      cases q:σ[j]? with
      |none=>rw[q]at e3;cases e3
      |some w=>rw[q]at e3;cases w with
       |none=>cases e3
       |some w=>cases e3;rfl
     have hkx:=k4 _ g2;simp only[bne_self_eq_false,Bool.false_or,Bool.or_eq_true,beq_iff_eq]at hkx;obtain⟨m,_,hl⟩:=I4.loc;obtain⟨u,ru,lk⟩:=hl j x v g1 hσ (by rcases hkx with z|z;exact .inr (.inl z);exact .inr (.inr z));refine⟨u,ru,.inr ⟨g3,?_⟩⟩;rcases lk with⟨z,_⟩|⟨_,c,ec,z⟩
     .rcases hkx with q|q<;>(rw[z]at q;cases q)
     .obtain⟨c',hc'⟩:=a0e.mp (Uv (cells:=X.env.cells) (x:=x) scope.names [] (.inr ⟨g2,by rw[ec];rfl⟩));have:=YC _ [] (λ_ z=>by simp at z) hc';rw[ec]at this;cases this;exact⟨c,(mD _ _ _ (hcf x g2)).trans hc',z⟩
  .have hp':p∈X.pn++pins:=by rw[P0]at hp;exact hp
   obtain⟨q1,q2,q3,q4,q5⟩:=I4.pin p hp';refine⟨q1,q2,L9 (L7 (I3.pin p hp').1),λz=>?_,q5⟩;rcases N4.mp (I3.XI _ z)with z|z
   .exact q3 z
   .exact q4 z
 have stat:∀{H':Hp},(∀b∈fp,H' b=none)->∀b∈fp,pZ (qd X scope N fp (X.pn++pins) s3 (upd H2 s2.heap.objs.size (.lst [])) s3.heap.objs.size) [] H' b:=λhn b hb=>
  ⟨hn b hb,(okc.exf b hb).1,λz=>okc.EB b hb z,.inl hb,(okc.exf b hb).2,λp hp=>by rw[P0]at hp;exact(f2 b hb).2.2.2.2.2 p hp⟩
 have loop:=k s3 h1 I3 J0 (λb o e=>kp1 b o (kp0 b o e)) (λb hb=>(fp3 b hb).2) (λ_ hn=>stat hn);exact codeAny_compStart_list loop (T.self _ 0 _ _ _ (T.keep _ _ _ st λb _ o e=>kp1 b o (kp0 b o e)) loop)
def fo{X:Cx}{pins:Hz}{σ:St}{H2:Hp}{s2:HJ}{elt qR tg:HY}{ifs:HL}{scope:Scope}{pos:Pos}{N:HA}{fr:H_}{g:TG}{tc:TT}{te:TE}{it:Addr}{fp:Iy}{tn:Nat->Heap->Prop}{J:It}
  {E:HB}{RR:Value->Addr->Result->Shared->Prop}{Q:VK}
  (hc:X.calm=true) (hok:p5 X scope N fr=true) (I2:Inv X pins σ H2 s2) (T:Turn X.prog X.w X.K tg J fp it tn) (st:tn 0 s2.heap) (f2:∀b∈fp,pZ X pins H2 b)
  (hg:∀fp pn s H L,PG (qd X scope N fp pn s H L) tg g) (hi:∀fp pn s H L,PTs (qd X scope N fp pn s H L) ifs tc) (he:∀fp pn s H L,PE (qd X scope N fp pn s H L) elt te)
  (h:∀acc,H2 acc=none->∃W:Nat->Nat->St->Hp->Prop,(∃m,W 0 m (p6 σ fr) (upd H2 acc (.lst [])))/\∀i m σ' H',W i m σ' H'->
   (J.stop i H'/\Q (.ref acc) H')\/(J.go i H'/\∃N:St->Hp->Prop,(∀σ' H',N σ' H'->∃m',m'<m/\W (i+1) m' σ' H')/\∀x H3,J.yld i H' x H3->g x σ' H3 λσ4 H4=>tc σ4 H4 λb H5=>
    if b=true then te σ4 H5 λv H6=>∃ys,H6 acc=some (.lst ys)/\ys.length<sizeLine/\N σ4 (upd H6 acc (.lst (ys++[v])))else N σ4 H5))
  (hRR:∀acc C m s' H',Inv X pins σ H' s'->s'.heap.Ns C m->X.s₀.heap.objs.size<=C->H' C=none->C≠X.env.locals->(∀x c,X.env.cells.lookup x=some c->c≠C)->(∀p∈X.pn++pins,p.1≠C)->Q (.ref acc) H'->RR (.ref acc) C (.ok .next) s'):
  wpAny (IW X) X.A (newList []) (λacc s3=>wpAny (IW X) X.A (newFunctionEnv scope X.env.globals (c6 X.env.cells scope.names []) [] X.env.qual none .none (some X.env)) (λcenv s4=>
   codeAny (IW X) X.A (.compStart (.ListComp elt [⟨tg,qR,ifs,0⟩] scope pos) 0 (.ref it) acc { cenv with scope:=relabel scope X.env }) (RR acc cenv.locals) s4) E s3) E s2:=by
 have hDf:H2 s2.heap.objs.size=none:=I2.hok.fresh (L5 _);obtain⟨W,⟨m0,w0⟩,turn⟩:=h _ hDf;refine ip hc hok I2 T st f2 λs3 h1 I3 J0 kp fpn stat=>?_;have hcc:(qd X scope N fp (X.pn++pins) s3 (upd H2 s2.heap.objs.size (.lst [])) s3.heap.objs.size).calm=true:=hc;refine c7 (λn s'=>∃i σ' H',Inv (qd X scope N fp (X.pn++pins) s3 (upd H2 s2.heap.objs.size (.lst [])) s3.heap.objs.size) [] σ' H' s'/\tn i s'.heap/\(∀b∈fp,H' b=none)/\W i n σ' H') ?_ m0
  ⟨0,_,_,J0,T.keep _ _ _ st λb _ o e=>kp b o e,fpn,w0⟩
 rintro n s5 ⟨i,σ5,H5,I5,st5,fr5,w5⟩
 rcases turn i n σ5 H5 w5 with⟨stop,qn⟩|⟨go,NN,hNN,step⟩
 .refine thn (T.done (qd X scope N fp (X.pn++pins) s3 (upd H2 s2.heap.objs.size (.lst [])) s3.heap.objs.size) rfl rfl rfl hcc i [] s5 σ5 H5 _ I5 (stat _ fr5) st5 stop) λr s6 ⟨hr,I6⟩=>?_;subst hr;have I7:Inv X pins σ H5 s6:=I3.Cf (ch:=fp) I6.os I6.base I6.hok I6.bare λb hb=>⟨(f2 b hb).2.2.2.1,(f2 b hb).2.1,(f2 b hb).2.2.2.2.1,(f2 b hb).2.2.2.2.2⟩;obtain⟨mm,hmm,_⟩:=I6.loc;refine hRR _ _ mm s6 H5 I7 hmm I3.sz I6.free (a0a I3.lt) (λx c e z=>?_) (λp hp z=>?_) qn
  .obtain⟨v,hv⟩:=I3.cell x c e;exact absurd hv.lt (by rw[z];exact T9 _)
  .exact absurd (L7 (I3.pin p hp).1) (by rw[z];exact T9 _)
 .refine thn (T.item (qd X scope N fp (X.pn++pins) s3 (upd H2 s2.heap.objs.size (.lst [])) s3.heap.objs.size) rfl rfl rfl hcc i [] s5 σ5 H5 _ I5 (stat _ fr5) st5 go) λr s6 ⟨u,hr,h6⟩=>?_;subst hr;refine thn h6 λ_ s7 ⟨x,H7,I7,r7,y7,st7,fr7⟩=>?_;have I7':=I7.pinned (stat _ fr7) (T.obj _ _ st7);have again:∀{σ9:St}{H9:Hp}{s9:HJ},Inv (qd X scope N fp (X.pn++pins) s3 (upd H2 s2.heap.objs.size (.lst [])) s3.heap.objs.size) ([]++aH fp s7.heap) σ9 H9 s9->NN σ9 H9->
    ∃m,m<n/\∃i σ' H',Inv (qd X scope N fp (X.pn++pins) s3 (upd H2 s2.heap.objs.size (.lst [])) s3.heap.objs.size) [] σ' H' s9/\tn i s9.heap/\(∀b∈fp,H' b=none)/\W i m σ' H':=λ{σ9 H9 s9} I9 n9=>by
   obtain⟨m',hm,w9⟩:=hNN σ9 H9 n9;refine⟨m',hm,i+1,σ9,H9,I9.kQ,T.keep _ _ _ st7 λb hb o e=>(I9.pin (b,o) (O2 _ (O2 _ (YB hb e)))).1,λb hb=>?_,w9⟩;obtain⟨o,e,d⟩:=T.obj _ _ st7 b hb;exact(I9.pin (b,o) (O2 _ (O2 _ (YB hb e)))).2.1
  refine thn (hg _ _ _ _ _ _ s7 σ5 H7 x u _ I7' r7 (step x H7 y7)) λ_ s8 ⟨σ8,H8,I8,q8⟩=>?_;refine thn (hi _ _ _ _ _ _ s8 σ8 H8 _ I8 q8) λok s9 ⟨H9,I9,q9⟩=>?_;cases ok with
  |false=>rw[if_neg (by decide)]at q9 ⊢;exact again I9 q9
  |true=>rw[if_pos rfl]at q9 ⊢;refine thn (he _ _ _ _ _ _ s9 σ8 H9 _ I9 q9) λy s10 ⟨v,H10,I10,r10,ys,h10,l10,q10⟩=>?_;refine thn (aW (X:=qd X scope N fp (X.pn++pins) s3 (upd H2 s2.heap.objs.size (.lst [])) s3.heap.objs.size) _ s10 σ8 H10 (.ref s2.heap.objs.size) [v] (.ref s2.heap.objs.size) [y] (λ_ H11=>NN σ8 H11) I10 rfl (.cons r10 .nil) ⟨_,ys,v,rfl,rfl,h10,l10,q10⟩) λ_ s11 ⟨_,H11,I11,_,q11⟩=>?_;exact again I11 q11
def tLC(wi:TI)(g:TG)(tc:TT)(te:TE)(fr:H_):TE:=λσ H Q=>wi σ H λJ H1=>∀acc,H1 acc=none->∃W:Nat->Nat->St->Hp->Prop,(∃m,W 0 m (p6 σ fr) (upd H1 acc (.lst [])))/\∀i m σ' H',W i m σ' H'->
 (J.stop i H'/\Q (.ref acc) H')\/(J.go i H'/\∃N:St->Hp->Prop,(∀σ' H',N σ' H'->∃m',m'<m/\W (i+1) m' σ' H')/\∀x H3,J.yld i H' x H3->g x σ' H3 λσ4 H4=>tc σ4 H4 λb H5=>
  if b=true then te σ4 H5 λv H6=>∃ys,H6 acc=some (.lst ys)/\ys.length<sizeLine/\N σ4 (upd H6 acc (.lst (ys++[v])))else N σ4 H5)
def fq{X:Cx}{pins:Hz}{σ:St}{H:Hp}{s:HJ}{scope:Scope}{N:HA}{fr:H_}(hok:p5 X scope N fr=true)(I:Inv X pins σ H s):
  scope.kind=.function/\(∀y∈scope.names,y.2=.local->scope.names.lookup y.1=some .local)/\closureFor scope X.env=pure (c6 X.env.cells scope.names []):=by
 unfold p5 at hok;simp only[Bool.and_eq_true,beq_iff_eq,List.all_eq_true]at hok;obtain⟨⟨⟨⟨⟨k1,k2⟩,k3⟩,k4⟩,k5⟩,k6⟩:=hok;refine⟨k1,λy hy z=>?_,ik λy hy z=>?_⟩
 .have:=k3 y hy;rw[z]at this;simpa using this
 .have hk:=k4 y hy;rw[z]at hk;simp only[bne_self_eq_false,Bool.false_or,Bool.or_eq_true,beq_iff_eq]at hk;obtain⟨c,hcx⟩:=I.ok.has y.1 hk;rw[hcx];rfl
def C1(N:HA)(fr:H_)(hc:X.calm=true)(hok:p5 X scope N fr=true)(hi:PI X tg qR wi)(hg:∀fp pn s H L,PG (qd X scope N fp pn s H L) tg g)(ht:∀fp pn s H L,PTs (qd X scope N fp pn s H L) ifs tc)(he:∀fp pn s H L,PE (qd X scope N fp pn s H L) elt te)
  (hs:∀x,foldedSetIterable qR X.env x=pure x:=by intro _;rfl):PE X (.ListComp elt [⟨tg,qR,ifs,0⟩] scope pos) (tLC wi g tc te fr):=by
 intro pins s σ H Q I h;obtain⟨k1,k3,hcl⟩:=fq hok I;rw[eval_ListComp];refine a17 (use:=none) rfl hs hcl k1 k3 (thn (hi pins s σ H _ I h) λv s1 h1=>thn h1 λitv s2 h2=>?_);obtain⟨it,fp,tn,J,H2,e,I2,T,st2,f2,hr⟩:=h2;subst e;refine fo (Q:=Q) (RR:=λacc C=>compPost (IW X) X.A X.xe none (EP X pins σ Q) acc C) hc hok I2 T st2 f2 hg ht he hr λacc C m s' H' I' hn h1 h2 h3 h4 h5 q=>?_;exact⟨m,hn,λh' sb=>⟨.ref acc,H',I'.turned (t':=s'.toks) (λb o hb e=>(sb.2 b hb).trans e) h2 h3 (.inr h1) h4 h5,rfl,q⟩⟩
def FG(N:HA)(fr:H_)(hN:X.N.Nodup)(hy:X.N[i]?=some y)(hl:X.env.scope.names.lookup y=some .local)(hc:X.calm=true)(hok:p5 X scope N fr=true)(hi:PI X tg qR wi)(hg:∀fp pn s H L,PG (qd X scope N fp pn s H L) tg g)
  (ht:∀fp pn s H L,PTs (qd X scope N fp pn s H L) ifs tc) (he:∀fp pn s H L,PE (qd X scope N fp pn s H L) elt te) (hsw:swapsWith (.ListComp elt [⟨tg,qR,ifs,0⟩] scope pos) (some (.Name y py)) pY.line X.env=pure true:=by rfl)
  (hs:∀x,foldedSetIterable qR X.env x=pure x:=by intro _;rfl):PS X (.Assign [.Name y py] (.ListComp elt [⟨tg,qR,ifs,0⟩] scope pos) pY) (Cr (tLC wi g tc te fr) (g_ i)):=by
 intro pins s σ H D I h;obtain⟨k1,k3,hcl⟩:=fq hok I;rw[exec_Assign_Name_used _ _ _ _ hsw];refine f8 (a06 (f8 ?_));show wpAny _ X.A (do let _<-comprehension (.ListComp elt [⟨tg,qR,ifs,0⟩] scope pos) scope X.env _ (newList []) false (eval qR X.env) (some (assign (.Name y py) X.env))) _ _ s;refine f8 (S7 (a17 (use:=some (assign (.Name y py) X.env)) (Q:=λ_ s'=>SP X pins D .next s') rfl hs hcl k1 k3
  (thn (hi pins s σ H _ I h) λv s1 h1=>thn h1 λitv s2 h2=>?_)) (λ_ s' hq=>L6 (L6 hq)) λ_ _ z=>z)
 obtain⟨it,fp,tn,J,H2,e,I2,T,st2,f2,hr⟩:=h2;subst e;refine fo (Q:=λv H1=>g_ i v σ H1 D.nx) (RR:=λacc C=>compPost (IW X) X.A X.xe (some (assign (.Name y py) X.env)) (λ_ s'=>SP X pins D .next s') acc C) hc hok I2 T st2 f2 hg ht he hr λacc C m s' H' I' hn h1 h2 h3 h4 h5 q=>?_;show wpAny _ X.A (assign (.Name y py) X.env (.ref acc)) _ _ _;refine wpAny_assign_Name (aE (v:=.ref acc) I' hN hy (.inl hl) rfl (λs'' I'' ⟨a,sb,ha⟩=>?_) (.inr hl));have nea:C≠a:=λz=>by
  rcases ha with e|e
  .exact h3 (z.trans e)
  .exact h4 y a e z.symm
 obtain⟨o,es,ep,ho,rr⟩:=id hn;refine⟨m,⟨o,es,ep,(sb.2 C nea).trans ho,rr⟩,λh' sb'=>⟨_,H',I''.turned (t':=s''.toks) (λb o hb e=>(sb'.2 b hb).trans e) h2 h3 (.inr h1) h4 h5,q⟩⟩
section
variable {X:Cx}
def Hg:V->Option Int->Option Int->Hp->VK->Prop:=λx lo hi H Q=>∃z,x=.str z/\z.length<=sizeLine/\Q (.str (Txt.slice z lo hi)) H
def C2:SlR X Hg:=by
 intro pins s σ H x v vl vu lo hi sl Q I rx hs pl pu h;obtain⟨z,rfl,hz,q⟩:=h;obtain⟨t,rfl⟩:=rx;have part:∀{a:Value}{o:IF},IsPart a o->∃p:Option (Int×Tok),a=partValue p/\p.map (·.1)=o:=by
  intro a o h;cases h
  .exact⟨none,rfl,rfl⟩
  .exact⟨some (_,_),rfl,rfl⟩
 obtain⟨p1,rfl,rfl⟩:=part pl;obtain⟨p2,rfl,rfl⟩:=part pu;refine⟨"str",_,F.slot_str_getitem.lookup,typeIs_str _ _ _,wpAny_getItem_str_slice (l:=p1) (u:=p2) (st:=none) ?_ rfl ?_⟩
 .exact hs
 .exact post_val_or_str ⟨O5 (Txt.slice_le z _ _) hz,λt' k=>⟨.str _,H,I.tok _,⟨t',rfl⟩,q⟩⟩
def rJoin(K:Il):V->List V->Hp->VK->Prop:=λx vs H Q=>∃sep p ys,x=.str sep/\vs=[.ref p]/\SqL K H p (ys.map V.str)/\(ys.map (·.length)).sum+ys.length*sep.length<=16777216/\Q (.str (Txt.join sep ys)) H
def mF:∀{ys:HA}{us:HK},Vals (ys.map V.str) us->StrsAre us ys
 |[],_,.nil=>.nil
 |y::ys,_,.cons ⟨t,e⟩ r=>by subst e;exact .cons y t (mF r)
def Al:MtM X "str.join" (rJoin X.K):=by intro pins s σ H x vs v us Q I rx rv h;obtain⟨sep,p,ys,rfl,rfl,hS,hl,q⟩:=h;obtain⟨t,rfl⟩:=rx;obtain⟨u,rfl,ru⟩:=rv.one;cases ru;obtain⟨its,r,pl,_⟩:=I.list hS;exact join_list pl.isList (mF r) hl λt' k=>⟨.str _,H,I.tok _,⟨t',rfl⟩,q⟩
end
def Its(x:Str):It:=⟨λi _=>i<x.cps.size,λi H v H'=>H'=H/\∃c,x.cps[i]?=some c/\v=.str ⟨#[c]⟩,λi _=>x.cps.size<=i⟩
def Am(it:Addr)(x:Str)(i:Nat)(h:Heap):Prop:=∃t,h.IsStrIter it "str_ascii_iterator" x t i\/h.IsStrIter it "str_iterator" x t i
def sj{P:HZ}{w:Ie}{K:Il}{y:Str}{py:Pos}(it:Addr)(x:Str):Turn P w K (.Name y py) (Its x) [it] it (λi h=>i<=x.cps.size/\Am it x i h)where
 mem:=by simp
 obj:=λi h st b hb=>by
  obtain rfl:b=it:=by simpa using hb
  obtain⟨_,t,⟨o,e,_,d⟩|⟨o,e,_,d⟩⟩:=st<;>exact⟨o,e,λv z=>by rw[d]at z;cases z⟩
 keep:=λi h h' st k=>by
  obtain⟨hi,t,⟨o,e,r⟩|⟨o,e,r⟩⟩:=st
  .exact⟨hi,t,.inl ⟨o,k it (by simp) o e,r⟩⟩
  .exact⟨hi,t,.inr ⟨o,k it (by simp) o e,r⟩⟩
 item:=by
  intro X hP hw hK hc i pins s σ H E I hf st hg;subst hP hw hK;have hg':i<x.cps.size:=hg;have hx:x.cps[i]?=some x.cps[i]:=Array.getElem?_eq_getElem hg';obtain⟨f0,f1,f2,f3,f4,f5⟩:=hf it (by simp);obtain⟨_,t,st|st⟩:=st
  .refine wpAny_pyNext_ascii_item st hx λh' st' sb=>⟨_,rfl,L6 ⟨.str ⟨#[x.cps[i]]⟩,H,I.turned (t':=s.toks+1) (λb o hb e=>(sb.2 b hb).trans e) f0 f1 f3 f4 f5,⟨_,rfl⟩,⟨rfl,_,hx,rfl⟩,⟨hg',t,.inl st'⟩,λb hb=>(hf b hb).1⟩⟩
  .refine wpAny_pyNext_wide_item st hx λh' st' sb=>⟨_,rfl,L6 ⟨.str ⟨#[x.cps[i]]⟩,H,I.turned (t':=s.toks+1) (λb o hb e=>(sb.2 b hb).trans e) f0 f1 f3 f4 f5,⟨_,rfl⟩,⟨rfl,_,hx,rfl⟩,⟨hg',t,.inr st'⟩,λb hb=>(hf b hb).1⟩⟩
 done:=by
  intro X hP hw hK hc i pins s σ H E I hf st hg;subst hP hw hK;have hg':x.cps.size<=i:=hg;have hx:x.cps[i]?=none:=a2r hg';obtain⟨f0,f1,f2,f3,f4,f5⟩:=hf it (by simp);obtain⟨_,t,st|st⟩:=st
  .exact wpAny_pyNext_ascii_end (I.ok.hd hc) st hx λh' eb=>⟨rfl,I.turned (t':=s.toks) (λb o hb e=>eb b o hb e) f0 f1 f3 f4 f5⟩
  .exact wpAny_pyNext_wide_end (I.ok.hd hc) st hx λh' eb=>⟨rfl,I.turned (t':=s.toks) (λb o hb e=>eb b o hb e) f0 f1 f3 f4 f5⟩
 self:=λ_ _ _ _ _ st h=>by
  obtain⟨_,t,st|st⟩:=st
  .exact wpAny_pyIter_striter_ascii st h
  .exact wpAny_pyIter_striter_wide st h
def Hh(tl:TE):TI:=λσ H R=>tl σ H λx H1=>∃z,x=.str z/\R (Its z) H1
def C3(hl:PE X l tl):PI X (.Name y py) l (Hh tl):=by
 intro pins s σ H R I h;refine thn (hl pins s σ H _ I h) λv s1 ⟨x,H1,I1,r1,z,e,q⟩=>?_;subst e;obtain⟨t,rfl⟩:=r1;have fin:∀o:Obj,(∀h,h.get? s1.heap.objs.size=some o->Am s1.heap.objs.size z 0 h)->PIE X pins σ (.Name y py) R (.ref s1.heap.objs.size) { s1 with heap:=s1.heap.push o }->PIE X pins σ (.Name y py) R (.ref s1.heap.objs.size) { s1 with heap:=s1.heap.push o }:=λ_ _ h=>h;have mk:∀o:Obj,o.isFreed=false->(∀h:Heap,h.get? s1.heap.objs.size=some o->Am s1.heap.objs.size z 0 h)->PIE X pins σ (.Name y py) R (.ref s1.heap.objs.size) { s1 with heap:=s1.heap.push o }:=λo hf ho=>by
  have I2:Inv X pins σ H1 { s1 with heap:=s1.heap.push o }:=I1.kept (t':=s1.toks) λb u e=>u8 _ e;refine⟨s1.heap.objs.size,[s1.heap.objs.size],_,Its z,H1,rfl,I2,sj _ z,⟨P1 _,ho _ (M7 _ hf)⟩,λb hb=>?_,q⟩;obtain rfl:b=s1.heap.objs.size:=by simpa using hb
  exact I1.BY (L5 _) (I1.hok.fresh (L5 _))
 cases ha:z.cps.all (·<128)
 .exact wpAny_pyIter_wide ha (mk _ rfl λh e=>⟨t,.inr ⟨_,e,rfl,rfl⟩⟩)
 .exact wpAny_pyIter_ascii ha (mk _ rfl λh e=>⟨t,.inl ⟨_,e,rfl,rfl⟩⟩)
section
variable {X:Cx}
def ft:∀{bs:HW}{us:HK},Vals (bs.map V.bl) us->us=bs.map Value.bool
 |[],_,.nil=>rfl
 |b::bs,_,.cons e r=>by have e':_=Value.bool b:=e;subst e';rw[ft r];rfl
def c8{prog:HZ}{w:Ie}{A:Ih}{bs:HW}:TruthOf prog w A (λi v=>(bs.map Value.bool).toArray[i]?=some v) (λi=>bs.getD i false):=by
 intro i v s Q E h q;have h':(bs.map Value.bool)[i]?=some v:=by simpa using h
 rw[N7]at h';cases e:bs[i]? with
 |none=>rw[e]at h';cases h'
 |some b=>
  rw[e]at h';cases h';have:bs.getD i false=b:=by simp[List.getD,e]
  dsimp only at q;rw[this]at q;exact L6 q
def range_all(bs:HW):(List.range bs.length).all (λi=>bs.getD i false)=bs.all id:=by
 induction bs with
 |nil=>rfl
 |cons b bs ih=>rw[I0,List.range_succ_eq_map,a08,List.all_map,a08,<- ih];rfl
def GB(K:Il):List V->Hp->VK->Prop:=λvs H Q=>∃(p:Addr)(bs:HW),vs=[.ref p]/\SqL K H p (bs.map V.bl)/\Q (.bl (bs.all id)) H
def so(hc:X.calm=true):jr X (.builtin "all") (GB X.K):=by
 intro pins s σ H xs us Q I r h;obtain⟨p,bs,rfl,hS,q⟩:=h;obtain⟨u,rfl,ru⟩:=vals1 r;cases ru;obtain⟨its,rv,pl,_⟩:=I.list hS;have e:=ft rv;subst e;have hlt:p≠s.heap.objs.size:=by obtain⟨o,ho,_⟩:=pl.isList;exact L9 (L7 ho)
 refine call_all_walk (a1o pl.isList ⟨s.heap.objs.size,_,_,_,_,_,_,rfl,Walks.list (A:=X.A.in1) (I.ok.hd hc) s.heap.objs.size p hlt (bs.map Value.bool).toArray,?_,c8 (bs:=bs),λh' tk hk=>?_⟩)
 .refine⟨⟨_,M7 _ rfl,rfl,rfl⟩,?_⟩;obtain⟨o,ho,rr⟩:=pl.isList;exact⟨o,u8 _ ho,rr⟩
 .have I2:Inv X pins σ H { s with heap:=h',toks:=tk }:=I.kept (t':=tk) λb o e=>hk b o (by simp;exact L9 (L7 e)) (u8 _ e);refine⟨.bl _,H,I2,rfl,?_⟩;have:(List.map Value.bool bs).toArray.size=bs.length:=by simp
  rw[this,range_all];exact q
end
def C4{n:Nat}{i:Int}(h0:0<=i)(h1:i<n):ixN n i=some i.toNat:=by unfold ixN;rw[if_pos h0,if_pos h1]
section
variable {C:Addr}{f g:Str}{E':XK}{σ:St}{H:Hp}{v u:V}{te tu:TE}{Q:VK}
end
section
variable {K:Il}{C e:Addr}{f:Str}{σ:St}{H:Hp}{v:V}{te:TE}{Q:VK}{fs:Ik}
end
section
variable {te:TE}{fr:H_}{σ:St}{H:Hp}{Q:VK}{r:St}
end
abbrev TJ:=St->Hp->Str->(Str->Hp->Prop)->Prop
section
variable {X:Cx}{e:HY}{es:HL}{t:TE}{tj:TJ}{pos:Pos}
end
section
variable {X:Cx}
def C5:R2:=λx y H Q=>∃z i,x=.str z/\y=.int i/\z.length<=16/\-2 ^ 63<=i/\i<=1048576/\Q (.str (Txt.mul z i)) H
def iq:OpR X (binaryOp .Mult) C5:=by intro pins s σ H x y v u Q I rx ry h;obtain⟨z,i,rfl,rfl,hz,h1,h2,q⟩:=h;obtain⟨t,rfl⟩:=rx;obtain⟨t',rfl⟩:=ry;exact PySem.W.KXi.mul rfl hz h1 h2 λt' k _ _=>⟨.str _,H,I.tok _,⟨_,rfl⟩,q⟩
end
section
variable {X:Cx}{e o c:HY}{st:IA}{rest a b:Iq}{t u:TS}{te to:TE}{tc:TT}{pos:Pos}
end
section
variable {X:Cx}
def C6(i j:Int):Prop:=j≠0/\j.natAbs<2 ^ 8192
def sr:OpR X (binaryOp .FloorDiv) (rI C6 λi j=>.int (i.fdiv j)):=opI λ_ j _ _ _ _ _ hc q=>floordiv_int hc.1 q (.inl (PyProof.noPylong_of_log2 (by
 have h1:j.natAbs≠0:=by have:=hc.1;omega
 have:=(Nat.log2_lt h1).mpr hc.2;omega)))
def c9:∀{ns:Ij}{us:HK},Vals (ns.map V.int) us->∃ts:List (Int×Tok),us=ts.map (λz=>Value.int z.1 z.2)/\ts.map Prod.fst=ns
 |[],_,.nil=>⟨[],rfl,rfl⟩
 |n::ns,_,.cons ⟨t,e⟩ r=>by subst e;obtain⟨ts,rfl,rfl⟩:=c9 r;exact⟨(n,t)::ts,rfl,rfl⟩
def C7(K:Il):List V->Hp->VK->Prop:=λvs H Q=>∃(p:Addr)(ns:Ij),vs=[.ref p]/\SqL K H p (ns.map V.int)/\ns≠[]/\∀M,M∈ns->(∀a∈ns,a<=M)->Q (.int M) H
def mG(hc:X.calm=true):jr X (.builtin "max") (C7 X.K):=by
 intro pins s σ H xs us Q I r h;obtain⟨p,ns,rfl,hS,hne,q⟩:=h;obtain⟨u,rfl,ru⟩:=vals1 r;cases ru;obtain⟨its,rv,pl,_⟩:=I.list hS;obtain⟨ts,rfl,rfl⟩:=c9 rv;have e:(ts.map (λz=>Value.int z.1 z.2)).toArray=intItems ts.toArray:=by unfold intItems;simp
 have hsz:0<ts.toArray.size:=by
  rw[M8];cases ts with
  |nil=>exact absurd rfl hne
  |cons a r=>simp
 refine max_intList (xs:=ts.toArray) (I.ok.hd hc) (by rw[<- e];exact pl.isList) hsz λv h' tk hv hk=>?_;obtain⟨t,rfl⟩:=intItems_at hv;obtain⟨h1,h2⟩:=argBest_gt (numAt ts.toArray) (ts.toArray.size-1);refine⟨.int _,H,I.kept (t':=tk) hk,⟨t,rfl⟩,q _ ?_ λa ha=>?_⟩
 .rw[a22];exact getD_mem (by rw[t0];rw[M8]at *;omega)
 .obtain⟨j,hj,rfl⟩:=mem_getD ha;rw[t0]at hj;have:=h2 j (by rw[M8];omega);rw[a22]at this;exact this
end
section
variable {P:HZ}{w:Ie}{K:HU}{mg:HD}{base:Heap}
end
section
variable {X:Cx}{k:Nat}{f:Addr}{fd:Ii}{ps:HA}{sp:Sp}{x:Str}{p pos:Pos}{e:HY}{es:HL}{t:TA}
end
section
variable {X:Cx}{tg:HY}
end
section
variable {K:Il}{H:Hp}{Q:VK}
end
section
variable {X:Cx}
end
section
variable {X:Cx}{C:Addr}{x:Str}{p pos:Pos}
end
def An(P:HZ)(w:Ie)(K:Il)(mg:HD)(base:Heap)(A:Ih)(m:Str)(C:Addr)(sp:Sp):Prop:=
 ∃k f fd ps,Cls K C/\Meth K C m f/\yU P w K mg base (CXe P w) k f fd ps sp/\jU k A/\Binds K fd ps []
def uS(alts:Addr->Sp->Prop)(m:Str)(E:XK)(ta:TE)(t:TA):TE:=λσ H Q=>ta σ H λx H1=>∃a dx fs C sp,alts C sp/\x=.ref a/\H1 a=some (.ins C dx fs)/\fs.lookup m=none/\t σ H1 λvs H2=>sp (x::vs) H2 Q E
def fu(he:PE X o ta)(hal:∀C sp,alts C sp->An X.prog X.w X.K X.mg X.base X.A m C sp)(hx:Passes (CXe X.prog X.w) X E)(ha:PA X (e::es) t)
  (hst:starEach (e::es) X.env=(false,eval e X.env)::starEach es X.env:=by rfl) (hpl:(backTo pos (starEach es X.env)).any (·.1)=false:=by rfl)
  (ht:eval (.Call (.Attribute o m qE) (e::es) [] pos) X.env=(do
   let ov<-eval o X.env
   standAt qE.atName
   let(f,first)<-holding [ov] (getMethod ov m pl)
   callWith pos f first (backTo pos (starEach (e::es) X.env)) (backToKw pos (keywordEach [] X.env))):=by rfl):
  PE X (.Call (.Attribute o m qE) (e::es) [] pos) (uS alts m E ta t):=by
 intro pins s σ H Q I h;refine a2x (pl:=pl) (thn (he pins s σ H _ I h) λu s1 ⟨x,H1,I1,rx,a,dx,fs,C,sp,hin,ex,ea,l,q⟩=>?_) ht;obtain⟨k,f,fd,ps,c,hm,F,hr,hb⟩:=hal C sp hin;subst ex;obtain rfl:u=Value.ref a:=rx;refine XJ I1 ea c hm l ?_;refine a1f (first:=[.ref a]) (h₀:=X.base) I.ok.mod.kin hm.kp (thn (ha pos pins s1 σ H1 _ I1 q) λus s2 ⟨vs,H2,I2,r,q2⟩=>⟨I2.kIn,?_⟩) hst hpl;exact lY (us:=.ref a::us) (vs:=.ref a::vs) (dvs:=[]) F hr hb .nil hx I2 (.cons rfl r) (by rwa [P0])
def mH(he:PE X o ta)(hal:∀C sp,alts C sp->An X.prog X.w X.K X.mg X.base X.A m C sp)(hx:Passes (CXe X.prog X.w) X E)
  (ht:eval (.Call (.Attribute o m qE) [] [] pos) X.env=(do
   let ov<-eval o X.env
   standAt qE.atName
   let(f,first)<-holding [ov] (getMethod ov m pl)
   callWith pos f first (backTo pos (starEach [] X.env)) (backToKw pos (keywordEach [] X.env))):=by rfl):
  PE X (.Call (.Attribute o m qE) [] [] pos) (uS alts m E ta Fh):=by
 intro pins s σ H Q I h;refine a2x (pl:=pl) (thn (he pins s σ H _ I h) λu s1 ⟨x,H1,I1,rx,a,dx,fs,C,sp,hin,ex,ea,l,q⟩=>?_) ht;obtain⟨k,f,fd,ps,c,hm,F,hr,hb⟩:=hal C sp hin;subst ex;obtain rfl:u=Value.ref a:=rx;refine XJ I1 ea c hm l ?_;exact PySem.W.callWith_K0 (first:=[.ref a]) I1.kIn hm.kp (lY (us:=[.ref a]) (vs:=[.ref a]) (dvs:=[]) F hr hb .nil hx I1 (.cons rfl .nil) q)
def fA{A:Ih}{xs ys:HN}{us ws:HK}{e:Nat->Bool}(r1:Vals xs us)(r2:Vals ys ws)(he:∀j x y u v,xs[j]?=some x->ys[j]?=some y->RelV x u->RelV y v->SeqAt.EqAt A s u v (e j)):
  ∀j (h1:j<us.toArray.size) (h2:j<ws.toArray.size),SeqAt.EqAt A s us.toArray[j] ws.toArray[j] (e j):=by
 intro j h1 h2;rw[M8]at h1 h2;have l1:j<xs.length:=by rw[r1.length];exact h1
 have l2:j<ys.length:=by rw[r2.length];exact h2
 have e1:xs[j]?=some xs[j]:=M5 l1;have e2:ys[j]?=some ys[j]:=M5 l2;obtain⟨u,hu,ru⟩:=r1.get e1;obtain⟨w,hw,rw'⟩:=r2.get e2;have eu:us.toArray[j]=u:=by have:=M5 h1;rw[hu]at this;simpa using(P5 this).symm
 have ew:ws.toArray[j]=w:=by have:=M5 h2;rw[hw]at this;simpa using(P5 this).symm
 rw[eu,ew];exact he j _ _ _ _ e1 e2 ru rw'
section
variable {X:Cx}
end
section
variable {H:Hp}{Q:VK}{i j:Int}
end
def zr.none(s:zr H H')(h:H' q=Option.none):H q=Option.none:=by
 cases e:H q with
 |none=>rfl
 |some o=>rw[s _ _ e]at h;cases h
inductive PV where
 |i (n:Int)|s (x:Str)|b (c:Bool)|n
 |l (xs:List PV)|t (xs:List PV)|d (kvs:List (Key×PV))|o (c:Nat) (fs:List (Str×PV))|x (c:Nat) (fs:List (Str×PV))|sc (ns:Ij)|dt (kvs:IE)
abbrev Ib:=List PV
abbrev Ic:=(List (Key×PV))
abbrev Ig:=(List (Str×PV))
abbrev Iu:=Option PV
abbrev II:=(PV->PV->Option Bool)
abbrev IK:=List (Option PV)
def dtV(kvs:IE):List (List Key×V):=kvs.map λq=>(q.1,V.int q.2)
inductive Out(α:Type)where
 |ok (a:α)|exc (c:Nat) (fs:Ig)|wall
abbrev Ia:=(List PV->Out PV)
def Out.bind{α β:Type}:Out α->(α->Out β)->Out β
 |.ok a,f=>f a
 |.exc c fs,_=>.exc c fs
 |.wall,_=>.wall
structure RC where
 K:Frag
 cls:Nat->Addr
def KL(K:Il)(a:Addr)(xs:HN):Prop:=∃(o:Obj)(its:Iv)(n:Nat),K.lookup a=some o/\o.cls=.type "list"/\o.dict=none/\o.data=.seq its n/\its.size<=sizeLine/\Vals xs its.toList
def c_(K:Il)(N:HI)(H:Hp)(p:Addr)(vs:HN):Prop:=(N p/\Rd H p (.lst vs))\/KL K p vs
def c_.sq{K:Il}{N:HI}{H:Hp}{p:Addr}{vs:HN}(h:c_ K N H p vs):SqL K H p vs:=h.elim (λz=>.inl z.2) .inr
mutual
def Rep(W:RC)(M:HI)(H:Hp):PV->V->Prop
 |.i n,v=>v=.int n
 |.s x,v=>v=.str x
 |.b c,v=>v=.bl c
 |.n,v=>v=.non
 |.l xs,v=>∃p vs,v=.ref p/\M p/\H p=some (.lst vs)/\zP W M H xs vs
 |.t xs,v=>∃p vs,v=.ref p/\SqT W.K H p vs/\zP W M H xs vs
 |.d kvs,v=>∃p es,v=.ref p/\M p/\Rd H p (.dK es)/\qe W M H kvs es
 |.sc ns,v=>∃p,v=.ref p/\c_ W.K M H p (ns.map V.int)
 |.dt kvs,v=>∃p,v=.ref p/\M p/\Rd H p (.dT (dtV kvs))
 |.o c fs,v=>∃p dx es,v=.ref p/\M p/\H p=some (.ins (W.cls c) dx es)/\qS W M H fs es
 |.x c fs,v=>∃p dx es,v=.ref p/\H p=some (XC p (W.cls c) dx)/\H dx=some (XD dx es)/\qS W M H fs es
def zP(W:RC)(M:HI)(H:Hp):List PV->List V->Prop
 |[],vs=>vs=[]
 |x::xs,vs=>∃v r,vs=v::r/\Rep W M H x v/\zP W M H xs r
def qe(W:RC)(M:HI)(H:Hp):List (Key×PV)->List (Key×V)->Prop
 |[],es=>es=[]
 |kx::r,es=>∃v q,es=(kx.1,v)::q/\Rep W M H kx.2 v/\qe W M H r q
def qS(W:RC)(M:HI)(H:Hp):List (Str×PV)->List (Str×V)->Prop
 |[],es=>es=[]
 |kx::r,es=>∃v q,es=(kx.1,v)::q/\Rep W M H kx.2 v/\qS W M H r q
end
def Imm:HO->Prop
 |.lst _=>False | .dK _=>False | .dT _=>False | .set _ _=>False | .ins _ _ _=>False | .tbl _=>False
 |_=>True
def Fr(M:HI)(H H':Hp):Prop:=∀a o,H a=some o->(M a\/Imm o)->H' a=some o
def Fr.rd(f:Fr M H H')(h:Rd H p u)(m:M p):Rd H' p u:=
 h.elim (λz=>.inl (f _ _ z (.inl m))) λ⟨o,z⟩=>.inr ⟨o,f _ _ z (.inl m)⟩
def Fr.sqT{M:HI}{K:Il}{H H':Hp}(f:Fr M H H'){p:Addr}{u:HN}(h:SqT K H p u):SqT K H' p u:=
 h.elim (λh=>.inl (h.elim (λz=>.inl (f _ _ z (.inr trivial))) λ⟨o,z⟩=>.inr ⟨o,f _ _ z (.inr trivial)⟩)) .inr
def c_.frame{K:Il}{N:HI}{H H':Hp}(f:Fr N H H'){p:Addr}{vs:HN}(h:c_ K N H p vs):c_ K N H' p vs:=h.elim (λz=>.inl ⟨z.1,f.rd z.2 z.1⟩) .inr
def qF(h:Rd H p u):H p≠none:=by rcases h with z|⟨_,z⟩<;>rw[z]<;>intro e<;>cases e
section
variable {W:RC}{M M':HI}{H H':Hp}
mutual
def Rep.gen(f:Fr M H H')(s:∀a,M a->H a≠none->M' a):∀{x:PV}{v:V},Rep W M H x v->Rep W M' H' x v
 |.i n,v,h=>h
 |.s x,v,h=>h
 |.b c,v,h=>h
 |.n,v,h=>h
 |.l xs,v,h=>by unfold Rep at h ⊢;obtain⟨p,vs,e,m,r,q⟩:=h;exact⟨p,vs,e,s p m (by rw[r];intro e;cases e),f _ _ r (.inl m),zP.gen f s q⟩
 |.sc ns,v,h=>by unfold Rep at h ⊢;obtain⟨p,e,r⟩:=h;exact⟨p,e,r.elim (λz=>.inl ⟨s p z.1 (by rcases z.2 with z|⟨_,z⟩<;>rw[z]<;>intro e<;>cases e),f.rd z.2 z.1⟩) .inr⟩
 |.dt kvs,v,h=>by unfold Rep at h ⊢;obtain⟨p,e,m,r⟩:=h;exact⟨p,e,s p m (qF r),f.rd r m⟩
 |.t xs,v,h=>by unfold Rep at h ⊢;obtain⟨p,vs,e,r,q⟩:=h;exact⟨p,vs,e,f.sqT r,zP.gen f s q⟩
 |.d kvs,v,h=>by unfold Rep at h ⊢;obtain⟨p,vs,e,m,r,q⟩:=h;exact⟨p,vs,e,s p m (qF r),f.rd r m,qe.gen f s q⟩
 |.o c fs,v,h=>by unfold Rep at h ⊢;obtain⟨p,dx,es,e,m,r,q⟩:=h;exact⟨p,dx,es,e,s p m (by rw[r];intro e;cases e),f _ _ r (.inl m),qS.gen f s q⟩
 |.x c fs,v,h=>by unfold Rep at h ⊢;obtain⟨p,dx,es,e,r,r2,q⟩:=h;exact⟨p,dx,es,e,f _ _ r (.inr trivial),f _ _ r2 (.inr trivial),qS.gen f s q⟩
def zP.gen(f:Fr M H H')(s:∀a,M a->H a≠none->M' a):∀{x:Ib}{v:HN},zP W M H x v->zP W M' H' x v
 |[],v,h=>h
 |x::xs,vs,h=>by unfold zP at h ⊢;obtain⟨v,r,e,h1,h2⟩:=h;exact⟨v,r,e,Rep.gen f s h1,zP.gen f s h2⟩
def qe.gen(f:Fr M H H')(s:∀a,M a->H a≠none->M' a):∀{x:Ic}{v:HP},qe W M H x v->qe W M' H' x v
 |[],v,h=>h
 | (k,x)::xs,vs,h=>by unfold qe at h ⊢;obtain⟨v,r,e,h1,h2⟩:=h;exact⟨v,r,e,Rep.gen f s h1,qe.gen f s h2⟩
def qS.gen(f:Fr M H H')(s:∀a,M a->H a≠none->M' a):∀{x:Ig}{v:Ik},qS W M H x v->qS W M' H' x v
 |[],v,h=>h
 | (k,x)::xs,vs,h=>by unfold qS at h ⊢;obtain⟨v,r,e,h1,h2⟩:=h;exact⟨v,r,e,Rep.gen f s h1,qS.gen f s h2⟩
end
end
def Fr.refl:Fr M H H:=λ_ _ h _=>h
def zr.fr(s:zr H H'):Fr M H H':=λa o h _=>s a o h
def Rep.same(h:Rep W M H x v)(s:zr H H'):Rep W M H' x v:=Rep.gen s.fr (λ_ m _=>m) h
def zP.same(h:zP W M H x v)(s:zr H H'):zP W M H' x v:=zP.gen s.fr (λ_ m _=>m) h
def qe.same(h:qe W M H x v)(s:zr H H'):qe W M H' x v:=qe.gen s.fr (λ_ m _=>m) h
def Rep.sub(h:Rep W M H x v)(s:∀a,M a->H a≠none->M' a):Rep W M' H x v:=Rep.gen Fr.refl s h
def zP.sub(h:zP W M H x v)(s:∀a,M a->H a≠none->M' a):zP W M' H x v:=zP.gen Fr.refl s h
def qe.sub(h:qe W M H x v)(s:∀a,M a->H a≠none->M' a):qe W M' H x v:=qe.gen Fr.refl s h
def qS.sub(h:qS W M H x v)(s:∀a,M a->H a≠none->M' a):qS W M' H x v:=qS.gen Fr.refl s h
def yF(W:RC)(N M:HI)(H:Hp):PV->V->Prop
 |.l xs,v=>∃p vs,v=.ref p/\N p/\H p=some (.lst vs)/\zP W M H xs vs
 |.d kvs,v=>∃p es,v=.ref p/\N p/\Rd H p (.dK es)/\qe W M H kvs es
 |.sc ns,v=>∃p,v=.ref p/\c_ W.K N H p (ns.map V.int)
 |.dt kvs,v=>∃p,v=.ref p/\N p/\Rd H p (.dT (dtV kvs))
 |.o c fs,v=>∃p dx es,v=.ref p/\N p/\H p=some (.ins (W.cls c) dx es)/\qS W M H fs es
 |x,v=>Rep W M H x v
def yF.iff:yF W M M H x v↔Rep W M H x v:=by cases x<;>simp only[yF,Rep]
def yF.gen{W:RC}{N M N' M':HI}{H H':Hp}{x:PV}{v:V}(fN:Fr N H H')(f:Fr M H H')(sN:∀a,N a->H a≠none->N' a)(s:∀a,M a->H a≠none->M' a)(h:yF W N M H x v):yF W N' M' H' x v:=by
 cases x with
 |l xs=>obtain⟨p,vs,e,m,r,q⟩:=h;exact⟨p,vs,e,sN p m (by rw[r];intro e;cases e),fN _ _ r (.inl m),q.gen f s⟩
 |d kvs=>obtain⟨p,es,e,m,r,q⟩:=h;exact⟨p,es,e,sN p m (qF r),fN.rd r m,q.gen f s⟩
 |sc ns=>obtain⟨p,e,r⟩:=h;exact⟨p,e,r.elim (λz=>.inl ⟨sN p z.1 (qF z.2),fN.rd z.2 z.1⟩) .inr⟩
 |dt kvs=>obtain⟨p,e,m,r⟩:=h;exact⟨p,e,sN p m (qF r),fN.rd r m⟩
 |o c fs=>obtain⟨p,dx,es,e,m,r,q⟩:=h;exact⟨p,dx,es,e,sN p m (by rw[r];intro e;cases e),fN _ _ r (.inl m),q.gen f s⟩
 |i n=>exact Rep.gen f s h
 |s n=>exact Rep.gen f s h
 |b n=>exact Rep.gen f s h
 |n=>exact Rep.gen f s h
 |t n=>exact Rep.gen f s h
 |x c n=>exact Rep.gen f s h
def yF.same(h:yF W N M H x v)(s:zr H H'):yF W N M H' x v:=yF.gen s.fr s.fr (λ_ m _=>m) (λ_ m _=>m) h
def yF.sub(h:yF W N M H x v)(sN:∀a,N a->H a≠none->N' a)(s:∀a,M a->H a≠none->M' a):yF W N' M' H x v:=yF.gen Fr.refl Fr.refl sN s h
def Rep.weak(h:Rep W M H x v):yF W (λ_=>True) M H x v:=yF.sub (yF.iff.mpr h) (λ_ _ _=>trivial) (λ_ m _=>m)
def VN(W:RC)(M:HI)(H:Hp)(p:Addr):PV->Prop
 |.l xs=>∃vs,H p=some (.lst vs)/\zP W M H xs vs
 |.d kvs=>∃es,H p=some (.dK es)/\qe W M H kvs es
 |.dt kvs=>H p=some (.dT (dtV kvs))
 |.o c fs=>∃dx es,H p=some (.ins (W.cls c) dx es)/\qS W M H fs es
 |_=>False
def VN.EL(h:VN W M H p x)(n:N p):yF W N M H x (.ref p):=by
 cases x with
 |l xs=>obtain⟨vs,e,q⟩:=h;exact⟨p,vs,rfl,n,e,q⟩
 |d kvs=>obtain⟨es,e,q⟩:=h;exact⟨p,es,rfl,n,.inl e,q⟩
 |dt kvs=>exact⟨p,rfl,n,.inl h⟩
 |o c fs=>obtain⟨dx,es,e,q⟩:=h;exact⟨p,dx,es,rfl,n,e,q⟩
 |i n=>exact h.elim
 |s n=>exact h.elim
 |b n=>exact h.elim
 |n=>exact h.elim
 |t n=>exact h.elim
 |x c n=>exact h.elim
 |sc n=>exact h.elim
def VN.gen(h:VN W M H p x)(hp:H' p=H p)(f:Fr M H H')(s:∀a,M a->H a≠none->M' a):VN W M' H' p x:=by
 cases x with
 |l xs=>obtain⟨vs,e,q⟩:=h;exact⟨vs,hp.trans e,q.gen f s⟩
 |d kvs=>obtain⟨es,e,q⟩:=h;exact⟨es,hp.trans e,q.gen f s⟩
 |dt kvs=>exact hp.trans h
 |o c fs=>obtain⟨dx,es,e,q⟩:=h;exact⟨dx,es,hp.trans e,q.gen f s⟩
 |i n=>exact h.elim
 |s n=>exact h.elim
 |b n=>exact h.elim
 |n=>exact h.elim
 |t n=>exact h.elim
 |x c n=>exact h.elim
 |sc n=>exact h.elim
def VN.some{W:RC}{M:HI}{H:Hp}{p:Addr}{x:PV}(h:VN W M H p x):∃o,H p=some o/\¬Imm o:=by
 cases x with
 |l xs=>obtain⟨vs,e,q⟩:=h;exact⟨_,e,id⟩
 |d kvs=>obtain⟨es,e,q⟩:=h;exact⟨_,e,id⟩
 |dt kvs=>exact⟨_,h,id⟩
 |o c fs=>obtain⟨dx,es,e,q⟩:=h;exact⟨_,e,id⟩
 |i n=>exact h.elim
 |s n=>exact h.elim
 |b n=>exact h.elim
 |n=>exact h.elim
 |t n=>exact h.elim
 |x c n=>exact h.elim
 |sc n=>exact h.elim
def VN.same(h:VN W M H p x)(s:zr H H'):VN W M H' p x:=by obtain⟨o,e,_⟩:=h.some;exact h.gen ((s _ _ e).trans e.symm) s.fr λ_ m _=>m
structure Bs where
 H0:Hp
 M0:Addr->Prop
 N0:Addr->Prop
 nz:∀a,N0 a->H0 a≠none
 pin:Option Addr
 xc:Addr->Prop
structure LC where
 W:RC
 E:XK
 fr:Bool
abbrev Sto:=List (Option PV)
def Bs.Mt(B:Bs):Addr->Prop:=λa=>B.M0 a\/B.H0 a=none
def Mof(B:Bs)(S:HF)(P:HQ):Addr->Prop:=λa=>(B.Mt a/\¬B.xc a)/\∀i,S[i]?=some 2->P i≠a
structure Rel(W:RC)(B:Bs)(S:HF)(P:HQ)(H:Hp)(σ:St)(ρ:Sto):Prop where
 same:zr B.H0 H
 len:σ.length=ρ.length
 var:∀(i:Nat) x,ρ[i]?=some (some x)->∃v,σ[i]?=some (some v)/\(S[i]?=some 2->v=.ref (P i)/\VN W (Mof B S P) H (P i) x)/\(S[i]?=some 1->yF W B.N0 (Mof B S P) H x v)/\(S[i]?≠some 2->S[i]?≠some 1->Rep W (Mof B S P) H x v)
 act:∀i,S[i]?=some 2->B.H0 (P i)=none/\∃o,H (P i)=some o/\¬Imm o
 inj:∀i j,S[i]?=some 2->S[j]?=some 2->P i=P j->i=j
 pin:S[0]?=some 2->∀p,B.pin=some p->P 0=p
 exc:∀a,B.xc a->∃o,H a=some o/\¬Imm o/\B.H0 a=none
 axc:∀i,S[i]?=some 2->¬B.xc (P i)
def Rel.keep{W:RC}{B:Bs}{S:HF}{P:HQ}{H H':Hp}{σ:St}{ρ:Sto}(R:Rel W B S P H σ ρ)(s:zr H H'):Rel W B S P H' σ ρ where
 same:=R.same.trans s
 len:=R.len
 var:=λi x e=>by obtain⟨v,h1,h2,h3,h4⟩:=R.var i x e;exact⟨v,h1,λz=>⟨(h2 z).1,(h2 z).2.same s⟩,λz=>(h3 z).same s,λz z'=>(h4 z z').same s⟩
 act:=λi h=>⟨(R.act i h).1,let⟨o,e,n⟩:=(R.act i h).2;⟨o,s _ _ e,n⟩⟩
 inj:=R.inj
 pin:=R.pin
 exc:=λa h=>let⟨o,e,n⟩:=R.exc a h;⟨o,s _ _ e,n⟩
 axc:=R.axc
def Rel.wr(R:Rel W B S P H σ ρ)(hi:S[i]?=some 2)(hl:i<ρ.length)(hσ:σ[i]?=some (some (.ref (P i))))(hn:¬Imm o)(hx:VN W (Mof B S P) (upd H (P i) o) (P i) x'):Rel W B S P (upd H (P i) o) σ (ρ.set i (some x')):=by
 obtain⟨h0,o0,e0,n0⟩:=R.act i hi;have fM:Fr (Mof B S P) H (upd H (P i) o):=λa q e m=>by
  have:a≠P i:=λz=>by
   rcases m with m|m
   .exact m.2 i hi z.symm
   .rw[z,e0]at e;cases e;exact n0 m
  rw[zi this];exact e
 have fN:Fr B.N0 H (upd H (P i) o):=λa q e m=>by
  have:a≠P i:=λz=>by
   rcases m with m|m
   .exact B.nz a m (z▸h0)
   .rw[z,e0]at e;cases e;exact n0 m
  rw[zi this];exact e
 refine⟨λa q e=>?_,by rw[P6];exact R.len,λj x e=>?_,λj hj=>?_,R.inj,R.pin,λa h=>?_,R.axc⟩
 .have:a≠P i:=λz=>by rw[z,h0]at e;cases e
  rw[zi this];exact R.same a q e
 .by_cases hij:i=j
  .subst hij;rw[O4 hl]at e;cases e;exact⟨_,hσ,λ_=>⟨rfl,hx⟩,(λz=>by rw[hi]at z;cases z),λz=>absurd hi z⟩
  .rw[O6 hij]at e;obtain⟨v,h1,h2,h3,h4⟩:=R.var j x e;refine⟨v,h1,λz=>⟨(h2 z).1,?_⟩,λz=>yF.gen fN fM (λ_ m _=>m) (λ_ m _=>m) (h3 z),λz z'=>Rep.gen fM (λ_ m _=>m) (h4 z z')⟩;have:P j≠P i:=λq=>hij (R.inj i j hi z q.symm);exact(h2 z).2.gen (zi this) fM λ_ m _=>m
 .by_cases hij:j=i
  .subst hij;exact⟨h0,o,zg,hn⟩
  .obtain⟨g0,o1,e1,n1⟩:=R.act j hj;have:P j≠P i:=λq=>hij (R.inj j i hj hi q);exact⟨g0,o1,by rw[zi this];exact e1,n1⟩
 .obtain⟨o1,e1,n1⟩:=R.exc a h;by_cases e:a=P i
  .subst e;exact⟨o,zg,hn,n1.2⟩
  .exact⟨o1,by rw[zi e];exact e1,n1⟩
def yG{S:HF}{i j c:Nat}(h:(S.set i 0)[j]?=some 2):S[j]?=some 2/\j≠i:=by
 by_cases e:i=j
 .subst e;rw[List.getElem?_set]at h;rw[if_pos rfl]at h;split at h<;>cases h
 .rw[O6 e]at h;exact⟨h,λz=>e z.symm⟩
def Rel.set(R:Rel W B S P H σ ρ)(hx:Rep W (Mof B S P) H x v):Rel W B (S.set i 0) P H (σ.set i (some v)) (ρ.set i (some x)):=by
 have sM:∀a,Mof B S P a->H a≠none->Mof B (S.set i 0) P a:=λa m _=>⟨m.1,λj hj=>m.2 j (yG (c:=0) hj).1⟩;refine⟨R.same,by rw[P6,P6];exact R.len,λj y e=>?_,λj hj=>R.act j (yG (c:=0) hj).1,λj k hj hk=>R.inj j k (yG (c:=0) hj).1 (yG (c:=0) hk).1,λh0=>R.pin (yG (c:=0) h0).1,R.exc,λj hj=>R.axc j (yG (c:=0) hj).1⟩;by_cases hij:i=j
 .subst hij;have hl:i<ρ.length:=by
   have:=(M9.mp e).1
   rwa [P6]at this
  rw[O4 hl]at e;cases e;refine⟨v,by rw[O4 (by rw[R.len];exact hl)],λz=>absurd rfl (yG (c:=0) z).2,λz=>?_,λ_ _=>hx.sub sM⟩;rw[List.getElem?_set,if_pos rfl]at z;split at z<;>cases z
 .rw[O6 hij]at e;obtain⟨w,h1,h2,h3,h4⟩:=R.var j y e;rw[O6 hij,O6 hij];exact⟨w,h1,λz=>⟨(h2 z).1,(h2 z).2.gen rfl Fr.refl sM⟩,λz=>(h3 z).sub (λ_ m _=>m) sM,λz z'=>(h4 z z').sub sM⟩
def Rel.Hi(R:Rel W B S P H σ ρ)(s:zr H H')(hp:H p=none)(hi:i<S.length)(hi0:i≠0)(hx:VN W (λa=>Mof B S P a/\a≠p) H' p x):Rel W B (S.set i 2) (λj=>if j=i then p else P j) H' (σ.set i (some (.ref p))) (ρ.set i (some x)):=by
 have s0:B.H0 p=none:=zr.none R.same hp;have hS:∀{j},(S.set i 2)[j]?=some 2->j≠i->S[j]?=some 2:=λ{j} h n=>by rwa [O6 (λz=>n z.symm)]at h
 have sM:∀a,Mof B S P a->a≠p->Mof B (S.set i 2) (λj=>if j=i then p else P j) a:=λa m hn=>⟨m.1,λj hj=>by
  by_cases e:j=i
  .simp only[e,if_true];exact λz=>hn z.symm
  .simp only[e,if_false];exact m.2 j (hS hj e)⟩
 have sMH:∀a,Mof B S P a->H a≠none->Mof B (S.set i 2) (λj=>if j=i then p else P j) a:=λa m hn=>sM a m λz=>hn (z▸hp);have pj:∀{j},S[j]?=some 2->P j≠p:=λ{j} hj z=>by obtain⟨_,o,e,_⟩:=R.act j hj;rw[z,hp]at e;cases e
 refine⟨R.same.trans s,by rw[P6,P6];exact R.len,λj y e=>?_,λj hj=>?_,λj k hj hk e=>?_,λh0 q hq=>?_,λa h=>let⟨o,e,n⟩:=R.exc a h;⟨o,s _ _ e,n⟩,λj hj=>?_⟩
 .by_cases hij:i=j
  .subst hij;have hl:i<ρ.length:=by
    have:=(M9.mp e).1
    rwa [P6]at this
   rw[O4 hl]at e;cases e;rw[O4 (by rw[R.len];exact hl),O4 hi];refine⟨.ref p,rfl,λ_=>⟨by simp,?_⟩,(λz=>by cases z),λz=>absurd rfl z⟩;simp only[if_true];exact hx.gen rfl Fr.refl λa m _=>sM a m.1 m.2
  .rw[O6 hij]at e;obtain⟨w,h1,h2,h3,h4⟩:=R.var j y e;rw[O6 hij,O6 hij];have nij:¬j=i:=λz=>hij z.symm;simp only[nij,if_false];exact⟨w,h1,λz=>⟨(h2 z).1,((h2 z).2.gen (H':=H) rfl Fr.refl sMH).same s⟩,λz=>((h3 z).sub (λ_ m _=>m) sMH).same s,λz z'=>((h4 z z').sub sMH).same s⟩
 .by_cases hij:j=i
  .subst hij;simp only[if_true];exact⟨s0,hx.some⟩
  .simp only[hij,if_false];obtain⟨g0,o,e,n⟩:=R.act j (hS hj hij);exact⟨g0,o,s _ _ e,n⟩
 .by_cases h1:j=i
  .by_cases h2:k=i
   .rw[h1,h2]
   .simp only[h1,h2,if_true,if_false]at e;exact absurd e.symm (pj (hS hk h2))
  .by_cases h2:k=i
   .simp only[h1,h2,if_true,if_false]at e;exact absurd e (pj (hS hj h1))
   .simp only[h1,h2,if_false]at e;exact R.inj j k (hS hj h1) (hS hk h2) e
 .rw[O6 hi0]at h0;rw[if_neg (λz=>hi0 z.symm)];exact R.pin h0 q hq
 .by_cases e:j=i
  .rw[if_pos e];exact λz=>by obtain⟨o,q,_⟩:=R.exc p z;rw[hp]at q;cases q
  .rw[if_neg e];exact R.axc j (hS hj e)
def Rel.freeze(R:Rel W B S P H σ ρ)(hi:S[i]?=some 2):Rel W B (S.set i 0) P H σ ρ:=by
 have sM:∀a,Mof B S P a->H a≠none->Mof B (S.set i 0) P a:=λa m _=>⟨m.1,λj hj=>m.2 j (yG (c:=0) hj).1⟩;refine⟨R.same,R.len,λj y e=>?_,λj hj=>R.act j (yG (c:=0) hj).1,λj k hj hk=>R.inj j k (yG (c:=0) hj).1 (yG (c:=0) hk).1,λh0=>R.pin (yG (c:=0) h0).1,R.exc,λj hj=>R.axc j (yG (c:=0) hj).1⟩;obtain⟨w,h1,h2,h3,h4⟩:=R.var j y e;by_cases hij:i=j
 .subst hij;obtain⟨rfl,ha⟩:=h2 hi;have hl:i<S.length:=(M9.mp hi).1;rw[O4 hl];refine⟨_,h1,(λz=>by cases z),(λz=>by cases z),λ_ _=>yF.iff.mp ((ha.gen (H':=H) rfl Fr.refl sM).EL ⟨⟨.inr (R.act i hi).1,λz=>?_⟩,λj hj e=>?_⟩)⟩
  .exact R.axc i hi z
  obtain⟨g1,g2⟩:=yG (c:=0) hj;exact g2 (R.inj j i g1 hi e)
 .rw[O6 hij];exact⟨w,h1,λz=>⟨(h2 z).1,(h2 z).2.gen rfl Fr.refl sM⟩,λz=>(h3 z).sub (λ_ m _=>m) sM,λz z'=>(h4 z z').sub sM⟩
def Rel.wrx(R:Rel W B S P H σ ρ)(ha:B.xc a)(hn:¬Imm o):Rel W B S P (upd H a o) σ ρ:=by
 obtain⟨o0,e0,n0,h0⟩:=R.exc a ha;have fM:Fr (Mof B S P) H (upd H a o):=λc q e m=>by
  have:c≠a:=λz=>by
   rcases m with m|m
   .exact m.1.2 (z▸ha)
   .rw[z,e0]at e;cases e;exact n0 m
  rw[zi this];exact e
 have fN:Fr B.N0 H (upd H a o):=λc q e m=>by
  have:c≠a:=λz=>by
   rcases m with m|m
   .exact B.nz c m (z▸h0)
   .rw[z,e0]at e;cases e;exact n0 m
  rw[zi this];exact e
 have pa:∀{i},S[i]?=some 2->P i≠a:=λ{i} hi z=>R.axc i hi (z▸ha);refine⟨λc q e=>?_,R.len,λj x e=>?_,λj hj=>?_,R.inj,R.pin,λc h=>?_,R.axc⟩
 .have:c≠a:=λz=>by rw[z,h0]at e;cases e
  rw[zi this];exact R.same c q e
 .obtain⟨v,h1,h2,h3,h4⟩:=R.var j x e;exact⟨v,h1,λz=>⟨(h2 z).1,(h2 z).2.gen (zi (pa z)) fM λ_ m _=>m⟩,λz=>yF.gen fN fM (λ_ m _=>m) (λ_ m _=>m) (h3 z),λz z'=>Rep.gen fM (λ_ m _=>m) (h4 z z')⟩
 .obtain⟨g0,o1,e1,n1⟩:=R.act j hj;exact⟨g0,o1,by rw[zi (pa hj)];exact e1,n1⟩
 .by_cases e:c=a
  .subst e;exact⟨o,zg,hn,h0⟩
  .obtain⟨o1,e1,n1⟩:=R.exc c h;exact⟨o1,by rw[zi e];exact e1,n1⟩
abbrev ME:=Sto->Out PV
abbrev MT:=Sto->Out Bool
abbrev MA:=Sto->Out (List PV)
inductive Fw where
 |nx (ρ:Sto)|rt (x:PV)|bk (ρ:Sto)|ct (ρ:Sto)
abbrev MS:=Sto->Out Fw
def XPo(C:LC)(B:Bs)(c:Nat)(fs:Ig):Prop:=∀e dx es H2,zr B.H0 H2->H2 e=some (XC e (C.W.cls c) dx)->H2 dx=some (XD dx es)->qS C.W B.Mt H2 fs es->C.E (.ref e) (some dx) H2
def zR(C:LC)(B:Bs)(H:Hp)(R:Hp->PV->V->Prop)(Q:VK):Out PV->Prop
 |.ok r=>∀v H2,zr H H2->R H2 r v->Q v H2
 |.exc c fs=>XPo C B c fs
 |.wall=>False
def bf(C:LC)(B:Bs)(H:Hp)(Q:Bool->Hp->Prop):Out Bool->Prop
 |.ok r=>∀H2,zr H H2->Q r H2
 |.exc c fs=>XPo C B c fs
 |.wall=>False
def RV(C:LC)(B:Bs)(S:HF)(P:HQ)(w:Bool)(H:Hp)(x:PV)(v:V):Prop:=yF C.W (if w=true then λ_=>True else Mof B S P) (Mof B S P) H x v
def RV.rep(h:RV C B S P false H x v):Rep C.W (Mof B S P) H x v:=yF.iff.mp h
def RV.of(h:Rep C.W (Mof B S P) H x v):RV C B S P false H x v:=yF.iff.mpr h
def RV.weak(h:RV C B S P w H x v):yF C.W (λ_=>True) (Mof B S P) H x v:=yF.sub h (λ_ _ _=>trivial) λ_ m _=>m
def RV.same(h:RV C B S P w H x v)(s:zr H H'):RV C B S P w H' x v:=yF.same h s
def LE(C:LC)(S:HF)(w:Bool)(te:TE)(m:ME):Prop:=∀B P H σ ρ,Rel C.W B S P H σ ρ->∀Q,zR C B H (RV C B S P w) Q (m ρ)->te σ H Q
def LT(C:LC)(S:HF)(tt:TT)(m:MT):Prop:=∀B P H σ ρ,Rel C.W B S P H σ ρ->∀Q,bf C B H Q (m ρ)->tt σ H Q
def EM(X:Cx)(C:LC)(S:HF)(w:Bool)(e:HY)(m:ME):Prop:=X.K=C.W.K->∃te,PE X e te/\LE C S w te m
def TM(X:Cx)(C:LC)(S:HF)(e:HY)(m:MT):Prop:=X.K=C.W.K->∃tt,PT X e tt/\LT C S tt m
def TWM(X:Cx)(C:LC)(S:HF)(e:HY)(m:MT):Prop:=X.K=C.W.K->∃tt,PW X e tt/\LT C S tt m
def zR.bind(h:zR C B H R Q (o.bind f))(k:∀r,o=.ok r->∀v H2,zr H H2->R0 H2 r v->zR C B H2 R Q (f r)->Q' v H2)(hR:∀H2,zr H H2->∀x v,R H2 x v->R H2 x v):zR C B H R0 Q' o:=by
 cases o with
 |ok r=>exact λv H2 s hr=>k r rfl v H2 s hr (by
   show zR C B H2 R Q (f r);have h:zR C B H R Q (f r):=h;revert h;cases f r with
   |ok x=>exact λh v H3 s3 hx=>h v H3 (s.trans s3) hx
   |exc c fs=>exact id
   |wall=>exact id)
 |exc c fs=>exact h
 |wall=>exact h
def z4(h:zR C B H R Q (o.bind f))(k:∀r v H2,zr H H2->R0 H2 r v->zR C B H2 R Q (f r)->Q' v H2):zR C B H R0 Q' o:=
 zR.bind h (λr _ v H2 s hr hp=>k r v H2 s hr hp) λ_ _ _ _ h=>h
def vZ(h:zR C B H R Q o)(s:zr H H2):zR C B H2 R Q o:=by
 cases o with
 |ok x=>exact λv H3 s3 hx=>h v H3 (s.trans s3) hx
 |exc c fs=>exact h
 |wall=>exact h
def VO(h:bf C B H Q o)(s:zr H H2):bf C B H2 Q o:=by
 cases o with
 |ok x=>exact λH3 s3=>h H3 (s.trans s3)
 |exc c fs=>exact h
 |wall=>exact h
def ir(h:bf C B H Q (o.bind f))(k:∀r v H2,zr H H2->R0 H2 r v->bf C B H2 Q (f r)->Q' v H2):zR C B H R0 Q' o:=by
 cases o with
 |ok r=>exact λv H2 s hr=>k r v H2 s hr (VO (o:=f r) h s)
 |exc c fs=>exact h
 |wall=>exact h
def QF(h:bf C B H Q (o.bind f))(k:∀r H2,zr H H2->bf C B H2 Q (f r)->Q' r H2):bf C B H Q' o:=by
 cases o with
 |ok r=>exact λH2 s=>k r H2 s (VO (o:=f r) h s)
 |exc c fs=>exact h
 |wall=>exact h
def zc(i:Nat):ME:=λρ=>match ρ[i]? with|some (some x)=>.ok x|_=>.wall
def mC(x:PV):ME:=λ_=>.ok x
section
variable {X:Cx}{C:LC}{S:HF}{e a b:HY}{w w1 w2:Bool}{m m1 m2:ME}{t1 t2:MT}
def EM.weak(h:EM X C S w e m):EM X C S true e m:=λhK=>by
 obtain⟨te,h1,h2⟩:=h hK;refine⟨te,h1,λB P H σ ρ R Q q=>h2 B P H σ ρ R Q ?_⟩;revert q;cases m ρ with
 |ok r=>exact λq v H2 s hr=>q v H2 s (by unfold RV;rw[if_pos rfl];exact hr.weak)
 |exc c fs=>exact id
 |wall=>exact id
def lv(R:Rel C.W B S P H σ ρ)(q:zR C B H R' Q (zc i ρ))(k:∀x v,σ[i]?=some (some v)->ρ[i]?=some (some x)->R' H x v):cR i σ H Q:=by
 unfold zc at q;cases e:ρ[i]? with
 |none=>rw[e]at q;exact q.elim
 |some o=>
  cases o with
  |none=>rw[e]at q;exact q.elim
  |some x=>rw[e]at q;obtain⟨v,hv,_⟩:=R.var i x e;exact⟨v,hv,q v H (zr.refl _) (k x v hv e)⟩
def zo(h:PE X e (cR i))(hS:S[i]?≠some 2/\S[i]?≠some 1:=by decide):EM X C S false e (zc i):=λ_=>⟨_,h,λB P H σ ρ R Q q=>lv R q λx v hv e=>by
 obtain⟨v',hv',_,_,h4⟩:=R.var i x e;rw[hv]at hv';cases hv';exact RV.of (h4 hS.1 hS.2)⟩
def C8(h:PE X e (cR i)):EM X C S true e (zc i):=λ_=>⟨_,h,λB P H σ ρ R Q q=>lv R q λx v hv e=>by
 obtain⟨v',hv',h2,h3,h4⟩:=R.var i x e;rw[hv]at hv';cases hv';show yF C.W (if true=true then _ else _) _ _ _ _;rw[if_pos rfl];by_cases c2:S[i]?=some 2
 .obtain⟨rfl,z⟩:=h2 c2;exact z.EL trivial
 .by_cases c1:S[i]?=some 1
  .exact(h3 c1).sub (λ_ _ _=>trivial) λ_ m _=>m
  .exact(h4 c2 c1).weak⟩
def EO(h:PE X e (tC v))(hx:∀M H,Rep C.W M H x v):EM X C S false e (mC x):=λ_=>⟨_,h,λB P H σ ρ R Q q=>q v H (zr.refl _) (RV.of (hx _ _))⟩
def yi(h:PE X e (tC (.int i))):EM X C S false e (mC (.i i)):=EO h λ_ _=>rfl
def mI(h:PE X e (tC (.str i))):EM X C S false e (mC (.s i)):=EO h λ_ _=>rfl
def YN(h:PE X e (tC (.bl i))):EM X C S false e (mC (.b i)):=EO h λ_ _=>rfl
def ZC(h:PE X e (tC .non)):EM X C S false e (mC .n):=EO h λ_ _=>rfl
def mOp(p:PV->PV->Out PV)(m1 m2:ME):ME:=λρ=>(m1 ρ).bind λx=>(m2 ρ).bind λy=>p x y
def mUn(p:PV->Out PV)(m1:ME):ME:=λρ=>(m1 ρ).bind p
def New(M:HI)(H:Hp):Prop:=∀p,H p=none->M p
def Rel.new(R:Rel W B S P H σ ρ):New (Mof B S P) H:=λp h=>⟨⟨.inr (zr.none R.same h),λz=>by obtain⟨o,q,_⟩:=R.exc p z;rw[h]at q;cases q⟩,λi hi e=>by obtain⟨_,o,q,_⟩:=R.act i hi;rw[e,h]at q;cases q⟩
def RV.eq:RV C B S P false=Rep C.W (Mof B S P):=by
 funext H x v;exact propext yF.iff
def Lf2(W:RC)(r:R2)(p:PV->PV->Out PV):Prop:=∀(M:HI)(C:LC)(B:Bs) H x y v u Q,New M H->yF W (λ_=>True) M H x v->yF W (λ_=>True) M H y u->zR C B H (Rep W M) Q (p x y)->r v u H Q
def Lf1(W:RC)(r:V->Hp->VK->Prop)(p:PV->Out PV):Prop:=∀(M:HI)(C:LC)(B:Bs) H x v Q,New M H->yF W (λ_=>True) M H x v->zR C B H (Rep W M) Q (p x)->r v H Q
def su(L:Lf2 C.W r p)(h1:LE C S w1 ta m1)(h2:LE C S w2 tb m2):LE C S false (tOp r ta tb) (mOp p m1 m2):=λB P H σ ρ R Q q=>
 h1 B P H σ ρ R _ (z4 q λx v H1 s1 r1 q1=>h2 B P H1 σ ρ (R.keep s1) _ (z4 q1 λy u H2 s2 r2 q2=>L _ C B H2 x y v u Q ((R.keep s1).keep s2).new (r1.same s2).weak r2.weak (RV.eq▸q2)))
def zp(o:OpR X (binaryOp op) r)(L:Lf2 C.W r p)(h1:EM X C S w1 a m1)(h2:EM X C S w2 b m2):EM X C S false (.BinOp a op b pos) (mOp p m1 m2):=λhK=>by obtain⟨ta,a1,a2⟩:=h1 hK;obtain⟨tb,b1,b2⟩:=h2 hK;exact⟨_,Ct o a1 b1,su L a2 b2⟩
def Ao(o:UnR X (unaryOp op) r)(L:Lf1 C.W r p)(h1:EM X C S w1 a m1):EM X C S false (.UnaryOp op a pos) (mUn p m1):=λhK=>by obtain⟨ta,a1,a2⟩:=h1 hK;exact⟨_,Ff o a1,λB P H σ ρ R Q q=>a2 B P H σ ρ R _ (z4 q λx v H1 s1 r1 q1=>L _ C B H1 x v Q (R.keep s1).new r1.weak (RV.eq▸q1))⟩
def mJ(o:OpR X (compareOp op) r)(L:Lf2 C.W r p)(h1:EM X C S w1 a m1)(h2:EM X C S w2 b m2)(hm:behindInMarks op b=false):EM X C S false (.Compare a [op] [b] pos) (mOp p m1 m2):=λhK=>by obtain⟨ta,a1,a2⟩:=h1 hK;obtain⟨tb,b1,b2⟩:=h2 hK;exact⟨_,xZ o a1 b1 hm,su L a2 b2⟩
def asB:PV->Out Bool
 |.b c=>.ok c
 |_=>.wall
def zX(m:ME):MT:=λρ=>(m ρ).bind asB
def Uw(h:LE C S w te m):LT C S (CA te) (zX m):=λB P H σ ρ R Q q=>
 h B P H σ ρ R _ (ir q λx v H1 s1 r1 q1=>by
  cases x with
  |b c=>exact⟨c,(show v=.bl c from r1),q1 H1 (zr.refl _)⟩
  |_=>exact q1.elim)
def yD(o:OpR X (compareOp op) r)(L:Lf2 C.W r p)(h1:EM X C S w1 a m1)(h2:EM X C S w2 b m2)(hm:behindInMarks op b=false):TM X C S (.Compare a [op] [b] pos) (zX (mOp p m1 m2)):=λhK=>by obtain⟨ta,a1,a2⟩:=h1 hK;obtain⟨tb,b1,b2⟩:=h2 hK;exact⟨_,cU o a1 b1 hm,Uw (su L a2 b2)⟩
variable {c:HY}{w3:Bool}{m3:ME}
end
def pI(g:Int->Int->PV):PV->PV->Out PV
 |.i a,.i b=>.ok (g a b)
 |_,_=>.wall
def pU(g:Int->PV):PV->Out PV
 |.i a=>.ok (g a)
 |_=>.wall
def C9(hg:∀a b M H,Rep W M H (g a b) (gv a b)):Lf2 W (rI0 gv) (pI g):=λM C B H x y v u Q hM hx hy q=>by
 cases x with
 |i a=>
  cases y with
  |i b=>exact⟨a,b,hx,hy,q _ H (zr.refl _) (hg a b _ _)⟩
  |_=>exact q.elim
 |_=>exact q.elim
def Hj(hg:∀a M H,Rep W M H (g a) (gv a)):Lf1 W (rU gv) (pU g):=λM C B H x v Q hM hx q=>by
 cases x with
 |i a=>exact⟨a,hx,q _ H (zr.refl _) (hg a _ _)⟩
 |_=>exact q.elim
abbrev lg:=pI λa b=>.i (a-b)
abbrev pLt:=pI λa b=>.b (decide (a<b))
abbrev pLe:=pI λa b=>.b (decide (a<=b))
abbrev pGt:=pI λa b=>.b (decide (b<a))
abbrev pGe:=pI λa b=>.b (decide (b<=a))
abbrev ER:=pU λa=>.i (-a)
def Kw:Lf2 W (rI0 λi j=>.int (i-j)) lg:=C9 λ_ _ _ _=>rfl
def mK:Lf1 W (rU λi=>.int (-i)) ER:=Hj λ_ _ _=>rfl
section
variable {W:RC}{M:HI}{H:Hp}
def zP.nil:zP W M H [] []:=rfl
def zP.cons(h:Rep W M H x v)(t:zP W M H xs vs):zP W M H (x::xs) (v::vs):=⟨v,vs,rfl,h,t⟩
def zP.len:∀{xs:Ib}{vs:HN},zP W M H xs vs->vs.length=xs.length
 |[],_,h=>by cases(show _=_ from h);rfl
 |x::xs,_,h=>by obtain⟨v,r,rfl,_,h2⟩:=h;rw[I0,I0,zP.len h2]
def zP.get:∀{xs:Ib}{vs:HN}{i:Nat}{x:PV},zP W M H xs vs->xs[i]?=some x->∃v,vs[i]?=some v/\Rep W M H x v
 |[],_,_,_,_,e=>by simp at e
 |x::xs,_,0,y,h,e=>by obtain⟨v,r,rfl,h1,h2⟩:=h;simp at e;subst e;exact⟨v,rfl,h1⟩
 |x::xs,_,i+1,y,h,e=>by obtain⟨v,r,rfl,h1,h2⟩:=h;simp only[List.getElem?_cons_succ]at e ⊢;exact zP.get h2 e
def zP.B4:∀{xs:Ib}{vs:HN}{i:Nat}{v:V},zP W M H xs vs->vs[i]?=some v->∃x,xs[i]?=some x/\Rep W M H x v
 |[],_,_,_,h,e=>by cases(show _=_ from h);simp at e
 |x::xs,_,0,y,h,e=>by obtain⟨v,r,rfl,h1,h2⟩:=h;simp at e;subst e;exact⟨x,rfl,h1⟩
 |x::xs,_,i+1,y,h,e=>by obtain⟨v,r,rfl,h1,h2⟩:=h;simp only[List.getElem?_cons_succ]at e ⊢;exact zP.B4 h2 e
def zP.append:∀{xs ys:Ib}{vs us:HN},zP W M H xs vs->zP W M H ys us->zP W M H (xs++ys) (vs++us)
 |[],_,_,_,h,k=>by cases(show _=_ from h);exact k
 |x::xs,_,_,_,h,k=>by obtain⟨v,r,rfl,h1,h2⟩:=h;exact⟨v,_,rfl,h1,zP.append h2 k⟩
def zP.take:∀{xs:Ib}{vs:HN}(n:Nat),zP W M H xs vs->zP W M H (xs.take n) (vs.take n)
 |[],_,_,h=>by cases(show _=_ from h);simp;exact zP.nil
 |x::xs,_,0,h=>zP.nil
 |x::xs,_,n+1,h=>by obtain⟨v,r,rfl,h1,h2⟩:=h;exact⟨v,_,rfl,h1,zP.take n h2⟩
def zP.drop:∀{xs:Ib}{vs:HN}(n:Nat),zP W M H xs vs->zP W M H (xs.drop n) (vs.drop n)
 |[],_,_,h=>by cases(show _=_ from h);simp;exact zP.nil
 |x::xs,_,0,h=>h
 |x::xs,_,n+1,h=>by obtain⟨v,r,rfl,h1,h2⟩:=h;exact zP.drop n h2
def zP.set{x:PV}{v:V}(hx:Rep W M H x v):∀{xs:Ib}{vs:HN}(n:Nat),zP W M H xs vs->zP W M H (xs.set n x) (vs.set n v)
 |[],_,_,h=>by cases(show _=_ from h);simp;exact zP.nil
 |y::xs,_,0,h=>by obtain⟨v,r,rfl,h1,h2⟩:=h;exact⟨_,_,rfl,hx,h2⟩
 |y::xs,_,n+1,h=>by obtain⟨v,r,rfl,h1,h2⟩:=h;exact⟨v,_,rfl,h1,zP.set hx n h2⟩
def zP.ints:∀{ns:Ij},zP W M H (ns.map PV.i) (ns.map V.int)
 |[]=>rfl
 |n::ns=>⟨_,_,rfl,rfl,zP.ints⟩
def zP.at(h:zP W M H xs vs)(e:atI xs i=some x):∃v,atI vs i=some v/\Rep W M H x v:=by
 unfold atI at e ⊢;rw[h.len];cases q:ixN xs.length i with
 |none=>rw[q]at e;cases e
 |some j=>rw[q]at e;exact h.get e
def zP.cut{xs:Ib}{vs:HN}{lo hi:IF}(h:zP W M H xs vs):zP W M H ((xs.drop (HT.sIx xs.length 0 lo)).take (HT.sIx xs.length xs.length hi-HT.sIx xs.length 0 lo)) (uM vs lo hi):=by unfold uM;rw[h.len];exact(h.drop _).take _
def qe.iff:∀{kvs:Ic}{es:HP},qe W M H kvs es↔es.map (·.1)=kvs.map (·.1)/\zP W M H (kvs.map (·.2)) (es.map (·.2))
 |[],es=>⟨λh=>by cases(show _=_ from h);exact⟨rfl,rfl⟩,λh=>by cases es with|nil=>rfl|cons a r=>cases h.1⟩
 |kx::r,es=>by
  constructor
  .rintro ⟨v,q,rfl,h1,h2⟩
   obtain⟨e,t⟩:=qe.iff.mp h2;exact⟨by simp only[List.map_cons,e],v,_,rfl,h1,t⟩
  .rintro ⟨e,v,q,e2,h1,h2⟩
   cases es with
   |nil=>cases e2
   |cons a es=>simp only[List.map_cons,List.cons.injEq]at e e2;refine⟨a.2,es,by rw[<- e.1],by rw[e2.1];exact h1,qe.iff.mpr ⟨e.2,by rw[e2.2];exact h2⟩⟩
def qS.iff:∀{kvs:Ig}{es:Ik},qS W M H kvs es↔es.map (·.1)=kvs.map (·.1)/\zP W M H (kvs.map (·.2)) (es.map (·.2))
 |[],es=>⟨λh=>by cases(show _=_ from h);exact⟨rfl,rfl⟩,λh=>by cases es with|nil=>rfl|cons a r=>cases h.1⟩
 |kx::r,es=>by
  constructor
  .rintro ⟨v,q,rfl,h1,h2⟩
   obtain⟨e,t⟩:=qS.iff.mp h2;exact⟨by simp only[List.map_cons,e],v,_,rfl,h1,t⟩
  .rintro ⟨e,v,q,e2,h1,h2⟩
   cases es with
   |nil=>cases e2
   |cons a es=>simp only[List.map_cons,List.cons.injEq]at e e2;refine⟨a.2,es,by rw[<- e.1],by rw[e2.1];exact h1,qS.iff.mpr ⟨e.2,by rw[e2.2];exact h2⟩⟩
def qS.lookup:∀{kvs:Ig}{es:Ik}{f:Str}{x:PV},qS W M H kvs es->kvs.lookup f=some x->∃v,es.lookup f=some v/\Rep W M H x v
 |[],_,_,_,_,e=>by cases e
 |kx::r,_,f,x,h,e=>by
  obtain⟨v,q,rfl,h1,h2⟩:=h;rw[O9]at e ⊢;by_cases c:(f==kx.1)=true
  .simp only[c]at e ⊢;cases e;exact⟨v,rfl,h1⟩
  .simp only[c]at e ⊢;exact qS.lookup h2 e
def qS.mL:∀{kvs:Ig}{es:Ik}{f:Str},qS W M H kvs es->kvs.lookup f=none->es.lookup f=none
 |[],_,_,h,_=>by cases(show _=_ from h);rfl
 |kx::r,_,f,h,e=>by
  obtain⟨v,q,rfl,h1,h2⟩:=h;rw[O9]at e ⊢;by_cases c:(f==kx.1)=true
  .simp only[c]at e;cases e
  .simp only[c]at e ⊢;exact qS.mL h2 e
def mM(n:New M H)(hp:H p=none)(h:zP W M H xs vs):Rep W M (upd H p (.lst vs)) (.l xs) (.ref p):=⟨p,vs,rfl,n p hp,zg,h.same (zr.upd hp)⟩
def Ap(hp:H p=none)(h:zP W M H xs vs):Rep W M (upd H p (.tup vs)) (.t xs) (.ref p):=⟨p,vs,rfl,SqT.of zg,h.same (zr.upd hp)⟩
end
def C_:R2:=λx y H Q=>(rI0 (λi j=>.int (i+j)) x y H Q\/∃i j,x=.str i/\y=.str j/\i.length+j.length<=sizeLine/\Q (.str (i++j)) H)\/Gz x y H Q
def zG:OpR X (binaryOp .Add) C_:=(Cv.or h8).or uP
def zZ:PV->PV->Out PV
 |.i a,.i b=>.ok (.i (a+b))
 |.s a,.s b=>if a.length+b.length<=sizeLine then .ok (.s (a++b))else .wall
 |.l a,.l b=>if a.length+b.length<=sizeLine then .ok (.l (a++b))else .wall
 |_,_=>.wall
def zH:Lf2 W C_ zZ:=λM C B H x y v u Q n hx hy q=>by
 unfold zZ at q;split at q
 .exact .inl (.inl ⟨_,_,hx,hy,q _ H (zr.refl _) rfl⟩)
 .split at q
  .rename_i h;exact .inl (.inr ⟨_,_,hx,hy,h,q _ H (zr.refl _) rfl⟩)
  .exact q.elim
 .split at q
  .rename_i h;obtain⟨p,vs,rfl,_,e,r⟩:=hx;obtain⟨p',vs',rfl,_,e',r'⟩:=hy;exact .inr ⟨p,p',vs,vs',rfl,rfl,e,e',by rw[r.len,r'.len];exact h,λz hz=>q _ _ (zr.upd hz) (mM n hz (r.append r'))⟩
  .exact q.elim
 .exact q.elim
def Dc:R2:=λx y H Q=>(rI uJ (λi j=>.int (i*j)) x y H Q\/rI si (λi j=>.int (i*j)) x y H Q)\/(C5 x y H Q\/GA x y H Q)
def ZD:OpR X (binaryOp .Mult) Dc:=(Cw.or Ah).or (iq.or CM)
instance{i j:Int}:Decidable (uJ i j):=by unfold uJ;infer_instance
instance{i j:Int}:Decidable (BZ i j):=by unfold BZ;infer_instance
instance{i j:Int}:Decidable (Cu i j):=by unfold Cu;infer_instance
def YO:PV->PV->Out PV
 |.i a,.i b=>if uJ a b\/(a.natAbs<2 ^ 8192/\b.natAbs<2 ^ 8192)then .ok (.i (a*b))else .wall
 |.s a,.i b=>if a.length<=16/\-2 ^ 63<=b/\b<=1048576 then .ok (.s (Txt.mul a b))else .wall
 |.l a,.i b=>if -(2 ^ 63)<=b/\b<2 ^ 63/\a.length*b.toNat<=sizeLine then .ok (.l (List.replicate b.toNat a).flatten)else .wall
 |_,_=>.wall
def zP.rep{W:RC}{M:HI}{H:Hp}{xs:Ib}{vs:HN}(h:zP W M H xs vs):∀n,zP W M H (List.replicate n xs).flatten (List.replicate n vs).flatten
 |0=>rfl
 |n+1=>by rw[a0j,a0j,a0E,a0E];exact h.append (h.rep n)
def ZE:Lf2 W Dc YO:=λM C B H x y v u Q n hx hy q=>by
 unfold YO at q;split at q
 .split at q
  .rename_i h;rcases h with h|h
   .exact .inl (.inl ⟨_,_,hx,hy,h,q _ H (zr.refl _) rfl⟩)
   .exact .inl (.inr ⟨_,_,hx,hy,h,q _ H (zr.refl _) rfl⟩)
  .exact q.elim
 .split at q
  .rename_i h;exact .inr (.inl ⟨_,_,hx,hy,h.1,h.2.1,h.2.2,q _ H (zr.refl _) rfl⟩)
  .exact q.elim
 .split at q
  .rename_i h;obtain⟨p,vs,rfl,_,e,r⟩:=hx;exact .inr (.inr ⟨p,_,vs,rfl,hy,e,h.1,h.2.1,by rw[r.len];exact h.2.2,λz hz=>q _ _ (zr.upd hz) (mM n hz (r.rep _))⟩)
  .exact q.elim
 .exact q.elim
def Dd:R2:=λx y H Q=>rI BZ (λi j=>.int (i / j)) x y H Q\/rI C6 (λi j=>.int (i.fdiv j)) x y H Q
def wy:OpR X (binaryOp .FloorDiv) Dd:=xX.or sr
def ZF:PV->PV->Out PV
 |.i a,.i b=>if BZ a b then .ok (.i (a / b))else if b≠0/\b.natAbs<2 ^ 8192 then .ok (.i (a.fdiv b))else .wall
 |_,_=>.wall
def wz:Lf2 W Dd ZF:=λM C B H x y v u Q n hx hy q=>by
 unfold ZF at q;split at q
 .split at q
  .rename_i h;exact .inl ⟨_,_,hx,hy,h,q _ H (zr.refl _) rfl⟩
  .split at q
   .rename_i h;exact .inr ⟨_,_,hx,hy,h,q _ H (zr.refl _) rfl⟩
   .exact q.elim
 .exact q.elim
def De:R2:=λx y H Q=>rI (λ_ j=>0<j) (λi j=>.int (i % j)) x y H Q\/rI (λ_ j=>j≠0) (λi j=>.int (i.fmod j)) x y H Q
def zz:OpR X (binaryOp .Mod) De:=Cy.or xY
def zU:PV->PV->Out PV
 |.i a,.i b=>if 0<b then .ok (.i (a % b))else if b≠0 then .ok (.i (a.fmod b))else .wall
 |_,_=>.wall
def zA:Lf2 W De zU:=λM C B H x y v u Q n hx hy q=>by
 unfold zU at q;split at q
 .split at q
  .rename_i h;exact .inl ⟨_,_,hx,hy,h,q _ H (zr.refl _) rfl⟩
  .split at q
   .rename_i h;exact .inr ⟨_,_,hx,hy,h,q _ H (zr.refl _) rfl⟩
   .exact q.elim
 .exact q.elim
def de:PV->PV->Out PV
 |.i a,.i b=>if Cu a b then .ok (.i (a ^ b.toNat))else .wall
 |_,_=>.wall
def VP:Lf2 W (rI Cu λi j=>.int (i ^ j.toNat)) de:=λM C B H x y v u Q n hx hy q=>by
 unfold de at q;split at q
 .split at q
  .rename_i h;exact⟨_,_,hx,hy,h,q _ H (zr.refl _) rfl⟩
  .exact q.elim
 .exact q.elim
def mN:Lf2 W (rI0 λi j=>.bl (decide (i<j))) pLt:=C9 λ_ _ _ _=>rfl
def sv:Lf2 W (rI0 λi j=>.bl (decide (i<=j))) pLe:=C9 λ_ _ _ _=>rfl
def df:Lf2 W (rI0 λi j=>.bl (decide (j<i))) pGt:=C9 λ_ _ _ _=>rfl
def Df:Lf2 W (rI0 λi j=>.bl (decide (j<=i))) pGe:=C9 λ_ _ _ _=>rfl
def isN:PV->Bool
 |.n=>true
 |_=>false
def lh(neg:Bool):PV->PV->Out PV
 |x,.n=>.ok (.b (xor neg (isN x)))
 |_,_=>.wall
def Dg(h:yF W N M H x v):decide (v=.non)=isN x:=by
 cases x with
 |n=>cases(show v=_ from h);rfl
 |i a=>cases(show v=_ from h);rfl
 |s a=>cases(show v=_ from h);rfl
 |b a=>cases(show v=_ from h);rfl
 |l a=>obtain⟨p,_,rfl,_⟩:=h;rfl
 |t a=>obtain⟨p,_,rfl,_⟩:=h;rfl
 |d a=>obtain⟨p,_,rfl,_⟩:=h;rfl
 |o c a=>obtain⟨p,_,_,rfl,_⟩:=h;rfl
 |x c a=>obtain⟨p,_,_,rfl,_⟩:=h;rfl
 |sc a=>obtain⟨p,rfl,_⟩:=h;rfl
 |dt a=>obtain⟨p,rfl,_⟩:=h;rfl
def fB:Lf2 W (λx y H Q=>y=.non/\Q (.bl (decide (x=.non))) H) (lh false):=λM C B H x y v u Q n hx hy q=>by
 unfold lh at q;split at q
 .refine⟨hy,?_⟩;rw[Dg hx];exact q _ H (zr.refl _) (by rw[a0s];rfl)
 .exact q.elim
def mO:Lf2 W (λx y H Q=>y=.non/\Q (.bl (!decide (x=.non))) H) (lh true):=λM C B H x y v u Q n hx hy q=>by
 unfold lh at q;split at q
 .refine⟨hy,?_⟩;rw[Dg hx];exact q _ H (zr.refl _) (by rw[a1P];rfl)
 .exact q.elim
def fe.rk(e:Rd H a (.dK kvs)):fe H a (kV k) (W7 kvs k):=.inl ⟨kvs,k,e,rfl,rfl⟩
def RFr(W:RC)(M:HI)(H:Hp)(H2:Hp)(x:PV)(v:V):Prop:=∃p,v=.ref p/\H p=none/\VN W (λa=>M a/\a≠p) H2 p x
def RFr.rep(n:New M H)(h:RFr W M H H2 x v):Rep W M H2 x v:=by obtain⟨p,rfl,hp,h⟩:=h;exact yF.iff.mp ((h.EL (N:=M) (n p hp)).sub (λ_ m _=>m) λ_ m _=>m.1)
def LFr(C:LC)(S:HF)(te:TE)(m:ME):Prop:=∀B P H σ ρ,Rel C.W B S P H σ ρ->∀Q,zR C B H (RFr C.W (Mof B S P) H) Q (m ρ)->te σ H Q
def FM(X:Cx)(C:LC)(S:HF)(e:HY)(m:ME):Prop:=X.K=C.W.K->∃te,PE X e te/\LFr C S te m
def Q3(h:zR C B H R Q o)(k:∀x v H2,zr H H2->R' H2 x v->R H2 x v):zR C B H R' Q o:=by
 cases o with
 |ok r=>exact λv H2 s hr=>h v H2 s (k _ _ _ s hr)
 |exc c fs=>exact h
 |wall=>exact h
def FM.em(h:FM X C S e m):EM X C S false e m:=λhK=>by obtain⟨te,h1,h2⟩:=h hK;exact⟨te,h1,λB P H σ ρ R Q q=>h2 B P H σ ρ R Q (Q3 q λx v H2 s hr=>RV.of (hr.rep R.new))⟩
def RVs(C:LC)(B:Bs)(S:HF)(P:HQ)(H:Hp):List Bool->List PV->List V->Prop
 |[],xs,vs=>xs=[]/\vs=[]
 |w::ws,xs,vs=>∃x v xr vr,xs=x::xr/\vs=v::vr/\RV C B S P w H x v/\RVs C B S P H ws xr vr
def iu(C:LC)(B:Bs)(H:Hp)(R:Hp->List PV->List V->Prop)(Q:List V->Hp->Prop):Out (List PV)->Prop
 |.ok r=>∀v H2,zr H H2->R H2 r v->Q v H2
 |.exc c fs=>XPo C B c fs
 |.wall=>False
def LA(C:LC)(S:HF)(ws:HW)(ta:TA)(m:MA):Prop:=∀B P H σ ρ,Rel C.W B S P H σ ρ->∀Q,iu C B H (λH2=>RVs C B S P H2 ws) Q (m ρ)->ta σ H Q
def AM(X:Cx)(C:LC)(S:HF)(ws:HW)(es:HL)(m:MA):Prop:=X.K=C.W.K->∃ta,PA X es ta/\LA C S ws ta m
def zq:MA:=λ_=>.ok []
def zb(m:ME)(ms:MA):MA:=λρ=>(m ρ).bind λx=>(ms ρ).bind λxs=>.ok (x::xs)
def iw{α:Type}{f:PV->Out α}{T:Hp->Out α->Prop}(hT:∀H H2 o,zr H H2->T H o->T H2 o)(hx:∀c fs,T H (.exc c fs)->XPo C B c fs)(hw:T H .wall->False)
  (h:T H (o.bind f)) (k:∀r v H2,zr H H2->R H2 r v->T H2 (f r)->Q' v H2):zR C B H R Q' o:=by
 cases o with
 |ok r=>exact λv H2 s hr=>k r v H2 s hr (hT _ _ _ s h)
 |exc c fs=>exact hx _ _ h
 |wall=>exact hw h
def dg(s:zr H H2)(h:iu C B H R Q o):iu C B H2 R Q o:=by
 cases o with
 |ok x=>exact λv H3 s3 hx=>h v H3 (s.trans s3) hx
 |exc c fs=>exact h
 |wall=>exact h
def yH(h:zR C B H R Q (o.bind f))(k:∀r v H2,zr H H2->R' H2 r v->zR C B H2 R Q (f r)->Q' v H2):iu C B H R' Q' o:=by
 cases o with
 |ok r=>exact λv H2 s hr=>k r v H2 s hr (vZ (o:=f r) h s)
 |exc c fs=>exact h
 |wall=>exact h
section
variable {X:Cx}{C:LC}{S:HF}{e a b:HY}{es:HL}{w w1 w2:Bool}{ws:HW}{m m1 m2:ME}{ms:MA}{t1 t2:MT}{pos:Pos}
def ze:AM X C S [] [] zq:=λ_=>⟨_,aL,λB P H σ ρ R Q q=>q [] H (zr.refl _) ⟨rfl,rfl⟩⟩
def za(h:EM X C S w e m)(hr:AM X C S ws es ms)(hs:starEach (e::es) X.env=(false,eval e X.env)::starEach es X.env:=by rfl):AM X C S (w::ws) (e::es) (zb m ms):=λhK=>by
 obtain⟨te,a1,a2⟩:=h hK;obtain⟨ta,b1,b2⟩:=hr hK;refine⟨_,J5 a1 b1 hs,λB P H σ ρ R Q q=>a2 B P H σ ρ R _ (iw (T:=λH o=>iu C B H (λH2=>RVs C B S P H2 (w::ws)) Q o) (λ_ _ _ s h=>dg s h) (λ_ _ h=>h) (λh=>h) q λx v H1 s1 r1 q1=>?_)⟩;refine b2 B P H1 σ ρ (R.keep s1) _ ?_;revert q1;cases ms ρ with
 |ok xs=>exact λq1 vs H2 s2 r2=>q1 (v::vs) H2 s2 ⟨x,v,xs,vs,rfl,rfl,r1.same s2,r2⟩
 |exc c fs=>exact id
 |wall=>exact id
def RVs.ES{B:Bs}{P:HQ}{H:Hp}:∀{ws:HW}{xs:Ib}{vs:HN},RVs C B S P H ws xs vs->ws.all (!·)=true->zP C.W (Mof B S P) H xs vs
 |[],_,_,⟨e1,e2⟩,_=>by subst e1;subst e2;rfl
 |w::ws,_,_,⟨x,v,xr,vr,e1,e2,h1,h2⟩,hw=>by subst e1;subst e2;simp only[List.all_cons,Bool.and_eq_true,Bool.not_eq_true']at hw;rw[hw.1]at h1;exact⟨v,vr,rfl,h1.rep,RVs.ES h2 hw.2⟩
def fC(ms:MA):ME:=λρ=>(ms ρ).bind λxs=>if xs.length<=sizeLine then .ok (.l xs)else .wall
def sx(ms:MA):ME:=λρ=>(ms ρ).bind λxs=>if xs.length<=sizeLine then .ok (.t xs)else .wall
def Q4(h:AM X C S ws es ms)(hw:ws.all (!·)=true:=by rfl):FM X C S (.List es pos) (fC ms):=λhK=>by
 obtain⟨ta,a1,a2⟩:=h hK;refine⟨_,CC a1,λB P H σ ρ R Q q=>a2 B P H σ ρ R _ (yH q λxs vs H1 s1 r1 q1=>?_)⟩;have rs:=r1.ES hw;split at q1
 .rename_i hl;exact⟨by rw[rs.len];exact hl,λp hp=>q1 _ _ (zr.upd hp) ⟨p,rfl,zr.none s1 hp,vs,zg,(rs.sub λa m n=>⟨m,λz=>n (z▸hp)⟩).same (zr.upd hp)⟩⟩
 .exact q1.elim
def XQ{x1}(h:AM X C S ws es ms)(hw:ws.all (!·)=true:=by rfl):EM X C S false (.Tuple es x1 pos) (sx ms):=λhK=>by
 obtain⟨ta,a1,a2⟩:=h hK;refine⟨_,XM a1,λB P H σ ρ R Q q=>a2 B P H σ ρ R _ (yH q λxs vs H1 s1 r1 q1=>?_)⟩;have rs:=r1.ES hw;split at q1
 .rename_i hl;exact⟨by rw[rs.len];exact hl,λp hp=>q1 _ _ (zr.upd hp) (RV.of (Ap hp rs))⟩
 .exact q1.elim
def XR(t u:MT):MT:=λρ=>(t ρ).bind λc=>if c=true then u ρ else .ok false
def mOr(t u:MT):MT:=λρ=>(t ρ).bind λc=>if c=true then .ok true else u ρ
def p7(t:MT):MT:=λρ=>(t ρ).bind λc=>.ok (!c)
def mP(m1 m2:ME):ME:=λρ=>(m1 ρ).bind λx=>(asB x).bind λc=>if c=true then m2 ρ else .ok (.b false)
def Dh(m1:ME):ME:=λρ=>(m1 ρ).bind λx=>(asB x).bind λc=>.ok (.b (!c))
def TWM.tm(h:TWM X C S e t1):TM X C S e t1:=λhK=>let⟨tt,a1,a2⟩:=h hK;⟨tt,a1.pt,a2⟩
def QG(h:TM X C S a t1):TWM X C S (.BoolOp .And [a] pos) t1:=λhK=>let⟨tt,a1,a2⟩:=h hK;⟨tt,pw_and1 a1,a2⟩
def YT(h:TM X C S a t1):TWM X C S (.BoolOp .Or [a] pos) t1:=λhK=>let⟨tt,a1,a2⟩:=h hK;⟨tt,pw_or1 a1,a2⟩
variable {rest:HL}
def Q5(h:TM X C S a t1)(h2:TWM X C S (.BoolOp .And (b::rest) pos) t2):TWM X C S (.BoolOp .And (a::b::rest) pos) (XR t1 t2):=λhK=>by
 obtain⟨tt,a1,a2⟩:=h hK;obtain⟨tu,b1,b2⟩:=h2 hK;refine⟨_,pw_and a1 b1,λB P H σ ρ R Q q=>a2 B P H σ ρ R _ (QF q λc H1 s1 q1=>?_)⟩;cases c with
 |true=>exact B3 (b2 B P H1 σ ρ (R.keep s1) _ q1)
 |false=>exact B0 (q1 H1 (zr.refl _))
def J6(h:TM X C S a t1)(h2:TWM X C S (.BoolOp .Or (b::rest) pos) t2):TWM X C S (.BoolOp .Or (a::b::rest) pos) (mOr t1 t2):=λhK=>by
 obtain⟨tt,a1,a2⟩:=h hK;obtain⟨tu,b1,b2⟩:=h2 hK;refine⟨_,pw_or a1 b1,λB P H σ ρ R Q q=>a2 B P H σ ρ R _ (QF q λc H1 s1 q1=>?_)⟩;cases c with
 |true=>exact B3 (q1 H1 (zr.refl _))
 |false=>exact B0 (b2 B P H1 σ ρ (R.keep s1) _ q1)
def VQ(h:TM X C S a t1):TM X C S (.UnaryOp .Not a pos) (p7 t1):=λhK=>by obtain⟨tt,a1,a2⟩:=h hK;exact⟨_,Ck a1,λB P H σ ρ R Q q=>a2 B P H σ ρ R _ (QF q λc H1 s1 q1=>q1 H1 (zr.refl _))⟩
def Q6(h:EM X C S w e m)(he:∀whole,isTrue e X.env whole=(do let v<-whole;standAt e.pos;holding [v] (truthy v)):=by intro _;rfl):TM X C S e (zX m):=λhK=>by obtain⟨te,a1,a2⟩:=h hK;exact⟨_,Cj a1 he,Uw a2⟩
def uT{op}(h:EM X C S w a m):EM X C S w (.BoolOp op [a] pos) m:=λhK=>let⟨tt,a1,a2⟩:=h hK;⟨tt,Cm a1,a2⟩
def uU(h:EM X C S w1 a m1)(h2:EM X C S false (.BoolOp .And (b::rest) pos) m2):EM X C S false (.BoolOp .And (a::b::rest) pos) (mP m1 m2):=λhK=>by
 obtain⟨tt,a1,a2⟩:=h hK;obtain⟨tu,b1,b2⟩:=h2 hK;refine⟨_,Cn a1 b1,λB P H σ ρ R Q q=>a2 B P H σ ρ R _ (z4 q λx v H1 s1 r1 q1=>?_)⟩;cases x with
 |b c=>
  refine⟨c,(show v=.bl c from r1),?_⟩;cases c with
  |true=>exact B3 (b2 B P H1 σ ρ (R.keep s1) _ q1)
  |false=>exact B0 (q1 _ H1 (zr.refl _) (RV.of rfl))
 |_=>exact q1.elim
def Di(h:EM X C S w a m1):EM X C S false (.UnaryOp .Not a pos) (Dh m1):=λhK=>by
 obtain⟨tt,a1,a2⟩:=h hK;refine⟨_,Co a1,λB P H σ ρ R Q q=>a2 B P H σ ρ R _ (z4 q λx v H1 s1 r1 q1=>?_)⟩;cases x with
 |b c=>exact⟨c,(show v=.bl c from r1),q1 _ H1 (zr.refl _) (RV.of rfl)⟩
 |_=>exact q1.elim
end
def zB{κ α:Type}[DecidableEq κ](kvs:List (κ×α))(k:κ):Option α:=(kvs.find? λkv=>decide (kv.1=k)).map (·.2)
def qe.get{W:RC}{M:HI}{H:Hp}:∀{kvs:Ic}{es:HP}{k:Key}{x:PV},qe W M H kvs es->zB kvs k=some x->∃v,W7 es k=some v/\Rep W M H x v
 |[],_,_,_,_,e=>by cases e
 |kx::r,_,k,x,h,e=>by
  obtain⟨v,q,rfl,h1,h2⟩:=h;unfold zB at e;unfold W7;rw[a1a]at e ⊢;by_cases c:kx.1=k
  .simp only[c,decide_true]at e ⊢;cases e;exact⟨v,rfl,h1⟩
  .simp only[c,decide_false]at e ⊢;exact qe.get h2 e
def qe.ET{W:RC}{M:HI}{H:Hp}:∀{kvs:Ic}{es:HP}{k:Key},qe W M H kvs es->zB kvs k=none->W7 es k=none
 |[],_,_,h,_=>by cases(show _=_ from h);rfl
 |kx::r,_,k,h,e=>by
  obtain⟨v,q,rfl,h1,h2⟩:=h;unfold zB at e;unfold W7;rw[a1a]at e ⊢;by_cases c:kx.1=k
  .simp only[c,decide_true]at e;cases e
  .simp only[c,decide_false]at e ⊢;exact qe.ET h2 e
def qe.Hk(h:qe W M H kvs es):(W7 es k).isSome=(zB kvs k).isSome:=by
 cases e:zB kvs k with
 |none=>rw[h.ET e];rfl
 |some x=>obtain⟨v,q,_⟩:=h.get e;rw[q];rfl
def pk:PV->Option Key
 |.i n=>some (.inl n)
 |.s x=>some (.inr x)
 |_=>none
def Ux(h:yF W N M H x v)(e:pk x=some k):v=kV k:=by
 cases x with
 |i n=>cases e;exact h
 |s n=>cases e;exact h
 |_=>cases e
def GC:R2:=λx y H Q=>∃a v,x=.ref a/\fe H a y (some v)/\Q v H
def mQ(hu:X.A.units+1<cLine):IxR X GC:=by
 intro value slice pins s σ H x y v u Q I rx ry h hs;obtain⟨a,w',rfl,g,q⟩:=h;cases rx;have hT:=cY I g;unfold subscriptTail;refine f8 ?_;rw[getitemInPython_of_ne hT.not_modules];refine f8 (a1A hT PySem.F.slot_dict_getitem.lookup ?_);have fin:wpAny (IW X) X.A (subscripted slice false (.ref a) u) (λr s₃=>wpAny (IW X) X.A (letTemporaryGo value (.ref a) r >>= λ_=>pure r) (EP X pins σ Q) X.xe s₃) X.xe s:=by rw[hs];exact wpAny_operating (S7 (l8 hu I g ry λw' s3 I3 rw'=>⟨_,H,I3,rw',q⟩) (λr s₃ h₃=>f8 (wpAny_letTemporaryGo (L6 h₃))) λ_ _ x=>x)
 first
  |exact L6 (f8 fin)
  |exact f8 (L6 (f8 fin))
  |exact f8 fin
def Hl(K:Il):R2:=λx y H Q=>rIx K x y H Q\/GC x y H Q
def kN{α:Type}:Option α->Out α
 |some a=>.ok a
 |none=>.wall
def pIx:PV->PV->Out PV
 |.l xs,.i k=>kN (atI xs k)
 |.t xs,.i k=>kN (atI xs k)
 |.sc ns,.i k=>kN ((atI ns k).map PV.i)
 |.s z,.i k=>if z.length<=sizeLine then kN ((atI z.cps.toList k).map λc=>.s ⟨#[c]⟩)else .wall
 |.d kvs,y=>kN ((pk y).bind λk=>zB kvs k)
 |_,_=>.wall
def yI(h:zR C B H R Q (kN o)):∃x,o=some x/\∀v H2,zr H H2->R H2 x v->Q v H2:=by
 cases o with
 |none=>exact h.elim
 |some x=>exact⟨x,rfl,h⟩
def FH:Lf2 W (Hl W.K) pIx:=λM C B H x y v u Q n hx hy q=>by
 unfold pIx at q;split at q
 .obtain⟨x,e,q⟩:=yI q;obtain⟨p,vs,rfl,_,hl,r⟩:=hx;obtain⟨v,hv,rv⟩:=r.at e;exact .inl (.inl ⟨p,vs,_,v,rfl,hy,SqL.of hl,hv,q v H (zr.refl _) rv⟩)
 .obtain⟨x,e,q⟩:=yI q;obtain⟨p,vs,rfl,hl,r⟩:=hx;obtain⟨v,hv,rv⟩:=r.at e;exact .inl (.inr (.inl ⟨p,vs,_,v,rfl,hy,hl,hv,q v H (zr.refl _) rv⟩))
 .obtain⟨x,e,q⟩:=yI q;obtain⟨p,rfl,hl⟩:=hx;obtain⟨z,hz,rfl⟩:=v4.mp e;refine .inl (.inl ⟨p,_,_,.int z,rfl,hy,hl.sq,?_,q _ H (zr.refl _) rfl⟩);unfold atI at hz ⊢;rw[t0];cases c:ixN _ _ with
  |none=>rw[c]at hz;cases hz
  |some j=>rw[c,Option.bind_some]at hz;show(List.map V.int _)[j]?=_;rw[N7,hz];rfl
 .split at q
  .rename_i hl;obtain⟨x,e,q⟩:=yI q;obtain⟨z,hz,rfl⟩:=v4.mp e;exact .inl (.inr (.inr ⟨_,_,z,hx,hy,hl,hz,q _ H (zr.refl _) rfl⟩))
  .exact q.elim
 .obtain⟨x,e,q⟩:=yI q;obtain⟨p,es,rfl,_,hl,r⟩:=hx;obtain⟨k,hk,e⟩:=O1.mp e;obtain⟨v,hv,rv⟩:=r.get e;exact .inr ⟨p,v,rfl,by rw[Ux hy hk,<- hv];exact fe.rk hl,q v H (zr.refl _) rv⟩
 .exact q.elim
def FI(hu:X.A.units+1<cLine)(h1:EM X C S w1 a m1)(h2:EM X C S w2 b m2)(hs:Uo b:=by intro _ _;rfl):EM X C S false (.Subscript a b pos) (mOp pIx m1 m2):=λhK=>by obtain⟨ta,a1,a2⟩:=h1 hK;obtain⟨tb,b1,b2⟩:=h2 hK;exact⟨_,CF (CH.or (mQ hu)) a1 b1 hs,su (by rw[hK];exact FH) a2 b2⟩
def toV:PV->Option V
 |.i a=>some (.int a)
 |.s a=>some (.str a)
 |.b a=>some (.bl a)
 |.n=>some .non
 |_=>none
def VR(h:yF W N M H x v)(e:toV x=some u):v=u/\K_ u=true:=by cases x<;>first|(cases e;exact⟨h,rfl⟩)|cases e
def EU:Option Bool->Option Bool->Option Bool
 |some a,some b=>some (a&&b)
 |_,_=>none
def sA(f:II):List PV->List PV->Option Bool
 |[],[]=>some true
 |x::xs,y::ys=>EU (f x y) (sA f xs ys)
 |_,_=>some false
def B5(f:II)(b:Ic):List (Key×PV)->Option Bool
 |[]=>some true
 |kx::r=>match zB b kx.1 with
  |none=>some false
  |some y=>EU (f kx.2 y) (B5 f b r)
def Dj(x y:PV):Option Bool:=match toV x,toV y with|some a,some b=>some (eqV a b)|_,_=>none
def fD:Nat->PV->PV->Option Bool
 |n+1,.l xs,.l ys=>sA (fD n) xs ys
 |n+1,.t xs,.t ys=>sA (fD n) xs ys
 |_,x,y=>Dj x y
def EV(n:Nat):PV->PV->Option Bool
 |.d a,.d b=>if a.length=b.length then B5 (fD n) b a else some false
 |x,y=>fD n x y
def Q7(h:EU a b=some c):∃p q,a=some p/\b=some q/\c=(p&&q):=by cases a<;>cases b<;>first|(cases h;done)|(cases h;exact⟨_,_,rfl,rfl,rfl⟩)
def fE{f:II}:∀{xs ys:Ib}{b:Bool},sA f xs ys=some b->xs.length≠ys.length->b=false
 |[],[],_,_,h=>absurd rfl h
 |[],_::_,_,h,_=>by cases h;rfl
 |_::_,[],_,h,_=>by cases h;rfl
 |x::xs,y::ys,b,h,n=>by obtain⟨p,q,_,h2,rfl⟩:=Q7 h;rw[fE h2 (λz=>n (by rw[I0,I0,z])),a1L]
def dh{f:II}:∀{xs ys:Ib}{b:Bool},sA f xs ys=some b->∃e:Nat->Bool,(∀j x y,xs[j]?=some x->ys[j]?=some y->f x y=some (e j))/\b=((List.range (min xs.length ys.length)).all e&&xs.length==ys.length)
 |[],[],b,h=>⟨λ_=>true,(λj x y h=>by simp at h),by cases h;rfl⟩
 |[],_::_,b,h=>⟨λ_=>true,(λj x y h=>by simp at h),by cases h;simp⟩
 |_::_,[],b,h=>⟨λ_=>true,(λj x y _ h=>by simp at h),by cases h;simp⟩
 |x::xs,y::ys,b,h=>by
  obtain⟨p,q,h1,h2,rfl⟩:=Q7 h;obtain⟨e,he,rfl⟩:=dh h2;refine⟨λj=>match j with|0=>p|j+1=>e j,λj a c ha hc=>?_,?_⟩
  .cases j with
   |zero=>simp only[List.getElem?_cons_zero,Option.some.injEq]at ha hc;subst ha;subst hc;exact h1
   |succ j=>simp only[List.getElem?_cons_succ]at ha hc;exact he j a c ha hc
  .simp only[List.length_cons,Nat.add_min_add_right,List.range_succ_eq_map,List.all_cons,List.all_map,Bool.and_assoc];congr 1;simp[Function.comp_def]
section
variable {X:Cx}{pins:Hz}{σ:St}{H:Hp}{s:HJ}{W:RC}
def Aq(I:Inv X pins σ H s)(hK:W.K=X.K):∀{n:Nat}{x y:PV}{b:Bool}{v:V}{N M N' M':HI},fD n x y=some b->yF W N M H x v->yF W N' M' H y v->b=true:=by
 have fl:∀{x y:PV}{b:Bool}{v:V}{N M N' M':HI},Dj x y=some b->yF W N M H x v->yF W N' M' H y v->b=true:=by
  intro x y b v N M N' M' h h1 h2;unfold Dj at h;cases ex:toV x with
  |none=>rw[ex]at h;cases h
  |some a=>
   cases ey:toV y with
   |none=>rw[ex,ey]at h;cases h
   |some c=>rw[ex,ey]at h;obtain⟨e1,f1⟩:=VR h1 ex;obtain⟨e2,_⟩:=VR h2 ey;cases h;rw[<- e1]at f1 ⊢;rw[<- e2];cases v<;>first|rfl|(cases f1;done)|(simp[eqV];done)
 intro n
 induction n with
 |zero=>intro x y b v N M N' M' h;exact fl (by cases x<;>cases y<;>exact h)
 |succ n ih=>
  have its:∀{xs ys:Ib}{vs:HN}{b:Bool}{M M':HI},sA (fD n) xs ys=some b->zP W M H xs vs->zP W M' H ys vs->b=true:=by
   intro xs
   induction xs with
   |nil=>intro ys vs b M M' h h1 h2;cases(show _=_ from h1);cases ys with
    |nil=>cases h;rfl
    |cons y ys=>obtain⟨_,_,e,_⟩:=h2;cases e
   |cons x xs ihx=>
    intro ys vs b M M' h h1 h2;obtain⟨v,r,rfl,hx,hr⟩:=h1;cases ys with
    |nil=>cases(show _=_ from h2)
    |cons y ys=>obtain⟨v',r',e,hy,hr'⟩:=h2;cases e;obtain⟨p,q,hp,hq,rfl⟩:=Q7 h;rw[ih hp (yF.iff.mpr hx) (yF.iff.mpr hy),ihx hq hr hr'];rfl
  intro x y b v N M N' M' h h1 h2;cases x with
  |l xs=>
   cases y with
   |l ys=>obtain⟨p,vs,rfl,_,e,r⟩:=h1;obtain⟨p',vs',e2,_,e',r'⟩:=h2;cases e2;rw[e]at e';cases e';exact its h r r'
   |_=>exact fl h h1 h2
  |t xs=>
   cases y with
   |t ys=>obtain⟨p,vs,rfl,e,r⟩:=h1;obtain⟨p',vs',e2,e',r'⟩:=h2;cases e2;rw[hK]at e e';cases I.aF e e';exact its h r r'
   |_=>exact fl h h1 h2
  |_=>exact fl (by cases y<;>exact h) h1 h2
def uV(ry:RelV y u)(rx:RelV x v)(fy:K_ y=true)(fx:K_ x=true):SeqAt.RcAt A s u v (eqV y x)/\SeqAt.RcNeAt A s u v (!eqV y x):=by
 cases y with
 |non=>
  cases ry;cases x with
  |non=>cases rx;exact⟨SeqAt.RcAt.none_none,SeqAt.RcNeAt.none_none⟩
  |bl b=>cases rx;exact⟨SeqAt.RcAt.none_bool b,SeqAt.RcNeAt.none_bool b⟩
  |int b=>obtain⟨t,rfl⟩:=rx;exact⟨SeqAt.RcAt.none_int b t,SeqAt.RcNeAt.none_int b t⟩
  |str b=>obtain⟨t,rfl⟩:=rx;exact⟨SeqAt.RcAt.none_str b t,SeqAt.RcNeAt.none_str b t⟩
  |_=>exact absurd (show false=true from fx) N6
 |bl a=>
  cases ry;cases x with
  |non=>cases rx;exact⟨SeqAt.RcAt.bool_none a,SeqAt.RcNeAt.bool_none a⟩
  |bl b=>cases rx;exact⟨SeqAt.RcAt.bool_bool a b,SeqAt.RcNeAt.bool_bool a b⟩
  |int b=>obtain⟨t,rfl⟩:=rx;exact⟨SeqAt.RcAt.bool_int a b t,SeqAt.RcNeAt.bool_int a b t⟩
  |str b=>obtain⟨t,rfl⟩:=rx;exact⟨SeqAt.RcAt.bool_str a b t,SeqAt.RcNeAt.bool_str a b t⟩
  |_=>exact absurd (show false=true from fx) N6
 |int a=>
  obtain⟨t',rfl⟩:=ry;cases x with
  |non=>cases rx;exact⟨SeqAt.RcAt.int_none a t',SeqAt.RcNeAt.int_none a t'⟩
  |bl b=>cases rx;exact⟨SeqAt.RcAt.int_bool a t' b,SeqAt.RcNeAt.int_bool a t' b⟩
  |int b=>obtain⟨t,rfl⟩:=rx;exact⟨SeqAt.RcAt.int_int a t' b t,SeqAt.RcNeAt.int_int a t' b t⟩
  |str b=>obtain⟨t,rfl⟩:=rx;exact⟨SeqAt.RcAt.int_str a t' b t,SeqAt.RcNeAt.int_str a t' b t⟩
  |_=>exact absurd (show false=true from fx) N6
 |str a=>
  obtain⟨t',rfl⟩:=ry;cases x with
  |non=>cases rx;exact⟨SeqAt.RcAt.str_none a t',SeqAt.RcNeAt.str_none a t'⟩
  |bl b=>cases rx;exact⟨SeqAt.RcAt.str_bool a t' b,SeqAt.RcNeAt.str_bool a t' b⟩
  |int b=>obtain⟨t,rfl⟩:=rx;exact⟨SeqAt.RcAt.str_int a t' b t,SeqAt.RcNeAt.str_int a t' b t⟩
  |str b=>obtain⟨t,rfl⟩:=rx;exact⟨SeqAt.RcAt.str_str a t' b t,SeqAt.RcNeAt.str_str a t' b t⟩
  |_=>exact absurd (show false=true from fx) N6
 |_=>exact absurd (show false=true from fy) N6
def Uy(h:Dj x y=some b)(h1:yF W N M H x xv)(h2:yF W N' M' H y yv)(ru:RelV xv u)(rv:RelV yv v):
  SeqAt.EqAt A s u v b/\SeqAt.RcAt A s u v b/\SeqAt.RcNeAt A s u v (!b):=by
 unfold Dj at h;cases ex:toV x with
 |none=>rw[ex]at h;cases h
 |some a=>
  cases ey:toV y with
  |none=>rw[ex,ey]at h;cases h
  |some c=>rw[ex,ey]at h;cases h;obtain⟨rfl,f1⟩:=VR h1 ex;obtain⟨rfl,f2⟩:=VR h2 ey;exact⟨uN ru rv f1 f2,(uV ru rv f1 f2).1,(uV ru rv f1 f2).2⟩
def Ar(I:Inv X pins σ H s)(hK:W.K=X.K):∀(n:Nat){A:Ih}{x y:PV}{b:Bool}{xv yv:V}{u v:Value}{N M N' M':HI},fD n x y=some b->yF W N M H x xv->yF W N' M' H y yv->RelV xv u->RelV yv v->A.units+n<cLine->
  SeqAt.EqAt A s u v b/\SeqAt.RcAt A s u v b/\SeqAt.RcNeAt A s u v (!b):=by
 intro n
 induction n with
 |zero=>intro A x y b xv yv u v N M N' M' h h1 h2 ru rv _;exact Uy (by cases x<;>cases y<;>exact h) h1 h2 ru rv
 |succ n ih=>
  intro A x y b xv yv u v N M N' M' h h1 h2 ru rv hu;have top:∀{p q:Addr},u=.ref p->v=.ref q->xv=.ref p->yv=.ref q->SeqAt.RcAt A s u v b/\SeqAt.RcNeAt A s u v (!b)->SeqAt.EqAt A s u v b/\SeqAt.RcAt A s u v b/\SeqAt.RcNeAt A s u v (!b):=λ{p q} e1 e2 e3 e4 hr=>by
   refine⟨?_,hr⟩;by_cases c:p=q
   .subst c;rw[e1,e2];rw[Aq I hK h (e3▸h1) (e4▸h2)];exact SeqAt.EqAt.same _
   .rw[e1,e2]at hr ⊢;exact SeqAt.EqAt.of_refs c hr.1
  cases x with
  |l xs=>
   cases y with
   |l ys=>
    obtain⟨p,vs,rfl,_,e,r⟩:=h1;obtain⟨p',vs',rfl,_,e',r'⟩:=h2;cases ru;cases rv;refine top rfl rfl rfl rfl ?_;obtain⟨us,r1,p1,_⟩:=I.list (SqL.of e);obtain⟨ws,r2,p2,_⟩:=I.list (SqL.of e');have l1:us.toArray.size=xs.length:=by rw[M8,<- r1.length,r.len]
    have l2:ws.toArray.size=ys.length:=by rw[M8,<- r2.length,r'.len]
    by_cases hl:xs.length=ys.length
    .obtain⟨f,hf,rfl⟩:=dh h;rw[hl,a0I,Bool.and_true,Nat.min_self,<- hl,<- l1];have it:=fA (A:=A.in1) (e:=f) (s:=s) r1 r2 λj x y u v hx hy ru rv=>by obtain⟨x',hx',rx'⟩:=r.B4 hx;obtain⟨y',hy',ry'⟩:=r'.B4 hy;exact(ih (A:=A.in1) (hf j x' y' hx' hy') (yF.iff.mpr rx') (yF.iff.mpr ry') ru rv (by show A.units+1+n<cLine;omega)).1
     exact⟨SeqAt.RcAt.lists p1.isList p2.isList (by rw[l1,l2,hl]) (by omega) it,SeqAt.RcNeAt.lists p1.isList p2.isList (by rw[l1,l2,hl]) (by omega) it⟩
    .rw[fE h hl];exact⟨SeqAt.RcAt.lists_lengths p1.isList p2.isList (by rw[l1,l2];simpa using hl) (by omega),SeqAt.RcNeAt.lists_lengths p1.isList p2.isList (by rw[l1,l2];simpa using hl) (by omega)⟩
   |_=>exact Uy h h1 h2 ru rv
  |t xs=>
   cases y with
   |t ys=>
    obtain⟨p,vs,rfl,e,r⟩:=h1;obtain⟨p',vs',rfl,e',r'⟩:=h2;cases ru;cases rv;refine top rfl rfl rfl rfl ?_;rw[hK]at e e';obtain⟨us,r1,p1,_⟩:=I.tuple e;obtain⟨ws,r2,p2,_⟩:=I.tuple e';have l1:us.toArray.size=xs.length:=by rw[M8,<- r1.length,r.len]
    have l2:ws.toArray.size=ys.length:=by rw[M8,<- r2.length,r'.len]
    obtain⟨f,hf,rfl⟩:=dh h;have it:=fA (A:=A.in1) (e:=f) (s:=s) r1 r2 λj x y u v hx hy ru rv=>by obtain⟨x',hx',rx'⟩:=r.B4 hx;obtain⟨y',hy',ry'⟩:=r'.B4 hy;exact(ih (A:=A.in1) (hf j x' y' hx' hy') (yF.iff.mpr rx') (yF.iff.mpr ry') ru rv (by show A.units+1+n<cLine;omega)).1
    rw[<- l1,<- l2];exact⟨SeqAt.RcAt.tuples p1 p2 (by omega) it,SeqAt.RcNeAt.tuples p1 p2 (by omega) it⟩
   |_=>exact Uy h h1 h2 ru rv
  |_=>exact Uy (by cases y<;>exact h) h1 h2 ru rv
def Dk{es:HP}{vs:ID}(r:KV es vs){k:Key}{v:V}(h:W7 es k=some v):∃u,valueAt vs k=some u/\RelV v u:=Vs.some_of (v:=v) (o:=valueAt vs k) (by rw[<- h];exact KV.val r k)
def As{es:HP}{vs:ID}(r:KV es vs){k:Key}(h:W7 es k=none):valueAt vs k=none:=by
 have:=KV.val r k;rw[h]at this;cases e:valueAt vs k with
 |none=>rfl
 |some u=>rw[e]at this;exact this.elim
def di(I:Inv X pins σ H s)(hK:W.K=X.K){n:Nat}{A:Ih}(hu:A.units+n<cLine){b:Ic}{eb:HP}{vb:ID}{M M':HI}(rb:qe W M' H b eb)(kb:KV eb vb):
  ∀{a:Ic}{ea:HP}{va:ID}{r:Bool},qe W M H a ea->KV ea va->B5 (fD n) b a=some r->KeqHits A s vb va r
 |[],_,_,_,h,k,e=>by cases(show _=_ from h);cases k;cases e;exact .nil
 |kx::a,_,_,r,h,k,e=>by
  obtain⟨v,q,rfl,h1,h2⟩:=h;cases k with
  |@cons _ u _ us rr kk=>
   obtain⟨k',u⟩:=u;obtain⟨e1,ru⟩:=rr;cases e1;unfold B5 at e;cases hy:zB b kx.1 with
   |none=>rw[hy]at e;cases e;exact .miss (As kb (rb.ET hy))
   |some y=>rw[hy]at e;obtain⟨p,q,hp,hq,rfl⟩:=Q7 e;obtain⟨yv,hyv,ry⟩:=rb.get hy;obtain⟨yu,hyu,ryu⟩:=Dk kb hyv;exact .hit hyu (Ar I hK n hp (yF.iff.mpr h1) (yF.iff.mpr ry) ru ryu hu).1 (di I hK hu rb kb h2 kk hq)
end
def FJ(W:RC)(neg:Bool):R2:=λxv yv H Q=>∃M x y b,yF W (λ_=>True) M H x xv/\yF W (λ_=>True) M H y yv/\EV 8 x y=some b/\Q (.bl (xor neg b)) H
def mR:(∃a b,x=.d a/\y=.d b)\/EV n x y=fD n x y:=by
 cases x with
 |d a=>cases y with
  |d b=>exact .inl ⟨a,b,rfl,rfl⟩
  |_=>exact .inr rfl
 |_=>exact .inr rfl
def Dl(hK:W.K=X.K)(hu:X.A.units+64<cLine):OpR X (compareOp .Eq) (FJ W false):=by
 intro pins s σ H xv yv u v Q I ru rv h;obtain⟨M,x,y,b,h1,h2,e,q⟩:=h;rw[a0s]at q;rcases mR (n:=8) (x:=x) (y:=y)with⟨a,c,rfl,rfl⟩|z
 .obtain⟨p,es,rfl,_,ha,ra⟩:=h1;obtain⟨p',es',rfl,_,hb,rb⟩:=h2;cases ru;cases rv;obtain⟨_,na,va,ka,da⟩:=Zw I.hok ha;obtain⟨_,nb,vb,kb,db⟩:=Zw I.hok hb;have l1:va.length=a.length:=by rw[<- a0g ka];have:=R8 List.length (qe.iff.mp ra).1;simpa using this
  have l2:vb.length=c.length:=by rw[<- a0g kb];have:=R8 List.length (qe.iff.mp rb).1;simpa using this
  have e:(if a.length=c.length then B5 (fD 8) c a else some false)=some b:=e;by_cases hl:a.length=c.length
  .rw[if_pos hl]at e;refine keq_eq na nb da db (by omega) (λ_=>di I hK (A:=X.A.in1) (by show X.A.units+1+8<cLine;omega) rb kb ra ka e) ?_;rw[l1,l2,hl,a0I,a2G];exact⟨.bl b,H,I,rfl,q⟩
  .rw[if_neg hl]at e;cases e;refine keq_eq (r:=false) na nb da db (by omega) (λz=>absurd (by rw[<- l1,<- l2,z]) hl) ?_;rw[a1L];exact⟨.bl false,H,I,rfl,q⟩
 .rw[z]at e;exact(Ar I hK 8 e h1 h2 ru rv (by omega)).2.1 _ _ _ _ ⟨.bl b,H,I,rfl,q⟩
def Dm(hK:W.K=X.K)(hu:X.A.units+64<cLine):OpR X (compareOp .NotEq) (FJ W true):=by
 intro pins s σ H xv yv u v Q I ru rv h;obtain⟨M,x,y,b,h1,h2,e,q⟩:=h;rw[a1P]at q;rcases mR (n:=8) (x:=x) (y:=y)with⟨a,c,rfl,rfl⟩|z
 .obtain⟨p,es,rfl,_,ha,ra⟩:=h1;obtain⟨p',es',rfl,_,hb,rb⟩:=h2;cases ru;cases rv;obtain⟨_,na,va,ka,da⟩:=Zw I.hok ha;obtain⟨_,nb,vb,kb,db⟩:=Zw I.hok hb;have l1:va.length=a.length:=by rw[<- a0g ka];have:=R8 List.length (qe.iff.mp ra).1;simpa using this
  have l2:vb.length=c.length:=by rw[<- a0g kb];have:=R8 List.length (qe.iff.mp rb).1;simpa using this
  have e:(if a.length=c.length then B5 (fD 8) c a else some false)=some b:=e;by_cases hl:a.length=c.length
  .rw[if_pos hl]at e;refine keq_ne na nb da db (by omega) (λ_=>di I hK (A:=X.A.in1) (by show X.A.units+1+8<cLine;omega) rb kb ra ka e) ?_;rw[l1,l2,hl,a0I,a2G];exact⟨.bl (!b),H,I,rfl,q⟩
  .rw[if_neg hl]at e;cases e;refine keq_ne (r:=false) na nb da db (by omega) (λz=>absurd (by rw[<- l1,<- l2,z]) hl) ?_;rw[a1L];exact⟨.bl (!false),H,I,rfl,q⟩
 .rw[z]at e;exact(Ar I hK 8 e h1 h2 ru rv (by omega)).2.2 _ _ _ _ ⟨.bl (!b),H,I,rfl,q⟩
def Zx(neg:Bool)(x y:PV):Out PV:=match EV 8 x y with|some b=>.ok (.b (xor neg b))|none=>.wall
def uW:Lf2 W (FJ W neg) (Zx neg):=λM C B H x y v u Q n hx hy q=>by
 unfold Zx at q;cases e:EV 8 x y with
 |none=>rw[e]at q;exact q.elim
 |some b=>rw[e]at q;exact⟨M,x,y,b,hx,hy,e,q _ H (zr.refl _) rfl⟩
def W8(hu:X.A.units+64<cLine)(h1:EM X C S w1 a m1)(h2:EM X C S w2 b m2):TM X C S (.Compare a [.Eq] [b] pos) (zX (mOp (Zx false) m1 m2)):=λhK=>yD (Dl hK.symm hu) uW h1 h2 (eX _ (by decide) (by decide)) hK
def iy(hu:X.A.units+64<cLine)(h1:EM X C S w1 a m1)(h2:EM X C S w2 b m2):TM X C S (.Compare a [.NotEq] [b] pos) (zX (mOp (Zx true) m1 m2)):=λhK=>yD (Dm hK.symm hu) uW h1 h2 (eX _ (by decide) (by decide)) hK
def inP(v:V):List PV->Option Bool
 |[]=>some false
 |y::r=>match toV y,inP v r with
  |some u,some b=>some (eqV u v||b)
  |_,_=>none
def mS{W:RC}{M:HI}{H:Hp}{v:V}:∀{ys:Ib}{vs:HN}{b:Bool},zP W M H ys vs->inP v ys=some b->vs.all K_=true/\inV v vs=b
 |[],_,_,h,e=>by cases(show _=_ from h);cases e;exact⟨rfl,rfl⟩
 |y::ys,_,b,h,e=>by
  obtain⟨u,r,rfl,h1,h2⟩:=h;unfold inP at e;cases hy:toV y with
  |none=>rw[hy]at e;cases e
  |some u'=>
   cases hr:inP v ys with
   |none=>rw[hy,hr]at e;cases e
   |some b'=>rw[hy,hr]at e;cases e;obtain⟨rfl,f⟩:=VR (yF.iff.mpr h1) hy;obtain⟨f2,e2⟩:=mS h2 hr;exact⟨by rw[a08,f,f2];rfl,by unfold inV at e2 ⊢;rw[T7,e2]⟩
def EW(K:Il)(neg:Bool):R2:=λx y H Q=>(rIn K neg x y H Q\/∃i j,x=.str i/\y=.str j/\Q (.bl (xor neg (!(Builtin.Str.occurrences j i 0 j.length 1).isEmpty))) H)\/∃a o,y=.ref a/\fe H a x o/\Q (.bl (xor neg o.isSome)) H
def mT(hu:X.A.units+1<cLine):OpR X (compareOp .In) (EW X.K false):=by
 intro pins s σ H x y v u Q I rx ry h;rcases h with(h|⟨i,j,e1,e2,q⟩)|⟨a,o,rfl,g,q⟩
 .exact l7 pins s σ H x y v u Q I rx ry h
 .exact lN pins s σ H x y v u Q I rx ry ⟨i,j,e1,e2,by rw[a0s]at q;exact q⟩
 .obtain rfl:u=Value.ref a:=ry;exact He hu I g rx λs3 I3=>⟨.bl o.isSome,H,I3,rfl,by rw[a0s]at q;exact q⟩
def bg(hu:X.A.units+1<cLine):OpR X (compareOp .NotIn) (EW X.K true):=by
 intro pins s σ H x y v u Q I rx ry h;rcases h with(h|⟨i,j,e1,e2,q⟩)|⟨a,o,rfl,g,q⟩
 .exact aT pins s σ H x y v u Q I rx ry h
 .exact aU pins s σ H x y v u Q I rx ry ⟨i,j,e1,e2,by rw[a1P]at q;exact q⟩
 .obtain rfl:u=Value.ref a:=ry;exact Ac hu I g rx λs3 I3=>⟨.bl (!o.isSome),H,I3,rfl,by rw[a1P]at q;exact q⟩
def pIn(neg:Bool):PV->PV->Out PV
 |x,.l ys=>kN (((toV x).bind λv=>inP v ys).map λb=>.b (xor neg b))
 |x,.t ys=>kN (((toV x).bind λv=>inP v ys).map λb=>.b (xor neg b))
 |.s i,.s j=>.ok (.b (xor neg (!(Builtin.Str.occurrences j i 0 j.length 1).isEmpty)))
 |x,.d kvs=>kN ((pk x).map λk=>.b (xor neg (zB kvs k).isSome))
 |_,_=>.wall
def mU:(if neg=true then !b else b)=xor neg b:=by cases neg<;>simp
def Au:Lf2 W (EW W.K neg) (pIn neg):=λM C B H x y v u Q n hx hy q=>by
 unfold pIn at q;split at q
 .obtain⟨z,e,q⟩:=yI q;obtain⟨b,hb,rfl⟩:=v4.mp e;obtain⟨xv,hxv,hb⟩:=O1.mp hb;obtain⟨p,vs,rfl,_,hl,r⟩:=hy;obtain⟨rfl,f⟩:=VR hx hxv;obtain⟨f2,e2⟩:=mS r hb;exact .inl (.inl ⟨p,vs,rfl,.inl (SqL.of hl),f,f2,by rw[e2,mU];exact q _ H (zr.refl _) rfl⟩)
 .obtain⟨z,e,q⟩:=yI q;obtain⟨b,hb,rfl⟩:=v4.mp e;obtain⟨xv,hxv,hb⟩:=O1.mp hb;obtain⟨p,vs,rfl,hl,r⟩:=hy;obtain⟨rfl,f⟩:=VR hx hxv;obtain⟨f2,e2⟩:=mS r hb;exact .inl (.inl ⟨p,vs,rfl,.inr hl,f,f2,by rw[e2,mU];exact q _ H (zr.refl _) rfl⟩)
 .exact .inl (.inr ⟨_,_,hx,hy,q _ H (zr.refl _) rfl⟩)
 .obtain⟨z,e,q⟩:=yI q;obtain⟨k,hk,rfl⟩:=v4.mp e;obtain⟨p,es,rfl,_,hl,r⟩:=hy;exact .inr ⟨p,_,rfl,by rw[Ux hx hk];exact fe.rk hl,by rw[r.Hk];exact q _ H (zr.refl _) rfl⟩
 .exact q.elim
section
variable {X:Cx}{C:LC}{S:HF}{e a b:HY}{es:HL}{w w1 w2:Bool}{ws:HW}{m m1 m2:ME}{ms:MA}{pos p:Pos}{x:Str}
def FK(hu:X.A.units+1<cLine)(h1:EM X C S w1 a m1)(h2:EM X C S w2 b m2)(hm:behindInMarks .In b=false:=by with_unfolding_all rfl):EM X C S false (.Compare a [.In] [b] pos) (mOp (pIn false) m1 m2):=λhK=>mJ (mT hu) (by rw[hK];exact Au) h1 h2 hm hK
def dj(hu:X.A.units+1<cLine)(h1:EM X C S w1 a m1)(h2:EM X C S w2 b m2)(hm:behindInMarks .In b=false:=by with_unfolding_all rfl):TM X C S (.Compare a [.In] [b] pos) (zX (mOp (pIn false) m1 m2)):=λhK=>yD (mT hu) (by rw[hK];exact Au) h1 h2 hm hK
def Q8(hu:X.A.units+1<cLine)(h1:EM X C S w1 a m1)(h2:EM X C S w2 b m2)(hm:behindInMarks .NotIn b=false:=by with_unfolding_all rfl):TM X C S (.Compare a [.NotIn] [b] pos) (zX (mOp (pIn true) m1 m2)):=λhK=>yD (bg hu) (by rw[hK];exact Au) h1 h2 hm hK
def sC(W:RC)(M:HI)(H:Hp):List PV->List V->Prop
 |[],vs=>vs=[]
 |x::xs,vs=>∃v r,vs=v::r/\yF W (λ_=>True) M H x v/\sC W M H xs r
def RVs.weak{B:Bs}{P:HQ}{H:Hp}:∀{ws:HW}{xs:Ib}{vs:HN},RVs C B S P H ws xs vs->sC C.W (Mof B S P) H xs vs
 |[],_,_,⟨e1,e2⟩=>by subst e1;subst e2;rfl
 |w::ws,_,_,⟨x,v,xr,vr,e1,e2,h1,h2⟩=>by subst e1;subst e2;exact⟨v,vr,rfl,h1.weak,RVs.weak h2⟩
def LfC(W:RC)(r:List V->Hp->VK->Prop)(p:Ia):Prop:=∀(M:HI)(C:LC)(B:Bs) H xs vs Q,New M H->sC W M H xs vs->zR C B H (Rep W M) Q (p xs)->r vs H Q
def LfF(W:RC)(r:List V->Hp->VK->Prop)(p:Ia):Prop:=∀(M:HI)(C:LC)(B:Bs) H xs vs Q,New M H->sC W M H xs vs->zR C B H (RFr W M H) Q (p xs)->r vs H Q
def zk(g:Ia)(ms:MA):ME:=λρ=>(ms ρ).bind g
def Dp(L:LfC C.W r g)(h:LA C S ws ta ms):LE C S false (tCB r ta) (zk g ms):=λB P H σ ρ R Q q=>
 h B P H σ ρ R _ (yH q λxs vs H1 s1 r1 q1=>L _ C B H1 xs vs Q (R.keep s1).new r1.weak (RV.eq▸q1))
def jV(h:zR C B H (RFr W M H) Q o)(s:zr H H2):zR C B H2 (RFr W M H2) Q o:=by
 cases o with
 |ok x=>exact λv H3 s3 hx=>h v H3 (s.trans s3) (let⟨p,e,hp,hr⟩:=hx;⟨p,e,zr.none s hp,hr⟩)
 |exc c fs=>exact h
 |wall=>exact h
def jW(h:zR C B H (RFr W M H) Q (o.bind f))(k:∀r v H2,zr H H2->R' H2 r v->zR C B H2 (RFr W M H2) Q (f r)->Q' v H2):iu C B H R' Q' o:=by
 cases o with
 |ok r=>exact λv H2 s hr=>k r v H2 s hr (jV (o:=f r) h s)
 |exc c fs=>exact h
 |wall=>exact h
def jX(h:zR C B H (RFr W M H) Q (o.bind f))(k:∀r v H2,zr H H2->R' H2 r v->zR C B H2 (RFr W M H2) Q (f r)->Q' v H2):zR C B H R' Q' o:=by
 cases o with
 |ok r=>exact λv H2 s hr=>k r v H2 s hr (jV (o:=f r) h s)
 |exc c fs=>exact h
 |wall=>exact h
def Av(L:LfF C.W r g)(h:LA C S ws ta ms):LFr C S (tCB r ta) (zk g ms):=λB P H σ ρ R Q q=>
 h B P H σ ρ R _ (jW q λxs vs H1 s1 r1 q1=>L _ C B H1 xs vs Q (R.keep s1).new r1.weak q1)
def Q9{id:String}{r:List V->Hp->VK->Prop}{g:Ia}(hc:X.K=C.W.K->jr X (.builtin id) r)(L:LfC C.W r g)(hg:Gl X x)(hm:X.mg x=none)(hv:bootBuiltins x=some (.builtin id))(ha:AM X C S ws (e::es) ms)(hn:x≠"__name__":=by decide)(hdb:(x==("__debug__":Str))=false:=by decide)
  (he:starEach (e::es) X.env=(false,eval e X.env)::starEach es X.env:=by rfl) (hpl:(backTo pos (starEach es X.env)).any (·.1)=false:=by rfl):EM X C S false (.Call (.Name x p) (e::es) [] pos) (zk g ms):=λhK=>by
 obtain⟨ta,a1,a2⟩:=ha hK;exact⟨_,Vt (hc hK) hg hm hv a1 hn hdb he hpl,Dp L a2⟩
def fF{id:String}{r:List V->Hp->VK->Prop}{g:Ia}(hc:X.K=C.W.K->jr X (.type id) r)(L:LfF C.W r g)(hg:Gl X x)(hm:X.mg x=none)(hv:bootBuiltins x=some (.type id))(ha:AM X C S ws (e::es) ms)(hn:x≠"__name__":=by decide)(hdb:(x==("__debug__":Str))=false:=by decide)
  (he:starEach (e::es) X.env=(false,eval e X.env)::starEach es X.env:=by rfl) (hpl:(backTo pos (starEach es X.env)).any (·.1)=false:=by rfl):FM X C S (.Call (.Name x p) (e::es) [] pos) (zk g ms):=λhK=>by
 obtain⟨ta,a1,a2⟩:=ha hK;exact⟨_,aR (hc hK) hg hm hv a1 hn hdb he hpl,Av L a2⟩
end
def W6:List PV->Out PV
 |[.l xs]=>.ok (.i xs.length)
 |[.t xs]=>.ok (.i xs.length)
 |[.sc xs]=>.ok (.i xs.length)
 |[.d xs]=>.ok (.i xs.length)
 |[.s z]=>if z.length<=sizeLine then .ok (.i z.length)else .wall
 |_=>.wall
def qe.len(h:qe W M H a es):es.length=a.length:=by have:=R8 List.length (qe.iff.mp h).1;simpa using this
def Dq(K:Il):List V->Hp->VK->Prop:=λxs H Q=>(∃x n,xs=[x]/\Gu K x H n/\Q (.int n) H)\/∃a kvs,xs=[V.ref a]/\Rd H a (.dK kvs)/\Q (.int kvs.length) H
def mV:jr X (.builtin "len") (λxs H Q=>∃a kvs,xs=[V.ref a]/\Rd H a (.dK kvs)/\Q (.int kvs.length) H):=by intro pins s σ H xs us Q I r h;obtain⟨a,kvs,rfl,e,q⟩:=h;obtain⟨u,rfl,ru⟩:=vals1 r;cases ru;exact Ft I e λt s' I'=>⟨.int _,H,I',⟨t,rfl⟩,q⟩
def Dr:LfC W (Dq W.K) W6:=λM C B H xs vs Q n h q=>by
 unfold W6 at q;split at q
 .obtain⟨v,r,rfl,⟨p,vs,rfl,_,hl,rr⟩,hr⟩:=h;cases(show _=_ from hr);exact .inl ⟨_,vs.length,rfl,.inl ⟨vs,SqL.of hl,rfl⟩,q _ H (zr.refl _) (by rw[rr.len];rfl)⟩
 .obtain⟨v,r,rfl,⟨p,vs,rfl,hl,rr⟩,hr⟩:=h;cases(show _=_ from hr);exact .inl ⟨_,vs.length,rfl,.inr ⟨vs,hl,rfl⟩,q _ H (zr.refl _) (by rw[rr.len];rfl)⟩
 .obtain⟨v,r,rfl,⟨p,rfl,hl⟩,hr⟩:=h;cases(show _=_ from hr);exact .inl ⟨_,_,rfl,.inl ⟨_,hl.sq,rfl⟩,q _ H (zr.refl _) (by rw[t0];rfl)⟩
 .obtain⟨v,r,rfl,⟨p,es,rfl,_,hl,rr⟩,hr⟩:=h;cases(show _=_ from hr);exact .inr ⟨_,es,rfl,hl,q _ H (zr.refl _) (by rw[rr.len];rfl)⟩
 .split at q
  .rename_i hz;obtain⟨v,r,rfl,hx,hr⟩:=h;cases(show _=_ from hr);cases(show _=_ from hx);exact .inl ⟨_,_,rfl,⟨hz,rfl⟩,q _ H (zr.refl _) rfl⟩
  .exact q.elim
 .exact q.elim
def w8(hg:Gl X "len")(hm:X.mg "len"=none)(ha:AM X C S ws [e] ms)(he:starEach [e] X.env=[(false,eval e X.env)]:=by rfl):EM X C S false (.Call (.Name "len" p) [e] [] pos) (zk W6 ms):=
 Q9 (r:=Dq C.W.K) (λhK=>hK▸rK.or mV) Dr hg hm PySem.boot_len ha (he:=he)
def Aw:List PV->Out PV
 |[.l xs]=>.ok (.l xs)
 |[.t xs]=>.ok (.l xs)
 |[.sc xs]=>.ok (.l (xs.map PV.i))
 |_=>.wall
def v5(r:zP W M H xs vs)(hl:H l=none):RFr W M H (upd H l (.lst vs)) (.l xs) (.ref l):=
 ⟨l,rfl,hl,vs,zg,(r.sub λa m n=>⟨m,λz=>n (z▸hl)⟩).same (zr.upd hl)⟩
def Ax(r:qe W M H xs vs)(hl:H l=none):RFr W M H (upd H l (.dK vs)) (.d xs) (.ref l):=
 ⟨l,rfl,hl,vs,zg,(r.sub λa m n=>⟨m,λz=>n (z▸hl)⟩).same (zr.upd hl)⟩
def Ay:LfF W (λxs H Q=>∃p ys,xs=[.ref p]/\(SqL W.K H p ys\/SqT W.K H p ys)/\∀l,H l=none->Q (.ref l) (upd H l (.lst ys))) Aw:=λM C B H xs vs Q n h q=>by
 unfold Aw at q;split at q
 .obtain⟨v,r,rfl,⟨p,vs,rfl,_,hl,rr⟩,hr⟩:=h;cases(show _=_ from hr);exact⟨p,vs,rfl,.inl (SqL.of hl),λl hl=>q _ _ (zr.upd hl) (v5 rr hl)⟩
 .obtain⟨v,r,rfl,⟨p,vs,rfl,hl,rr⟩,hr⟩:=h;cases(show _=_ from hr);exact⟨p,vs,rfl,.inr hl,λl hl=>q _ _ (zr.upd hl) (v5 rr hl)⟩
 .obtain⟨v,r,rfl,⟨p,rfl,hl⟩,hr⟩:=h;cases(show _=_ from hr);exact⟨p,_,rfl,.inl hl.sq,λl hl=>q _ _ (zr.upd hl) (v5 zP.ints hl)⟩
 .exact q.elim
def toI:PV->Option Int
 |.i a=>some a
 |_=>none
def sD:List PV->Option (List Int)
 |[]=>some []
 |x::r=>match toI x,sD r with|some a,some b=>some (a::b)|_,_=>none
def dk{W:RC}{M:HI}{H:Hp}:∀{xs:Ib}{vs:HN}{ns:Ij},zP W M H xs vs->sD xs=some ns->vs=ns.map V.int
 |[],_,_,h,e=>by cases(show _=_ from h);cases e;rfl
 |x::xs,_,ns,h,e=>by
  obtain⟨v,r,rfl,h1,h2⟩:=h;unfold sD at e;cases x with
  |i a=>
   cases hr:sD xs with
   |none=>rw[hr]at e;cases e
   |some b=>rw[hr]at e;cases e;rw[M3,<- dk h2 hr,(show v=_ from h1)]
  |_=>cases e
def fG:∀{ns:Ij},sD (ns.map PV.i)=some ns
 |[]=>rfl
 |n::ns=>by show(match toI (.i n),sD (ns.map PV.i)with|some a,some b=>some (a::b)|_,_=>none)=_;rw[fG];rfl
def sE:List Int->Int
 |[]=>0
 |[a]=>a
 |a::r=>max a (sE r)
def fH:∀{ns:Ij},ns≠[]->sE ns∈ns
 |[],h=>absurd rfl h
 |[a],_=>by simp[sE]
 |a::b::r,_=>by
  have ih:=fH (ns:=b::r) (by simp);show max a (sE (b::r))∈_;rcases a2S a (sE (b::r))with h|h
  .rw[Int.max_eq_right h];exact L8 _ ih
  .rw[Int.max_eq_left h];exact L4
def mW:∀{ns:Ij}{a:Int},a∈ns->a<=sE ns
 |[],_,h=>by cases h
 |[b],a,h=>by simp at h;subst h;exact a0h _
 |b::c::r,a,h=>by
  show a<=max b (sE (c::r));rcases N4.mp h with rfl|h
  .exact Int.le_max_left ..
  .exact Int.le_trans (mW h) (Int.le_max_right ..)
def B6:List PV->Out PV
 |[.i a,.i b]=>.ok (.i (max a b))
 |[.l xs]=>kN ((sD xs).bind λns=>if ns=[]then none else some (.i (sE ns)))
 |_=>.wall
def Uz:List PV->Out PV
 |[.i a,.i b]=>.ok (.i (min a b))
 |_=>.wall
def Ds:LfC W (λxs H Q=>∃i j,xs=[.int i,.int j]/\Q (.int (if j<i then j else i)) H) Uz:=λM C B H xs vs Q n h q=>by
 unfold Uz at q;split at q
 .obtain⟨v,r,rfl,hx,v2,r2,rfl,hx2,hr⟩:=h;cases(show _=_ from hr);cases(show _=_ from hx);cases(show _=_ from hx2);exact⟨_,_,rfl,q _ H (zr.refl _) (by show V.int _=V.int _;congr 1;omega)⟩
 .exact q.elim
def Dt:LfC W (λxs H Q=>(∃i j,xs=[.int i,.int j]/\Q (.int (if j>i then j else i)) H)\/C7 W.K xs H Q) B6:=λM C B H xs vs Q n h q=>by
 unfold B6 at q;split at q
 .obtain⟨v,r,rfl,hx,v2,r2,rfl,hx2,hr⟩:=h;cases(show _=_ from hr);cases(show _=_ from hx);cases(show _=_ from hx2);exact .inl ⟨_,_,rfl,q _ H (zr.refl _) (by show V.int _=V.int _;congr 1;omega)⟩
 .obtain⟨z,e,q⟩:=yI q;obtain⟨ns,hn,e⟩:=O1.mp e;by_cases hz:ns=[]
  .rw[if_pos hz]at e;cases e
  .rw[if_neg hz]at e;cases e;obtain⟨v,r,rfl,⟨p,vs,rfl,_,hl,rr⟩,hr⟩:=h;cases(show _=_ from hr);rw[dk rr hn]at hl;refine .inr ⟨p,ns,rfl,SqL.of hl,hz,λM hM hM2=>?_⟩;have:M=sE ns:=Int.le_antisymm (mW hM) (hM2 _ (fH hz));rw[this];exact q _ H (zr.refl _) rfl
 .exact q.elim
def uX:List PV->Option (List Bool)
 |[]=>some []
 |x::r=>match x,uX r with | .b a,some b=>some (a::b)|_,_=>none
def mX{W:RC}{M:HI}{H:Hp}:∀{xs:Ib}{vs:HN}{ns:HW},zP W M H xs vs->uX xs=some ns->vs=ns.map V.bl
 |[],_,_,h,e=>by cases(show _=_ from h);cases e;rfl
 |x::xs,_,ns,h,e=>by
  obtain⟨v,r,rfl,h1,h2⟩:=h;unfold uX at e;cases x with
  |b a=>
   cases hr:uX xs with
   |none=>rw[hr]at e;cases e
   |some b=>rw[hr]at e;cases e;rw[M3,<- mX h2 hr,(show v=_ from h1)]
  |_=>cases e
def fI:∀{ns:HW},uX (ns.map PV.b)=some ns
 |[]=>rfl
 |n::ns=>by unfold uX;rw[M3];simp only[fI]
def Az:List PV->Out PV
 |[.l xs]=>kN ((uX xs).map λns=>.b (ns.all id))
 |_=>.wall
def Du:LfC W (GB W.K) Az:=λM C B H xs vs Q n h q=>by
 unfold Az at q;split at q
 .obtain⟨z,e,q⟩:=yI q;obtain⟨ns,hn,rfl⟩:=v4.mp e;obtain⟨v,r,rfl,⟨p,vs,rfl,_,hl,rr⟩,hr⟩:=h;cases(show _=_ from hr);rw[mX rr hn]at hl;exact⟨p,ns,rfl,SqL.of hl,q _ H (zr.refl _) rfl⟩
 .exact q.elim
def uY(hc:X.calm=true)(hg:Gl X "max")(hm:X.mg "max"=none)(ha:AM X C S ws (e::es) ms)(he:starEach (e::es) X.env=(false,eval e X.env)::starEach es X.env:=by rfl)(hpl:(backTo pos (starEach es X.env)).any (·.1)=false:=by rfl):EM X C S false (.Call (.Name "max" p) (e::es) [] pos) (zk B6 ms):=
 Q9 (λhK=>hK▸(lR hc).or (mG hc)) Dt hg hm PyProof.Rows.boot_max ha (he:=he) (hpl:=hpl)
def fJ(hc:X.calm=true)(hg:Gl X "min")(hm:X.mg "min"=none)(ha:AM X C S ws (e::es) ms)(he:starEach (e::es) X.env=(false,eval e X.env)::starEach es X.env:=by rfl)(hpl:(backTo pos (starEach es X.env)).any (·.1)=false:=by rfl):EM X C S false (.Call (.Name "min" p) (e::es) [] pos) (zk Uz ms):=
 Q9 (λhK=>lU hc) Ds hg hm a2y ha (he:=he) (hpl:=hpl)
def mY(hc:X.calm=true)(hg:Gl X "all")(hm:X.mg "all"=none)(ha:AM X C S ws [e] ms)(he:starEach [e] X.env=[(false,eval e X.env)]:=by rfl):EM X C S false (.Call (.Name "all" p) [e] [] pos) (zk Az ms):=
 Q9 (λhK=>hK▸so hc) Du hg hm PyProof.Rows.boot_all ha (he:=he)
def qG(W:RC)(M:HI)(H:Hp):List Bool->List PV->List V->Prop
 |[],xs,vs=>xs=[]/\vs=[]
 |w::ws,xs,vs=>∃x v xr vr,xs=x::xr/\vs=v::vr/\yF W (if w=true then λ_=>True else M) M H x v/\qG W M H ws xr vr
def RVs.args{C:LC}{B:Bs}{S:HF}{P:HQ}{H:Hp}:∀{ws:HW}{xs:Ib}{vs:HN},RVs C B S P H ws xs vs->qG C.W (Mof B S P) H ws xs vs
 |[],_,_,h=>h
 |w::ws,_,_,⟨x,v,xr,vr,e1,e2,h1,h2⟩=>⟨x,v,xr,vr,e1,e2,h1,RVs.args h2⟩
def qG.len{W:RC}{M:HI}{H:Hp}:∀{ws:HW}{xs:Ib}{vs:HN},qG W M H ws xs vs->vs.length=ws.length/\xs.length=ws.length
 |[],_,_,⟨e1,e2⟩=>by subst e1;subst e2;exact⟨rfl,rfl⟩
 |w::ws,_,_,⟨x,v,xr,vr,e1,e2,h1,h2⟩=>by subst e1;subst e2;exact⟨by rw[I0,I0,(qG.len h2).1],by rw[I0,I0,(qG.len h2).2]⟩
def qG.same{W:RC}{M:HI}{H H':Hp}(s:zr H H'):∀{ws:HW}{xs:Ib}{vs:HN},qG W M H ws xs vs->qG W M H' ws xs vs
 |[],_,_,h=>h
 |w::ws,_,_,⟨x,v,xr,vr,e1,e2,h1,h2⟩=>⟨x,v,xr,vr,e1,e2,h1.same s,qG.same s h2⟩
def RtV(W:RC)(fr:Bool)(M:HI)(H H2:Hp)(r:PV)(v:V):Prop:=if fr=true then RFr W (λa=>M a\/H a=none) H H2 r v else Rep W (λa=>M a\/H a=none) H2 r v
def FL(W:RC)(fr:Bool)(M:HI)(H:Hp)(Q:VK)(E:XK):Out PV->Prop
 |.ok r=>∀v H2,zr H H2->RtV W fr M H H2 r v->Q v H2
 |.exc c fs=>∀e dx es H2,zr H H2->H2 e=some (XC e (W.cls c) dx)->H2 dx=some (XD dx es)->qS W (λa=>M a\/H a=none) H2 fs es->E (.ref e) (some dx) H2
 |.wall=>False
def lsp(W:RC)(fr:Bool)(ws:HW)(g:Ia):Sp:=λvs H Q E=>∃M xs,qG W M H ws xs vs/\FL W fr M H Q E (g xs)
def AA{W:RC}{fr:Bool}{ws:HW}{g:Ia}{n:Nat}(h:ws.length=n):∀vs H Q E,lsp W fr ws g vs H Q E->vs.length=n:=λvs H Q E ⟨M,xs,a,_⟩=>a.len.1.trans h
def RFr.sub(h:RFr W M H H2 x v)(s:∀a,M a->M' a):RFr W M' H H2 x v:=by obtain⟨p,e,hp,h⟩:=h;exact⟨p,e,hp,h.gen rfl Fr.refl λa m _=>⟨s a m.1,m.2⟩⟩
section
variable {X:Cx}{C:LC}{S:HF}{e a b o:HY}{es:HL}{w w1 w2 fr:Bool}{ws:HW}{m m1 m2:ME}{ms:MA}{pos p qE:Pos}{x mn:Str}{k:Nat}{f:Addr}{fd:Ii}{ps:HA}{g:Ia}
def mZ(R:Rel C.W B S P H σ ρ)(q:XPo C B c fs):∀e dx es H2,zr H H2->H2 e=some (XC e (C.W.cls c) dx)->H2 dx=some (XD dx es)->qS C.W (λa=>Mof B S P a\/H a=none) H2 fs es->C.E (.ref e) (some dx) H2:=
 λe dx es H2 s h1 h2 h3=>q e dx es H2 (R.same.trans s) h1 h2 (h3.sub λa m _=>m.elim (λm=>m.1.1) λn=>.inr (zr.none R.same n))
def uZ{B:Bs}{P:HQ}{H:Hp}{σ:St}{ρ:Sto}{Q:VK}{o:Out PV}(R:Rel C.W B S P H σ ρ)(q:zR C B H (RV C B S P false) Q o):FL C.W fr (Mof B S P) H Q C.E o:=by
 have sM:∀a,(Mof B S P a\/H a=none)->Mof B S P a:=λa m=>m.elim id λn=>R.new a n;cases o with
 |ok r=>
  intro v H2 s hr;refine q v H2 s (RV.of ?_);unfold RtV at hr;cases fr with
  |true=>rw[if_pos rfl]at hr;exact(hr.sub sM).rep R.new
  |false=>rw[if_neg N6]at hr;exact hr.sub λa m _=>sM a m
 |exc c fs=>exact mZ R q
 |wall=>exact q
def dm{B:Bs}{P:HQ}{H:Hp}{σ:St}{ρ:Sto}{Q:VK}{o:Out PV}(R:Rel C.W B S P H σ ρ)(q:zR C B H (RFr C.W (Mof B S P) H) Q o):FL C.W true (Mof B S P) H Q C.E o:=by
 have sM:∀a,(Mof B S P a\/H a=none)->Mof B S P a:=λa m=>m.elim id λn=>R.new a n;cases o with
 |ok r=>intro v H2 s hr;unfold RtV at hr;rw[if_pos rfl]at hr;exact q v H2 s (hr.sub sM)
 |exc c fs=>exact mZ R q
 |wall=>exact q
def AB(F:yU X.prog X.w X.K X.mg X.base (CXe X.prog X.w) k f fd ps (lsp C.W fr ws g))(hr:jU k X.A)(hg:Gl X x)(hm:X.mg x=some (.ref f))(hk:keepIn X.K (.ref f)=true)(hb:Binds X.K fd ps [])(hx:Passes (CXe X.prog X.w) X C.E)(ha:AM X C S ws (e::es) ms)
  (hdb:(x==("__debug__":Str))=false:=by decide) (he:starEach (e::es) X.env=(false,eval e X.env)::starEach es X.env:=by rfl) (hpl:(backTo pos (starEach es X.env)).any (·.1)=false:=by rfl):EM X C S false (.Call (.Name x p) (e::es) [] pos) (zk g ms):=λhK=>by
 obtain⟨ta,a1,a2⟩:=ha hK;refine⟨_,lZ F hr hg hm hk hb .nil hx a1 hdb he hpl,λB P H σ ρ R Q q=>a2 B P H σ ρ R _ (yH q λxs vs H1 s1 r1 q1=>?_)⟩;rw[P0];exact⟨_,xs,r1.args,uZ (R.keep s1) q1⟩
def ZG(F:yU X.prog X.w X.K X.mg X.base (CXe X.prog X.w) k f fd ps (lsp C.W true ws g))(hr:jU k X.A)(hg:Gl X x)(hm:X.mg x=some (.ref f))(hk:keepIn X.K (.ref f)=true)(hb:Binds X.K fd ps [])(hx:Passes (CXe X.prog X.w) X C.E)(ha:AM X C S ws (e::es) ms)
  (hdb:(x==("__debug__":Str))=false:=by decide) (he:starEach (e::es) X.env=(false,eval e X.env)::starEach es X.env:=by rfl) (hpl:(backTo pos (starEach es X.env)).any (·.1)=false:=by rfl):FM X C S (.Call (.Name x p) (e::es) [] pos) (zk g ms):=λhK=>by
 obtain⟨ta,a1,a2⟩:=ha hK;refine⟨_,lZ F hr hg hm hk hb .nil hx a1 hdb he hpl,λB P H σ ρ R Q q=>a2 B P H σ ρ R _ (jW q λxs vs H1 s1 r1 q1=>?_)⟩;rw[P0];exact⟨_,xs,r1.args,dm (R.keep s1) q1⟩
def Q_(cs:HF)(f:Str)(m:ME):ME:=λρ=>(m ρ).bind λx=>match x with
 |.o c fs=>if c∈cs then kN (fs.lookup f)else .wall
 |_=>.wall
def v7(h:EM X C S w e m)(hc:∀c∈cs,Cls X.K (C.W.cls c)/\jF X.K (C.W.cls c) fn)(hb:attributeBase e fn X.env (eval e X.env)=eval e X.env:=by rfl):EM X C S false (.Attribute e fn pos) (Q_ cs fn m):=λhK=>by
 obtain⟨te,a1,a2⟩:=h hK;refine⟨_,uK a1 hb,λB P H σ ρ R Q q=>a2 B P H σ ρ R _ (z4 q λx v H1 s1 r1 q1=>?_)⟩;cases x with
 |o c fs=>
  obtain⟨p,dx,es,rfl,_,hp,hf⟩:=r1;by_cases hcs:c∈cs
  .have q1:zR C B H1 (RV C B S P false) Q (if c∈cs then kN (fs.lookup fn)else .wall):=q1;rw[if_pos hcs]at q1;obtain⟨y,e,q1⟩:=yI q1;obtain⟨v,hv,rv⟩:=hf.lookup e;exact⟨p,_,dx,es,v,rfl,hp,(hc c hcs).1,(hc c hcs).2,hv,q1 v H1 (zr.refl _) (RV.of rv)⟩
  .have q1:zR C B H1 (RV C B S P false) Q (if c∈cs then kN (fs.lookup fn)else .wall):=q1;rw[if_neg hcs]at q1;exact q1.elim
 |_=>exact q1.elim
def kO(tab:List (Nat×(List PV->Out PV)))(mn:Str)(m:ME)(ms:MA):ME:=λρ=>(m ρ).bind λx=>match x with
 |.o c fs=>match tab.lookup c with
  |some g=>if(fs.lookup mn).isSome=true then .wall else(ms ρ).bind λxs=>g (x::xs)
  |none=>.wall
 |_=>.wall
def Dv(W:RC)(fr:Bool)(ws:HW)(tab:List (Nat×(List PV->Out PV)))(K:Addr)(sp:Sp):Prop:=∃q∈tab,K=W.cls q.1/\sp=lsp W fr (true::ws) q.2
def lookup_mem{α:Type}:∀{tab:List (Nat×α)}{c:Nat}{g:α},tab.lookup c=some g->(c,g)∈tab
 |[],_,_,h=>by cases h
 |q::r,c,g,h=>by
  rw[O9]at h;by_cases e:(c==q.1)=true
  .simp only[e]at h;cases h;rw[O7.mp e];exact L4
  .simp only[e]at h;exact L8 _ (lookup_mem h)
def dq{B:Bs}{P:HQ}{H:Hp}{σ:St}{ρ:Sto}{Q:VK}{c:Nat}{fs:Ig}{v:V}{tab:List (Nat×(List PV->Out PV))}{t:TA}(R:Rel C.W B S P H σ ρ)(r1:RV C B S P w H (.o c fs) v)
  (ht:∀g,tab.lookup c=some g->fs.lookup mn=none->t σ H λvs H2=>lsp C.W fr (true::ws) g (v::vs) H2 Q C.E)
  (q:(∃g,tab.lookup c=some g/\fs.lookup mn=none)):∃a dx es K sp,Dv C.W fr ws tab K sp/\v=.ref a/\H a=some (.ins K dx es)/\es.lookup mn=none/\t σ H λvs H2=>sp (v::vs) H2 Q C.E:=by
 obtain⟨g,hg,hn⟩:=q;have h:=ht g hg hn;obtain⟨p,dx,es,rfl,_,hp,hf⟩:=r1;exact⟨p,dx,es,_,_,⟨(c,g),lookup_mem hg,rfl,rfl⟩,rfl,hp,hf.mL hn,h⟩
def RVs.consW{B:Bs}{P:HQ}{H:Hp}{x:PV}{v:V}{xs:Ib}{vs:HN}(h:RV C B S P w H x v)(t:RVs C B S P H ws xs vs):qG C.W (Mof B S P) H (true::ws) (x::xs) (v::vs):=⟨x,v,xs,vs,rfl,rfl,by rw[if_pos rfl];exact h.weak,t.args⟩
def J7(h:EM X C S w o m)(hal:∀K sp,Dv C.W fr ws tab K sp->An X.prog X.w X.K X.mg X.base X.A mn K sp)(hx:Passes (CXe X.prog X.w) X C.E)(ha:AM X C S ws (e::es) ms)
  (hst:starEach (e::es) X.env=(false,eval e X.env)::starEach es X.env:=by rfl) (hpl:(backTo pos (starEach es X.env)).any (·.1)=false:=by rfl)
  (ht:eval (.Call (.Attribute o mn qE) (e::es) [] pos) X.env=(do
   let ov<-eval o X.env
   standAt qE.atName
   let(f,first)<-holding [ov] (getMethod ov mn pl)
   callWith pos f first (backTo pos (starEach (e::es) X.env)) (backToKw pos (keywordEach [] X.env))):=by rfl):EM X C S false (.Call (.Attribute o mn qE) (e::es) [] pos) (kO tab mn m ms):=λhK=>by
 obtain⟨to,o1,o2⟩:=h hK;obtain⟨ta,a1,a2⟩:=ha hK;refine⟨_,fu (pl:=pl) o1 hal hx a1 hst hpl ht,λB P H σ ρ R Q q=>o2 B P H σ ρ R _ (z4 q λx v H1 s1 r1 q1=>?_)⟩;cases x with
 |o c fs=>
  dsimp only at q1;cases hg:tab.lookup c with
  |none=>rw[hg]at q1;exact q1.elim
  |some g=>
   rw[hg]at q1;dsimp only at q1;cases hn:fs.lookup mn with
   |some z=>rw[hn]at q1;exact q1.elim
   |none=>rw[hn]at q1;have q1:zR C B H1 (RV C B S P false) Q ((ms ρ).bind λxs=>g (.o c fs::xs)):=q1;refine dq (R.keep s1) r1 (λg' hg' _=>?_) ⟨g,hg,hn⟩;rw[hg]at hg';cases hg';exact a2 B P H1 σ ρ (R.keep s1) _ (yH q1 λxs vs H2 s2 r2 q2=>⟨_,_,RVs.consW (RV.same r1 s2) r2,uZ ((R.keep s1).keep s2) q2⟩)
 |_=>exact q1.elim
def sF(h:EM X C S w o m)(hal:∀K sp,Dv C.W true [] tab K sp->An X.prog X.w X.K X.mg X.base X.A mn K sp)(hx:Passes (CXe X.prog X.w) X C.E)
  (ht:eval (.Call (.Attribute o mn qE) [] [] pos) X.env=(do
   let ov<-eval o X.env
   standAt qE.atName
   let(f,first)<-holding [ov] (getMethod ov mn pl)
   callWith pos f first (backTo pos (starEach [] X.env)) (backToKw pos (keywordEach [] X.env))):=by rfl):FM X C S (.Call (.Attribute o mn qE) [] [] pos) (kO tab mn m zq):=λhK=>by
 obtain⟨to,o1,o2⟩:=h hK;refine⟨_,mH (pl:=pl) o1 hal hx ht,λB P H σ ρ R Q q=>o2 B P H σ ρ R _ (jX q λx v H1 s1 r1 q1=>?_)⟩;cases x with
 |o c fs=>
  dsimp only at q1;cases hg:tab.lookup c with
  |none=>rw[hg]at q1;exact q1.elim
  |some g=>
   rw[hg]at q1;dsimp only at q1;cases hn:fs.lookup mn with
   |some z=>rw[hn]at q1;exact q1.elim
   |none=>rw[hn]at q1;refine dq (R.keep s1) r1 (λg' hg' _=>?_) ⟨g,hg,hn⟩;rw[hg]at hg';cases hg';exact⟨_,_,RVs.consW (ws:=[]) r1 ⟨rfl,rfl⟩,dm (R.keep s1) q1⟩
 |_=>exact q1.elim
def AD(h:EM X C S w o m)(hal:∀K sp,Dv C.W true ws tab K sp->An X.prog X.w X.K X.mg X.base X.A mn K sp)(hx:Passes (CXe X.prog X.w) X C.E)(ha:AM X C S ws (e::es) ms)
  (hst:starEach (e::es) X.env=(false,eval e X.env)::starEach es X.env:=by rfl) (hpl:(backTo pos (starEach es X.env)).any (·.1)=false:=by rfl)
  (ht:eval (.Call (.Attribute o mn qE) (e::es) [] pos) X.env=(do
   let ov<-eval o X.env
   standAt qE.atName
   let(f,first)<-holding [ov] (getMethod ov mn pl)
   callWith pos f first (backTo pos (starEach (e::es) X.env)) (backToKw pos (keywordEach [] X.env))):=by rfl):FM X C S (.Call (.Attribute o mn qE) (e::es) [] pos) (kO tab mn m ms):=λhK=>by
 obtain⟨to,o1,o2⟩:=h hK;obtain⟨ta,a1,a2⟩:=ha hK;refine⟨_,fu (pl:=pl) o1 hal hx a1 hst hpl ht,λB P H σ ρ R Q q=>o2 B P H σ ρ R _ (jX q λx v H1 s1 r1 q1=>?_)⟩;cases x with
 |o c fs=>
  dsimp only at q1;cases hg:tab.lookup c with
  |none=>rw[hg]at q1;exact q1.elim
  |some g=>
   rw[hg]at q1;dsimp only at q1;cases hn:fs.lookup mn with
   |some z=>rw[hn]at q1;exact q1.elim
   |none=>rw[hn]at q1;have q1:zR C B H1 (RFr C.W (Mof B S P) H1) Q ((ms ρ).bind λxs=>g (.o c fs::xs)):=q1;refine dq (R.keep s1) r1 (λg' hg' _=>?_) ⟨g,hg,hn⟩;rw[hg]at hg';cases hg';exact a2 B P H1 σ ρ (R.keep s1) _ (jW q1 λxs vs H2 s2 r2 q2=>⟨_,_,RVs.consW (RV.same r1 s2) r2,dm ((R.keep s1).keep s2) q2⟩)
 |_=>exact q1.elim
def erase(H:Hp)(x:Addr):Hp:=λa=>if a=x then none else H a
def GD(W:RC)(M:HI)(H:Hp)(x:Addr)(Q:VK)(E:XK):Out PV->Prop
 |.ok r=>∀H2,zr (erase H x) H2->VN W (λa=>(M a\/erase H x a=none)/\a≠x) H2 x r->Q .non H2
 |.exc c fs=>∀e dx es H2,zr (erase H x) H2->H2 e=some (XC e (W.cls c) dx)->H2 dx=some (XD dx es)->qS W (λa=>M a\/erase H x a=none) H2 fs es->E (.ref e) (some dx) H2
 |.wall=>False
def EX(W:RC)(c:Nat)(ws:HW)(g:Ia):Sp:=λvs H Q E=>∃M x dx xs avs,vs=.ref x::avs/\H x=some (.ins (W.cls c) dx [])/\qG W M (erase H x) ws xs avs/\GD W M H x Q E (g xs)
def sG(h:ws.length+1=n):∀vs H Q E,EX W c ws g vs H Q E->vs.length=n:=λvs H Q E ⟨M,x,dx,xs,avs,e,_,a,_⟩=>by rw[e,I0,a.len.1,h]
def m4{H:Hp}{x dx K:Addr}(hx:H x=none)(hd:H dx=none)(hne:dx≠x):zr H (erase (upd (upd H dx (.own x)) x (.ins K dx [])) x):=λb o hb=>by unfold erase;have n1:b≠x:=ye hb hx;rw[if_neg n1,zi n1,zi (ye hb hd)];exact hb
def m5{H:Hp}{x dx K a:Addr}(hx:H x=none)(h:erase (upd (upd H dx (.own x)) x (.ins K dx [])) x a=none):H a=none:=by
 by_cases e:a=x
 .rw[e];exact hx
 .unfold erase at h;rw[if_neg e,zi e]at h;by_cases e2:a=dx
  .subst e2;rw[zg]at h;cases h
  .rwa [zi e2]at h
def AE(M:Mk X.K (C.W.cls c) f)(F:yU X.prog X.w X.K X.mg X.base (CXe X.prog X.w) k f fd ps (EX C.W c ws g))(hr:jU (k+1) X.A)(hg:Gl X x)(hm:X.mg x=some (.ref (C.W.cls c)))(hb:Binds X.K fd ps [])(hx:Passes (CXe X.prog X.w) X C.E)(ha:AM X C S ws (e::es) ms)
  (hdb:(x==("__debug__":Str))=false:=by decide) (he:starEach (e::es) X.env=(false,eval e X.env)::starEach es X.env:=by rfl) (hpl:(backTo pos (starEach es X.env)).any (·.1)=false:=by rfl):FM X C S (.Call (.Name x p) (e::es) [] pos) (zk g ms):=λhK=>by
 obtain⟨ta,a1,a2⟩:=ha hK;refine⟨_,l0 M F hr hg hm hb .nil hx a1 hdb he hpl,λB P H σ ρ R Q q=>a2 B P H σ ρ R _ (jW q λxs vs H1 s1 r1 q1=>?_)⟩;intro x dx hx hd hne;rw[P0];have R1:=R.keep s1;have sm:=m4 (K:=C.W.cls c) hx hd hne;refine⟨_,x,dx,xs,vs,rfl,zg,r1.args.same sm,?_⟩;have sM:∀a,(Mof B S P a\/erase (upd (upd H1 dx (.own x)) x (.ins (C.W.cls c) dx [])) x a=none)->Mof B S P a:=λa m=>m.elim id λn=>R1.new a (m5 hx n);revert q1;cases g xs with
 |ok r=>exact λq1 H2 s2 hr=>⟨rfl,q1 _ H2 (sm.trans s2) ⟨x,rfl,hx,hr.gen rfl Fr.refl λa m _=>⟨sM a m.1,m.2⟩⟩⟩
 |exc c fs=>exact λq1 e dx' es H2 s2 h1 h2 h3=>q1 e dx' es H2 ((R1.same.trans sm).trans s2) h1 h2 (h3.sub λa m _=>(sM a m).1.1)
 |wall=>exact id
inductive Kd where
 |int|str|bool|none|list|tuple|dict|obj (c:Nat)|exc (c:Nat)
 deriving DecidableEq
def kd:PV->Option Kd
 |.i _=>some .int | .s _=>some .str | .b _=>some .bool | .n=>some .none | .l _=>some .list | .t _=>some .tuple | .d _=>some .dict | .o c _=>some (.obj c) | .x c _=>some (.exc c)
 |.sc _=>Option.none
 |.dt _=>Option.none
def tyK(W:RC):Kd->Value
 |.int=>.type "int" | .str=>.type "str" | .bool=>.type "bool" | .none=>.type "NoneType" | .list=>.type "list" | .tuple=>.type "tuple" | .dict=>.type "dict" | .obj c=>.ref (W.cls c) | .exc c=>.ref (W.cls c)
def EY(W:RC):Kd->Prop
 |.obj c=>Cls W.K (W.cls c)/\findIn W.K (.ref (W.cls c)) "__class__"=some (some (.builtin "object.__class__"))/\specialIn W.K (.builtin "object.__class__") "__get__"=some (some (.builtin "getset_descriptor.__get__"))/\takesIn W.K (.builtin "object.__class__")=some true/\mroIn W.K (W.cls c) (.type "object")=some true
 |.exc c=>YS W.K (W.cls c)/\XIs W.K (W.cls c)
 |_=>True
def m6(W:RC)(f:IQ):List (Kd×Bool)->Prop
 |[]=>True
 |q::r=>(EY W q.1/\f (tyK W q.1)=some q.2)/\m6 W f r
def m6.get{W:RC}{f:IQ}:∀{tab:List (Kd×Bool)}{k:Kd}{b:Bool},m6 W f tab->tab.lookup k=some b->EY W k/\f (tyK W k)=some b
 |[],_,_,_,h=>by cases h
 |q::r,k,b,t,h=>by
  rw[O9]at h;by_cases e:(k==q.1)=true
  .simp only[e]at h;cases h;rw[O7.mp e];exact t.1
  .simp only[e]at h;exact m6.get t.2 h
def AF(tab:List (Kd×Bool))(x:PV):Out PV:=kN (((kd x).bind λk=>tab.lookup k).map PV.b)
def Hm(W:RC)(f:IQ)(cv:V):List V->Hp->VK->Prop:=λvs H Q=>∃(M:HI)(x:PV)(v:V)(k:Kd)(b:Bool),vs=[v,cv]/\yF W (λ_=>True) M H x v/\kd x=some k/\EY W k/\f (tyK W k)=some b/\Q (.bl b) H
def Dw{pins:Hz}{σ:St}{H:Hp}{s:HJ}{W:RC}{N M:HI}{x:PV}{v:V}{u:Value}{k:Kd}(hK:X.K=W.K)(I:Inv X pins σ H s)(h:yF W N M H x v)(ru:RelV v u)(hk:kd x=some k)(ok:EY W k):∃P,KitX X.K u (tyK W k) P/\P s.heap/\u≠.builtin "__main__.__loader__#opaque":=by
 cases x with
 |i a=>cases hk;exact c5 I ru (.inl (by rw[(show v=_ from h)];exact .int a))
 |s a=>cases hk;exact c5 I ru (.inl (by rw[(show v=_ from h)];exact .str a))
 |b a=>cases hk;exact c5 I ru (.inl (by rw[(show v=_ from h)];exact .bl a))
 |n=>cases hk;exact c5 I ru (.inl (by rw[(show v=_ from h)];exact .non))
 |l a=>cases hk;obtain⟨p,vs,rfl,_,hl,_⟩:=h;exact c5 I ru (.inl (.lst hl))
 |t a=>cases hk;obtain⟨p,vs,rfl,hl,_⟩:=h;cases(show u=Value.ref p from ru);rw[<- hK]at hl;obtain⟨its,_,⟨o,h1,h2,_⟩,_⟩:=I.tuple hl;exact⟨_,kitx_tuple,⟨o,h1,h2⟩,λz=>nomatch z⟩
 |d a=>cases hk;obtain⟨p,vs,rfl,_,hl,_⟩:=h;cases(show u=Value.ref p from ru);obtain⟨_,_,ws,_,dd⟩:=Zw I.hok hl;obtain⟨o,es,ep,h1,h2,_⟩:=dd;exact⟨_,kitx_dict,⟨o,h1,h2.1⟩,λz=>nomatch z⟩
 |o c a=>cases hk;obtain⟨p,dx,es,rfl,_,hl,_⟩:=h;obtain⟨o1,o2,o3,o4,o5⟩:=ok;rw[<- hK]at o1 o2 o3 o4 o5;exact c5 I ru (.inl (.ins hl o1 o2 o3 o4 o5))
 |x c a=>cases hk;obtain⟨p,dx,es,rfl,hl,hd,_⟩:=h;obtain⟨o1,o2⟩:=ok;rw[<- hK]at o1 o2;exact c5 I ru (.inr ⟨p,_,dx,es,rfl,rfl,o1,o2,.inl hl,hd⟩)
 |sc a=>cases hk
 |dt a=>cases hk
def sH(hK:X.K=W.K)(hc:FF cv=some cl):jr X (.builtin "isinstance") (Hm W (λt=>kitOne W.K t cl) cv):=by intro pins s σ H xs us Q I r h;obtain⟨M,x,v,k,b,rfl,hx,hk,ok,hb,q⟩:=h;obtain⟨u,c,rfl,rx,rc⟩:=vals2 r;obtain⟨P,kx,hP,hne⟩:=Dw hK I hx rx hk ok;rw[sf rc hc];rw[<- hK]at hb;exact kia_one kx I.kIn hP hb hne λtk=>⟨.bl b,H,I.tok _,rfl,q⟩
def XS(hg:Gl X "isinstance")(hm:X.mg "isinstance"=none)(h:EM X C S w e m)(hc:PE X ce (tC cv))(hcl:FF cv=some cl)(tb:m6 C.W (λt=>kitOne C.W.K t cl) tab)
  (he:starEach [e,ce] X.env=[(false,eval e X.env),(false,eval ce X.env)]:=by rfl) (he2:starEach [ce] X.env=[(false,eval ce X.env)]:=by rfl):EM X C S false (.Call (.Name "isinstance" p) [e,ce] [] pos) (mUn (AF tab) m):=λhK=>by
 obtain⟨te,a1,a2⟩:=h hK;refine⟨_,Vt (sH hK hcl) hg hm PyProof.Rows.boot_isinstance (J5 a1 (J5 hc aL he2) (by rw[he,he2])) (by decide) (by decide) (by rw[he,he2]) (by rw[he2];rfl),λB P H σ ρ R Q q=>a2 B P H σ ρ R _ (z4 q λx v H1 s1 r1 q1=>?_)⟩;obtain⟨z,ez,q1⟩:=yI q1;obtain⟨b,hb,rfl⟩:=v4.mp ez;obtain⟨k,hk,hb⟩:=O1.mp hb;obtain⟨ok,hv⟩:=tb.get hb;exact⟨_,x,v,k,b,rfl,r1.weak,hk,ok,hv,q1 _ H1 (zr.refl _) (RV.of rfl)⟩
abbrev MO:=Sto->Out (Option Int)
def LO(C:LC)(S:HF)(to:TO)(m:MO):Prop:=∀B P H σ ρ,Rel C.W B S P H σ ρ->∀Q:Option Int->Hp->Prop,(match m ρ with | .ok r=>∀H2,zr H H2->Q r H2 | .exc c fs=>XPo C B c fs | .wall=>False)->to σ H Q
def OM(X:Cx)(C:LC)(S:HF)(e:IP)(m:MO):Prop:=X.K=C.W.K->∃to,PO X e to/\LO C S to m
def lj:MO:=λ_=>.ok none
def asI:PV->Out (Option Int)
 |.i a=>.ok (some a)
 |_=>.wall
def Ja(m:ME):MO:=λρ=>(m ρ).bind asI
def UA:OM X C S none lj:=λ_=>⟨_,x9,λB P H σ ρ R Q q=>q H (zr.refl _)⟩
def UB(h:EM X C S w e m):OM X C S (some e) (Ja m):=λhK=>by
 obtain⟨te,a1,a2⟩:=h hK;refine⟨_,x_ a1,λB P H σ ρ R Q q=>a2 B P H σ ρ R _ ?_⟩;unfold Ja at q;revert q;cases m ρ with
 |ok x=>
  intro q v H2 s r;cases x with
  |i a=>exact⟨a,r,q H2 s⟩
  |_=>exact q.elim
 |exc c fs=>exact id
 |wall=>exact id
def fK{α:Type}(xs:List α)(lo hi:IF):List α:=(xs.drop (HT.sIx xs.length 0 lo)).take (HT.sIx xs.length xs.length hi-HT.sIx xs.length 0 lo)
def pSl:PV->Option Int->Option Int->Out PV
 |.l xs,lo,hi=>.ok (.l (fK xs lo hi))
 |.sc ns,lo,hi=>.ok (.l ((fK ns lo hi).map PV.i))
 |.s z,lo,hi=>if z.length<=sizeLine then .ok (.s (Txt.slice z lo hi))else .wall
 |_,_,_=>.wall
def AG:PV->Option Int->Option Int->Out PV
 |.l xs,lo,hi=>.ok (.l (fK xs lo hi))
 |.sc ns,lo,hi=>.ok (.l ((fK ns lo hi).map PV.i))
 |_,_,_=>.wall
def mSl(pp:PV->Option Int->Option Int->Out PV)(m:ME)(lo hi:MO):ME:=λρ=>(m ρ).bind λx=>(lo ρ).bind λl=>(hi ρ).bind λh=>pp x l h
def fL{ns:Ij}{lo hi:IF}:uM (ns.map V.int) lo hi=(fK ns lo hi).map V.int:=by unfold uM fK;rw[t0,a1Q,List.map_drop]
variable {lo hi:IP}{ml mh:MO}{p2:Pos}
def fO(h:EM X C S w e m)(hl:OM X C S lo ml)(hh:OM X C S hi mh):FM X C S (.Subscript e (.Slice lo hi none p2) pos) (mSl AG m ml mh):=λhK=>by
 obtain⟨te,a1,a2⟩:=h hK;obtain⟨tl,b1,b2⟩:=hl hK;obtain⟨th,c1,c2⟩:=hh hK;refine⟨_,e_ l6 a1 b1 c1,λB P H σ ρ R Q q=>a2 B P H σ ρ R _ (jX q λx v H1 s1 r1 q1=>b2 B P H1 σ ρ (R.keep s1) _ ?_)⟩;revert q1;cases ml ρ with
 |exc c fs=>exact id
 |wall=>exact id
 |ok l=>
  intro q1 H2 s2;refine c2 B P H2 σ ρ ((R.keep s1).keep s2) _ ?_;have q1:zR C B H1 (RFr C.W (Mof B S P) H1) Q ((mh ρ).bind λh=>AG x l h):=q1;have q1:=jV q1 s2;revert q1;cases mh ρ with
  |exc c fs=>exact id
  |wall=>exact id
  |ok h=>
   intro q1 H3 s3;have q1:=jV (o:=AG x l h) q1 s3;have r3:=(r1.same s2).same s3;cases x with
   |l xs=>obtain⟨p,vs,rfl,_,hp,rr⟩:=r3;exact⟨p,vs,rfl,SqL.of hp,λz hz=>q1 _ _ (zr.upd hz) (v5 rr.cut hz)⟩
   |sc ns=>obtain⟨p,rfl,hp⟩:=r3;exact⟨p,_,rfl,hK▸hp.sq,λz hz=>q1 _ _ (zr.upd hz) (by rw[fL];exact v5 zP.ints hz)⟩
   |_=>exact q1.elim
def fP(h:EM X C S w e m)(hl:OM X C S lo ml)(hh:OM X C S hi mh):EM X C S false (.Subscript e (.Slice lo hi none p2) pos) (mSl pSl m ml mh):=λhK=>by
 obtain⟨te,a1,a2⟩:=h hK;obtain⟨tl,b1,b2⟩:=hl hK;obtain⟨th,c1,c2⟩:=hh hK;refine⟨_,e_ (l6.or C2) a1 b1 c1,λB P H σ ρ R Q q=>a2 B P H σ ρ R _ (z4 q λx v H1 s1 r1 q1=>b2 B P H1 σ ρ (R.keep s1) _ ?_)⟩;revert q1;cases ml ρ with
 |exc c fs=>exact id
 |wall=>exact id
 |ok l=>
  intro q1 H2 s2;refine c2 B P H2 σ ρ ((R.keep s1).keep s2) _ ?_;have q1:zR C B H1 (RV C B S P false) Q ((mh ρ).bind λh=>pSl x l h):=q1;have q1:=vZ q1 s2;revert q1;cases mh ρ with
  |exc c fs=>exact id
  |wall=>exact id
  |ok h=>
   intro q1 H3 s3;have q1:=vZ (o:=pSl x l h) q1 s3;have r3:=(r1.same s2).same s3;have N3:=(((R.keep s1).keep s2).keep s3).new;cases x with
   |l xs=>obtain⟨p,vs,rfl,_,hp,rr⟩:=r3;exact .inl ⟨p,vs,rfl,SqL.of hp,λz hz=>q1 _ _ (zr.upd hz) (RV.of ((v5 rr.cut hz).rep N3))⟩
   |sc ns=>obtain⟨p,rfl,hp⟩:=r3;exact .inl ⟨p,_,rfl,hK▸hp.sq,λz hz=>q1 _ _ (zr.upd hz) (by rw[fL];exact RV.of ((v5 zP.ints hz).rep N3))⟩
   |s z=>
    unfold pSl at q1;by_cases hz:z.length<=sizeLine
    .simp only[hz,if_true]at q1;exact .inr ⟨z,r3,hz,q1 _ H3 (zr.refl _) (RV.of rfl)⟩
    .simp only[hz,if_false]at q1;exact q1.elim
   |_=>exact q1.elim
end
def AI(C:LC)(B:Bs)(H:Hp)(x:PV)(v:V):Prop:=if C.fr=true then RFr C.W B.Mt B.H0 H x v else Rep C.W B.Mt H x v
def vw(C:LC)(B:Bs)(S' Sb Sc:HF)(D:Ends):Out Fw->Prop
 |.ok (.nx ρ')=>∀P' H' σ',Rel C.W B S' P' H' σ' ρ'->D.nx σ' H'
 |.ok (.rt x)=>∀v H',zr B.H0 H'->AI C B H' x v->D.rt v H'
 |.ok (.bk ρ')=>∀P' H' σ',Rel C.W B Sb P' H' σ' ρ'->D.bk σ' H'
 |.ok (.ct ρ')=>∀P' H' σ',Rel C.W B Sc P' H' σ' ρ'->D.ct σ' H'
 |.exc c fs=>XPo C B c fs
 |.wall=>False
def LS(C:LC)(S S' Sb Sc:HF)(ts:TS)(m:MS):Prop:=∀B P H σ ρ,Rel C.W B S P H σ ρ->∀D,vw C B S' Sb Sc D (m ρ)->ts D σ H
def SM(X:Cx)(C:LC)(S S' Sb Sc:HF)(st:IA)(m:MS):Prop:=X.K=C.W.K->∃ts,PS X st ts/\LS C S S' Sb Sc ts m
def SsM(X:Cx)(C:LC)(S S' Sb Sc:HF)(st:Iq)(m:MS):Prop:=X.K=C.W.K->∃ts,PSs X st ts/\LS C S S' Sb Sc ts m
def z5:MS:=λρ=>.ok (.nx ρ)
def zQ(a b:MS):MS:=λρ=>(a ρ).bind λf=>match f with
 |.nx ρ'=>b ρ'
 |.rt x=>.ok (.rt x)
 |.bk ρ'=>.ok (.bk ρ')
 |.ct ρ'=>.ok (.ct ρ')
def yr(i:Nat)(m:ME):MS:=λρ=>(m ρ).bind λx=>.ok (.nx (ρ.set i (some x)))
def v8(m:ME):MS:=λρ=>(m ρ).bind λ_=>.ok (.nx ρ)
def ja(m:ME):MS:=λρ=>(m ρ).bind λx=>.ok (.rt x)
def sIf(t:MT)(a b:MS):MS:=λρ=>(t ρ).bind λc=>if c=true then a ρ else b ρ
section
variable {X:Cx}{C:LC}{S S' S1 Sb Sc:HF}{e a b o:HY}{es:HL}{w w1 w2:Bool}{ws:HW}{m m1 m2:ME}{ms:MA}{t1:MT}{s1 s2:MS}{pos p pos':Pos}{x:Str}{st:IA}{sts stt:Iq}{i:Nat}
def zY:SsM X C S S Sb Sc [] z5:=λ_=>⟨_,xV,λB P H σ ρ R D q=>q P H σ R⟩
def Dx(h1:LS C S S1 Sb Sc t s1)(h2:LS C S1 S' Sb Sc u s2):LS C S S' Sb Sc (E9 t u) (zQ s1 s2):=λB P H σ ρ R D q=>by
 refine h1 B P H σ ρ R _ ?_;unfold zQ at q;revert q;cases s1 ρ with
 |ok f=>
  cases f with
  |nx ρ'=>exact λq P' H' σ' R'=>h2 B P' H' σ' ρ' R' D q
  |rt x=>exact id
  |bk ρ'=>exact id
  |ct ρ'=>exact id
 |exc c fs=>exact id
 |wall=>exact id
def zf(h1:SM X C S S1 Sb Sc st s1)(h2:SsM X C S1 S' Sb Sc sts s2):SsM X C S S' Sb Sc (st::sts) (zQ s1 s2):=λhK=>by obtain⟨t,a1,a2⟩:=h1 hK;obtain⟨u,b1,b2⟩:=h2 hK;exact⟨_,Ul a1 b1,Dx a2 b2⟩
def zj(h1:SM X C S S' Sb Sc st s1):SsM X C S S' Sb Sc [st] s1:=λhK=>by obtain⟨t,a1,a2⟩:=h1 hK;exact⟨_,jT a1,a2⟩
def sI(i:Nat)(hi:S1[i]?=some 2)(q:vw C B (S1.set i 0) Sb Sc D f):vw C B S1 Sb Sc D f:=by
 cases f with
 |ok f=>
  cases f with
  |nx ρ'=>exact λP' H' σ' R'=>q P' H' σ' (R'.freeze hi)
  |rt x=>exact q
  |bk ρ'=>exact q
  |ct ρ'=>exact q
 |exc c fs=>exact q
 |wall=>exact q
def AJ(i:Nat)(h:SsM X C S S1 Sb Sc sts s1)(hi:S1[i]?=some 2:=by rfl):SsM X C S (S1.set i 0) Sb Sc sts s1:=λhK=>by obtain⟨t,a1,a2⟩:=h hK;exact⟨t,a1,λB P H σ ρ R D q=>a2 B P H σ ρ R D (sI i hi q)⟩
def u6(h:LE C S false te m):LS C S (S.set i 0) Sb Sc (Cr te (g_ i)) (yr i m):=λB P H σ ρ R D q=>by
 refine h B P H σ ρ R _ ?_;unfold yr at q;revert q;cases m ρ with
 |ok x=>exact λq v H2 s r=>q P H2 _ ((R.keep s).set r.rep)
 |exc c fs=>exact id
 |wall=>exact id
def bh(hN:X.N.Nodup)(hi:X.N[i]?=some x)(hx:Loc X.env.scope x)(h:EM X C S false e m)(hs:swapsWith e (some (.Name x pos')) pos.line X.env=pure false:=by rfl)(hf:X.fn x=true\/X.env.scope.names.lookup x=some .local:=by first|exact .inl rfl|exact .inr rfl|assumption):
  SM X C S (S.set i 0) Sb Sc (.Assign [.Name x pos'] e pos) (yr i m):=λhK=>by
 obtain⟨te,a1,a2⟩:=h hK;exact⟨_,uG hN hi hx a1 hs hf,u6 a2⟩
def AK(h:LFr C S te m)(hl:i<S.length)(h0:i≠0):LS C S (S.set i 2) Sb Sc (Cr te (g_ i)) (yr i m):=λB P H σ ρ R D q=>by
 refine h B P H σ ρ R _ ?_;unfold yr at q;revert q;cases m ρ with
 |ok x=>exact λq v H2 s ⟨p,e,hp,r⟩=>by subst e;exact q _ H2 _ (R.Hi s hp hl h0 r)
 |exc c fs=>exact id
 |wall=>exact id
def vx(hN:X.N.Nodup)(hi:X.N[i]?=some x)(hx:Loc X.env.scope x)(h:FM X C S e m)(hl:i<S.length:=by decide)(h0:i≠0:=by decide)(hs:swapsWith e (some (.Name x pos')) pos.line X.env=pure false:=by rfl)(hf:X.fn x=true\/X.env.scope.names.lookup x=some .local:=by first|exact .inl rfl|exact .inr rfl|assumption):
  SM X C S (S.set i 2) Sb Sc (.Assign [.Name x pos'] e pos) (yr i m):=λhK=>by
 obtain⟨te,a1,a2⟩:=h hK;exact⟨_,uG hN hi hx a1 hs hf,AK a2 hl h0⟩
def qh(h:EM X C S w e m)(hs:swapsWith e none pos.line X.env=pure false:=by rfl):SM X C S S Sb Sc (.Expr e pos) (v8 m):=λhK=>by
 obtain⟨te,a1,a2⟩:=h hK;refine⟨_,cS a1 hs,λB P H σ ρ R D q=>a2 B P H σ ρ R _ ?_⟩;unfold v8 at q;revert q;cases m ρ with
 |ok x=>exact λq v H2 s r=>q P H2 σ (R.keep s)
 |exc c fs=>exact id
 |wall=>exact id
def z_(h:EM X C S false e m)(hf:C.fr=false:=by rfl):SM X C S S' Sb Sc (.Return (some e) pos) (ja m):=λhK=>by
 obtain⟨te,a1,a2⟩:=h hK;refine⟨_,lF a1,λB P H σ ρ R D q=>a2 B P H σ ρ R _ ?_⟩;unfold ja at q;revert q;cases m ρ with
 |ok x=>exact λq v H2 s r=>q v H2 (R.same.trans s) (by unfold AI;rw[hf,if_neg N6];exact r.rep.sub λa m _=>m.1.1)
 |exc c fs=>exact id
 |wall=>exact id
def VS(h:FM X C S e m)(hf:C.fr=true:=by rfl):SM X C S S' Sb Sc (.Return (some e) pos) (ja m):=λhK=>by
 obtain⟨te,a1,a2⟩:=h hK;refine⟨_,lF a1,λB P H σ ρ R D q=>a2 B P H σ ρ R _ ?_⟩;unfold ja at q;revert q;cases m ρ with
 |ok x=>exact λq v H2 s r=>q v H2 (R.same.trans s) (by
   unfold AI;rw[if_pos hf];obtain⟨p,e,hp,r⟩:=r;exact⟨p,e,zr.none R.same hp,r.gen rfl Fr.refl λa m _=>⟨m.1.1.1,m.2⟩⟩)
 |exc c fs=>exact id
 |wall=>exact id
def VT(h:PE X e (cR i))(hi:S[i]?=some 2:=by rfl)(hf:C.fr=true:=by rfl):SM X C S S' Sb Sc (.Return (some e) pos) (ja (zc i)):=λhK=>by
 refine⟨_,lF h,λB P H σ ρ R D q=>?_⟩;unfold ja zc at q;cases hρ:ρ[i]? with
 |none=>rw[hρ]at q;exact q.elim
 |some o=>
  cases o with
  |none=>rw[hρ]at q;exact q.elim
  |some y=>rw[hρ]at q;obtain⟨v,hv,h2,_,_⟩:=R.var i y hρ;obtain⟨rfl,ra⟩:=h2 hi;refine⟨_,hv,q _ H R.same ?_⟩;unfold AI;rw[if_pos hf];exact⟨P i,rfl,(R.act i hi).1,ra.gen rfl Fr.refl λa m _=>⟨m.1.1,λz=>m.2 i hi z.symm⟩⟩
def yS(h:TM X C S c t1)(h1:SsM X C S S' Sb Sc sts s1)(h2:SsM X C S S' Sb Sc stt s2):SM X C S S' Sb Sc (.If c sts stt pos) (sIf t1 s1 s2):=λhK=>by
 obtain⟨tt,a1,a2⟩:=h hK;obtain⟨t,b1,b2⟩:=h1 hK;obtain⟨u,c1,c2⟩:=h2 hK;refine⟨_,Fb a1 b1 c1,λB P H σ ρ R D q=>a2 B P H σ ρ R _ ?_⟩;unfold sIf at q;revert q;cases t1 ρ with
 |ok k=>
  intro q H2 s;cases k with
  |true=>exact B3 (b2 B P H2 σ ρ (R.keep s) D q)
  |false=>exact B0 (c2 B P H2 σ ρ (R.keep s) D q)
 |exc c fs=>exact id
 |wall=>exact id
def Rel.at2(R:Rel W B S P H σ ρ)(hi:S[i]?=some 2)(e:ρ[i]?=some (some y)):σ[i]?=some (some (.ref (P i)))/\VN W (Mof B S P) H (P i) y/\i<ρ.length:=by obtain⟨v,hv,h2,_,_⟩:=R.var i y e;obtain⟨rfl,ra⟩:=h2 hi;exact⟨hv,ra,(M9.mp e).1⟩
def Mof.wr{W:RC}{B:Bs}{P:HQ}{H:Hp}{σ:St}{ρ:Sto}{o:HO}(R:Rel W B S P H σ ρ)(hi:S[i]?=some 2):Fr (Mof B S P) H (upd H (P i) o):=λa q e m=>by
 obtain⟨_,o0,e0,n0⟩:=R.act i hi;have:a≠P i:=λz=>by
  rcases m with m|m
  .exact m.2 i hi z.symm
  .rw[z,e0]at e;cases e;exact n0 m
 rw[zi this];exact e
def m7(i:Nat)(m:ME):MS:=λρ=>match ρ[i]? with
 |some (some (.l xs))=>(m ρ).bind λy=>if xs.length<sizeLine then .ok (.nx (ρ.set i (some (.l (xs++[y])))))else .wall
 |_=>.wall
def ZH(ho:PE X o (cR i))(h:EM X C S false e m)(hi:S[i]?=some 2:=by rfl)(aC:attributeBase o "append" X.env (eval o X.env)=eval o X.env:=by rfl)
  (EH:((backTo p (starEach [e] X.env)).all (λx=>!x.1)&&(backToKw p (keywordEach [] X.env)).all (λx=>x.1.isSome)&&decide ([e].length+([]:List Keyword).length+(if([]:List Keyword).isEmpty then 0 else 1)<30))=true:=by rfl)
  (aB:(qE.endLine==p.line)=true:=by rfl) (hs:starEach [e] X.env=[(false,eval e X.env)]:=by rfl) (hsw:swapsWith (.Call (.Attribute o "append" qE) [e] [] p) none pos.line X.env=pure false:=by rfl):
  SM X C S S Sb Sc (.Expr (.Call (.Attribute o "append" qE) [e] [] p) pos) (m7 i m):=λhK=>by
 obtain⟨te,a1,a2⟩:=h hK;refine⟨_,cS (CL PySem.F.plainAttrs_list PySem.F.slot_list_append PySem.F.type_list_append aW ho (J5 a1 aL hs) aC EH aB hs rfl) hsw,λB P H σ ρ R D q=>?_⟩;unfold m7 at q;split at q
 .rename_i xs hx;obtain⟨hσ,⟨vs,hp,rr⟩,hl⟩:=R.at2 hi hx;refine⟨_,hσ,.inl ⟨rfl,_,SqL.of hp⟩,a2 B P H σ ρ R _ ?_⟩;revert q;cases m ρ with
  |ok y=>
   intro q v H2 s r;have q:vw C B S Sb Sc D (if xs.length<sizeLine then .ok (.nx (ρ.set i (some (.l (xs++[y])))))else .wall):=q;split at q
   .rename_i hz;have R2:=R.keep s;refine⟨_,vs,v,rfl,rfl,s _ _ hp,by rw[rr.len];exact hz,q P _ σ (R2.wr hi hl hσ (by exact id) ?_)⟩;have f:=Mof.wr (o:=.lst (vs++[v])) R2 hi;exact⟨_,zg,((rr.same s).append (.cons r.rep .nil)).gen f λ_ m _=>m⟩
   .exact q.elim
  |exc c fs=>exact id
  |wall=>exact id
 .exact q.elim
def dput{κ α:Type}[DecidableEq κ](kvs:List (κ×α))(k:κ)(v:α):List (κ×α):=
 if kvs.any (λkv=>decide (kv.1=k))=true then kvs.map (λkv=>if kv.1=k then(kv.1,v)else kv)else kvs++[(k,v)]
end
def qe.put(h:qe W M H a es)(hx:Rep W M H x v):qe W M H (dput a k x) (putK es k v):=by
 have key:∀{a:Ic}{es:HP},qe W M H a es->a.any (λkv=>decide (kv.1=k))=es.any (λkv=>decide (kv.1=k))/\qe W M H (a.map λkv=>if kv.1=k then(kv.1,x)else kv) (es.map λkv=>if kv.1=k then(kv.1,v)else kv)/\qe W M H (a++[(k,x)]) (es++[(k,v)]):=by
  intro a
  induction a with
  |nil=>intro es h;cases(show _=_ from h);exact⟨rfl,rfl,v,[],rfl,hx,rfl⟩
  |cons kx a ih=>
   intro es h;obtain⟨u,q,rfl,h1,h2⟩:=h;obtain⟨i1,i2,i3⟩:=ih h2;refine⟨by rw[T7,T7,i1],?_,⟨u,_,rfl,h1,i3⟩⟩;rw[M3,M3];by_cases e:kx.1=k
   .rw[if_pos e,if_pos e];exact⟨v,_,rfl,hx,i2⟩
   .rw[if_neg e,if_neg e];exact⟨u,_,rfl,h1,i2⟩
 obtain⟨i1,i2,i3⟩:=key h;unfold dput putK;rw[i1];split
 .exact i2
 .exact i3
section
variable {X:Cx}{C:LC}{S S' S1 Sb Sc:HF}{e a b o:HY}{es:HL}{w w1 w2:Bool}{ws:HW}{m m1 m2:ME}{ms:MA}{t1:MT}{s1 s2:MS}{pos p pos':Pos}{x:Str}{st:IA}{sts stt:Iq}{i:Nat}
def AL(i:Nat)(mk mv:ME):MS:=λρ=>(mv ρ).bind λv=>match ρ[i]? with
 |some (some (.d kvs))=>(mk ρ).bind λy=>match pk y with
  |some k=>if kvs.length<sizeLine then .ok (.nx (ρ.set i (some (.d (dput kvs k v)))))else .wall
  |none=>.wall
 |_=>.wall
def u7(hu:X.A.units+1<cLine)(ho:PE X o (cR i))(hk:EM X C S w a m1)(hv:EM X C S false e m2)(hi:S[i]?=some 2:=by rfl)(hs:swapsWith e (some (.Subscript o a pos')) pos.line X.env=pure false:=by rfl):
  SM X C S S Sb Sc (.Assign [.Subscript o a pos'] e pos) (AL i m1 m2):=λhK=>by
 obtain⟨ta,a1,a2⟩:=hk hK;obtain⟨tv,b1,b2⟩:=hv hK;refine⟨_,cZ hu ho a1 b1 hs,λB P H σ ρ R D q=>b2 B P H σ ρ R _ ?_⟩;unfold AL at q;revert q;cases m2 ρ with
 |ok y=>
  intro q v H1 sm1 rv;have R1:=R.keep sm1;have q:vw C B S Sb Sc D (match ρ[i]? with
   |some (some (.d kvs))=>(m1 ρ).bind λz=>match pk z with
    |some k=>if kvs.length<sizeLine then .ok (.nx (ρ.set i (some (.d (dput kvs k y)))))else .wall
    |none=>.wall
   |_=>.wall):=q
  split at q
  .rename_i kvs hx;obtain⟨hσ,⟨es,hp,rr⟩,hl⟩:=R1.at2 hi hx;refine⟨_,hσ,a2 B P H1 σ ρ R1 _ ?_⟩;revert q;cases m1 ρ with
   |ok z=>
    intro q u H2 sm2 ru;have R2:=R1.keep sm2;have q:vw C B S Sb Sc D (match pk z with
     |some k=>if kvs.length<sizeLine then .ok (.nx (ρ.set i (some (.d (dput kvs k y)))))else .wall
     |none=>.wall):=q
    split at q
    .rename_i k hk;split at q
     .rename_i hz;have hp2:=sm2 _ _ hp;refine⟨_,_,rfl,by rw[Ux ru.weak hk];exact rP.k hp2 (by rw[qe.len rr];exact hz),q P _ σ (R2.wr hi hl hσ (by exact id) ?_)⟩;have f:=Mof.wr (o:=.dK (putK es k v)) R2 hi;exact⟨_,zg,((rr.same sm2).put (rv.rep.same sm2)).gen f λ_ m _=>m⟩
     .exact q.elim
    .exact q.elim
   |exc c fs=>exact id
   |wall=>exact id
  .exact q.elim
 |exc c fs=>exact id
 |wall=>exact id
def m8(i:Nat)(mk mv:ME):MS:=λρ=>(mv ρ).bind λv=>match ρ[i]? with
 |some (some (.l xs))=>(mk ρ).bind λy=>match y with
  |.i k=>match ixN xs.length k with
   |some j=>.ok (.nx (ρ.set i (some (.l (xs.set j v)))))
   |none=>.wall
  |_=>.wall
 |_=>.wall
def AN(ho:PE X o (cR i))(hk:EM X C S w a m1)(hv:EM X C S false e m2)(hi:S[i]?=some 2:=by rfl)
  (ha:∀v,assign (.Subscript o a p) X.env v=(do
   let ov<-holding [v] (eval o X.env)
   let iv<-holding [v,ov] (eval a X.env)
   standAt p
   holding [v,ov,iv] (setItem ov iv v)
   release [v,ov,iv] []):=by intro _;rfl)
  (hs:swapsWithSole [.Subscript o a p] e pos.line X.env=pure false:=by rfl) (hw:swappedStores [.Subscript o a p] e X.env=pure none:=by rfl) (h1:(assignEach [.Subscript o a p] X.env).map (·.2)=[assign (.Subscript o a p) X.env]:=by rfl):
  SM X C S S Sb Sc (.Assign [.Subscript o a p] e pos) (m8 i m1 m2):=λhK=>by
 obtain⟨ta,a1,a2⟩:=hk hK;obtain⟨tv,b1,b2⟩:=hv hK;refine⟨_,Cs b1 (Cq ho a1 set_list ha) hs hw h1,λB P H σ ρ R D q=>b2 B P H σ ρ R _ ?_⟩;unfold m8 at q;revert q;cases m2 ρ with
 |ok y=>
  intro q v H1 sm1 rv;have R1:=R.keep sm1;have q:vw C B S Sb Sc D (match ρ[i]? with
   |some (some (.l xs))=>(m1 ρ).bind λz=>match z with
    |.i k=>match ixN xs.length k with
     |some j=>.ok (.nx (ρ.set i (some (.l (xs.set j y)))))
     |none=>.wall
    |_=>.wall
   |_=>.wall):=q
  split at q
  .rename_i xs hx;obtain⟨hσ,⟨vs,hp,rr⟩,hl⟩:=R1.at2 hi hx;refine⟨_,hσ,a2 B P H1 σ ρ R1 _ ?_⟩;revert q;cases m1 ρ with
   |ok z=>
    intro q u H2 sm2 ru;have R2:=R1.keep sm2;cases z with
    |i k=>
     have q:vw C B S Sb Sc D (match ixN xs.length k with
      |some j=>.ok (.nx (ρ.set i (some (.l (xs.set j y)))))
      |none=>.wall):=q
     split at q
     .rename_i j hj;refine⟨_,vs,k,j,rfl,ru,sm2 _ _ hp,by rw[rr.len];exact hj,q P _ σ (R2.wr hi hl hσ (by exact id) ?_)⟩;have f:=Mof.wr (o:=.lst (vs.set j v)) R2 hi;exact⟨_,zg,(zP.set (rv.rep.same sm2) j (rr.same sm2)).gen f λ_ m _=>m⟩
     .exact q.elim
    |_=>exact q.elim
   |exc c fs=>exact id
   |wall=>exact id
  .exact q.elim
 |exc c fs=>exact id
 |wall=>exact id
def p8(fs:Ig)(f:Str)(v:PV):List (Str×PV):=match fs with
 |[]=>[(f,v)]
 |kx::r=>if kx.1=f then(f,v)::r else kx::p8 r f v
end
def qS.put{W:RC}{M:HI}{H:Hp}{f:Str}{x:PV}{v:V}(hx:Rep W M H x v):∀{a:Ig}{es:Ik},qS W M H a es->qS W M H (p8 a f x) (JZ f v es)
 |[],_,h=>by cases(show _=_ from h);exact⟨v,[],rfl,hx,rfl⟩
 |kx::a,_,h=>by
  obtain⟨u,q,rfl,h1,h2⟩:=h;unfold p8 JZ;by_cases e:kx.1=f
  .rw[if_pos e,if_pos e,e];exact⟨v,q,rfl,hx,h2⟩
  .rw[if_neg e,if_neg e];exact⟨u,_,rfl,h1,qS.put hx h2⟩
def qS.len(h:qS W M H a es):es.length=a.length:=by have:=R8 List.length (qS.iff.mp h).1;simpa using this
section
variable {X:Cx}{C:LC}{S S' S1 Sb Sc:HF}{e a b o:HY}{es:HL}{w w1 w2:Bool}{ws:HW}{m m1 m2:ME}{ms:MA}{t1:MT}{s1 s2:MS}{pos p pos':Pos}{x:Str}{st:IA}{sts stt:Iq}{i:Nat}
def dr(i:Nat)(cs:HF)(f:Str)(m:ME):MS:=λρ=>(m ρ).bind λv=>match ρ[i]? with
 |some (some (.o c fs))=>if c∈cs/\fs.length<1000 then .ok (.nx (ρ.set i (some (.o c (p8 fs f v)))))else .wall
 |_=>.wall
def m9(ho:PE X o (cR i))(hv:EM X C S false e m)(hc:∀c∈cs,Cls X.K (C.W.cls c)/\jF X.K (C.W.cls c) fn)(hi:S[i]?=some 2:=by rfl)(hs:swapsWith e (some (.Attribute o fn pos')) pos.line X.env=pure false:=by rfl):
  SM X C S S Sb Sc (.Assign [.Attribute o fn pos'] e pos) (dr i cs fn m):=λhK=>by
 obtain⟨tv,b1,b2⟩:=hv hK;refine⟨_,uL ho b1 hs,λB P H σ ρ R D q=>b2 B P H σ ρ R _ ?_⟩;unfold dr at q;revert q;cases m ρ with
 |ok y=>
  intro q v H1 sm1 rv;have R1:=R.keep sm1;have q:vw C B S Sb Sc D (match ρ[i]? with
   |some (some (.o c fs))=>if c∈cs/\fs.length<1000 then .ok (.nx (ρ.set i (some (.o c (p8 fs fn y)))))else .wall
   |_=>.wall):=q
  split at q
  .rename_i c fs hx;split at q
   .rename_i hz;obtain⟨hσ,⟨dx,es,hp,rr⟩,hl⟩:=R1.at2 hi hx;refine⟨_,hσ,_,_,dx,es,rfl,hp,(hc c hz.1).1,(hc c hz.1).2,by rw[rr.len];exact hz.2,q P _ σ (R1.wr hi hl hσ (by exact id) ?_)⟩;have f:=Mof.wr (o:=.ins (C.W.cls c) dx (JZ fn v es)) R1 hi;exact⟨dx,_,zg,(qS.put rv.rep rr).gen f λ_ m _=>m⟩
   .exact q.elim
  .exact q.elim
 |exc c fs=>exact id
 |wall=>exact id
abbrev MG:=PV->Sto->Option Sto
def LG(C:LC)(S S':HF)(g:TG)(mg:MG):Prop:=∀B P H σ ρ x v,Rel C.W B S P H σ ρ->Rep C.W (Mof B S P) H x v->∀Q:St->Hp->Prop,(∃ρ',mg x ρ=some ρ'/\∀σ',Rel C.W B S' P H σ' ρ'->Q σ' H)->g v σ H Q
def GM(X:Cx)(C:LC)(S S':HF)(tg:HY)(mg:MG):Prop:=X.K=C.W.K->∃g,PG X tg g/\LG C S S' g mg
def gNm(i:Nat):MG:=λx ρ=>some (ρ.set i (some x))
def jt(hN:X.N.Nodup)(hi:X.N[i]?=some x)(hx:Loc X.env.scope x)(hf:X.fn x=true\/X.env.scope.names.lookup x=some .local:=by first|exact .inl rfl|exact .inr rfl|assumption):GM X C S (S.set i 0) (.Name x pos) (gNm i):=
 λ_=>⟨_,lG hN hi hx hf,λB P H σ ρ x v R r Q ⟨ρ',e,k⟩=>by cases e;exact k _ (R.set r)⟩
abbrev MGs:=List PV->Sto->Option Sto
def LGs(C:LC)(S S':HF)(g:TGs)(mg:MGs):Prop:=∀B P H σ ρ xs vs,Rel C.W B S P H σ ρ->zP C.W (Mof B S P) H xs vs->∀Q:St->Hp->Prop,(∃ρ',mg xs ρ=some ρ'/\∀σ',Rel C.W B S' P H σ' ρ'->Q σ' H)->g vs σ H Q
def GsM(X:Cx)(C:LC)(S S':HF)(tgs:HL)(mg:MGs):Prop:=X.K=C.W.K->∃g,PGs X tgs g/\LGs C S S' g mg
def iz:MGs:=λxs ρ=>match xs with
 |[]=>some ρ
 |_=>none
def jG(g:MG)(gs:MGs):MGs:=λxs ρ=>match xs with
 |x::r=>(g x ρ).bind λρ'=>gs r ρ'
 |[]=>none
def bj:GsM X C S S [] iz:=λ_=>⟨_,xW,λB P H σ ρ xs vs R r Q ⟨ρ',e,k⟩=>by
 cases xs with
 |nil=>cases e;cases(show _=_ from r);exact⟨rfl,k _ R⟩
 |cons x xs=>cases e⟩
def Mof.le{B:Bs}{S S':HF}{P:HQ}(h:∀j:Nat,S'[j]?=some 2->S[j]?=some 2){a:Addr}(m:Mof B S P a):Mof B S' P a:=⟨m.1,λj hj=>m.2 j (h j hj)⟩
def qv(h1:GM X C S S1 e g)(h2:GsM X C S1 S' es gs)(hS:∀j:Nat,S1[j]?=some 2->S[j]?=some 2)(hs:(assignEach (e::es) X.env).map (·.2)=assign e X.env::(assignEach es X.env).map (·.2):=by rfl):GsM X C S S' (e::es) (jG g gs):=λhK=>by
 obtain⟨t,a1,a2⟩:=h1 hK;obtain⟨u,b1,b2⟩:=h2 hK;refine⟨_,rE a1 b1 hs,λB P H σ ρ xs vs R r Q ⟨ρ',e,k⟩=>?_⟩;cases xs with
 |nil=>cases e
 |cons x xs=>
  obtain⟨v,vr,rfl,rx,rr⟩:=r;have e:(g x ρ).bind (λρ'=>gs xs ρ')=some ρ':=e;cases hg:g x ρ with
  |none=>rw[hg]at e;cases e
  |some ρ1=>rw[hg]at e;exact⟨v,vr,rfl,a2 B P H σ ρ x v R rx _ ⟨ρ1,hg,λσ' R'=>b2 B P H σ' ρ1 xs vr R' (rr.sub λa m _=>Mof.le hS m) Q ⟨ρ',e,k⟩⟩⟩
def gTp(n:Nat)(gs:MGs):MG:=λx ρ=>match x with
 |.t xs=>if xs.length=n then gs xs ρ else none
 |_=>none
def bo(hc:X.calm=true)(h:GsM X C S S' es gs)(hn:(assignEach es X.env).length=n:=by rfl)(hst:(assignEach es X.env).findIdx? (·.1)=none:=by rfl):GM X C S S' (.Tuple es k pos) (gTp n gs):=λhK=>by
 obtain⟨t,a1,a2⟩:=h hK;refine⟨_,Cp hc a1 hn hst,λB P H σ ρ x v R r Q ⟨ρ',e,k⟩=>?_⟩;cases x with
 |t xs=>
  obtain⟨p,vs,rfl,hp,rr⟩:=r;have e:(if xs.length=n then gs xs ρ else none)=some ρ':=e;by_cases hl:xs.length=n
  .rw[if_pos hl]at e;exact⟨p,vs,rfl,hK▸hp,by rw[rr.len];exact hl,a2 B P H σ ρ xs vs R rr Q ⟨ρ',e,k⟩⟩
  .rw[if_neg hl]at e;cases e
 |_=>cases e
def NA(B:Bs)(S:HF)(P:HQ):Addr->Prop:=λa=>¬B.xc a/\∀i,S[i]?=some 2->P i≠a
def AO(W:RC)(M N:HI)(H2:Hp)(J:It)(xs:Ib):Prop:=∀H',Fr N H2 H'->
 (∀i x,xs[i]?=some x->J.go i H'/\∀v H'',J.yld i H' v H''->zr H' H''/\∀M':Addr->Prop,(∀a,M a->H2 a≠none->M' a)->Rep W M' H'' x v)/\J.stop xs.length H'
abbrev MI:=Sto->Out (List PV)
def NAc(c:Bool)(B:Bs)(S:HF)(P:HQ):Addr->Prop:=if c=true then λ_=>True else NA B S P
def sJ(C:LC)(B:Bs)(S:HF)(P:HQ)(c:Bool)(H:Hp)(R:It->Hp->Prop):Out (List PV)->Prop
 |.ok xs=>∀J H2,zr H H2->AO C.W (Mof B S P) (NAc c B S P) H2 J xs->R J H2
 |.exc c fs=>XPo C B c fs
 |.wall=>False
def LI(C:LC)(S:HF)(c:Bool)(wi:TI)(mi:MI):Prop:=∀B P H σ ρ,Rel C.W B S P H σ ρ->∀R:It->Hp->Prop,sJ C B S P c H R (mi ρ)->wi σ H R
def IM(X:Cx)(C:LC)(S:HF)(c:Bool)(tg qR:HY)(mi:MI):Prop:=X.K=C.W.K->∃wi,PI X tg qR wi/\LI C S c wi mi
def YU(g:MG)(b:MS):List PV->Sto->Out Fw
 |[],ρ=>.ok (.nx ρ)
 |x::xs,ρ=>(kN (g x ρ)).bind λρ1=>(b ρ1).bind λf=>match f with
  |.nx ρ2=>YU g b xs ρ2
  |.ct ρ2=>YU g b xs ρ2
  |.bk ρ2=>.ok (.nx ρ2)
  |.rt v=>.ok (.rt v)
def Kx(mi:MI)(g:MG)(b:MS):MS:=λρ=>(mi ρ).bind λxs=>YU g b xs ρ
end
open Classical in
def Bs.loop(B:Bs)(S:HF)(P:HQ)(H:Hp)(hz:∀a,B.N0 a->(¬((∃i,S[i]?=some 2/\P i=a)\/B.xc a))/\H a≠none):Bs where
 H0:=λa=>if(∃i,S[i]?=some 2/\P i=a)\/B.xc a then none else H a
 M0:=B.Mt
 N0:=B.N0
 nz:=λa h=>by rw[if_neg (hz a h).1];exact(hz a h).2
 pin:=B.pin
 xc:=B.xc
section
variable {W:RC}{B:Bs}{S S':HF}{P P':HQ}{H H':Hp}{σ σ':St}{ρ ρ':Sto}
def Rel.hz(R:Rel W B S P H σ ρ):∀a,B.N0 a->(¬((∃i,S[i]?=some 2/\P i=a)\/B.xc a))/\H a≠none:=λa h=>by
 have h0:=B.nz a h;refine⟨λz=>z.elim (λ⟨i,hi,e⟩=>h0 (e▸(R.act i hi).1)) (λz=>h0 (R.exc a z).choose_spec.2.2),λz=>?_⟩;cases q:B.H0 a with
 |none=>exact h0 q
 |some o=>rw[R.same a o q]at z;cases z
def Jb(R:Rel W B S P H σ ρ)(h:(B.loop S P H R.hz).H0 a=none):B.H0 a=none:=by
 cases q:B.H0 a with
 |none=>rfl
 |some o=>have n:¬((∃i,S[i]?=some 2/\P i=a)\/B.xc a):=λz=>z.elim (λ⟨i,hi,e⟩=>by rw[<- e,(R.act i hi).1]at q;cases q) (λz=>by rw[(R.exc a z).choose_spec.2.2]at q;cases q);unfold Bs.loop at h;dsimp only at h;rw[if_neg n,R.same a o q]at h;cases h
def VU(R:Rel W B S P H σ ρ):zr B.H0 (B.loop S P H R.hz).H0:=λa o h=>by have n:¬((∃i,S[i]?=some 2/\P i=a)\/B.xc a):=λz=>z.elim (λ⟨i,hi,e⟩=>by rw[<- e,(R.act i hi).1]at h;cases h) (λz=>by rw[(R.exc a z).choose_spec.2.2]at h;cases h);unfold Bs.loop;dsimp only;rw[if_neg n];exact R.same a o h
def VW(R:Rel W B S P H σ ρ)(h:(B.loop S P H R.hz).Mt a):B.Mt a:=h.elim id λz=>.inr (Jb R z)
def Rel.loop(R:Rel W B S P H σ ρ):Rel W (B.loop S P H R.hz) S P H σ ρ:=by
 have sM:∀a,Mof B S P a->H a≠none->Mof (B.loop S P H R.hz) S P a:=λa m _=>⟨⟨.inl m.1.1,m.1.2⟩,m.2⟩;refine⟨λa o h=>?_,R.len,λi x e=>?_,λi hi=>⟨?_,(R.act i hi).2⟩,R.inj,R.pin,λa h=>?_,R.axc⟩
 .unfold Bs.loop at h;dsimp only at h;split at h
  .cases h
  .exact h
 .obtain⟨v,h1,h2,h3,h4⟩:=R.var i x e;exact⟨v,h1,λz=>⟨(h2 z).1,(h2 z).2.gen rfl Fr.refl sM⟩,λz=>(h3 z).sub (λ_ m _=>m) sM,λz z'=>(h4 z z').sub sM⟩
 .unfold Bs.loop;dsimp only;rw[if_pos (.inl ⟨i,hi,rfl⟩)]
 .obtain⟨o,e,n,_⟩:=R.exc a h;exact⟨o,e,n,by unfold Bs.loop;dsimp only;rw[if_pos (.inr h)]⟩
def Rel.u9(R:Rel W B S P H σ ρ)(R':Rel W (B.loop S P H R.hz) S' P' H' σ' ρ'):Rel W B S' P' H' σ' ρ':=by have sM:∀a,Mof (B.loop S P H R.hz) S' P' a->H' a≠none->Mof B S' P' a:=λa m _=>⟨⟨VW R m.1.1,m.1.2⟩,m.2⟩;refine⟨(VU R).trans R'.same,R'.len,λi x e=>?_,λi hi=>⟨Jb R (R'.act i hi).1,(R'.act i hi).2⟩,R'.inj,R'.pin,λa h=>let⟨o,e,n⟩:=R'.exc a h;⟨o,e,n.1,Jb R n.2⟩,R'.axc⟩;obtain⟨v,h1,h2,h3,h4⟩:=R'.var i x e;exact⟨v,h1,λz=>⟨(h2 z).1,(h2 z).2.gen rfl Fr.refl sM⟩,λz=>(h3 z).sub (λ_ m _=>m) sM,λz z'=>(h4 z z').sub sM⟩
def AQ(R:Rel W B S P H σ ρ)(s:zr (B.loop S P H R.hz).H0 H'):Fr (NA B S P) H H':=λa o h m=>by
 have n:¬((∃i,S[i]?=some 2/\P i=a)\/B.xc a):=λz=>by
  rcases z with⟨i,hi,e⟩|z
  .rcases m with m|m
   .exact m.2 i hi e
   .obtain⟨_,o0,e0,n0⟩:=R.act i hi;rw[e,h]at e0;cases e0;exact n0 m
  .rcases m with m|m
   .exact m.1 z
   .obtain⟨o0,e0,n0,_⟩:=R.exc a z;rw[h]at e0;cases e0;exact n0 m
 refine s a o ?_;unfold Bs.loop;dsimp only;rw[if_neg n];exact h
def sL(hW:C.W=W)(R:Rel W B S P H σ ρ)(q:XPo C B c fs):XPo C (B.loop S P H R.hz) c fs:=λe dx es H2 s h1 h2 h3=>q e dx es H2 ((VU R).trans s) h1 h2 (h3.sub λa m _=>VW R m)
def AR(hW:C.W=W)(R:Rel W B S P H σ ρ)(h:AI C (B.loop S P H R.hz) H' x v):AI C B H' x v:=by
 unfold AI at h ⊢;by_cases f:C.fr=true
 .rw[if_pos f]at h ⊢;obtain⟨p,e,hp,r⟩:=h;exact⟨p,e,Jb R hp,r.gen rfl Fr.refl λa m _=>⟨VW R m.1,m.2⟩⟩
 .rw[if_neg f]at h ⊢;exact h.sub λa m _=>VW R m
end
section
variable {X:Cx}{C:LC}{S S' S1 Sb Sc:HF}{pos:Pos}
def sO(hi:∀R:It->Hp->Prop,sJ C B S P false H R (mi ρ)->wi σ H R)(hg:LG C S S1 g mg)(hb:LS C S1 S S S tb mb)(R:Rel C.W B S P H σ ρ)(D:Ends)(q:vw C B S Sb Sc D (Kx mi mg mb ρ)):EI wi g tb D σ H:=by
 refine hi _ ?_;unfold Kx at q;revert q;cases mi ρ with
 |exc c fs=>exact id
 |wall=>exact id
 |ok xs=>
  intro q J H2 s2 io;have R2:=R.keep s2;have q:vw C B S Sb Sc D (YU mg mb xs ρ):=q;refine⟨λi n σ' H'=>n=xs.length-i/\i<=xs.length/\∃ρ' P',Rel C.W (B.loop S P H2 R2.hz) S P' H' σ' ρ'/\vw C B S Sb Sc D (YU mg mb (xs.drop i) ρ'),⟨_,rfl,P1 _,ρ,P,R2.loop,q⟩,?_⟩
  rintro i n σ' H' ⟨rfl,hle,ρ',P',R',q'⟩
  have io':=io H' (AQ R2 R'.same);by_cases hlt:i<xs.length
  .have hx:xs[i]?=some xs[i]:=M5 hlt;obtain⟨go,yl⟩:=io'.1 i _ hx;refine .inr ⟨go,λσ2 H2'=>i+1<=xs.length/\∃ρ' P',Rel C.W (B.loop S P H2 R2.hz) S P' H2' σ2 ρ'/\vw C B S Sb Sc D (YU mg mb (xs.drop (i+1)) ρ'),λσ2 H2' h=>⟨xs.length-(i+1),by omega,rfl,h.1,h.2⟩,λv H'' hy=>?_⟩;obtain⟨sy,ry⟩:=yl v H'' hy;have Ry:=R'.keep sy;have rx:=ry (Mof (B.loop S P H2 R2.hz) S P') λa m hn=>⟨⟨.inl m.1.1,m.1.2⟩,λj hj e=>by
    have z:=(R'.act j hj).1;rw[e]at z;unfold Bs.loop at z;dsimp only at z;rw[if_neg (λz=>z.elim (λ⟨k,hk,ek⟩=>m.2 k hk ek) m.1.2)]at z;exact hn z⟩
   rw[a1b hlt]at q';have q':vw C B S Sb Sc D ((kN (mg xs[i] ρ')).bind λρ1=>(mb ρ1).bind λf=>match f with
    |.nx ρ2=>YU mg mb (xs.drop (i+1)) ρ2
    |.ct ρ2=>YU mg mb (xs.drop (i+1)) ρ2
    |.bk ρ2=>.ok (.nx ρ2)
    |.rt v=>.ok (.rt v)):=q'
   cases hgx:mg xs[i] ρ' with
   |none=>rw[hgx]at q';exact q'.elim
   |some ρ1=>
    rw[hgx]at q';refine hg _ P' H'' σ' ρ' _ v Ry rx _ ⟨ρ1,hgx,λσ1 R1=>hb _ P' H'' σ1 ρ1 R1 _ ?_⟩;have q':vw C B S Sb Sc D ((mb ρ1).bind λf=>match f with
     |.nx ρ2=>YU mg mb (xs.drop (i+1)) ρ2
     |.ct ρ2=>YU mg mb (xs.drop (i+1)) ρ2
     |.bk ρ2=>.ok (.nx ρ2)
     |.rt v=>.ok (.rt v)):=q'
    revert q';cases mb ρ1 with
    |exc c fs=>exact λq'=>sL rfl R2 q'
    |wall=>exact id
    |ok f=>
     cases f with
     |nx ρ2=>exact λq' P3 H3 σ3 R3=>⟨hlt,ρ2,P3,R3,q'⟩
     |ct ρ2=>exact λq' P3 H3 σ3 R3=>⟨hlt,ρ2,P3,R3,q'⟩
     |bk ρ2=>exact λq' P3 H3 σ3 R3=>q' P3 H3 σ3 (R2.u9 R3)
     |rt x=>exact λq' v H3 s3 h3=>q' v H3 ((VU R2).trans s3) (AR rfl R2 h3)
  .have e:i=xs.length:=by omega
   subst e;rw[a18]at q';exact .inl ⟨io'.2,q' P' H' σ' (R2.u9 R')⟩
def Dy(hi:LI C S false wi mi)(hg:LG C S S1 g mg)(hb:LS C S1 S S S tb mb):LS C S S Sb Sc (EI wi g tb) (Kx mi mg mb):=λB P H σ ρ R D q=>sO (hi B P H σ ρ R) hg hb R D q
def qT(hp:PassesOwn (IW X) X.A X.env X.xe)(hc:X.calm=true)(hi:IM X C S false tg qR mi)(hg:GM X C S S1 tg mg)(hb:SsM X C S1 S S S body mb)(hs:∀x,foldedSetIterable qR X.env x=pure x:=by intro _;rfl):
  SM X C S S Sb Sc (.For tg qR body [] pos) (Kx mi mg mb):=λhK=>by
 obtain⟨wi,a1,a2⟩:=hi hK;obtain⟨g,b1,b2⟩:=hg hK;obtain⟨tb,c1,c2⟩:=hb hK;exact⟨_,uI hp hc a1 b1 c1 hs,Dy a2 b2 c2⟩
def qg(c:MT)(b:MS):Nat->Sto->Out Fw
 |0,_=>.wall
 |n+1,ρ=>(c ρ).bind λt=>if t=true then(b ρ).bind λf=>match f with
   |.nx ρ2=>qg c b n ρ2
   |.ct ρ2=>qg c b n ρ2
   |.bk ρ2=>.ok (.nx ρ2)
   |.rt v=>.ok (.rt v)
  else .ok (.nx ρ)
open Classical in
def VX(c:MT)(b:MS):MS:=λρ=>if h:∃n,qg c b n ρ≠.wall then qg c b (choose h) ρ else .wall
def sP(hc:LT C S tc c)(hb:LS C S S S S tb b):LS C S S Sb Sc (uH tc tb) (VX c b):=λB P H σ ρ R D q=>by
 unfold VX at q;split at q
 .rename_i h;generalize Classical.choose h=n0 at q;refine⟨λn σ' H'=>∃ρ' P',Rel C.W B S P' H' σ' ρ'/\vw C B S Sb Sc D (qg c b n ρ'),⟨n0,ρ,P,R,q⟩,?_⟩
  rintro n σ' H' ⟨ρ',P',R',q'⟩
  cases n with
  |zero=>exact q'.elim
  |succ n=>
   refine hc B P' H' σ' ρ' R' _ ?_;unfold qg at q';revert q';cases c ρ' with
   |exc c fs=>exact id
   |wall=>exact id
   |ok k=>
    intro q' H1 s1;cases k with
    |false=>exact B0 (q' P' H1 σ' (R'.keep s1))
    |true=>
     refine B3 ⟨λσ2 H2=>∃ρ' P',Rel C.W B S P' H2 σ2 ρ'/\vw C B S Sb Sc D (qg c b n ρ'),λσ2 H2 h=>⟨n,a0r n,h⟩,hb B P' H1 σ' ρ' (R'.keep s1) _ ?_⟩;have q':vw C B S Sb Sc D ((b ρ').bind λf=>match f with
      |.nx ρ2=>qg c b n ρ2
      |.ct ρ2=>qg c b n ρ2
      |.bk ρ2=>.ok (.nx ρ2)
      |.rt v=>.ok (.rt v)):=q'
     revert q';cases b ρ' with
     |exc c fs=>exact id
     |wall=>exact id
     |ok f=>
      cases f with
      |nx ρ2=>exact λq' P3 H3 σ3 R3=>⟨ρ2,P3,R3,q'⟩
      |ct ρ2=>exact λq' P3 H3 σ3 R3=>⟨ρ2,P3,R3,q'⟩
      |bk ρ2=>exact λq'=>q'
      |rt x=>exact λq'=>q'
 .exact q.elim
def fQ(hp:PassesOwn (IW X) X.A X.env X.xe)(hc:TM X C S c mc)(hb:SsM X C S S S S body mb):SM X C S S Sb Sc (.While c body [] pos) (VX mc mb):=λhK=>by obtain⟨tc,a1,a2⟩:=hc hK;obtain⟨tb,c1,c2⟩:=hb hK;exact⟨_,rF hp a1 c1,sP a2 c2⟩
end
def LEn(C:LC)(S:HF)(te:TE)(m:ME):Prop:=∀B P H σ ρ,Rel C.W B S P H σ ρ->∀Q,zR C B H (λH2=>yF C.W (NA B S P) (Mof B S P) H2) Q (m ρ)->te σ H Q
def EN(X:Cx)(C:LC)(S:HF)(e:HY)(m:ME):Prop:=X.K=C.W.K->∃te,PE X e te/\LEn C S te m
section
variable {X:Cx}{C:LC}{S S' S1 Sb Sc:HF}{e a b o qR tg:HY}{es:HL}{w w1 w2:Bool}{ws:HW}{m m1 m2:ME}{ms:MA}{t1:MT}{s1 s2:MS}{pos p pos':Pos}{x:Str}{st:IA}{sts stt:Iq}{i:Nat}
def Mof.na{B:Bs}{P:HQ}{a:Addr}(m:Mof B S P a):NA B S P a:=⟨m.1.2,m.2⟩
def EM.en(h:EM X C S false e m):EN X C S e m:=λhK=>by obtain⟨te,a1,a2⟩:=h hK;exact⟨te,a1,λB P H σ ρ R Q q=>a2 B P H σ ρ R Q (Q3 q λx v H2 s hr=>yF.sub hr (λa m _=>Mof.na m) λ_ m _=>m)⟩
def YV(h:PE X e (cR i))(hS:S[i]?=some 1:=by rfl):EN X C S e (zc i):=λ_=>⟨_,h,λB P H σ ρ R Q q=>lv R q λx v hv e=>by
 obtain⟨v',hv',_,h3,_⟩:=R.var i x e;rw[hv]at hv';cases hv';refine yF.sub (h3 hS) (λa n _=>?_) λ_ m _=>m;have h0:=B.nz a n;exact⟨λz=>h0 (R.exc a z).choose_spec.2.2,λj hj e=>h0 (e▸(R.act j hj).1)⟩⟩
def GF(K:Il)(tl:TE):TI:=λσ H R=>tl σ H λx H1=>(∃a,x=.ref a/\(∃xs,SqL K H1 a xs)/\R (Itl K a) H1)\/∃a,x=.ref a/\(∃xs,SqT K H1 a xs)/\R (Itt K a) H1
def u_(hl:PE X l tl):PI X tg l (GF X.K tl):=by
 intro pins s σ H R I h;refine thn (hl pins s σ H _ I h) λv s1 ⟨x,H1,I1,r1,q1⟩=>?_;rcases q1 with⟨a,e,⟨xs,hq⟩,q⟩|⟨a,e,⟨xs,hq⟩,q⟩
 .subst e;cases r1;obtain⟨its,rv,p,hz⟩:=I1.list hq;refine a1o p.isList ?_;refine⟨s1.heap.objs.size,[s1.heap.objs.size],_,_,H1,rfl,I1.kept (t':=s1.toks) λb o e=>u8 _ e,lH a _,⟨_,M7 _ rfl,rfl,rfl⟩,λb hb=>?_,q⟩;have e:b=s1.heap.objs.size:=by simpa using hb
  subst e;exact I1.BY (L5 _) (I1.hok.fresh (L5 _))
 .subst e;cases r1;obtain⟨its,rv,p,hz⟩:=I1.tuple hq;refine wpAny_pyIter_tuple (show s1.heap.IsTuple a its.toArray from p) ?_;refine⟨s1.heap.objs.size,[s1.heap.objs.size],_,_,H1,rfl,I1.kept (t':=s1.toks) λb o e=>u8 _ e,hU a _,⟨_,M7 _ rfl,rfl,rfl⟩,λb hb=>?_,q⟩;have e:b=s1.heap.objs.size:=by simpa using hb
  subst e;exact I1.BY (L5 _) (I1.hok.fresh (L5 _))
def m_{W:RC}{K:Il}{M N:HI}{H2:Hp}{a:Addr}{xs:Ib}{vs:HN}(hMN:∀a,M a->N a)(h:∀H',Fr N H2 H'->SqL K H' a vs)(r:zP W M H2 xs vs):AO W M N H2 (Itl K a) xs:=λH' f=>by refine⟨λi x hx=>?_,vs,h H' f,by rw[r.len];exact L5 _⟩;obtain⟨v,hv,rv⟩:=r.get hx;refine⟨⟨vs,v,h H' f,hv⟩,λv' H'' hy=>?_⟩;obtain⟨rfl,y⟩:=hy;have:=y vs (h _ f);rw[hv]at this;cases this;exact⟨zr.refl _,λM' sM=>Rep.gen (λa o h m=>f a o h (m.imp (hMN a) id)) (λa m n=>sM a m n) rv⟩
def Dz{W:RC}{K:Il}{M N:HI}{H2:Hp}{a:Addr}{xs:Ib}{vs:HN}(hMN:∀a,M a->N a)(h:∀H',Fr N H2 H'->SqT K H' a vs)(r:zP W M H2 xs vs):AO W M N H2 (Itt K a) xs:=λH' f=>by refine⟨λi x hx=>?_,vs,h H' f,by rw[r.len];exact L5 _⟩;obtain⟨v,hv,rv⟩:=r.get hx;refine⟨⟨vs,v,h H' f,hv⟩,λv' H'' hy=>?_⟩;obtain⟨rfl,y⟩:=hy;have:=y vs (h _ f);rw[hv]at this;cases this;exact⟨zr.refl _,λM' sM=>Rep.gen (λa o h m=>f a o h (m.imp (hMN a) id)) (λa m n=>sM a m n) rv⟩
def items:PV->Out (List PV)
 |.l xs=>.ok xs
 |.t xs=>.ok xs
 |.sc ns=>.ok (ns.map PV.i)
 |_=>.wall
def yj(m:ME):MI:=λρ=>(m ρ).bind items
variable {cc:Bool}
def Mof.nac{B:Bs}{P:HQ}{a:Addr}(m:Mof B S P a):NAc cc B S P a:=by
 unfold NAc;cases cc with
 |true=>rw[if_pos rfl];trivial
 |false=>rw[if_neg N6];exact Mof.na m
def ng(hK:X.K=C.W.K)(a2:∀B P H σ ρ,Rel C.W B S P H σ ρ->∀Q,zR C B H (λH2=>yF C.W (NAc cc B S P) (Mof B S P) H2) Q (m ρ)->te σ H Q):LI C S cc (GF X.K te) (yj m):=λB P H σ ρ R Q q=>by
 refine a2 B P H σ ρ R _ ?_;unfold yj at q;revert q;cases m ρ with
 |exc c fs=>exact id
 |wall=>exact id
 |ok y=>
  intro q v H2 s r;cases y with
  |l xs=>obtain⟨p,vs,rfl,n,hp,rr⟩:=r;exact .inl ⟨p,rfl,⟨vs,SqL.of hp⟩,q _ H2 s (m_ (λa m=>Mof.nac m) (λH' f=>SqL.of (f _ _ hp (.inl n))) rr)⟩
  |t xs=>obtain⟨p,vs,rfl,hp,rr⟩:=r;rw[<- hK]at hp;exact .inr ⟨p,rfl,⟨vs,hp⟩,q _ H2 s (Dz (λa m=>Mof.nac m) (λH' f=>f.sqT hp) rr)⟩
  |sc ns=>obtain⟨p,rfl,hp⟩:=r;rw[<- hK]at hp;exact .inl ⟨p,rfl,⟨_,hp.sq⟩,q _ H2 s (m_ (vs:=ns.map V.int) (λa m=>Mof.nac m) (λH' f=>(hp.frame f).sq) zP.ints)⟩
  |_=>exact q.elim
def v9(h:EN X C S e m):IM X C S false tg e (yj m):=λhK=>by obtain⟨te,a1,a2⟩:=h hK;exact⟨_,u_ a1,ng hK a2⟩
def QH(h:EM X C S w e m):IM X C S true tg e (yj m):=λhK=>by obtain⟨te,a1,a2⟩:=h hK;exact⟨_,u_ a1,ng hK λB P H σ ρ R Q q=>a2 B P H σ ρ R Q (Q3 q λx v H2 s r=>r.weak)⟩
def ll(lo:Int)(n:Nat):List PV:=(List.range n).map λk=>.i (lo+(k:Nat))
def AS{lo:Int}{n i:Nat}{x:PV}(h:(ll lo n)[i]?=some x):i<n/\x=.i (lo+i):=by unfold ll at h;rw[N7]at h;obtain⟨k,hk,rfl⟩:=v4.mp h;rw[M9]at hk;obtain⟨h1,h2⟩:=hk;rw[R9]at h1;rw[a1g]at h2;subst h2;exact⟨h1,rfl⟩
def AU{lo:Int}{n:Nat}:(ll lo n).length=n:=by unfold ll;rw[t0,R9]
def DA{W:RC}{M N:HI}{H2:Hp}{lo:Int}{n:Nat}:AO W M N H2 (Itr lo n) (ll lo n):=λH' f=>by refine⟨λi x hx=>?_,by rw[AU];exact L5 _⟩;obtain⟨hi,rfl⟩:=AS hx;refine⟨hi,λv H'' hy=>?_⟩;obtain⟨rfl,rfl⟩:=hy;exact⟨zr.refl _,λ_ _=>rfl⟩
def nh:List PV->Out (List PV)
 |[.i n]=>if -(2 ^ 62)<=n/\n<2 ^ 62 then .ok (ll 0 n.toNat)else .wall
 |_=>.wall
def Jc(ms:MA):MI:=λρ=>(ms ρ).bind nh
def J8(hg:Gl X "range")(hm:X.mg "range"=none)(ha:AM X C S ws [a] ms)(hs:starEach [a] X.env=[(false,eval a X.env)]:=by rfl):IM X C S cc tg (.Call (.Name "range" p) [a] [] pos) (Jc ms):=λhK=>by
 obtain⟨ta,a1,a2⟩:=ha hK;refine⟨_,lI hg hm a1 hs,λB P H σ ρ R Q q=>a2 B P H σ ρ R _ ?_⟩;unfold Jc at q;revert q;cases ms ρ with
 |exc c fs=>exact id
 |wall=>exact id
 |ok xs=>
  intro q vs H2 s r;have r:=r.weak;have q:sJ C B S P cc H Q (nh xs):=q;unfold nh at q;split at q
  .split at q
   .rename_i hn;obtain⟨v,r',rfl,hx,hr⟩:=r;cases(show _=_ from hr);cases(show _=_ from hx);exact⟨_,rfl,hn.1,hn.2,q _ H2 s DA⟩
   .exact q.elim
  .exact q.elim
end
def noX{α:Type}:Out α->Out α
 |.exc _ _=>.wall
 |o=>o
def lcP(g:MG)(c:MT)(e:ME):List PV->Sto->List PV->Out PV
 |[],_,acc=>.ok (.l acc)
 |x::xs,ρ,acc=>(kN (g x ρ)).bind λρ1=>(noX (c ρ1)).bind λt=>if t=true then(noX (e ρ1)).bind λy=>if acc.length<sizeLine then lcP g c e xs ρ1 (acc++[y])else .wall else lcP g c e xs ρ1 acc
def W9(ρ:Sto)(fr:H_):Sto:=fr.map λo=>match o with|none=>none|some j=>(ρ[j]?).join
def mLC(mi:MI)(fr:H_)(g:MG)(c:MT)(e:ME):ME:=λρ=>(mi ρ).bind λxs=>lcP g c e xs (W9 ρ fr) []
def nj:MT:=λ_=>.ok true
def inS(S:HF)(fr:H_):List Nat:=fr.map λo=>match o with|none=>0|some j=>if S[j]?=some 2\/S[j]?=some 1 then 1 else 0
def lcB(B:Bs)(S:HF)(P:HQ)(H:Hp)(acc:Addr):Bs:=⟨H,Mof B S P,λa=>H a≠none,λ_ h=>h,none,λa=>a=acc⟩
def nq{S:HF}{fr:H_}{k c:Nat}(h:(inS S fr)[k]?=some c):c≠2:=by
 unfold inS at h;rw[N7]at h;obtain⟨o,ho,e⟩:=v4.mp h;intro z;rw[z]at e;cases o with
 |none=>cases e
 |some j=>dsimp only at e;split at e<;>cases e
section
variable {X:Cx}{C:LC}{S S' S1 Sb Sc:HF}{e a b o qR tg elt:HY}{es ifs:HL}{w w1 w2:Bool}{ws:HW}{m m1 m2 me:ME}{ms:MA}{t1 mc:MT}{mg:MG}{mi:MI}{s1 s2:MS}{pos p pos':Pos}{x:Str}{st:IA}{sts stt:Iq}{i:Nat}{scope:Scope}
def Rel.comp{W:RC}{B:Bs}{P:HQ}{H H':Hp}{σ:St}{ρ:Sto}{acc:Addr}{fr:H_}{ys:HN}(R:Rel W B S P H σ ρ)(ha:H acc=none)(s:zr H H')(hy:H' acc=some (.lst ys)):Rel W (lcB B S P H acc) (inS S fr) (λ_=>0) H' (p6 σ fr) (W9 ρ fr):=by
 have n2:∀{k:Nat},(inS S fr)[k]?=some 2->False:=λ{k} h=>nq h rfl;have sM:∀a,Mof B S P a->H a≠none->Mof (lcB B S P H acc) (inS S fr) (λ_=>0) a:=λa m n=>⟨⟨.inl m,λz=>n ((show a=acc from z)▸ha)⟩,λi hi=>(n2 hi).elim⟩;refine⟨s,by unfold p6 W9;rw[t0,t0],λk x e=>?_,λi hi=>(n2 hi).elim,λi j hi=>(n2 hi).elim,λhi=>(n2 hi).elim,λa h=>?_,λi hi=>(n2 hi).elim⟩
 .unfold W9 at e;rw[N7]at e;obtain⟨o,ho,e⟩:=v4.mp e;cases o with
  |none=>cases e
  |some j=>
   have e:(ρ[j]?).join=some x:=e;have hj:ρ[j]?=some (some x):=by
    cases q:ρ[j]? with
    |none=>rw[q]at e;cases e
    |some z=>rw[q]at e;cases z with
     |none=>cases e
     |some z=>cases e;rfl
   obtain⟨v,hv,h2,h3,h4⟩:=R.var j x hj;have hS:(inS S fr)[k]?=some (if S[j]?=some 2\/S[j]?=some 1 then 1 else 0):=by unfold inS;rw[N7,ho];rfl
   refine⟨v,by unfold p6;rw[N7,ho];show some ((σ[j]?).join)=_;rw[hv];rfl,λz=>(n2 z).elim,λz=>?_,λz z'=>?_⟩
   .rw[hS]at z;by_cases c2:S[j]?=some 2
    .obtain⟨rfl,ra⟩:=h2 c2;obtain⟨_,o,eo,_⟩:=R.act j c2;exact((ra.EL (N:=λa=>H a≠none) (by rw[eo];intro z;cases z)).sub (λ_ m _=>m) sM).same s
    .by_cases c1:S[j]?=some 1
     .exact((h3 c1).sub (λa n q=>(R.hz a n).2) sM).same s
     .rw[if_neg (by rintro(q|q);exact c2 q;exact c1 q)]at z;cases z
   .rw[hS]at z';by_cases c:S[j]?=some 2\/S[j]?=some 1
    .rw[if_pos c]at z';exact absurd rfl z'
    .exact((h4 (λq=>c (.inl q)) (λq=>c (.inr q))).sub sM).same s
 .cases(show a=acc from h);exact⟨_,hy,id,ha⟩
def TsM(X:Cx)(C:LC)(S:HF)(ifs:HL)(m:MT):Prop:=X.K=C.W.K->∃tt,PTs X ifs tt/\LT C S tt m
def Ky:TsM X C S [] nj:=λ_=>⟨_,Aj,λB P H σ ρ R Q q=>q H (zr.refl _)⟩
def xa(h:TM X C S c t1):TsM X C S [c] t1:=λhK=>let⟨tt,a1,a2⟩:=h hK;⟨tt,Ak a1,a2⟩
def dv{ι:Type}{Y:ι->Cx}(h:∀z,EM (Y z) C S w e m)(hK:∀z,(Y z).K=C.W.K):∃te,(∀z,PE (Y z) e te)/\LE C S w te m:=
 ⟨λσ H Q=>∀z,(Classical.choose (h z (hK z))) σ H Q,λz pins s σ H Q I q=>(S6 (h z (hK z))).1 pins s σ H Q I (q z),λB P H σ ρ R Q q z=>(S6 (h z (hK z))).2 B P H σ ρ R Q q⟩
def dw{ι:Type}{Y:ι->Cx}(h:∀z,TsM (Y z) C S ifs mc)(hK:∀z,(Y z).K=C.W.K):∃te,(∀z,PTs (Y z) ifs te)/\LT C S te mc:=
 ⟨λσ H Q=>∀z,(Classical.choose (h z (hK z))) σ H Q,λz pins s σ H Q I q=>(S6 (h z (hK z))).1 pins s σ H Q I (q z),λB P H σ ρ R Q q z=>(S6 (h z (hK z))).2 B P H σ ρ R Q q⟩
def dy{ι:Type}{Y:ι->Cx}(h:∀z,GM (Y z) C S S1 tg mg)(hK:∀z,(Y z).K=C.W.K):∃g,(∀z,PG (Y z) tg g)/\LG C S S1 g mg:=
 ⟨λv σ H Q=>∀z,(Classical.choose (h z (hK z))) v σ H Q,λz pins s σ H v u Q I r q=>(S6 (h z (hK z))).1 pins s σ H v u Q I r (q z),λB P H σ ρ x v R r Q q z=>(S6 (h z (hK z))).2 B P H σ ρ x v R r Q q⟩
def dz{wi:TI}{g:TG}{tc:TT}{te:TE}{fr:H_}{Si:HF}{W:RC}{B:Bs}{P:HQ}{H:Hp}{σ:St}{ρ:Sto}(hi:∀R:It->Hp->Prop,sJ C B S P true H R (mi ρ)->wi σ H R)(hW:W=C.W)(hS:Si=inS S fr)(hg:LG ⟨W,E0,false⟩ Si Si g mg)(ht:LT ⟨W,E0,false⟩ Si tc mc)(he:LE ⟨W,E0,false⟩ Si false te me)(R:Rel C.W B S P H σ ρ)(Q:VK)(q:zR C B H (RFr C.W (Mof B S P) H) Q (mLC mi fr mg mc me ρ)):tLC wi g tc te fr σ H Q:=by
 subst hW hS;refine hi _ ?_;unfold mLC at q;revert q;cases mi ρ with
 |exc c fs=>exact id
 |wall=>exact id
 |ok xs=>
  intro q J H1 s1 io acc ha;have R1:=R.keep s1;have q:zR C B H (RFr C.W (Mof B S P) H) Q (lcP mg mc me xs (W9 ρ fr) []):=q;have sM:∀a,Mof (lcB B S P H1 acc) (inS S fr) (λ_=>0) a->Mof B S P a/\a≠acc:=λa m=>⟨m.1.1.elim id λn=>R1.new a n,m.1.2⟩;refine⟨λi n σ' H'=>n=xs.length-i/\i<=xs.length/\∃ρ' ys vs,Rel C.W (lcB B S P H1 acc) (inS S fr) (λ_=>0) H' σ' ρ'/\H' acc=some (.lst vs)/\zP C.W (Mof (lcB B S P H1 acc) (inS S fr) (λ_=>0)) H' ys vs/\zR C B H (RFr C.W (Mof B S P) H) Q (lcP mg mc me (xs.drop i) ρ' ys),
   ⟨_,rfl,P1 _,W9 ρ fr,[],[],R1.comp ha (zr.upd ha) zg,zg,rfl,q⟩,?_⟩
  rintro i n σ' H' ⟨rfl,hle,ρ',ys,vs,R',hacc,rys,q'⟩
  have io':=io H' (zr.fr R'.same);by_cases hlt:i<xs.length
  .have hx:xs[i]?=some xs[i]:=M5 hlt;obtain⟨go,yl⟩:=io'.1 i _ hx;refine .inr ⟨go,λσ2 H2'=>i+1<=xs.length/\∃ρ' ys vs,Rel C.W (lcB B S P H1 acc) (inS S fr) (λ_=>0) H2' σ2 ρ'/\H2' acc=some (.lst vs)/\zP C.W (Mof (lcB B S P H1 acc) (inS S fr) (λ_=>0)) H2' ys vs/\zR C B H (RFr C.W (Mof B S P) H) Q (lcP mg mc me (xs.drop (i+1)) ρ' ys),λσ2 H2' h=>⟨xs.length-(i+1),by omega,rfl,h.1,h.2⟩,λv H'' hy=>?_⟩;obtain⟨sy,ry⟩:=yl v H'' hy;have Ry:=R'.keep sy;have rx:=ry (Mof (lcB B S P H1 acc) (inS S fr) (λ_=>0)) λa m hn=>⟨⟨.inl m,λz=>hn ((show a=acc from z)▸ha)⟩,λj hj=>(nq hj rfl).elim⟩;rw[a1b hlt]at q';unfold lcP at q';cases hgx:mg xs[i] ρ' with
   |none=>rw[hgx]at q';exact q'.elim
   |some ρ1=>
    rw[hgx]at q';refine hg _ _ H'' σ' ρ' _ v Ry rx _ ⟨ρ1,hgx,λσ1 R1'=>ht _ _ H'' σ1 ρ1 R1' _ ?_⟩;have q':zR C B H (RFr C.W (Mof B S P) H) Q ((noX (mc ρ1)).bind λt=>if t=true then(noX (me ρ1)).bind λy=>if ys.length<sizeLine then lcP mg mc me (xs.drop (i+1)) ρ1 (ys++[y])else .wall else lcP mg mc me (xs.drop (i+1)) ρ1 ys):=q';revert q';cases mc ρ1 with
    |exc c fs=>exact λq'=>q'.elim
    |wall=>exact id
    |ok t=>
     intro q' H5 s5;have R5:=R1'.keep s5;have hacc5:=s5 _ _ (sy _ _ hacc);have rys5:=(rys.same sy).same s5;cases t with
     |false=>exact B0 ⟨hlt,ρ1,ys,vs,R5,hacc5,rys5,q'⟩
     |true=>
      refine B3 (he _ _ H5 σ1 ρ1 R5 _ ?_);have q':zR C B H (RFr C.W (Mof B S P) H) Q ((noX (me ρ1)).bind λy=>if ys.length<sizeLine then lcP mg mc me (xs.drop (i+1)) ρ1 (ys++[y])else .wall):=q';revert q';cases me ρ1 with
      |exc c fs=>exact λq'=>q'.elim
      |wall=>exact id
      |ok y=>
       intro q' v6 H6 s6 r6;have q':zR C B H (RFr C.W (Mof B S P) H) Q (if ys.length<sizeLine then lcP mg mc me (xs.drop (i+1)) ρ1 (ys++[y])else .wall):=q';split at q'
       .rename_i hz;have R6:=R5.keep s6;have fr6:Fr (Mof (lcB B S P H1 acc) (inS S fr) (λ_=>0)) H6 (upd H6 acc (.lst (vs++[v6]))):=λa o h m=>by
         have:a≠acc:=λz=>by
          rcases m with m|m
          .exact m.1.2 z
          .rw[z,s6 _ _ hacc5]at h;cases h;exact m
         rw[zi this];exact h
        exact⟨vs,s6 _ _ hacc5,by rw[rys5.len];exact hz,hlt,ρ1,ys++[y],vs++[v6],R6.wrx (show(lcB B S P H1 acc).xc acc from rfl) (by exact id),zg,((rys5.same s6).append (.cons r6.rep .nil)).gen fr6 λ_ m _=>m,q'⟩
       .exact q'.elim
  .have e:i=xs.length:=by omega
   subst e;rw[a18]at q';exact .inl ⟨io'.2,q' _ H' (s1.trans R'.same) ⟨acc,rfl,zr.none s1 ha,vs,hacc,rys.sub λa m _=>sM a m⟩⟩
def DB{wi:TI}{g:TG}{tc:TT}{te:TE}{fr:H_}{Si:HF}{W:RC}(hi:LI C S true wi mi)(hW:W=C.W)(hS:Si=inS S fr)(hg:LG ⟨W,E0,false⟩ Si Si g mg)(ht:LT ⟨W,E0,false⟩ Si tc mc)(he:LE ⟨W,E0,false⟩ Si false te me):LFr C S (tLC wi g tc te fr) (mLC mi fr mg mc me):=λB P H σ ρ R Q q=>dz (hi B P H σ ρ R) hW hS hg ht he R Q q
abbrev CI:=List Addr×List (Addr×Obj)×Shared×Hp×Addr
abbrev cxI(X:Cx)(scope:Scope)(N:HA)(z:CI):Cx:=qd X scope N z.1 z.2.1 z.2.2.1 z.2.2.2.1 z.2.2.2.2
def iA(N:HA)(fr:H_)(Si:HF)(hc:X.calm=true)(hok:p5 X scope N fr=true)(hi:IM X C S true tg qR mi)(hg:∀z:CI,GM (cxI X scope N z) ⟨C.W,E0,false⟩ Si Si tg mg)(ht:∀z:CI,TsM (cxI X scope N z) ⟨C.W,E0,false⟩ Si ifs mc)(he:∀z:CI,EM (cxI X scope N z) ⟨C.W,E0,false⟩ Si false elt me)(hS:Si=inS S fr:=by rfl)
  (hs:∀x,foldedSetIterable qR X.env x=pure x:=by intro _;rfl):FM X C S (.ListComp elt [⟨tg,qR,ifs,0⟩] scope pos) (mLC mi fr mg mc me):=λhK=>by
 obtain⟨wi,a1,a2⟩:=hi hK;obtain⟨g,b1,b2⟩:=dy hg λ_=>hK;obtain⟨tc,c1,c2⟩:=dw ht λ_=>hK;obtain⟨te,d1,d2⟩:=dv he λ_=>hK;exact⟨_,C1 N fr hc hok a1 (λfp pn s H L=>b1 ⟨fp,pn,s,H,L⟩) (λfp pn s H L=>c1 ⟨fp,pn,s,H,L⟩) (λfp pn s H L=>d1 ⟨fp,pn,s,H,L⟩) hs,DB a2 rfl hS b2 c2 d2⟩
variable {y:Str}{pY py:Pos}
def DC(N:HA)(fr:H_)(Si:HF)(hN:X.N.Nodup)(hy:X.N[i]?=some y)(hl:X.env.scope.names.lookup y=some .local)(hc:X.calm=true)(hok:p5 X scope N fr=true)(hi:IM X C S true tg qR mi)(hg:∀z:CI,GM (cxI X scope N z) ⟨C.W,E0,false⟩ Si Si tg mg)(ht:∀z:CI,TsM (cxI X scope N z) ⟨C.W,E0,false⟩ Si ifs mc)(he:∀z:CI,EM (cxI X scope N z) ⟨C.W,E0,false⟩ Si false elt me)(hS:Si=inS S fr:=by rfl)
  (hsw:swapsWith (.ListComp elt [⟨tg,qR,ifs,0⟩] scope pos) (some (.Name y py)) pY.line X.env=pure true:=by rfl) (hs:∀x,foldedSetIterable qR X.env x=pure x:=by intro _;rfl):SM X C S (S.set i 0) Sb Sc (.Assign [.Name y py] (.ListComp elt [⟨tg,qR,ifs,0⟩] scope pos) pY) (yr i (mLC mi fr mg mc me)):=λhK=>by
 obtain⟨wi,a1,a2⟩:=hi hK;obtain⟨g,b1,b2⟩:=dy hg λ_=>hK;obtain⟨tc,c1,c2⟩:=dw ht λ_=>hK;obtain⟨te,d1,d2⟩:=dv he λ_=>hK;refine⟨_,FG N fr hN hy hl hc hok a1 (λfp pn s H L=>b1 ⟨fp,pn,s,H,L⟩) (λfp pn s H L=>c1 ⟨fp,pn,s,H,L⟩) (λfp pn s H L=>d1 ⟨fp,pn,s,H,L⟩) hsw hs,u6 λB P H σ ρ R Q q=>DB a2 rfl hS b2 c2 d2 B P H σ ρ R Q (Q3 q λx v H2 s hr=>RV.of (hr.rep R.new))⟩
end
def wA(fr:Bool)(n:Nat)(ms:MS)(xs:Ib):Out PV:=match ms (xs.map some++List.replicate (n-xs.length) none)with
 |.ok (.nx _)=>if fr=true then .wall else .ok .n
 |.ok (.rt x)=>.ok x
 |.ok (.bk _)=>.wall
 |.ok (.ct _)=>.wall
 |.exc c fs=>.exc c fs
 |.wall=>.wall
def Jd(ws:HW)(n:Nat):List Nat:=ws.map (λw=>if w=true then 1 else 0)++List.replicate (n-ws.length) 0
def bp{ws:HW}{n k:Nat}:(Jd ws n)[k]?≠some 2:=by
 unfold Jd;rw[a1B];split
 .rw[N7];intro h;obtain⟨w,_,e⟩:=v4.mp h;split at e<;>cases e
 .rw[a0N];intro h;split at h<;>cases h
def qG.get{W:RC}{M:HI}{H:Hp}:∀{ws:HW}{xs:Ib}{vs:HN}{k:Nat}{x:PV},qG W M H ws xs vs->xs[k]?=some x->∃v w,vs[k]?=some v/\ws[k]?=some w/\yF W (if w=true then λ_=>True else M) M H x v
 |[],_,_,_,_,⟨e1,e2⟩,h=>by subst e1;simp at h
 |w::ws,_,_,0,x,⟨y,v,xr,vr,e1,e2,h1,h2⟩,h=>by subst e1;subst e2;simp at h;subst h;exact⟨v,w,rfl,rfl,h1⟩
 |w::ws,_,_,k+1,x,⟨y,v,xr,vr,e1,e2,h1,h2⟩,h=>by subst e1;subst e2;simp only[List.getElem?_cons_succ]at h ⊢;exact qG.get h2 h
def bq{xs:Ib}{n k:Nat}{x:PV}(h:(xs.map some++List.replicate (n-xs.length) none)[k]?=some (some x)):xs[k]?=some x:=by
 rw[a1B]at h;split at h
 .rw[N7]at h;obtain⟨y,hy,e⟩:=v4.mp h;cases e;exact hy
 .rw[a0N]at h;split at h<;>cases h
def xb(H:Hp)(M:HI):Bs:=⟨H,M,λa=>H a≠none,λ_ h=>h,none,λ_=>False⟩
def nr(h:qG W M H ws xs vs)(hn:ws.length<=N.length):Rel W (xb H M) (Jd ws N.length) (λ_=>0) H (start N vs) (xs.map some++List.replicate (N.length-xs.length) none):=by
 have n2:∀{k:Nat},(Jd ws N.length)[k]?=some 2->False:=λ{k} h=>bp h;have sM:∀a,M a->H a≠none->Mof (xb H M) (Jd ws N.length) (λ_=>0) a:=λa m _=>⟨⟨.inl m,id⟩,λi hi=>(n2 hi).elim⟩;obtain⟨l1,l2⟩:=h.len;refine⟨zr.refl _,?_,λk x e=>?_,λi hi=>(n2 hi).elim,λi j hi=>(n2 hi).elim,λhi=>(n2 hi).elim,λa h=>h.elim,λi hi=>(n2 hi).elim⟩
 .unfold start;rw[N8,N8,t0,t0,a0A,a0A,l1,l2]
 .obtain⟨v,w,hv,hw,r⟩:=h.get (bq e);have hk:k<vs.length:=(M9.mp hv).1;have hS:(Jd ws N.length)[k]?=some (if w=true then 1 else 0):=by unfold Jd;rw[T4 (by rw[t0,<- l1];exact hk),N7,hw];rfl
  refine⟨v,?_,λz=>(n2 z).elim,λz=>?_,λ_ z=>?_⟩
  .unfold L2.start;rw[T4 (by rw[t0];exact hk),N7,hv];rfl
  .rw[hS]at z;refine yF.sub r (λa _ n=>n) sM
  .rw[hS]at z;cases w with
   |true=>exact absurd rfl z
   |false=>exact(yF.iff.mp r).sub sM
section
variable {P:HZ}{w:Ie}{K:Il}{mg:HD}{base:Heap}
def zu{x qual:Str}{st:IA}{f:Addr}{fd:Ii}{N ps:HA}{k n:Nat}{W:RC}{fr:Bool}{ws:HW}{ms:MS}{S' Sb Sc:HF}(F:Fun K x qual st f fd)(S:zm N ps (zh st))(hW:K=W.K)(hl:ws.length=ps.length)(hN:N.length=n)(hn:ws.length<=n)
  (h:∀(cdv:Value)(A:Ih)(outer:List Env)(s:HJ)(H:Hp)(E:XK),jU k (A.deeper (envOfC qual (zh st) s.heap.objs.size f cdv))->SsM (thr (ic (CXe P w) P w K mg base N qual (zh st) f cdv A outer s H E) E) ⟨W,E,fr⟩ (Jd ws n) S' Sb Sc (wx st) ms):
  yU P w K mg base (CXe P w) (k+1) f fd ps (lsp W fr ws (wA fr n ms)):=by
 subst hN;refine F.okX S (AA hl) λcdv A outer s H vs Q E hr ⟨M,xs,ha,q⟩=>?_;obtain⟨ts,t1,t2⟩:=h cdv A outer s H E hr hW;refine⟨ts,t1,t2 (xb H M) _ H _ _ (nr ha hn) _ ?_⟩;unfold wA at q;revert q;cases ms (xs.map some++List.replicate (N.length-xs.length) none)with
 |exc c fs=>exact λq e dx es H2 s h1 h2 h3=>q e dx es H2 s h1 h2 h3
 |wall=>exact id
 |ok fl=>
  cases fl with
  |nx ρ'=>
   intro q P' H' σ' R';cases fr with
   |true=>exact q.elim
   |false=>exact q .non H' R'.same rfl
  |rt y=>exact λq v H' s r=>q v H' s r
  |bk ρ'=>exact λq=>q.elim
  |ct ρ'=>exact λq=>q.elim
def FN(c:Nat)(n:Nat)(ms:MS)(xs:Ib):Out PV:=match ms (some (.o c [])::(xs.map some++List.replicate (n-xs.length) none))with
 |.ok (.nx ρ)=>match ρ[0]? with
  |some (some x)=>.ok x
  |_=>.wall
 |.ok (.rt _)=>.wall
 |.ok (.bk _)=>.wall
 |.ok (.ct _)=>.wall
 |.exc c fs=>.exc c fs
 |.wall=>.wall
def bsI(H:Hp)(M:HI)(x:Addr):Bs:=⟨erase H x,M,λa=>erase H x a≠none,λ_ h=>h,some x,λ_=>False⟩
def YD:zr (erase H x) H:=λa o h=>by
 unfold erase at h;split at h
 .cases h
 .exact h
def iB(h:qG W M (erase H x) ws xs vs)(hx:H x=some (.ins (W.cls c) dx []))(hN:N.length=n+1)(hn:ws.length<=n):
  Rel W (bsI H M x) (2::Jd ws n) (λ_=>x) H (start N (.ref x::vs)) (some (.o c [])::(xs.map some++List.replicate (n-xs.length) none)):=by
 have e0:erase H x x=none:=by unfold erase;rw[if_pos rfl]
 have n2:∀{k:Nat},(2::Jd ws n)[k]?=some 2->k=0:=λ{k} h=>by
  cases k with
  |zero=>rfl
  |succ k=>rw[P2]at h;exact(bp h).elim
 have sM:∀a,M a->erase H x a≠none->Mof (bsI H M x) (2::Jd ws n) (λ_=>x) a:=λa m z=>⟨⟨.inl m,id⟩,λi hi q=>z (q▸e0)⟩;obtain⟨l1,l2⟩:=h.len;refine⟨YD,?_,λk y e=>?_,λi hi=>⟨e0,_,hx,id⟩,λi j hi hj _=>(n2 hi).trans (n2 hj).symm,λhi p hp=>(P5 hp),λa h=>h.elim,λi hi=>id⟩
 .unfold L2.start;simp only[List.length_cons,List.length_append,List.length_map,List.length_replicate,l1,l2,hN];omega
 .cases k with
  |zero=>cases e;exact⟨.ref x,rfl,λ_=>⟨rfl,dx,[],hx,rfl⟩,(λz=>by cases z),λz=>absurd rfl z⟩
  |succ k=>
   rw[P2]at e;obtain⟨v,w,hv,hw,r⟩:=h.get (bq e);have hk:k<vs.length:=(M9.mp hv).1;have hS:(2::Jd ws n)[k+1]?=some (if w=true then 1 else 0):=by rw[P2];unfold Jd;rw[T4 (by rw[t0,<- l1];exact hk),N7,hw];rfl
   have r2:yF W (if w=true then λ_=>True else M) M H y v:=yF.same r YD;refine⟨v,?_,(λz=>by cases(n2 z)),λz=>?_,λ_ z=>?_⟩
   .unfold L2.start;rw[M3,List.cons_append,P2,T4 (by rw[t0];exact hk),N7,hv];rfl
   .exact yF.same (yF.sub r (λa _ n=>n) sM) YD
   .rw[hS]at z;cases w with
    |true=>exact absurd rfl z
    |false=>exact Rep.same ((yF.iff.mp r).sub sM) YD
def nu{x qual:Str}{st:IA}{f:Addr}{fd:Ii}{N ps:HA}{k n c:Nat}{W:RC}{ws:HW}{ms:MS}{S' Sb Sc:HF}(F:Fun K x qual st f fd)(S:zm N ps (zh st))(hW:K=W.K)(hl:ws.length+1=ps.length)(hN:N.length=n+1)(hn:ws.length<=n)(h2:S'[0]?=some 2)
  (h:∀(cdv:Value)(A:Ih)(outer:List Env)(s:HJ)(H:Hp)(E:XK),jU k (A.deeper (envOfC qual (zh st) s.heap.objs.size f cdv))->SsM (thr (ic (CXe P w) P w K mg base N qual (zh st) f cdv A outer s H E) E) ⟨W,E,false⟩ (2::Jd ws n) S' Sb Sc (wx st) ms):
  yU P w K mg base (CXe P w) (k+1) f fd ps (EX W c ws (FN c n ms)):=by
 refine F.okX S (sG hl) λcdv A outer s H vs Q E hr ⟨M,x,dx,xs,avs,e,hx,ha,q⟩=>?_;subst e;obtain⟨ts,t1,t2⟩:=h cdv A outer s H E hr hW;refine⟨ts,t1,t2 (bsI H M x) _ H _ _ (iB ha hx hN hn) _ ?_⟩;unfold FN at q;revert q;cases ms (some (.o c [])::(xs.map some++List.replicate (n-xs.length) none))with
 |exc c fs=>exact λq e dx es H2 s h1 h2 h3=>q e dx es H2 s h1 h2 h3
 |wall=>exact id
 |ok fl=>
  cases fl with
  |nx ρ'=>
   intro q P' H' σ' R';have q:GD W M H x Q E (match ρ'[0]? with|some (some x)=>.ok x|_=>.wall):=q;split at q
   .rename_i y hy;obtain⟨_,ra,_⟩:=R'.at2 h2 hy;have e:=R'.pin h2 x rfl;rw[e]at ra;exact q H' R'.same (ra.gen rfl Fr.refl λa m _=>⟨m.1.1,λz=>m.2 0 h2 (e.trans z.symm)⟩)
   .exact q.elim
  |rt y=>exact λq=>q.elim
  |bk ρ'=>exact λq=>q.elim
  |ct ρ'=>exact λq=>q.elim
end
def p9(C:Addr)(fs:HA):Sp:=λvs H Q _=>∃e us,vs=.ref e::us/\us.length=fs.length/\H e=some (XO e C none .none)/\∀dx,H dx=none->Q .non (upd (upd H dx (XD dx (fs.zip us))) e (XO e C (some dx) .none))
def w_(c:Nat)(fns:HA)(ms:MA):MS:=λρ=>(ms ρ).bind λxs=>if xs.length=fns.length/\xs.length<=1000 then .exc c (fns.zip xs)else .wall
def qS.zip{W:RC}{M:HI}{H:Hp}:∀{fns:HA}{xs:Ib}{vs:HN},zP W M H xs vs->xs.length=fns.length->qS W M H (fns.zip xs) (fns.zip vs)
 |[],[],_,h,_=>by cases(show _=_ from h);rfl
 |f::fns,x::xs,_,h,e=>by obtain⟨v,r,rfl,h1,h2⟩:=h;exact⟨v,_,rfl,h1,qS.zip h2 (by simpa using e)⟩
 |[],_::_,_,_,e=>by cases e
 |_::_,[],_,_,e=>by cases e
def jb(hh:X.calm=true)(M:XMk X.K (C.W.cls c) f)(xc:YS X.K (C.W.cls c))(F:yU X.prog X.w X.K X.mg X.base (CXe X.prog X.w) k f fd ps (p9 (C.W.cls c) fns))(hr:jU (k+1) X.A)(hg:Gl X x)(hm:X.mg x=some (.ref (C.W.cls c)))(hb:Binds X.K fd ps [])
  (ha:AM (thr X C.E) C S ws (e::es) ms) (hw:ws.all (!·)=true:=by rfl) (hdb:(x==("__debug__":Str))=false:=by decide) (he:starEach (e::es) X.env=(false,eval e X.env)::starEach es X.env:=by rfl) (hpl:(backTo kM (starEach es X.env)).any (·.1)=false:=by rfl):
  SM (thr X C.E) C S S' Sb Sc (.Raise (some (.Call (.Name x p) (e::es) [] kM)) none pos) (w_ c fns ms):=λhK=>by
 obtain⟨ta,a1,a2⟩:=ha hK;refine⟨_,r_ hh (r9 (X:=thr X C.E) M F hr hg hm hb zW a1 hdb he hpl),λB P H σ ρ R D q=>?_⟩;show ta σ H _;refine a2 B P H σ ρ R _ ?_;unfold w_ at q;revert q;cases ms ρ with
 |exc c fs=>exact id
 |wall=>exact id
 |ok xs=>
  intro q vs H1 s1 r1;have rs:=r1.ES hw;have q:vw C B S' Sb Sc D (if xs.length=fns.length/\xs.length<=1000 then .exc c (fns.zip xs)else .wall):=q;split at q
  .rename_i hz;refine⟨by rw[rs.len];exact hz.2,λy hy=>⟨y,vs,rfl,by rw[rs.len];exact hz.1,zg,λdx hdx=>⟨rfl,y,_,dx,rfl,hK▸xc,zg,?_⟩⟩⟩;have ne:dx≠y:=λz=>by rw[z,zg]at hdx;cases hdx
   rw[zi ne]at hdx;rw[VF];have sm:zr H1 (upd (upd (upd H1 y (XO y (C.W.cls c) none .none)) dx (XD dx (fns.zip vs))) y (XC y (C.W.cls c) dx)):=λb q hb=>by rw[zi (ye hb hy),zi (ye hb hdx),zi (ye hb hy)];exact hb
   exact q y dx (fns.zip vs) _ (R.same.trans (s1.trans sm)) zg (by rw[zi ne,zg]) ((qS.zip rs hz.1).gen sm.fr λa m _=>m.1.1)
  .exact q.elim
def jY{S:HF}{i:Nat}:∀j:Nat,(S.set i 0)[j]?=some 2->S[j]?=some 2:=λ_ h=>(yG (c:=0) h).1
def AV(hS:SqL W.K H p (ns.map V.int))(h:g [.sc ns]=.ok (.b true))(k:∀H',Q (.bl true) H'):lsp W false [true] g [.ref p] H Q E:=by
 refine⟨λ_=>True,[.sc ns],⟨.sc ns,.ref p,[],[],rfl,rfl,⟨p,rfl,?_⟩,rfl,rfl⟩,?_⟩
 .rw[if_pos rfl];exact hS.elim (λz=>.inl ⟨trivial,z⟩) .inr
 .rw[h];intro v H2 s r;unfold RtV at r;rw[if_neg N6]at r;cases(show v=_ from r);exact k H2
def sQ:PV->PV->Out PV
 |.l a,.l b=>if a.length+b.length<=sizeLine then .ok (.l (a++b))else .wall
 |_,_=>.wall
section
variable {X:Cx}{C:LC}{S:HF}{e a b:HY}{w w1 w2:Bool}{m m1 m2:ME}{pos:Pos}
def DD(h1:EM X C S w1 a m1)(h2:EM X C S w2 b m2):FM X C S (.BinOp a .Add b pos) (mOp sQ m1 m2):=λhK=>by
 obtain⟨ta,a1,a2⟩:=h1 hK;obtain⟨tb,b1,b2⟩:=h2 hK;refine⟨_,Ct uP a1 b1,λB P H σ ρ R Q q=>a2 B P H σ ρ R _ (jX q λx v H1 s1 r1 q1=>b2 B P H1 σ ρ (R.keep s1) _ (jX q1 λy u H2 s2 r2 q2=>?_))⟩;have r1:=r1.same s2;unfold sQ at q2;split at q2
 .split at q2
  .rename_i hz;obtain⟨p,vs,rfl,_,hp,rr⟩:=r1;obtain⟨p',vs',rfl,_,hp',rr'⟩:=r2;exact⟨p,p',vs,vs',rfl,rfl,hp,hp',by rw[rr.len,rr'.len];exact hz,λz hz=>q2 _ _ (zr.upd hz) (v5 (rr.append rr') hz)⟩
  .exact q2.elim
 .exact q2.elim
def sR:ME:=λ_=>.ok (.d [])
def nv:FM X C S (.Dict [] [] pos) sR:=λhK=>⟨_,rR,λB P H σ ρ R Q q=>λp hp=>q _ _ (zr.upd hp) (Ax (xs:=[]) (vs:=[]) rfl hp)⟩
end
section
variable {α β:Type}
def jZ{a:α}{f:α->Out β}:(Out.ok a).bind f=f a:=rfl
def XT(h1:-(2 ^ 64)<a)(h2:a<2 ^ 64):YO (.i a) (.i b)=.ok (.i (a*b)):=by show(if uJ a b\/_ then _ else _)=_;rw[if_pos (.inl (.inl ⟨h1,h2⟩))]
def xf(h1:0<b)(h2:b<1073741824):ZF (.i a) (.i b)=.ok (.i (a / b)):=by show(if BZ a b then _ else _)=_;rw[if_pos ⟨h1,h2⟩]
def kR(h1:0<b):zU (.i a) (.i b)=.ok (.i (a % b)):=by show(if 0<b then _ else _)=_;rw[if_pos h1]
def AW:pIx (.l xs) (.i a)=kN (atI xs a):=rfl
def br{a:α}:kN (some a)=.ok a:=rfl
def DE(h:z.length<=sizeLine):W6 [.s z]=.ok (.i z.length):=by show(if _ then _ else _)=_;rw[if_pos h]
def ny{xs:List α}(h:0<=k):atI xs k=xs[k.toNat]?:=by
 unfold atI ixN;rw[if_pos h];by_cases c:k<xs.length
 .rw[if_pos c];rfl
 .rw[if_neg c];symm;exact a10.mpr (by omega)
def bt(h:qg c b n ρ=o)(hw:o≠.wall):VX c b ρ=o:=by
 have mono:∀(n k:Nat)(ρ:Sto),qg c b n ρ≠.wall->qg c b (n+k) ρ=qg c b n ρ:=by
  intro n
  induction n with
  |zero=>intro k ρ h;exact absurd rfl h
  |succ n ih=>
   intro k ρ h;rw[show n+1+k=(n+k)+1 by omega];unfold qg at h ⊢;cases hc:c ρ with
   |exc c fs=>rfl
   |wall=>rfl
   |ok t=>
    rw[hc]at h;cases t with
    |false=>rfl
    |true=>
     simp only[jZ,if_true]at h ⊢;cases hb:b ρ with
     |exc c fs=>rfl
     |wall=>rfl
     |ok f=>
      rw[hb]at h;cases f with
      |nx ρ2=>exact ih k ρ2 h
      |ct ρ2=>exact ih k ρ2 h
      |bk ρ2=>rfl
      |rt v=>rfl
 have ex:∃n,qg c b n ρ≠.wall:=⟨n,h▸hw⟩;unfold VX;rw[dif_pos ex];have hs:=S6 ex;generalize Classical.choose ex=n0 at hs;rcases Nat.le_total n n0 with g|g
 .obtain⟨k,rfl⟩:=Nat.le.dest g;rw[mono n k ρ (h▸hw)];exact h
 .obtain⟨k,rfl⟩:=Nat.le.dest g;rw[<- mono n0 k ρ hs];exact h
def nA:YU g b (x::xs) ρ=(kN (g x ρ)).bind λρ1=>(b ρ1).bind λf=>match f with
  |.nx ρ2=>YU g b xs ρ2
  |.ct ρ2=>YU g b xs ρ2
  |.bk ρ2=>.ok (.nx ρ2)
  |.rt v=>.ok (.rt v):=rfl
def nB{α:Type}[BEq α][LawfulBEq α][DecidableEq α]{a b:α}:(a==b)=decide (a=b):=by
 by_cases h:a=b
 .subst h;simp
 .simp[h]
def AX:Zx n (.i a) (.i b)=.ok (.b (xor n (decide (a=b)))):=by show Out.ok (PV.b (xor n (a==b)))=_;rw[nB]
def FO:Zx n (.s x) (.s y)=.ok (.b (xor n (decide (x=y)))):=by show Out.ok (PV.b (xor n (x==y)))=_;rw[nB]
def FP:Zx n (.l xs) (.l ys)=match sA (fD 7) xs ys with|some b=>.ok (.b (xor n b))|none=>.wall:=rfl
def zJ{fr:Bool}{n:Nat}{ms:MS}{xs:Ib}{x:PV}(h:ms (xs.map some++List.replicate (n-xs.length) none)=.ok (.rt x)):wA fr n ms xs=.ok x:=by unfold wA;rw[h]
def AY(h:s ρ=.ok (.nx ρ')):zQ s t ρ=t ρ':=by unfold zQ;rw[h];rfl
def nC(h:s ρ=.ok (.rt x)):zQ s t ρ=.ok (.rt x):=by unfold zQ;rw[h];rfl
def VY{k:Str}{v:PV}{r:Ig}:List.lookup k ((k,v)::r)=some v:=by simp[List.lookup]
def yJ{k j:Str}{v:PV}{r:Ig}(h:(k==j)=false):List.lookup k ((j,v)::r)=List.lookup k r:=by simp[List.lookup,h]
def nD:List.lookup k ([]:List (Str×PV))=none:=rfl
def UC:p8 [] k v=[(k,v)]:=rfl
def VZ(h:(j==k)=false):p8 ((j,x)::r) k v=(j,x)::p8 r k v:=by show(if j=k then _ else _)=_;rw[if_neg (by simpa using h)]
end
def xg{α:Type}{a:α}:noX (.ok a)=.ok a:=rfl
def V0{α:Type}{g:MG}{c:MT}{e:ME}(it:α->PV)(keep:α->Bool)(out:α->PV)(J:Sto->Prop):∀(xs:List α)(ρ:Sto)(acc:Ib),J ρ->(∀x∈xs,∀ρ,J ρ->∃ρ1,g (it x) ρ=some ρ1/\J ρ1/\c ρ1=.ok (keep x)/\(keep x=true->e ρ1=.ok (out x)))->acc.length+xs.length<=100000->lcP g c e (xs.map it) ρ acc=.ok (.l (acc++(xs.filter keep).map out))
 |[],ρ,acc,_,_,_=>by simp[lcP]
 |x::xs,ρ,acc,hJ,h,hl=>by
  obtain⟨ρ1,h1,h2,h3,h4⟩:=h x L4 ρ hJ;rw[I0]at hl;rw[M3];unfold lcP;rw[h1,br,jZ,h3,xg,jZ];cases hk:keep x with
  |true=>rw[if_pos rfl,h4 hk,xg,jZ,if_pos (N5 (show acc.length<100000 by omega) (by decide)),List.filter_cons_of_pos hk,M3];rw[V0 it keep out J xs ρ1 (acc++[out x]) h2 (λz hz=>h z (L8 _ hz)) (by rw[N8];show acc.length+1+_<=_;omega),T6];rfl
  |false=>rw[if_neg N6,List.filter_cons_of_neg (by rw[hk];exact N6)];exact V0 it keep out J xs ρ1 acc h2 (λz hz=>h z (L8 _ hz)) (by omega)
def ZI{α:Type}(it:α->PV)(out:α->PV)(J:Sto->Prop)(xs:List α)(ρ:Sto)(hJ:J ρ)(h:∀x∈xs,∀ρ,J ρ->∃ρ1,g (it x) ρ=some ρ1/\J ρ1/\e ρ1=.ok (out x))(hl:xs.length<=100000):lcP g nj e (xs.map it) ρ []=.ok (.l (xs.map out)):=by rw[V0 (c:=nj) it (λ_=>true) out J xs ρ [] hJ (λx hx ρ hρ=>let⟨ρ1,a,b,c⟩:=h x hx ρ hρ;⟨ρ1,a,b,rfl,λ_=>c⟩) (by simpa using hl)];rw[List.filter_eq_self.mpr λ_ _=>rfl];rfl
end L2
namespace L2
open PySem
end L2
namespace L2
open PySem PySem.Spec PyProof.Rows PySem.W
section
variable {X:Cx}
def DF(X:Cx)(T:String)(r:List V->Hp->VK->Prop):Prop:=
 ∀(pins:Hz)(s:HJ)(σ:St)(H:Hp)(vs:HN)(us:HK)(Q:VK),Inv X pins σ H s->Vals vs us->r vs H Q->
  wpAny (IW X) X.A (call (.type T) us) (λv s1=>wpAny (IW X) X.A (call (.type "list") [v]) (EP X pins σ Q) X.xe s1) X.xe s
def nE(hc:DF X T r)(hgl:Gl X "list")(hml:X.mg "list"=none)(hg:Gl X x)(hm:X.mg x=none)(hv:bootBuiltins x=some (.type T))(ha:PA X (e::es) t)
  (hn:x≠"__name__":=by decide) (hdb:(x==("__debug__":Str))=false:=by decide)
  (he:starEach (e::es) X.env=(false,eval e X.env)::starEach es X.env:=by rfl) (hpl:(backTo pos' (starEach es X.env)).any (·.1)=false:=by rfl):
  PE X (.Call (.Name "list" p) [.Call (.Name x p') (e::es) [] pos'] [] pos) (tCB r t):=by
 intro pins s σ H Q I h;refine a0d (VG I hgl hml a2s ?_ (by decide) (by decide));refine a0v ?_ rfl rfl;show wpAny _ _ (spliced [(false,eval (.Call (.Name x p') (e::es) [] pos') X.env)]) _ _ s;refine a0Q ?_;refine a0d (VG I hg hm hv ?_ hn hdb);refine a0v (thn (ha pos' pins s σ H _ I h) λus s1 ⟨vs,H1,I1,r1,q1⟩=>thn (hc pins s1 σ H1 vs us Q I1 r1 q1) λv s2 h2=>?_) he hpl;exact a1m h2
def V1:∀{xs:HN}{us:HK},xs.length=us.length->(∀(j:Nat) x u,xs[j]?=some x->us[j]?=some u->RelV x u)->Vals xs us
 |[],[],_,_=>.nil
 |x::xs,u::us,hl,h=>.cons (h 0 x u rfl rfl) (V1 (by simpa using hl) λj y v e1 e2=>h (j+1) y v (by simpa using e1) (by simpa using e2))
def fR(I:Inv X pins σ H s)(hs:s.heap.objs.size<=l)(hk:∀b o,s.heap.get? b=some o->h'.get? b=some o)
  (hl:h'.get? l=some { cls:=.type "list",dict:=none,data:=.seq acc c,slots:=#[] }) (hz:ys.length<=sizeLine) (hy:ys.length=acc.size) (hv:∀(j:Nat) x u,ys[j]?=some x->acc[j]?=some u->RelV x u) (q:∀l,H l=none->Q (.ref l) (upd H l (.lst ys))):
  EP X pins σ Q (.ref l) { s with heap:=h',toks:=tk }:=
 ⟨.ref l,_,I.laid (t':=tk) hk hs (show yC X.prog X.w _ h' _ (.lst ys)from⟨hz,acc.toList,c,V1 (by rw[a0L];exact hy) (λj x u e1 e2=>hv j x u e1 (by simpa using e2)),by rw[Array.toArray_toList];exact hl⟩),rfl,q _ (I.hok.fresh hs)⟩
end
def nF:typeLookup (.type "list_reverseiterator") "__len__"=pure none:=by rw[a1c,a0C];kernel_rfl
def sS:typeLookup (.type "list_reverseiterator") "__length_hint__"=pure (some (.builtin "list_reverseiterator.__length_hint__")):=by rw[a1c,a0C];kernel_rfl
def AZ(hT:s.TypeIs (.ref it) "list_reverseiterator")(h:Q false s):wpAny (model prog w) A (Builtin.List.listLengthHint (.ref it)) Q E s:=by
 unfold Builtin.List.listLengthHint;refine f8 (a1A hT nF ?_);show wpAny _ _ (specialOf (Value.ref it) (Str.ofString "__length_hint__") >>= _) _ _ _;refine f8 (a1A hT sS ?_);generalize hid:("list_reverseiterator.__length_hint__":String)=id0
 (fail_if_success (clear hid id0));wp_delta
 rw[show splitId id0=some ("list_reverseiterator","__length_hint__")from by subst hid;decide +kernel];subst hid;refine f8 (a03 (b:=true) hT (by rw[a2z];kernel_rfl) ?_);exact L6 h
def A4{Q:HB}{it l:Addr}{items:Iv}(hh:A.handled=none)(hne:l≠it)(hit:s.heap.IsRevIter it l ((items.size:Int)-1))(hli:s.heap.IsList l items)(hn:items.size<=sizeLine)
  (hQ:∀h' tk acc' c',(∀b o,b≠it->s.heap.get? b=some o->h'.get? b=some o)->h'.get? s.heap.objs.size=some { cls:=.type "list",dict:=none,data:=.seq acc' c',slots:=#[] }->ItemsOf (λi v=>items[items.size-1-i]?=some v) acc' items.size->Q (.ref s.heap.objs.size) { s with heap:=h',toks:=tk }):
  wpAny (model prog w) A (call (.type "list") [.ref it]) Q E s:=by
 have l1:it<s.heap.objs.size:=by obtain⟨o,ho,_⟩:=hit;exact L7 ho
 have l2:l<s.heap.objs.size:=by obtain⟨o,ho,_⟩:=hli;exact L7 ho
 refine a2A (Q₁:=λobj s₁=>obj=.ref s.heap.objs.size/\s₁={ s with heap:=s.heap.push { cls:=.type "list",data:=.seq #[] } }) a2I (a2j _) a2k
  (code_list_new _ ⟨rfl,rfl⟩) λobj s₁ h₁=>?_
 obtain⟨rfl,rfl⟩:=h₁;have hS:(s.heap.push { cls:=.type "list",data:=.seq #[] }).get? s.heap.objs.size=some { cls:=.type "list",data:=.seq #[] }:=M7 _ rfl;refine⟨⟨_,hS,rfl⟩,a19 _ _,?_⟩;show wpAny _ _ (do let old<-Builtin.List.listItems (.ref s.heap.objs.size);Builtin.List.listUpdate (.ref s.heap.objs.size) (λ_=>#[]);letGo old.toList.reverse;Builtin.List.listExtendWith (.ref s.heap.objs.size) (.ref it) .none) _ _ _;refine f8 ?_;unfold Builtin.List.listItems;refine f8 (wpAny_seqItems hS rfl (L6 ?_));show wpAny _ _ (updateSeq s.heap.objs.size (λ_=>#[]) >>= λ_=>letGo (#[]:Array Value).toList.reverse >>= λ_=>Builtin.List.listExtendWith (.ref s.heap.objs.size) (.ref it) .none) _ _ _;refine f8 (a0T hS rfl ?_);have hS₂:=R7 (Obj.mapSeq (λ_=>(#[]:Array Value))) hS rfl;refine f8 (a2Z ?_);have kp:∀b o,s.heap.get? b=some o->((s.heap.push { cls:=.type "list",data:=.seq #[] }).update s.heap.objs.size (Obj.mapSeq (λ_=>(#[]:Array Value)))).get? b=some o:=λb o e=>
  (N9 _ _ (a0a (L7 e))).trans (u8 _ e)
 generalize((s.heap.push { cls:=.type "list",data:=.seq #[] }).update s.heap.objs.size (Obj.mapSeq (λ_=>(#[]:Array Value))))=h2 at hS₂ kp;have hit2:h2.IsRevIter it l ((items.size:Int)-1):=by obtain⟨o,ho,z⟩:=hit;exact⟨o,kp _ _ ho,z⟩
 have hli2:h2.IsList l items:=by obtain⟨o,ho,z⟩:=hli;exact⟨o,kp _ _ ho,z⟩
 unfold Builtin.List.listExtendWith;refine f8 (a0J (T:="list_reverseiterator") hit2.typeIs ?_);have hne1:s.heap.objs.size≠it:=a0a l1;have hne2:s.heap.objs.size≠l:=a0a l2;have h1:Builtin.List.listSameRef (.ref s.heap.objs.size) (.ref it)=false:=by simp[Builtin.List.listSameRef,hne1]
 rw[if_neg (by rw[h1];decide)];refine f8 (wpAny_pyIter_revIter hit2 ?_);refine f8 (P7 (AZ hit2.typeIs ?_));rw[if_neg (by decide)];refine L6 ⟨a0O a1d _,a1C (Walks.listRev (A:=A.in1.in1) hh it l hne items).toS hn s.heap.objs.size (by simp[hne1,hne2]) _ items.size 0 _ _ _ rfl (P1 _) (show _/\Heap.IsRevIter h2 _ _ _/\_ from⟨P1 _,by simpa using hit2,hli2⟩) hS₂ (a20 _) λs' acc' c' hm hS' hacc=>?_⟩;rw[a1R hm];refine⟨rfl,hQ s'.heap s'.toks acc' c' (λb o hb e=>hm.heap b o (λhmem=>?_) (kp b o e)) hS' hacc⟩;rcases N4.mp hmem with e'|hmem
 .exact absurd (L7 e) (by rw[e'];exact T9 _)
 .exact hb (O0.mp hmem)
section
variable {X:Cx}
def DG(K:Il)(vs:HN)(H:Hp)(Q:VK):Prop:=∃p ys,vs=[.ref p]/\SqL K H p ys/\∀l,H l=none->Q (.ref l) (upd H l (.lst ys.reverse))
def nG(hc:X.calm=true):DF X "reversed" (DG X.K):=by
 intro pins s σ H vs us Q I r h;obtain⟨p,ys,rfl,hq,q⟩:=h;obtain⟨u,rfl,rx⟩:=vals1 r;cases rx;obtain⟨its,r',pl,hz⟩:=I.list hq;have hlen:=r'.length;have hlt:p<s.heap.objs.size:=by obtain⟨o,ho,_⟩:=pl.isList;exact L7 ho
 refine call_reversed_list pl.isList ?_;have pk:∀b o,s.heap.get? b=some o->(s.heap.push (revObj p ((its.toArray.size:Int)-1))).get? b=some o:=λb o e=>u8 _ e;refine A4 (items:=its.toArray) (I.ok.hd hc) (L9 hlt) ⟨_,M7 _ rfl,rfl,rfl⟩ (by obtain⟨o,ho,z⟩:=pl.isList;exact⟨o,pk _ _ ho,z⟩) (by simp;omega) λh' tk acc' c' hk hl hi=>?_;refine fR (s:=s) (tk:=tk) I ?_ (λb o e=>hk b o (L9 (L7 e)) (pk b o e)) hl ?_ ?_ ?_ q
 .simp[Heap.push]
 .rw[a1I];exact hz
 .rw[a1I,hi.1];simpa using hlen
 .intro k x u e1 e2;have h3:=hi.2 k u e2;have hk':k<ys.length:=by have:=(M9.mp e1).1;simpa using this
  rw[a1t hk']at e1;obtain⟨u',e3,e4⟩:=r'.get e1;have:its[ys.length-1-k]?=some u:=by simpa[hlen]using h3
  rw[this]at e3;cases e3;exact e4
end
def YE:List PV->Out PV
 |[.l xs]=>.ok (.l xs.reverse)
 |_=>.wall
def zP.of_get{W:RC}{M:HI}{H:Hp}:∀{xs:Ib}{vs:HN},xs.length=vs.length->(∀(j:Nat) x v,xs[j]?=some x->vs[j]?=some v->Rep W M H x v)->zP W M H xs vs
 |[],[],_,_=>rfl
 |x::xs,v::vs,hl,h=>⟨v,vs,rfl,h 0 x v rfl rfl,zP.of_get (by simpa using hl) λj y u e1 e2=>h (j+1) y u (by simpa using e1) (by simpa using e2)⟩
def zP.reverse(h:zP W M H xs vs):zP W M H xs.reverse vs.reverse:=by
 have hl:=h.len;refine zP.of_get (by simp[hl]) λj x v e1 e2=>?_;have hj:j<xs.length:=by have:=(M9.mp e1).1;simpa using this
 rw[a1t hj]at e1;rw[a1t (by omega),hl]at e2;obtain⟨u,h1,h2⟩:=h.get e1;rw[h1]at e2;cases e2;exact h2
def A5:LfF W (DG W.K) YE:=λM C B H xs vs Q n h q=>by
 unfold YE at q;split at q
 .obtain⟨v,r,rfl,⟨p,vs,rfl,_,hl,rr⟩,hr⟩:=h;cases(show _=_ from hr);exact⟨p,vs,rfl,SqL.of hl,λl hl=>q _ _ (zr.upd hl) (v5 (zP.reverse rr) hl)⟩
 .exact q.elim
def dA(hc:X.calm=true)(hgl:Gl X "list")(hml:X.mg "list"=none)(hg:Gl X "reversed")(hm:X.mg "reversed"=none)(ha:AM X C S ws [e] ms)(he:starEach [e] X.env=[(false,eval e X.env)]:=by rfl):FM X C S (.Call (.Name "list" p) [.Call (.Name "reversed" p') [e] [] pos'] [] pos) (zk YE ms):=λhK=>by obtain⟨ta,a1,a2⟩:=ha hK;exact⟨_,nE (hK▸nG hc) hgl hml hg hm PyProof.Rows.boot_reversed a1 (he:=he),Av A5 a2⟩
section
variable {X:Cx}{C:LC}{S S' S1 S2 Sb Sc:HF}{e:HY}{es:HL}{ws:HW}{ms:MA}{pos p pos':Pos}{x y:Str}{k i j:Nat}{f:Addr}{fd:Ii}{ps:HA}{fr:Bool}{g:Ia}{m1 m2:MS}
end
section
variable {P:HZ}{w:Ie}{K:Il}{mg:HD}{base:Heap}
end
def Inv.swap(I:Inv X pins σ H s)(ha:H a=some u)(h1:∀xs,u≠.tup xs)(h2:∀o v,X.H₀ a≠some (.frz o v))(h3:∀ps,u≠.tbl ps)(h4:∀b,u≠.own b)(new:yC X.prog X.w (upd H a u') s.heap a u'):Inv X pins σ (upd H a u') s:=by
 have ne:∀b,H b=none->b≠a:=λb n z=>by rw[z,ha]at n;cases n
 have nt:∀b xs,H b=some (.tup xs)->b≠a:=λb xs q z=>by rw[z,ha]at q;cases q;exact h1 _ rfl
 have no:∀b c,H b=some (.own c)->b≠a:=λb c q z=>by rw[z,ha]at q;cases q;exact h4 _ rfl
 have nn:∀{b},b≠a->upd H a u' b=H b:=λz=>zi z;refine⟨I.ok,I.os,I.bare,⟨I.base.keep,I.base.slot,λb o q n hx=>?_,I.base.there,λb xs q=>?_,λb o v q=>?_,λb ps q=>?_⟩,I.loc,I.cell,?_,λx c q=>?_,λp hp=>?_,λb v q=>?_,I.len⟩
 .have:=I.base.free b o q n hx;rw[nn (ne b this)];exact this
 .have:=I.base.lA b xs q;rw[nn (nt b xs this)];exact this
 .have hb:b≠a:=λz=>h2 o v (z▸q);rw[nn hb];exact I.base.pK b o v q
 .obtain⟨more,e⟩:=I.base.uA b ps q;have hb:b≠a:=λz=>by rw[z,ha]at e;cases e;exact h3 _ rfl
  exact⟨more,by rw[nn hb];exact e⟩
 .rw[nn (ne _ I.free)];exact I.free
 .rw[nn (ne _ (I.Vk x c q))];exact I.Vk x c q
 .obtain⟨p1,p2,p3⟩:=I.pin p hp;exact⟨p1,by rw[nn (ne _ p2)];exact p2,p3⟩
 .by_cases hb:b=a
  .subst hb;rw[zg]at q;cases q;exact new
  .rw[nn hb]at q;exact(I.hok b v q).rA (λ_ _ _ r=>r) (λc r=>by rw[nn (no c b r)];exact r) λc xs r=>by rw[nn (nt c xs r)];exact r
def Inv.xh(I:Inv X pins σ H s)(ha:H a=some (.dK es)):∀o v,X.H₀ a≠some (.frz o v):=λo v q=>by have:=I.base.pK a o v q;rw[ha]at this;cases this
def Inv.Hn(I:Inv X pins σ H s)(ha:H a=some (.dK es)):∃o,Inv X pins σ (upd H a (.frz o (.dK es))) s:=by obtain⟨z,hd,vs,rel,o,ed,ep,ho,hx⟩:=(show yC X.prog X.w H s.heap a (.dK es)from I.hok a _ ha);exact⟨o,I.swap ha (λ_=>by nofun) (I.xh ha) (λ_=>by nofun) (λ_=>by nofun) ⟨ho,z,hd,vs,rel,o,ed,ep,ho,hx⟩⟩
def Inv.Ho(I:Inv X pins σ H s)(ha:H a=some (.frz o (.dK es)))(hz:∀o v,X.H₀ a≠some (.frz o v)):Inv X pins σ (upd H a (.dK es)) s:=
 I.swap ha (λ_=>by nofun) hz (λ_=>by nofun) (λ_=>by nofun) (show yC X.prog X.w H s.heap a (.frz o (.dK es))from I.hok a _ ha).2
def DH(o:Obj):Nat:=match o.data with | .dict _ ep=>ep|_=>0
def xi(h:KV es vs):∀{i:Nat}{k:Key}{v:V},es[i]?=some (k,v)->∃w,vs[i]?=some (k,w):=by
 induction h with
 |nil=>intro i k v e;simp at e
 |@cons p q _ _ hp _ ih=>
  intro i k v e;cases i with
  |zero=>simp at e;subst e;exact⟨q.2,by simp;exact a23 hp.1.symm rfl⟩
  |succ i=>simp at e ⊢;exact ih e
def nH(h:(zT P w).is k u=true):RelV (kV k) u:=by
 rw[XH]at h;rcases yf h with⟨i,t,rfl,rfl⟩|⟨x,t,rfl,rfl⟩
 .exact⟨t,rfl⟩
 .exact⟨t,rfl⟩
def nI(ok:HOk P w H h)(e:H a=some (.frz o (.dK es))):(a==sysModules)=false/\∃vs,KV es vs/\h.DictAt (zT P w) a vs (DH o):=by
 obtain⟨h0,_,hd,vs,rel,o',ed,ep,h1,h2,h3,h4⟩:=(show yC P w H h a (.frz o (.dK es))from ok a _ e);rw[h0]at h1;cases h1;have:DH o=ep:=by unfold DH;rw[h3]
 exact⟨hd,vs,rel,o,ed,h0,h2,by rw[this];exact h3,h4⟩
def nJ(h:Rd H a (.dK es))(h':Rd H a (.dK es')):es'=es:=by rcases h with h|⟨o,h⟩<;>rcases h' with h'|⟨o',h'⟩<;>rw[h]at h'<;>cases h'<;>rfl
section
variable {W:RC}{M:HI}{H H':Hp}{a:Addr}{es:HP}
def bu(h1:Rd H a (.dK es))(h:H b=some u)(hu:∀es,u≠.dK es)(hu2:∀o es,u≠.frz o (.dK es)):b≠a:=λz=>by
 subst z;rcases h1 with z|⟨o,z⟩<;>rw[z]at h<;>cases h
 .exact hu _ rfl
 .exact hu2 _ _ rfl
def Je(h1:Rd H a (.dK es))(hne:∀b,b≠a->H' b=H b)(h:Rd H b u)(hu:∀es,u≠.dK es)(hf:∀o v,u≠.frz o v):Rd H' b u:=by
 rcases h with h|⟨o,h⟩
 .exact .inl ((hne b (bu h1 h hu λo es=>hf o _)).trans h)
 .exact .inr ⟨o,(hne b (bu h1 h (λ_=>by nofun) λo es z=>by cases z;exact hu _ rfl)).trans h⟩
mutual
def Rep.sw(h1:Rd H a (.dK es))(h2:Rd H' a (.dK es))(hne:∀b,b≠a->H' b=H b):∀{x:PV}{v:V},Rep W M H x v->Rep W M H' x v
 |.i n,v,h=>h
 |.s x,v,h=>h
 |.b c,v,h=>h
 |.n,v,h=>h
 |.l xs,v,h=>by unfold Rep at h ⊢;obtain⟨p,vs,e,m,r,q⟩:=h;exact⟨p,vs,e,m,(hne p (bu h1 r (λ_=>by nofun) λ_ _=>by nofun)).trans r,zP.sw h1 h2 hne q⟩
 |.sc ns,v,h=>by unfold Rep at h ⊢;obtain⟨p,e,r⟩:=h;exact⟨p,e,r.elim (λz=>.inl ⟨z.1,Je h1 hne z.2 (λ_=>by nofun) λ_ _=>by nofun⟩) .inr⟩
 |.dt kvs,v,h=>by unfold Rep at h ⊢;obtain⟨p,e,m,r⟩:=h;exact⟨p,e,m,Je h1 hne r (λ_=>by nofun) λ_ _=>by nofun⟩
 |.t xs,v,h=>by unfold Rep at h ⊢;obtain⟨p,vs,e,r,q⟩:=h;exact⟨p,vs,e,r.elim (λz=>.inl (Je h1 hne z (λ_=>by nofun) λ_ _=>by nofun)) .inr,zP.sw h1 h2 hne q⟩
 |.d kvs,v,h=>by
  unfold Rep at h ⊢;obtain⟨p,vs,e,m,r,q⟩:=h;refine⟨p,vs,e,m,?_,qe.sw h1 h2 hne q⟩;by_cases hp:p=a
  .subst hp;rw[nJ h1 r];exact h2
  .unfold Rd;rw[hne p hp];exact r
 |.o c fs,v,h=>by unfold Rep at h ⊢;obtain⟨p,dx,vs,e,m,r,q⟩:=h;exact⟨p,dx,vs,e,m,(hne p (bu h1 r (λ_=>by nofun) λ_ _=>by nofun)).trans r,qS.sw h1 h2 hne q⟩
 |.x c fs,v,h=>by unfold Rep at h ⊢;obtain⟨p,dx,vs,e,r,r2,q⟩:=h;exact⟨p,dx,vs,e,(hne p (bu h1 r (λ_=>by nofun) λ_ _=>by nofun)).trans r,(hne dx (bu h1 r2 (λ_=>by nofun) λ_ _=>by nofun)).trans r2,qS.sw h1 h2 hne q⟩
def zP.sw(h1:Rd H a (.dK es))(h2:Rd H' a (.dK es))(hne:∀b,b≠a->H' b=H b):∀{x:Ib}{v:HN},zP W M H x v->zP W M H' x v
 |[],v,h=>h
 |x::xs,vs,h=>by unfold zP at h ⊢;obtain⟨v,r,e,q1,q2⟩:=h;exact⟨v,r,e,Rep.sw h1 h2 hne q1,zP.sw h1 h2 hne q2⟩
def qe.sw(h1:Rd H a (.dK es))(h2:Rd H' a (.dK es))(hne:∀b,b≠a->H' b=H b):∀{x:Ic}{v:HP},qe W M H x v->qe W M H' x v
 |[],v,h=>h
 | (k,x)::xs,vs,h=>by unfold qe at h ⊢;obtain⟨v,r,e,q1,q2⟩:=h;exact⟨v,r,e,Rep.sw h1 h2 hne q1,qe.sw h1 h2 hne q2⟩
def qS.sw(h1:Rd H a (.dK es))(h2:Rd H' a (.dK es))(hne:∀b,b≠a->H' b=H b):∀{x:Ig}{v:Ik},qS W M H x v->qS W M H' x v
 |[],v,h=>h
 | (k,x)::xs,vs,h=>by unfold qS at h ⊢;obtain⟨v,r,e,q1,q2⟩:=h;exact⟨v,r,e,Rep.sw h1 h2 hne q1,qS.sw h1 h2 hne q2⟩
end
def yF.sw{N:HI}{x:PV}{v:V}(h1:Rd H a (.dK es))(h2:Rd H' a (.dK es))(hne:∀b,b≠a->H' b=H b)(h:yF W N M H x v):yF W N M H' x v:=by
 cases x with
 |l xs=>obtain⟨p,vs,e,m,r,q⟩:=h;exact⟨p,vs,e,m,(hne p (bu h1 r (λ_=>by nofun) λ_ _=>by nofun)).trans r,q.sw h1 h2 hne⟩
 |d kvs=>
  obtain⟨p,vs,e,m,r,q⟩:=h;refine⟨p,vs,e,m,?_,q.sw h1 h2 hne⟩;by_cases hp:p=a
  .subst hp;rw[nJ h1 r];exact h2
  .unfold Rd;rw[hne p hp];exact r
 |sc ns=>obtain⟨p,e,r⟩:=h;exact⟨p,e,r.elim (λz=>.inl ⟨z.1,Je h1 hne z.2 (λ_=>by nofun) λ_ _=>by nofun⟩) .inr⟩
 |dt kvs=>obtain⟨p,e,m,r⟩:=h;exact⟨p,e,m,Je h1 hne r (λ_=>by nofun) λ_ _=>by nofun⟩
 |o c fs=>obtain⟨p,dx,vs,e,m,r,q⟩:=h;exact⟨p,dx,vs,e,m,(hne p (bu h1 r (λ_=>by nofun) λ_ _=>by nofun)).trans r,q.sw h1 h2 hne⟩
 |i n=>exact Rep.sw h1 h2 hne h
 |s n=>exact Rep.sw h1 h2 hne h
 |b n=>exact Rep.sw h1 h2 hne h
 |n=>exact Rep.sw h1 h2 hne h
 |t n=>exact Rep.sw h1 h2 hne h
 |x c n=>exact Rep.sw h1 h2 hne h
def VN.sw{p:Addr}{x:PV}(hp:p≠a)(h1:Rd H a (.dK es))(h2:Rd H' a (.dK es))(hne:∀b,b≠a->H' b=H b)(h:VN W M H p x):VN W M H' p x:=by
 cases x with
 |l xs=>obtain⟨vs,e,q⟩:=h;exact⟨vs,(hne p hp).trans e,q.sw h1 h2 hne⟩
 |d kvs=>obtain⟨vs,e,q⟩:=h;exact⟨vs,(hne p hp).trans e,q.sw h1 h2 hne⟩
 |dt kvs=>exact(hne p hp).trans h
 |o c fs=>obtain⟨dx,vs,e,q⟩:=h;exact⟨dx,vs,(hne p hp).trans e,q.sw h1 h2 hne⟩
 |i n=>exact h.elim
 |s n=>exact h.elim
 |b n=>exact h.elim
 |n=>exact h.elim
 |t n=>exact h.elim
 |x c n=>exact h.elim
 |sc n=>exact h.elim
end
def Bs.at'(B:Bs)(a:Addr)(u:HO):Bs:=⟨upd B.H0 a u,B.M0,B.N0,λb h=>by
 by_cases e:b=a
 .rw[e,zg];exact λz=>by cases z
 .rw[zi e];exact B.nz b h,B.pin,B.xc⟩
section
variable {W:RC}{B:Bs}{S S':HF}{P P':HQ}{H H':Hp}{σ σ':St}{ρ ρ':Sto}{a:Addr}{es:HP}{u u':HO}
def dB(h0:B.H0 a≠none):(B.at' a u).H0 b=none↔B.H0 b=none:=by
 show upd B.H0 a u b=none↔_;by_cases e:b=a
 .subst e;rw[zg];exact⟨λz=>(by cases z),λz=>absurd z h0⟩
 .rw[zi e]
def FQ(h0:B.H0 a≠none):(B.at' a u).Mt b↔B.Mt b:=or_congr Iff.rfl (dB h0)
def xj(h0:B.H0 a≠none):Mof (B.at' a u) S P b↔Mof B S P b:=and_congr (and_congr (FQ h0) Iff.rfl) Iff.rfl
def DU(es:HP)(u:HO):Prop:=u=.dK es\/∃o,u=.frz o (.dK es)
def DU.rd(h:DU es u)(e:H a=some u):Rd H a (.dK es):=h.elim (λz=>.inl (z▸e)) λ⟨o,z⟩=>.inr ⟨o,z▸e⟩
def Rel.sw(R:Rel W B S P H σ ρ)(h0:B.H0 a=some u)(du:DU es u)(du':DU es u'):Rel W (B.at' a u') S P (upd H a u') σ ρ:=by
 have ha:H a=some u:=R.same a u h0;have n0:B.H0 a≠none:=by rw[h0];exact λz=>by cases z
 have h1:Rd H a (.dK es):=du.rd ha;have h2:Rd (upd H a u') a (.dK es):=du'.rd zg;have hne:∀b,b≠a->upd H a u' b=H b:=λb z=>zi z;have hM:Mof B S P=Mof (B.at' a u') S P:=funext λb=>propext (xj n0).symm;have pa:∀{i},S[i]?=some 2->P i≠a:=λ{i} hi z=>n0 (z▸(R.act i hi).1);refine⟨λb o h=>?_,R.len,λi x e=>?_,λi hi=>⟨(dB n0).mpr (R.act i hi).1,?_⟩,R.inj,R.pin,λb h=>?_,R.axc⟩
 .have h:upd B.H0 a u' b=some o:=h;by_cases e:b=a
  .subst e;rw[zg]at h ⊢;exact h
  .rw[zi e]at h ⊢;exact R.same b o h
 .obtain⟨v,q1,q2,q3,q4⟩:=R.var i x e;rw[<- hM];exact⟨v,q1,λz=>⟨(q2 z).1,(q2 z).2.sw (pa z) h1 h2 hne⟩,λz=>(q3 z).sw h1 h2 hne,λz z'=>(q4 z z').sw h1 h2 hne⟩
 .obtain⟨o,e,n⟩:=(R.act i hi).2;exact⟨o,(hne _ (pa hi)).trans e,n⟩
 .obtain⟨o,e,n,z⟩:=R.exc b h;have:b≠a:=λq=>n0 (q▸z);exact⟨o,(hne b this).trans e,n,(dB n0).mpr z⟩
end
def kP:Key->PV
 |.inl i=>.i i
 |.inr x=>.s x
def DI{W:RC}{M:HI}{H:Hp}:∀k:Key,Rep W M H (kP k) (kV k)
 |.inl _=>rfl
 |.inr _=>rfl
def A6(R:Rel W B S P H σ ρ)(na:NA B S P a)(h:H a=some u):(B.loop S P H R.hz).H0 a=some u:=by unfold Bs.loop;dsimp only;rw[if_neg λz=>z.elim (λ⟨j,hj,e⟩=>na.2 j hj e) na.1];exact h
def tGz(te:TE):TE:=λσ H Q=>(∃a es,H a=some (.dK es)/\∀o,te σ (upd H a (.frz o (.dK es))) (λv H2=>(∃o,H2 a=some (.frz o (.dK es)))/\Q v (upd H2 a (.dK es))))\/te σ H Q
def FR(h:PE X e te):PE X e (tGz te):=by
 intro pins s σ H Q I q;rcases q with⟨a,es,ha,q⟩|q
 .obtain⟨o,I1⟩:=I.Hn ha;have hz:∀o v,X.H₀ a≠some (.frz o v):=I.xh ha;refine thn (h pins s σ _ _ I1 (q o)) λv s1 ⟨x,H',J,rv,⟨o',hf⟩,d⟩=>⟨x,_,J.Ho hf hz,rv,d⟩
 .exact h pins s σ H Q I q
def V2{g:MG}{c:MT}{e:ME}{k:Nat}{fs:Ig}:∀{xs:Ib}{ρ:Sto}{acc:Ib},lcP g c e xs ρ acc≠.exc k fs
 |[],ρ,acc=>by unfold lcP;exact λz=>by cases z
 |x::xs,ρ,acc=>by
  unfold lcP;cases g x ρ with
  |none=>exact λz=>by cases z
  |some ρ1=>
   show(noX (c ρ1)).bind _≠_;cases c ρ1 with
   |wall=>exact λz=>by cases z
   |exc _ _=>exact λz=>by cases z
   |ok t=>
    show(if t=true then _ else _)≠_;split
    .cases e ρ1 with
     |wall=>exact λz=>by cases z
     |exc _ _=>exact λz=>by cases z
     |ok y=>
      show(if acc.length<sizeLine then _ else _)≠_;split
      .exact V2
      .exact λz=>by cases z
    .exact V2
section
variable {X:Cx}{C:LC}{S:HF}{qR tg elt:HY}{ifs:HL}{me:ME}{mc:MT}{mg:MG}{pos:Pos}{i:Nat}{scope:Scope}
end
def DJ:List V->Hp->VK->Prop:=λvs H Q=>∃(p:Addr)(es:HP),vs=[.ref p]/\Rd H p (.dK es)/\∀l,H l=none->Q (.ref l) (upd H l (.dK es))
def iC:jr X (.type "dict") DJ:=by intro pins s σ H xs us Q I r h;obtain⟨p,es,rfl,hS,q⟩:=h;obtain⟨u,rfl,ru⟩:=vals1 r;cases ru;exact rX I hS λl s' hl I'=>⟨.ref l,_,I',rfl,q l hl⟩
section
variable {X:Cx}{C:LC}{S Sb Sc:HF}{o e a:HY}{es:HL}{w w1 w2:Bool}{ws:HW}{m m1 m2:ME}{ms:MA}{pos p kM qE:Pos}{i:Nat}
end
section
variable {X:Cx}{pins:Hz}{σ:St}{H:Hp}{s:HJ}{W:RC}
end
section
variable {X:Cx}{C:LC}{S:HF}{e a b:HY}{es:HL}{w:Bool}{m m1 m2:ME}{ms:MA}{pos:Pos}
end
section
variable {X:Cx}{elt qR tg:HY}{ifs:HL}{scope:Scope}{pos pY py:Pos}{N:HA}{fr:H_}{g:TG}{tc:TT}{te:TEx}{wi:TI}{y:Str}{i:Nat}
end
section
variable {X:Cx}{C:LC}{S Si:HF}{e qR tg elt:HY}{es ifs:HL}{w:Bool}{ws:HW}{m me:ME}{ms:MA}{mc:MT}{mg:MG}{mi:MI}{pos p:Pos}{x:Str}{scope:Scope}{k:Nat}{f:Addr}{fd:Ii}{ps:HA}{fr':Bool}{g:Ia}
end
end L2
namespace L2
open PySem
def FT{α:Type}{P:List α->Prop}{us:List α}(hl:us.length=1)(h:∀a,P [a]):P us:=by rcases us with _|⟨a,_|⟨b,us⟩⟩<;>first|exact h _|cases hl
def FU{α:Type}{P:List α->Prop}{us:List α}(hl:us.length=2)(h:∀a b,P [a,b]):P us:=by rcases us with _|⟨a,_|⟨b,_|⟨c,us⟩⟩⟩<;>first|exact h _ _|cases hl
def FV{α:Type}{P:List α->Prop}{us:List α}(hl:us.length=3)(h:∀a b c,P [a,b,c]):P us:=by rcases us with _|⟨a,_|⟨b,_|⟨c,_|⟨d,us⟩⟩⟩⟩<;>first|exact h _ _ _|cases hl
def FW{α:Type}{P:List α->Prop}{us:List α}(hl:us.length=4)(h:∀a b c d,P [a,b,c,d]):P us:=by rcases us with _|⟨a,_|⟨b,_|⟨c,_|⟨d,_|⟨e,us⟩⟩⟩⟩⟩<;>first|exact h _ _ _ _|cases hl
def FX{α:Type}{P:List α->Prop}{us:List α}(hl:us.length=5)(h:∀a b c d e,P [a,b,c,d,e]):P us:=by rcases us with _|⟨a,_|⟨b,_|⟨c,_|⟨d,_|⟨e,_|⟨f,us⟩⟩⟩⟩⟩⟩<;>first|exact h _ _ _ _ _|cases hl
def bw(z:CXe P w outer H s (λ_ _ _=>False) v s'):False:=by obtain⟨_,_,_,_,_,_,_,_,_,_,_,_,_,_,_,_,_,_,q⟩:=z;exact q
def okb{α β:Type}{a:α}{f:α->Out β}:(Out.ok a).bind f=f a:=Eq.trans (Eq.refl _) (Eq.refl _)
section
variable {α β σ:Type}{g:MG}{b:MS}{c:MT}{e:ME}{ρ ρ':Sto}{s t:MS}{m:ME}{x:PV}{mi:MI}{o:Out Fw}{i:Nat}
def zd(h:∃ρ',s ρ=.ok (.nx ρ')/\t ρ'=o):zQ s t ρ=o:=let⟨_,a,b⟩:=h;(AY a).trans b
def W_{fr:H_}{xs:Ib}(h:mi ρ=.ok xs)(h2:lcP g c e xs (W9 ρ fr) []=.ok x):mLC mi fr g c e ρ=.ok x:=by unfold mLC;rw[h,jZ,h2]
def zE(h:m ρ=.ok x):yr i m ρ=.ok (.nx (ρ.set i (some x))):=by unfold yr;rw[h,jZ]
def qU(h:mi ρ=.ok xs)(h2:YU g b xs ρ=o):Kx mi g b ρ=o:=by unfold Kx;rw[h,jZ,h2]
def sT{n:Nat}(h:n<=1000000):nh [.i (n:Int)]=.ok (ll 0 n):=by unfold nh;exact(if_pos ⟨by omega,by omega⟩).trans (by rw[Int.toNat_natCast])
def bx(h:ms ρ=.ok [.i (n:Int)])(hn:n<=1000000):Jc ms ρ=.ok (ll 0 n):=by unfold Jc;rw[h,jZ,sT hn]
def nK(h:ms ρ=.ok [.i n])(h0:0<=n)(hn:n<=1000000):Jc ms ρ=.ok (ll 0 n.toNat):=bx (n:=n.toNat) (by rw[h];congr 3;omega) (by omega)
def ya(h:m ρ=.ok (.l xs)):yj m ρ=.ok xs:=by unfold yj;rw[h,jZ];rfl
def fS:ll 0 n=(List.range n).map λk=>PV.i ((k:Nat):Int):=by unfold ll;exact a0M λk _=>by congr 1;omega
def fT(it:α->PV)(J:Nat->Sto->Prop):∀(xs:List α)(j:Nat)(ρ:Sto),J j ρ->(∀(k:Nat)(h:k<xs.length)(ρ:Sto),J (j+k) ρ->∃ρ1,g (it xs[k]) ρ=some ρ1/\∃ρ2,J (j+k+1) ρ2/\(b ρ1=.ok (.nx ρ2)\/b ρ1=.ok (.ct ρ2)))->∃ρ',J (j+xs.length) ρ'/\YU g b (xs.map it) ρ=.ok (.nx ρ')
 |[],j,ρ,h,_=>⟨ρ,h,rfl⟩
 |x::xs,j,ρ,h,hs=>by
  obtain⟨ρ1,h1,ρ2,h2,h3⟩:=hs 0 (Nat.zero_lt_succ _) ρ h;obtain⟨ρ3,h4,h5⟩:=fT it J xs (j+1) ρ2 h2 λk hk ρ hρ=>by have:=hs (k+1) (Nat.succ_lt_succ hk) ρ (by rw[show j+(k+1)=j+1+k by omega];exact hρ);rw[show j+(k+1)+1=j+1+k+1 by omega]at this;exact this
  refine⟨ρ3,by rw[I0,show j+(xs.length+1)=j+1+xs.length by omega];exact h4,?_⟩;rw[M3,nA,show g (it x) ρ=some ρ1 from h1,br,jZ];rcases h3 with h3|h3<;>(rw[h3,jZ];exact h5)
def ZJ(it:α->PV)(J:Nat->Sto->Prop)(xs:List α)(ρ:Sto)(h:J 0 ρ)(hs:∀(k:Nat)(h:k<xs.length)(ρ:Sto),J k ρ->∃ρ1,g (it xs[k]) ρ=some ρ1/\∃ρ2,J (k+1) ρ2/\(b ρ1=.ok (.nx ρ2)\/b ρ1=.ok (.ct ρ2))):∃ρ',J xs.length ρ'/\YU g b (xs.map it) ρ=.ok (.nx ρ'):=by
 have:=fT (g:=g) (b:=b) it J xs 0 ρ h λk hk ρ hρ=>by have:=hs k hk ρ (by rwa [a2T]at hρ);rwa [a2T]
 rwa [a2T]at this
def Jf(J:Nat->Sto->Prop)(n:Nat)(ρ:Sto)(h:J 0 ρ)(hs:∀(k:Nat),k<n->∀(ρ:Sto),J k ρ->∃ρ1,g (.i (k:Int)) ρ=some ρ1/\∃ρ2,J (k+1) ρ2/\(b ρ1=.ok (.nx ρ2)\/b ρ1=.ok (.ct ρ2))):∃ρ',J n ρ'/\YU g b (ll 0 n) ρ=.ok (.nx ρ'):=by
 have:=ZJ (g:=g) (b:=b) (λk:Nat=>PV.i (k:Int)) J (List.range n) ρ h λk hk ρ hρ=>by rw[a1g];exact hs k (by rwa [R9]at hk) ρ hρ
 rwa [R9,<- fS]at this
end
end L2
namespace L2
open PySem PySem.Spec PyProof.Rows PySem.W
section
variable {prog:HZ}{w:Ie}{A:Ih}{E:HB}{h:Heap}{g:Array GenState}{d:Drawn}{t:Nat}{os:OsState}{a:Addr}{its:Iv}{n:Nat}{sl:Ip}
def bz:typeLookup (.type "list") "keys"=pure none:=by rw[a1c,a0C];kernel_rfl
def V3:typeLookup (.type "list") "__getattr__"=pure none:=by rw[a1c,a0C];kernel_rfl
def nM:isSubtype (.type "AttributeError") (.type "AttributeError")=pure true:=by rw[a2z];kernel_rfl
def A7(he:h.get? e=some ⟨.type "AttributeError",none,.fields #[T,.none,.none,.none,.bool false,X,rawInt 0,rawInt 0],#[]⟩)
  (hQ:∀h',(∀b o,b≠e->h.get? b=some o->h'.get? b=some o)->(∃oe,h'.get? e=some oe/\oe.cls=.type "AttributeError")->Q () ⟨h',g,d,t,os⟩):
  wpAny (model prog w) A (noteAttr (.ref e) o name) Q E ⟨h,g,d,t,os⟩:=by
 have hT:(⟨h,g,d,t,os⟩:Shared).TypeIs (.ref e) "AttributeError":=⟨_,he,rfl⟩;unfold noteAttr lacksNameAndObj;refine f8 ?_;refine f8 (a03 (b:=true) hT nM ?_);rw[if_neg (by decide)];refine f8 (a1Z he ?_);dsimp only;rw[if_neg (λz=>by cases(show false=true from z))];rw[if_neg (λz=>by cases(show false=true from z))];refine L6 ?_;rw[if_pos rfl];refine f8 (a11 ?_);refine f8 (a0J (T:="AttributeError") hT ?_);dsimp only;unfold layMembers;refine f8 (a1Z he ?_);dsimp only;refine wpAny_update he ?_;refine hQ _ (λb o hb e'=>(N9 _ _ (Ne.symm hb)).trans e') ⟨_,R7 _ he rfl,rfl⟩
def iD(hh:A.handled=none)(hx:h.get? a=some ⟨.type "list",none,.seq its n,sl⟩)
  (hE:∀h' tk e,(∀b o,h.get? b=some o->h'.get? b=some o)->(∃oe,h'.get? e=some oe/\oe.cls=.type "AttributeError")->E (.ref e) ⟨h',g,d,tk,os⟩):
  wpAny (model prog w) A (Builtin.«object.__getattribute__» ⟨[.ref a,.str "keys" tk],[]⟩) Q E ⟨h,g,d,t,os⟩:=by
 have hT:(⟨h,g,d,t,os⟩:Shared).TypeIs (.ref a) "list":=⟨_,hx,rfl⟩;have f4:=bz
 repeat(any_goals(first|assumption|wp_step))
 unfold raiseAttrError;refine f8 (wpAny_mkStr (f8 ?_) (by decide +kernel));unfold newExc newTuple;refine f8 (a0X ?_);refine f8 (m:=firstArgMember _ _) (a2t (a:=Value.none) (by simp only[firstArgMember];kernel_rfl) ?_);refine a0X ?_;refine f8 (a2R (f8 ?_));refine A7 (M7 _ rfl) λh' hk he=>?_;unfold raiseNew;refine f8 (wpAny_handled ?_);rw[hh]
 first
  |refine a21 ?_
  |refine f8 (L6 (a21 ?_))
 exact hE _ _ _ (λb o e=>hk b o (L9 (N5 (L7 e) (by simp))) (u8 _ (u8 _ e))) he
def nN(hh:A.handled=none)(hx:h.get? a=some ⟨.type "list",none,.seq its n,sl⟩)
  (hE:∀h' tk e,(∀b o,h.get? b=some o->h'.get? b=some o)->(∃oe,h'.get? e=some oe/\oe.cls=.type "AttributeError")->R (.error (.ref e)) ⟨h',g,d,tk,os⟩):
  codeAny (model prog w) A (.call (.builtin "list.__getattribute__") ⟨[.ref a,.str "keys" tk],[]⟩) R ⟨h,g,d,t,os⟩:=
 a02 F.slot_list_getattribute.plain F.entry_list_ga (F.slot_list_getattribute.check _ _ _ _ _ _ _ _ (show(⟨h,g,d,t,os⟩:Shared).TypeIs (.ref a) "list" from⟨_,hx,rfl⟩) (F.args_list_getattribute_2 _ _) (iD hh hx hE))
def A8(hh:A.handled=none)(hx:h.get? a=some ⟨.type "list",none,.seq its n,sl⟩)(hQ:∀h' tk,(∀b o,h.get? b=some o->h'.get? b=some o)->Q none ⟨h',g,d,tk,os⟩):
  wpAny (model prog w) A (getAttr? (.ref a) "keys") Q E ⟨h,g,d,t,os⟩:=by
 have hT:∀t,(⟨h,g,d,t,os⟩:Shared).TypeIs (.ref a) "list":=λt=>⟨_,hx,rfl⟩;have f2:=F.slot_list_getattribute.lookup;have f3:=F.slot_list_getattribute.bind (.ref a);unfold getAttr? getAttrBy?;refine f8 (a2R ?_);refine f8 (a1q ?_);unfold getAttrBy;refine P7 ?_;refine f8 (a0J (T:="list") (hT _) ?_);refine f8 (a2t f2 ?_);dsimp only;rw[if_neg (λz=>by cases(show false=true from z))];unfold getAttrByItsOwn hookBefore;rw[if_neg (λz=>by cases(show false=true from z))];refine f8 (L6 ?_);refine f8 (a1q ?_);refine P7 ?_;unfold callGetattribute;rw[if_neg (λz=>by cases(show false=true from z))];unfold boundAndCalled;refine f8 (a2t f3 ?_);dsimp only;refine a0R (nN hh hx λh' tk e hk he=>?_);obtain⟨oe,he,hc⟩:=he;have hTe:(⟨h',g,d,tk,os⟩:Shared).TypeIs (.ref e) "AttributeError":=⟨_,he,hc⟩;dsimp only;unfold getattributeRaised;refine f8 (a03 (b:=true) hTe nM ?_);rw[if_pos rfl];unfold hookBehind;rw[if_neg (λz=>by cases(show false=true from z))];refine f8 (a2t V3 ?_);unfold hookOrError attributeErrorLeaves;dsimp only;rw[if_pos (show(!false)=true from rfl)];refine f8 (a21 ?_);refine f8 (a03 (b:=true) hTe nM ?_);rw[if_pos rfl];exact L6 (hQ h' tk hk)
end
def YW:entryFor table "dict.update.loop"=some Builtin.«dict.update.loop»:=entryFor_of_tree (by kernel_rfl)
def jc:plainId "dict.update.loop"=true:=by decide +kernel
section
variable {prog:HZ}{w:Ie}{A:Ih}{R:Result->Shared->Prop}{I:Addr}{fp wr:Iy}{G:Array GenState->Array GenState->Prop}{n:Nat}{P:IU}{St:IS}{K:Type}[DecidableEq K] {knd:KeyKind prog w K}
def TupAt(h:Heap)(a:Addr)(k v:Value):Prop:=∃o m,h.get? a=some o/\o.cls=.type "tuple"/\o.data=.seq #[k,v] m
def p_(key:Nat->K)(val:IT):Nat->List (K×Value)
 |0=>[]
 |i+1=>stored (p_ key val i) (key i) (val i)
def UD(key:Nat->K)(val:IT):∀i,(p_ key val i).length<=i
 |0=>L5 _
 |i+1=>by
  have:=UD key val i;unfold p_ stored;split
  .rw[t0];omega
  .rw[N8];show _+1<=_;omega
def sU(W:WalksS prog w A.in1 I fp wr G n P St)(D:Addr)(hDf:D∉fp)(key:Nat->K)(kv val:IT)(ad:HQ)(hP:∀i v,P i v->v=.ref (ad i))(hk:∀i,i<n->knd.is (key i) (kv i)=true)(hw:∀i,i<n->ad i∉D::wr)(hn:n<=sizeLine):
  ∀(k i:Nat)(tk:Tok)(s:HJ),n-i=k->i<=n->St i s->(∀j,j<n->TupAt s.heap (ad j) (kv j) (val j))->s.heap.DictOf knd D (p_ key val i)->
   (∀s',Moved (D::wr) G s s'->s'.heap.DictOf knd D (p_ key val n)->R (.ok (.ret .none)) s')->
   codeAny (model prog w) A (.builtin "dict.update.loop" ⟨[.ref D,.ref I,.int (i:Int) tk,.none],[]⟩) R s:=by
 have hDw:D∉wr:=λh=>hDf (W.sub _ h);have hsub:∀b∈wr,b∈D::wr:=λb hb=>L8 _ hb;have tmv:∀{s s':HJ},Moved (D::wr) G s s'->(∀j,j<n->TupAt s.heap (ad j) (kv j) (val j))->∀j,j<n->TupAt s'.heap (ad j) (kv j) (val j):=λhm h j hj=>by obtain⟨o,m,h1,h2,h3⟩:=h j hj;exact⟨o,m,hm.heap _ _ (hw j hj) h1,h2,h3⟩
 intro k
 induction k with
 |zero=>
  intro i tk s hk' hi hst ht hD hR;have hin:i=n:=by omega
  subst hin;refine a0D YW ?_;rw[a0p jc _];show wpAny _ A.in1 (pyNext (.ref I) >>= _) _ _ s;refine f8 (W.done s _ _ hst λs' hm=>?_);dsimp only;refine f8 (m:=Builtin.Dict.addKeywords D []) ?_;refine L6 ?_;exact L6 (hR s' (hm.mono hsub) (by
   obtain⟨o,es,ep,ho,rest⟩:=hD;exact⟨o,es,ep,hm.heap D _ hDw ho,rest⟩))
 |succ k ih=>
  intro i tk s hk' hi hst ht hD hR;have hlt:i<n:=by omega
  refine a0D YW ?_;rw[a0p jc _];show wpAny _ A.in1 (pyNext (.ref I) >>= _) _ _ s;refine f8 (W.item i s _ _ hlt hst λv s' hPv hst' hm=>?_);cases hP i v hPv;have hm2:=hm.mono hsub;have ht':=tmv hm2 ht;obtain⟨o,m,h1,h2,h3⟩:=ht' i hlt;have hD':s'.heap.DictOf knd D (p_ key val i):=by obtain⟨o,es,ep,ho,rest⟩:=hD;exact⟨o,es,ep,hm.heap D _ hDw ho,rest⟩
  have hT:s'.TypeIs (.ref (ad i)) "tuple":=⟨o,h1,h2⟩;dsimp only;refine f8 (P7 (f8 (wpAny_tryCatch ?_)));unfold Builtin.Dict.pairItems;refine f8 (a0J (T:="tuple") hT ?_);rw[if_pos (by decide)];unfold seqItems?;refine f8 (f8 (a1Z h1 ?_));rw[h3];dsimp only;refine L6 (L6 ?_);show wpAny _ _ (holding [kv i,val i] (dictSet D (kv i) (val i))) _ _ _;refine P7 (wpAny_dictSet_pairs (hsz:=O5 (UD key val i) (O5 hi hn)) (hk i hlt) hD' λh' hD2 hsb=>?_);have e1:((i:Int)+1)=((i+1:Nat):Int):=by omega
  have hm3:Moved (D::wr) G s { s' with heap:=h',toks:=s'.toks+1 }:=hm2.then_heap (T8 _) λb o hb e=>by rw[hsb.2 b (λh:b=D=>hb (by rw[h];exact L4))];exact e
  refine L6 ⟨a0O jc _,?_⟩;rw[show rawInt ((i:Int)+1)=Value.int ((i+1:Nat):Int) 0 by rw[e1];rfl];refine ih (i+1) 0 _ (by omega) hlt (W.frame _ s' _ _ hst' (T8 _) λb hb o e=>?_) (tmv hm3 ht) hD2 λs'' hm'' hD''=>hR s'' (Moved.trans W.gtrans hm3 hm'') hD'';rw[hsb.2 b (λh:b=D=>hDf (by rw[<- h];exact hb))];exact e
end
section
variable {prog:HZ}{w:Ie}{A:Ih}{E:HB}{s:HJ}{K:Type}[DecidableEq K] {knd:KeyKind prog w K}
def UE{l:Addr}{items:Iv}{m:Nat}{sl:Ip}{Q:HB}{key:Nat->K}{kv val:IT}{ad:HQ}(hh:A.handled=none)(hl:s.heap.get? l=some ⟨.type "list",none,.seq items m,sl⟩)
  (hP:∀i,i<items.size->items[i]?=some (.ref (ad i))) (ht:∀i,i<items.size->TupAt s.heap (ad i) (kv i) (val i)) (hk:∀i,i<items.size->knd.is (key i) (kv i)=true) (hn:items.size<=sizeLine)
  (h:∀h' tk,(∀b o,s.heap.get? b=some o->h'.get? b=some o)->h'.DictOf knd s.heap.objs.size (p_ key val items.size)->Q (.ref s.heap.objs.size) { s with heap:=h',toks:=tk }):
  wpAny (model prog w) A (call (.type "dict") [.ref l]) Q E s:=by
 refine a2A (Q₁:=λobj s₁=>obj=.ref s.heap.objs.size/\s₁={ s with heap:=s.heap.push { cls:=.type "dict",data:=.dict #[] } }) F.kt_called_dict (F.kt_typeCall_dict_1 _) F.entry_dict_init (kt_code_dict_new _ ⟨rfl,rfl⟩) ?_
 rintro obj s₁ ⟨rfl,rfl⟩
 have hnew:(s.heap.push { cls:=.type "dict",data:=.dict #[] }).DictOf knd s.heap.objs.size []:=Heap.DictOf.new s.heap;have hl':(s.heap.push { cls:=.type "dict",data:=.dict #[] }).get? l=some ⟨.type "list",none,.seq items m,sl⟩:=u8 _ hl;refine⟨hnew.typeIs,F.args_dict_init_2 _ _,?_⟩;unfold Builtin.«dict.__init__»;refine f8 ?_;unfold Builtin.Dict.selfAndRest;refine f8 (wpAny_notOrdered_dict hnew.typeIs ?_);show wpAny _ _ (pure (s.heap.objs.size,[Value.ref l])) _ _ _;refine L6 ?_;show wpAny _ _ (Builtin.Dict.updateFrom "dict.__init__" s.heap.objs.size (.ref l) [] .none) _ _ _;unfold Builtin.Dict.updateFrom;refine f8 (a0J (T:="list") ⟨_,hl',rfl⟩ ?_);rw[if_pos (by decide)];refine f8 ?_;refine A8 hh hl' λh1 t1 k1=>?_;rw[if_pos (show(none:Option Value).isNone=true from rfl)];refine f8 (a11 ?_);have hl1:h1.get? l=some ⟨.type "list",none,.seq items m,sl⟩:=k1 _ _ hl';have hil:h1.IsList l items:=⟨_,hl1,rfl,m,rfl⟩;refine f8 (a1o hil ?_);have D1:h1.DictOf knd s.heap.objs.size []:=by obtain⟨o,es,ep,ho,rest⟩:=hnew;exact⟨o,es,ep,k1 _ _ ho,rest⟩
 have ls:l<s.heap.objs.size:=L7 hl;have l1:l<h1.objs.size:=L7 hl1;have ds:s.heap.objs.size<h1.objs.size:=by obtain⟨o,_,_,ho,_⟩:=D1;exact L7 ho
 have hne:l≠h1.objs.size:=L9 l1;have kp:∀b o,h1.get? b=some o->(h1.push { cls:=.type "list_iterator",data:=.fields #[.ref l,.int 0 0] }).get? b=some o:=λb o e=>u8 _ e;have tl:∀j,j<items.size->ad j<s.heap.objs.size:=λj hj=>by obtain⟨o,_,h1,_⟩:=ht j hj;exact L7 h1
 refine L6 ⟨a0O jc _,sU (knd:=knd) (Walks.list (A:=A.in1.in1) hh h1.objs.size l hne items).toS s.heap.objs.size (by simp;exact⟨L9 ds,a0a ls⟩) key kv val ad (λi v hv=>?_) hk (λi hi=>?_) hn items.size 0 0 _ (by omega) (P1 _) ⟨⟨_,M7 _ rfl,rfl,rfl⟩,?_⟩ (λj hj=>?_) ?_ λs' hm hD=>?_⟩
 .have hi:i<items.size:=by
   by_cases c:i<items.size
   .exact c
   .rw[a2r (by omega)]at hv;cases hv
  rw[hP i hi]at hv;cases hv;rfl
 .have:=tl i hi;intro hm;rcases N4.mp hm with e|hm
  .exact L9 this e
  .exact L9 (a0Z this ds) (O0.mp hm)
 .exact⟨_,kp _ _ hl1,rfl,m,rfl⟩
 .obtain⟨o,q,e1,e2,e3⟩:=ht j hj;exact⟨o,q,kp _ _ (k1 _ _ (u8 _ e1)),e2,e3⟩
 .obtain⟨o,es,ep,ho,rest⟩:=D1;exact⟨o,es,ep,kp _ _ ho,rest⟩
 .rw[a1R hm];refine⟨rfl,h s'.heap s'.toks (λb o e=>hm.heap b o (λhmem=>?_) (kp _ _ (k1 _ _ (u8 _ e)))) hD⟩;have:=L7 e;rcases N4.mp hmem with e'|hm
  .exact L9 this e'
  .exact L9 (a0Z this ds) (O0.mp hm)
end
section
variable {X:Cx}
def UG(K:Il)(H:Hp):List V->List (Key×V)->Prop
 |[],es=>es=[]
 |x::xs,es=>∃a k v r,x=.ref a/\es=(k,v)::r/\SqT K H a [kV k,v]/\UG K H xs r
def nO(es:HP):List (Key×V):=es.foldl (λacc kv=>putK acc kv.1 kv.2) []
def xk(K:Il):List V->Hp->VK->Prop:=λvs H Q=>∃(p:Addr)(xs:HN)(es:HP),vs=[.ref p]/\SqL K H p xs/\UG K H xs es/\∀l,H l=none->Q (.ref l) (upd H l (.dK (nO es)))
def fU{pins:Hz}{σ:St}{H:Hp}{s:HJ}(I:Inv X pins σ H s):∀{xs:HN}{es:HP}{its:HK},UG X.K H xs es->Vals xs its->∃ps:List (Addr×Value×Value),its=ps.map (λp=>Value.ref p.1)/\ps.length=es.length/\(∀p∈ps,TupAt s.heap p.1 p.2.1 p.2.2)/\∀(i:Nat) p e,ps[i]?=some p->es[i]?=some e->RelV (kV e.1) p.2.1/\RelV e.2 p.2.2
 |[],_,its,h,r=>by cases(show _=_ from h);cases r;exact⟨[],rfl,rfl,(λ_ h=>by cases h),λ_ _ _ h=>by cases h⟩
 |x::xs,_,its,h,r=>by
  obtain⟨a,k,v,es,rfl,rfl,ht,hr⟩:=h;cases r with
  |cons rx r=>
   cases rx;obtain⟨ps,e1,e2,e3,e4⟩:=fU I hr r;obtain⟨us,ru,⟨o,h1,h2,m,h3⟩,_⟩:=I.tuple ht;obtain⟨u1,u2,rfl,r1,r2⟩:=vals2 ru;refine⟨(a,u1,u2)::ps,by rw[e1];rfl,by rw[I0,I0,e2],λp hp=>?_,λi p e hp he=>?_⟩
   .rcases N4.mp hp with rfl|hp
    .exact⟨o,m,h1,h2,h3⟩
    .exact e3 p hp
   .cases i with
    |zero=>rw[List.getElem?_cons_zero]at hp he;cases hp;cases he;exact⟨r1,r2⟩
    |succ i=>rw[P2]at hp he;exact e4 i p e hp he
def nP{es:HP}{key:Nat->Key}{val:IT}:∀n,n<=es.length->(∀i e,i<n->es[i]?=some e->key i=e.1/\RelV e.2 (val i))->KV ((es.take n).foldl (λacc kv=>putK acc kv.1 kv.2) []) (p_ key val n)
 |0,_,_=>.nil
 |n+1,hn,h=>by have hlt:n<es.length:=hn;have hx:=M5 hlt;rw[List.take_succ,hx,List.foldl_append];obtain⟨e1,e2⟩:=h n _ (a0r n) hx;show KV (putK _ _ _) (stored (p_ key val n) (key n) (val n));rw[e1];exact(nP n (a1e hlt) λi e hi he=>h i e (a0q hi) he).put _ e2
def iE(hc:X.calm=true):jr X (.type "dict") (xk X.K):=by
 intro pins s σ H xs us Q I r h;obtain⟨p,xs,es,rfl,hS,hp,q⟩:=h;obtain⟨u,rfl,ru⟩:=vals1 r;cases ru;obtain⟨its,rv,⟨o,m,h1,h2,h3,h4⟩,hz⟩:=I.list hS;obtain⟨ps,e1,e2,e3,e4⟩:=fU I hp rv;have hlen:its.length=es.length:=by rw[e1,t0,e2]
 have hx:∀i,i<es.length->∃a,ps[i]?=some a/\es[i]?=some (es.getD i (.inl 0,.non))/\ps.getD i (0,.none,.none)=a:=λi hi=>by
  have hi2:i<ps.length:=by rw[e2];exact hi
  refine⟨ps[i],M5 hi2,by rw[a0k,M5 hi];rfl,by rw[a0k,M5 hi2];rfl⟩
 have hsz:its.toArray.size=es.length:=by simpa using hlen
 obtain⟨cls,dict,data,slots⟩:=o;dsimp only at h2 h3 h4;subst h2 h3 h4;refine UE (knd:=zT X.prog X.w) (key:=λi=>(es.getD i (.inl 0,.non)).1) (kv:=λi=>(ps.getD i (0,.none,.none)).2.1) (val:=λi=>(ps.getD i (0,.none,.none)).2.2) (ad:=λi=>(ps.getD i (0,.none,.none)).1) (I.ok.hd hc) h1 (λi hi=>?_) (λi hi=>?_) (λi hi=>?_) ?_ λh' tk hk hD=>?_
 .rw[hsz]at hi;obtain⟨a,ha,_,hg⟩:=hx i hi;rw[hg];simp[e1,ha]
 .rw[hsz]at hi;obtain⟨a,ha,_,hg⟩:=hx i hi;rw[hg];exact e3 a (a00 ha)
 .rw[hsz]at hi;obtain⟨a,ha,he,hg⟩:=hx i hi;rw[hg];exact Ut (e4 i a _ ha he).1
 .rw[hsz,<- hlen,<- rv.length];exact hz
 .rw[hsz]at hD;have kvr:KV (nO es) (p_ (λi=>(es.getD i (.inl 0,.non)).1) (λi=>(ps.getD i (0,.none,.none)).2.2) es.length):=by
   have:=nP (es:=es) (key:=λi=>(es.getD i (.inl 0,.non)).1) (val:=λi=>(ps.getD i (0,.none,.none)).2.2) es.length (L5 _) λi e hi he=>?_
   .rwa [a0t]at this
   .obtain⟨a,ha,he',hg⟩:=hx i hi;rw[he]at he';cases he';rw[hg];exact⟨by rw[a0k,he],(e4 i a _ ha he).2⟩
  have hfr:=I.hok.fresh (L5 s.heap.objs.size);refine⟨.ref s.heap.objs.size,_,I.laid (a:=s.heap.objs.size) (o:=.dK (nO es)) (t':=tk) hk (L5 _) (ff ?_ (P8.mpr (Ne.symm (L9 I.big))) kvr hD),rfl,q _ hfr⟩;rw[kvr.length];refine O5 (UD _ _ _) ?_;rw[<- hlen,<- rv.length];exact hz
end
def rg:List PV->Option (List (Key×PV))
 |[]=>some []
 |.t [k,v]::xs=>(pk k).bind λq=>(rg xs).map ((q,v)::·)
 |_=>none
def V4(es:Ic):List (Key×PV):=es.foldl (λacc kv=>dput acc kv.1 kv.2) []
def Kz:List PV->Out PV
 |[.d xs]=>.ok (.d xs)
 |[.l xs]=>kN ((rg xs).map λes=>.d (V4 es))
 |_=>.wall
section
variable {W:RC}{M:HI}{H:Hp}
def nQ:∀{xs:Ib}{vs:HN}{es:Ic},zP W M H xs vs->rg xs=some es->∃ev,UG W.K H vs ev/\qe W M H es ev
 |[],_,_,h,e=>by cases e;cases(show _=_ from h);exact⟨[],rfl,rfl⟩
 |x::xs,_,es,h,e=>by
  obtain⟨v,r,rfl,h1,h2⟩:=h;unfold rg at e;split at e
  .cases ‹_::_=[]›
  .rename_i k y ys heq;cases heq;obtain⟨q,hq,e⟩:=O1.mp e;obtain⟨zs,hz,rfl⟩:=v4.mp e;obtain⟨ev,i1,i2⟩:=nQ h2 hz;obtain⟨p,us,rfl,hp,u1,r1,rfl,hk,u2,r2,rfl,hv,hr⟩:=h1;cases(show _=_ from hr);cases Ux (yF.iff.mpr hk) hq;exact⟨(q,u2)::ev,⟨p,q,u2,ev,rfl,rfl,hp,i1⟩,⟨u2,ev,rfl,hv,i2⟩⟩
  .cases e
def XU:∀{es:Ic}{ev:HP}{a:Ic}{av:HP},qe W M H a av->qe W M H es ev->qe W M H (es.foldl (λacc kv=>dput acc kv.1 kv.2) a) (ev.foldl (λacc kv=>putK acc kv.1 kv.2) av)
 |[],_,_,_,h,e=>by cases(show _=_ from e);exact h
 |kx::es,_,a,av,h,⟨v,q,e,h1,h2⟩=>by subst e;rw[a0o,a0o];exact XU (a:=dput a kx.1 kx.2) (av:=putK av kx.1 v) (h.put h1) h2
def sV:LfF W (λvs H Q=>DJ vs H Q\/xk W.K vs H Q) Kz:=λM C B H xs vs Q n h q=>by
 unfold Kz at q;split at q
 .obtain⟨v,r,rfl,⟨p,es,rfl,_,hl,rr⟩,hr⟩:=h;cases(show _=_ from hr);exact .inl ⟨p,es,rfl,hl,λl hl=>q _ _ (zr.upd hl) (Ax rr hl)⟩
 .obtain⟨z,e,q⟩:=yI q;obtain⟨es,he,rfl⟩:=v4.mp e;obtain⟨v,r,rfl,⟨p,ws,rfl,_,hl,rr⟩,hr⟩:=h;cases(show _=_ from hr);obtain⟨ev,i1,i2⟩:=nQ rr he;exact .inr ⟨p,ws,ev,rfl,SqL.of hl,i1,λl hl=>q _ _ (zr.upd hl) (Ax (XU (show qe W M H [] []from rfl) i2) hl)⟩
 .exact q.elim
end
def UH(hc:X.calm=true)(hg:Gl X "dict")(hm:X.mg "dict"=none)(ha:AM X C S ws [e] ms)(he:starEach [e] X.env=[(false,eval e X.env)]:=by rfl):FM X C S (.Call (.Name "dict" p) [e] [] pos) (zk Kz ms):=
 fF (λhK=>hK▸iC.or (iE hc)) sV hg hm PyProof.Rows.boot_dict ha (he:=he)
section
variable {prog:HZ}{w:Ie}{A:Ih}{E:HB}{s:HJ}
def len_dict:typeLookup (.type "dict") "__len__"=pure (some (.builtin "dict.__len__")):=by rw[a1c,a0C];kernel_rfl
def nR(hT:s.TypeIs (.ref d) "dict")(h:Q false s):wpAny (model prog w) A (Builtin.List.listLengthHint (.ref d)) Q E s:=by
 unfold Builtin.List.listLengthHint;refine f8 (a1A hT len_dict ?_);generalize hid:("dict.__len__":String)=id0
 (fail_if_success (clear hid id0));wp_delta
 rw[show splitId id0=some ("dict","__len__")from by subst hid;decide +kernel];dsimp only;refine f8 (a03 (b:=true) hT (by rw[a2z];kernel_rfl) ?_);subst hid;rw[if_neg (by decide)];rw[if_pos (by decide +kernel)];refine f8 (a0J (T:="dict") hT ?_);exact L6 h
variable {K:Type}[DecidableEq K] {knd:KeyKind prog w K}
def A9{Q:HB}{d:Addr}{kvs:List (K×Value)}{ep:Nat}(hh:A.handled=none)(hd:(d==sysModules)=false)(hm:s.heap.DictAt knd d kvs ep)(hn:kvs.length<=sizeLine)
  (hQ:∀h' tk acc' c',(∀b o,s.heap.get? b=some o->h'.get? b=some o)->h'.get? s.heap.objs.size=some { cls:=.type "list",dict:=none,data:=.seq acc' c',slots:=#[] }->ItemsOf (λi v=>∃k x,kvs[i]?=some (k,x)/\knd.is k v=true) acc' kvs.length->Q (.ref s.heap.objs.size) { s with heap:=h',toks:=tk }):
  wpAny (model prog w) A (call (.type "list") [.ref d]) Q E s:=by
 have l1:d<s.heap.objs.size:=by obtain⟨o,_,ho,_⟩:=hm;exact L7 ho
 refine a2A (Q₁:=λobj s₁=>obj=.ref s.heap.objs.size/\s₁={ s with heap:=s.heap.push { cls:=.type "list",data:=.seq #[] } }) a2I (a2j _) a2k
  (code_list_new _ ⟨rfl,rfl⟩) λobj s₁ h₁=>?_
 obtain⟨rfl,rfl⟩:=h₁;have hS:(s.heap.push { cls:=.type "list",data:=.seq #[] }).get? s.heap.objs.size=some { cls:=.type "list",data:=.seq #[] }:=M7 _ rfl;refine⟨⟨_,hS,rfl⟩,a19 _ _,?_⟩;show wpAny _ _ (do let old<-Builtin.List.listItems (.ref s.heap.objs.size);Builtin.List.listUpdate (.ref s.heap.objs.size) (λ_=>#[]);letGo old.toList.reverse;Builtin.List.listExtendWith (.ref s.heap.objs.size) (.ref d) .none) _ _ _;refine f8 ?_;unfold Builtin.List.listItems;refine f8 (wpAny_seqItems hS rfl (L6 ?_));show wpAny _ _ (updateSeq s.heap.objs.size (λ_=>#[]) >>= λ_=>letGo (#[]:Array Value).toList.reverse >>= λ_=>Builtin.List.listExtendWith (.ref s.heap.objs.size) (.ref d) .none) _ _ _;refine f8 (a0T hS rfl ?_);have hS₂:=R7 (Obj.mapSeq (λ_=>(#[]:Array Value))) hS rfl;refine f8 (a2Z ?_);have kp:∀b o,s.heap.get? b=some o->((s.heap.push { cls:=.type "list",data:=.seq #[] }).update s.heap.objs.size (Obj.mapSeq (λ_=>(#[]:Array Value)))).get? b=some o:=λb o e=>
  (N9 _ _ (a0a (L7 e))).trans (u8 _ e)
 generalize((s.heap.push { cls:=.type "list",data:=.seq #[] }).update s.heap.objs.size (Obj.mapSeq (λ_=>(#[]:Array Value))))=h2 at hS₂ kp;have hm2:h2.DictAt knd d kvs ep:=hm.at' λo e=>kp _ _ e;have hT2:∀{s':HJ},s'.heap.DictAt knd d kvs ep->s'.TypeIs (.ref d) "dict":=λz=>z.dictOf.typeIs;unfold Builtin.List.listExtendWith;refine f8 (a0J (T:="dict") (hT2 hm2) ?_);have hne1:s.heap.objs.size≠d:=a0a l1;have h1:Builtin.List.listSameRef (.ref s.heap.objs.size) (.ref d)=false:=by simp[Builtin.List.listSameRef,hne1]
 rw[if_neg (by rw[h1];decide)];refine f8 (wpAny_pyIter_dict hd hm2 ?_);have kp2:∀b o,h2.get? b=some o->(h2.push { cls:=.type "dict_keyiterator",data:=.fields #[.ref d,.int 0 0,.int kvs.length 0,.int ep 0] }).get? b=some o:=λb o e=>u8 _ e;have hm3:(h2.push { cls:=.type "dict_keyiterator",data:=.fields #[.ref d,.int 0 0,.int kvs.length 0,.int ep 0] }).DictAt knd d kvs ep:=hm2.at' λo e=>kp2 _ _ e;refine f8 (P7 (nR (hT2 hm3) ?_));rw[if_pos (by decide)];refine f8 (a11 ?_);unfold Builtin.List.listTouch Builtin.List.listUpdate;have s2:s.heap.objs.size<h2.objs.size:=L7 hS₂;have dn:d≠h2.objs.size:=L9 (a0Z l1 s2);have hS3:=kp2 _ _ hS₂;have it3:(h2.push { cls:=.type "dict_keyiterator",data:=.fields #[.ref d,.int 0 0,.int kvs.length 0,.int ep 0] }).get? h2.objs.size=some { cls:=.type "dict_keyiterator",data:=.fields #[.ref d,.int 0 0,.int kvs.length 0,.int ep 0] }:=M7 _ rfl;have kq:∀b o,s.heap.get? b=some o->(h2.push { cls:=.type "dict_keyiterator",data:=.fields #[.ref d,.int 0 0,.int kvs.length 0,.int ep 0] }).get? b=some o:=λb o e=>kp2 _ _ (kp b o e);generalize(h2.push { cls:=.type "dict_keyiterator",data:=.fields #[.ref d,.int 0 0,.int kvs.length 0,.int ep 0] })=h3 at hS3 it3 kq hm3;refine f8 (f8 (a0T hS3 rfl ?_));have hS4:=R7 (Obj.mapSeq (λx:Array Value=>x.push Value.none)) hS3 rfl;refine a0T hS4 rfl ?_;have hS5:=R7 (Obj.mapSeq (λx:Array Value=>x.pop)) hS4 rfl;have ku:∀b o,b≠s.heap.objs.size->h3.get? b=some o->((h3.update s.heap.objs.size (Obj.mapSeq λx=>x.push Value.none)).update s.heap.objs.size (Obj.mapSeq λx=>x.pop)).get? b=some o:=λb o hb e=>
  (N9 _ _ (Ne.symm hb)).trans ((N9 _ _ (Ne.symm hb)).trans e)
 have hm5:=hm3.at' (h':=((h3.update s.heap.objs.size (Obj.mapSeq λx=>x.push Value.none)).update s.heap.objs.size (Obj.mapSeq λx=>x.pop))) λo e=>ku _ _ (Ne.symm hne1) e;have it5:=ku _ _ (a0a s2) it3;have k5:∀b o,s.heap.get? b=some o->((h3.update s.heap.objs.size (Obj.mapSeq λx=>x.push Value.none)).update s.heap.objs.size (Obj.mapSeq λx=>x.pop)).get? b=some o:=λb o e=>ku b o (L9 (L7 e)) (kq b o e);generalize((h3.update s.heap.objs.size (Obj.mapSeq λx=>x.push Value.none)).update s.heap.objs.size (Obj.mapSeq λx=>x.pop))=h5 at hS5 hm5 it5 k5;refine L6 ⟨a0O a1d _,a1C (Walks.dictKeys (knd:=knd) (A:=A.in1.in1) hh h2.objs.size d dn kvs ep).toS hn s.heap.objs.size (by simp;exact⟨L9 s2,hne1⟩) _ kvs.length 0 _ _ _ rfl (P1 _) (show _/\_ from⟨⟨_,it5,rfl,rfl⟩,hm5⟩) hS5 (a20 _) λs' acc' c' hmv hS' hacc=>?_⟩;rw[a1R hmv];refine⟨rfl,hQ s'.heap s'.toks acc' c' (λb o e=>hmv.heap b o (λhmem=>?_) (k5 b o e)) hS' hacc⟩;have:=L7 e;rcases N4.mp hmem with e'|hm
 .exact L9 this e'
 .exact L9 (a0Z this s2) (O0.mp hm)
end
section
variable {X:Cx}
def xl:List V->Hp->VK->Prop:=λvs H Q=>∃p es,vs=[.ref p]/\Rd H p (.dK es)/\∀l,H l=none->Q (.ref l) (upd H l (.lst (es.map λkv=>kV kv.1)))
def iF(hc:X.calm=true):jr X (.type "list") xl:=by
 intro pins s σ H xs us Q I r h;obtain⟨p,es,rfl,hS,q⟩:=h;obtain⟨u,rfl,ru⟩:=vals1 r;cases ru;obtain⟨z,hd,vs,rel,o,ds,ep,e1,e2,e3,e4,e5,e6⟩:=Zw I.hok hS;have hl:vs.length=es.length:=rel.length.symm;refine A9 (knd:=zT X.prog X.w) (kvs:=vs) (ep:=ep) (I.ok.hd hc) hd ⟨o,ds,e1,e2,e3,e4,e5,e6⟩ (by rw[hl];exact z) λh' tk acc' c' hk hg hi=>?_;refine fR (s:=s) (tk:=tk) I (L5 _) hk hg ?_ ?_ ?_ q
 .rw[t0];exact z
 .rw[t0,hi.1,hl]
 .intro j x v f1 f2;obtain⟨k,y,f3,f4⟩:=hi.2 j v f2;rw[N7]at f1;obtain⟨kx,f5,rfl⟩:=v4.mp f1;obtain⟨w',hw⟩:=xi rel (k:=kx.1) (v:=kx.2) f5;rw[hw]at f3;cases f3;exact nH f4
end
def Za:List PV->Out PV
 |[.l xs]=>.ok (.l xs)
 |[.t xs]=>.ok (.l xs)
 |[.sc xs]=>.ok (.l (xs.map PV.i))
 |[.d kvs]=>.ok (.l (kvs.map λkx=>kP kx.1))
 |_=>.wall
def fV{W:RC}{M:HI}{H:Hp}:∀{kvs:Ic}{es:HP},qe W M H kvs es->zP W M H (kvs.map λkx=>kP kx.1) (es.map λkv=>kV kv.1)
 |[],_,h=>by cases(show _=_ from h);rfl
 |kx::r,_,⟨v,q,e,h1,h2⟩=>by subst e;exact⟨_,_,rfl,DI _,fV h2⟩
def sW(L:LfF W r Aw):LfF W (λvs H Q=>r vs H Q\/xl vs H Q) Za:=λM C B H xs vs Q n h q=>by
 unfold Za at q;split at q
 .exact .inl (L M C B H _ vs Q n h q)
 .exact .inl (L M C B H _ vs Q n h q)
 .exact .inl (L M C B H _ vs Q n h q)
 .obtain⟨v,r,rfl,⟨p,es,rfl,_,hl,rr⟩,hr⟩:=h;cases(show _=_ from hr);exact .inr ⟨p,es,rfl,hl,λl hl=>q _ _ (zr.upd hl) (v5 (fV rr) hl)⟩
 .exact q.elim
def kT(hc:X.calm=true)(hg:Gl X "list")(hm:X.mg "list"=none)(ha:AM X C S ws [e] ms)(he:starEach [e] X.env=[(false,eval e X.env)]:=by rfl):FM X C S (.Call (.Name "list" p) [e] [] pos) (zk Za ms):=
 fF (λhK=>hK▸aV.or (iF hc)) (sW Ay) hg hm a2s ha (he:=he)
section
variable {X:Cx}{C:LC}{S:HF}{e:HY}{ws:HW}{ms:MA}{pos p:Pos}
end
inductive HV where
 |v (x:PV)|g (k:Nat)|t (xs:List HV)
inductive Cell where
 |l (xs:List HV)|d (kvs:List (Key×HV))|z (kvs:List (Key×HV))|o (c:Nat) (fs:List (Str×HV))|y (b:Bool)
abbrev AH:=List Cell
abbrev Vu:=List (Option HV)
structure HC where
 W:RC
 H0:Hp
 M0:Addr->Prop
def HM(Z:HC)(A:HQ)(n:Nat):Addr->Prop:=λa=>(Z.M0 a\/Z.H0 a=none)/\∀k,k<n->A k≠a
mutual
def YF(W:RC)(M:HI)(A:HQ)(n:Nat)(H:Hp):HV->V->Prop
 |.v x,v=>Rep W M H x v
 |.g k,v=>k<n/\v=.ref (A k)
 |.t xs,v=>∃p vs,v=.ref p/\SqT W.K H p vs/\v_ W M A n H xs vs
def v_(W:RC)(M:HI)(A:HQ)(n:Nat)(H:Hp):List HV->List V->Prop
 |[],vs=>vs=[]
 |x::xs,vs=>∃v r,vs=v::r/\YF W M A n H x v/\v_ W M A n H xs r
end
def qD{κ:Type}(R:HV->V->Prop):List (κ×HV)->List (κ×V)->Prop
 |[],es=>es=[]
 |kx::r,es=>∃v q,es=(kx.1,v)::q/\R kx.2 v/\qD R r q
section
variable {W:RC}{M M':HI}{A A':HQ}{n n':Nat}{H H':Hp}
mutual
def YF.gen(f:Fr M H H')(s:∀a,M a->H a≠none->M' a)(hn:n<=n')(ha:∀k,k<n->A' k=A k):∀{x:HV}{v:V},YF W M A n H x v->YF W M' A' n' H' x v
 |.v x,v,h=>Rep.gen f s h
 |.g k,v,h=>⟨N5 h.1 hn,by rw[ha k h.1];exact h.2⟩
 |.t xs,v,h=>by unfold YF at h ⊢;obtain⟨p,vs,e,r,q⟩:=h;exact⟨p,vs,e,f.sqT r,v_.gen f s hn ha q⟩
def v_.gen(f:Fr M H H')(s:∀a,M a->H a≠none->M' a)(hn:n<=n')(ha:∀k,k<n->A' k=A k):∀{x:List HV}{v:HN},v_ W M A n H x v->v_ W M' A' n' H' x v
 |[],v,h=>h
 |x::xs,vs,h=>by unfold v_ at h ⊢;obtain⟨v,r,e,h1,h2⟩:=h;exact⟨v,r,e,YF.gen f s hn ha h1,v_.gen f s hn ha h2⟩
end
def qD.imp{κ:Type}{R R':HV->V->Prop}(h:∀x v,R x v->R' x v):∀{kvs:List (κ×HV)}{es:List (κ×V)},qD R kvs es->qD R' kvs es
 |[],_,q=>q
 |_::_,_,⟨v,q,e,a,b⟩=>⟨v,q,e,h _ _ a,qD.imp h b⟩
def dC(W:RC)(M:HI)(A:HQ)(n:Nat)(H:Hp)(p:Addr):Cell->Prop
 |.l xs=>∃vs,H p=some (.lst vs)/\v_ W M A n H xs vs
 |.d kvs=>∃es,H p=some (.dK es)/\qD (YF W M A n H) kvs es
 |.z kvs=>∃o es,H p=some (.frz o (.dK es))/\qD (YF W M A n H) kvs es
 |.o c fs=>∃dx es,H p=some (.ins (W.cls c) dx es)/\qD (YF W M A n H) fs es
 |.y b=>p=W.cls 1000/\∃ps,H p=some (.tbl ps)/\(b=true->ps = #[])
def dC.gen{p:Addr}(hp:H' p=H p)(f:Fr M H H')(s:∀a,M a->H a≠none->M' a)(hn:n<=n')(ha:∀k,k<n->A' k=A k):∀{c:Cell},dC W M A n H p c->dC W M' A' n' H' p c
 |.l _,⟨vs,e,q⟩=>⟨vs,hp.trans e,q.gen f s hn ha⟩
 |.d _,⟨es,e,q⟩=>⟨es,hp.trans e,q.imp λ_ _=>YF.gen f s hn ha⟩
 |.z _,⟨o,es,e,q⟩=>⟨o,es,hp.trans e,q.imp λ_ _=>YF.gen f s hn ha⟩
 |.o _ _,⟨dx,es,e,q⟩=>⟨dx,es,hp.trans e,q.imp λ_ _=>YF.gen f s hn ha⟩
 |.y _,⟨e1,ps,e,q⟩=>⟨e1,ps,hp.trans e,q⟩
def dC.ob{p:Addr}:∀{c:Cell},dC W M A n H p c->∃o,H p=some o
 |.l _,⟨_,e,_⟩=>⟨_,e⟩
 |.d _,⟨_,e,_⟩=>⟨_,e⟩
 |.z _,⟨_,_,e,_⟩=>⟨_,e⟩
 |.o _ _,⟨_,_,e,_⟩=>⟨_,e⟩
 |.y _,⟨_,_,e,_⟩=>⟨_,e⟩
end
structure Gro(Z:HC)(A:HQ)(n:Nat)(H:Hp)(A':HQ)(n':Nat)(H':Hp):Prop where
 le:n<=n'
 agr:∀k,k<n->A' k=A k
 fresh:∀k,n<=k->k<n'->H (A' k)=none
 fr:Fr (HM Z A n) H H'
 dom:∀a,H' a=none->H a=none
structure HH(Z:HC)(A:HQ)(H:Hp)(G:AH):Prop where
 same:zr Z.H0 H
 cell:∀(k:Nat) c,G[k]?=some c->dC Z.W (HM Z A G.length) A G.length H (A k) c
 inj:∀j k,j<G.length->k<G.length->A j=A k->j=k
 own:∀k,k<G.length->Z.H0 (A k)=none
structure HR(Z:HC)(A:HQ)(H:Hp)(σ:St)(ρ:Vu)(G:AH):Prop extends HH Z A H G where
 len:σ.length=ρ.length
 var:∀(i:Nat) x,ρ[i]?=some (some x)->∃v,σ[i]?=some (some v)/\YF Z.W (HM Z A G.length) A G.length H x v
section
variable {Z:HC}{A A' A'':HQ}{n n' n'':Nat}{H H' H'':Hp}{G G' G'':AH}{σ σ':St}{ρ ρ':Vu}
def Gro.sM(g:Gro Z A n H A' n' H'):∀a,HM Z A n a->H a≠none->HM Z A' n' a:=λa m h=>⟨m.1,λk hk e=>by
 by_cases c:k<n
 .exact m.2 k c (by rw[<- g.agr k c];exact e)
 .exact h (e▸g.fresh k (by omega) hk)⟩
def Gro.same(s:zr H H'):Gro Z A n H A n H':=⟨L5 _,λ_ _=>rfl,λk a b=>absurd b (by omega),s.fr,λa h=>zr.none s h⟩
def Gro.refl:Gro Z A n H A n H:=Gro.same (zr.refl _)
def Gro.trans(g:Gro Z A n H A' n' H')(k:Gro Z A' n' H' A'' n'' H''):Gro Z A n H A'' n'' H'':=by
 refine⟨O5 g.le k.le,λj hj=>(k.agr j (N5 hj g.le)).trans (g.agr j hj),λj h1 h2=>?_,λa o h m=>?_,λa h=>g.dom a (k.dom a h)⟩
 .by_cases c:j<n'
  .rw[k.agr j c];exact g.fresh j h1 c
  .exact g.dom _ (k.fresh j (by omega) h2)
 .refine k.fr a o (g.fr a o h m) (m.imp (λm=>g.sM a m (by rw[h];exact λz=>by cases z)) id)
def YF.gro(g:Gro Z A n H A' n' H')(h:YF W (HM Z A n) A n H x v):YF W (HM Z A' n') A' n' H' x v:=h.gen g.fr g.sM g.le g.agr
def HR.gro(R:HR Z A H σ ρ G)(h:HH Z A' H' G')(g:Gro Z A G.length H A' G'.length H'):HR Z A' H' σ ρ G':=
 ⟨h,R.len,λi x e=>let⟨v,h1,h2⟩:=R.var i x e;⟨v,h1,h2.gro g⟩⟩
def HH.ob(h:HH Z A H G)(hk:k<G.length):∃o,H (A k)=some o:=(h.cell k _ (M5 hk)).ob
def HH.keep(h:HH Z A H G)(s:zr H H'):HH Z A H' G:=⟨h.same.trans s,λk c e=>by
 have q:=h.cell k c e;obtain⟨o,ho⟩:=q.ob;exact q.gen ((s _ _ ho).trans ho.symm) s.fr (λ_ m _=>m) (L5 _) λ_ _=>rfl,h.inj,h.own⟩
def HH.new(h:HH Z A H G):New (HM Z A G.length) H:=λp hp=>⟨.inr (zr.none h.same hp),λk hk e=>by
 obtain⟨o,ho⟩:=h.ob hk;rw[e,hp]at ho;cases ho⟩
def HR.keep(R:HR Z A H σ ρ G)(s:zr H H'):HR Z A H' σ ρ G:=R.gro (R.toHH.keep s) (Gro.same s)
def exA(A:HQ)(n:Nat)(p:Addr):Nat->Addr:=λk=>if k=n then p else A k
def V5:exA A n p n=p:=if_pos rfl
def KA(h:k<n):exA A n p k=A k:=if_neg (by omega)
def Gro.ext(s:zr H H')(hp:H p=none):Gro Z A n H (exA A n p) (n+1) H':=
 ⟨T8 _,λk hk=>KA hk,λk h1 h2=>by rw[show k=n by omega,V5];exact hp,s.fr,λa h=>zr.none s h⟩
def HH.alloc(h:HH Z A H G)(s:zr H H')(hp:H p=none)(hc:dC Z.W (HM Z (exA A G.length p) (G.length+1)) (exA A G.length p) (G.length+1) H' p c):HH Z (exA A G.length p) H' (G++[c]):=by
 have g:Gro Z A G.length H (exA A G.length p) (G.length+1) H':=Gro.ext s hp;have hl:(G++[c]).length=G.length+1:=by simp
 have np:∀k,k<G.length->A k≠p:=λk hk e=>by obtain⟨o,ho⟩:=h.ob hk;rw[e,hp]at ho;cases ho
 refine⟨h.same.trans s,λk d e=>?_,λj k hj hk e=>?_,λk hk=>?_⟩
 .rw[hl];by_cases hk:k<G.length
  .rw[T4 hk]at e;have q:=h.cell k d e;obtain⟨o,ho⟩:=q.ob;rw[KA hk];exact q.gen ((s _ _ ho).trans ho.symm) g.fr g.sM g.le g.agr
  .have e2:=(M9.mp e).1;have ek:k=G.length:=by omega
   subst ek;rw[a07 (L5 _),Nat.sub_self]at e;cases e;rw[V5];exact hc
 .rw[hl]at hj hk;by_cases c1:j=G.length
  .by_cases c2:k=G.length
   .rw[c1,c2]
   .rw[c1,V5,KA (by omega)]at e;exact absurd e.symm (np k (by omega))
  .by_cases c2:k=G.length
   .rw[c2,V5,KA (by omega)]at e;exact absurd e (np j (by omega))
   .rw[KA (by omega),KA (by omega)]at e;exact h.inj j k (by omega) (by omega) e
 .rw[hl]at hk;by_cases c1:k=G.length
  .rw[c1,V5];exact zr.none h.same hp
  .rw[KA (by omega)];exact h.own k (by omega)
def HH.frw(h:HH Z A H G)(hk:k<G.length)(h0:H (A k)=Option.some o0)(n0:¬Imm o0):Gro Z A G.length H A G.length (upd H (A k) o):=by
 refine⟨L5 _,λ_ _=>rfl,λk a b=>absurd b (by omega),λa q e m=>?_,λa e=>?_⟩
 .have:a≠A k:=λz=>by
   rcases m with m|m
   .exact m.2 k hk z.symm
   .rw[z,h0]at e;cases e;exact n0 m
  rw[zi this];exact e
 .by_cases z:a=A k
  .rw[z,zg]at e;cases e
  .rw[zi z]at e;exact e
def HH.write(h:HH Z A H G)(hk:k<G.length)(h0:H (A k)=Option.some o0)(n0:¬Imm o0)(hc:dC Z.W (HM Z A G.length) A G.length (upd H (A k) o) (A k) c):HH Z A (upd H (A k) o) (G.set k c):=by
 have g:=h.frw (o:=o) hk h0 n0;have hl:(G.set k c).length=G.length:=P6 ..;refine⟨λa q e=>?_,λj d e=>?_,λi j hi hj=>h.inj i j (hl▸hi) (hl▸hj),λj hj=>h.own j (hl▸hj)⟩
 .have:a≠A k:=λz=>by rw[z,h.own k hk]at e;cases e
  rw[zi this];exact h.same a q e
 .rw[hl];by_cases hj:k=j
  .subst hj;rw[O4 hk]at e;cases e;exact hc
  .rw[O6 hj]at e;have jl:=(M9.mp e).1;exact(h.cell j d e).gen (zi λz=>hj (h.inj j k jl hk z).symm) g.fr g.sM g.le g.agr
def HR.set(R:HR Z A H σ ρ G)(hx:YF Z.W (HM Z A G.length) A G.length H x v):HR Z A H (σ.set i (Option.some v)) (ρ.set i (Option.some x)) G:=by
 refine⟨R.toHH,by rw[P6,P6];exact R.len,λj y e=>?_⟩;by_cases hij:i=j
 .subst hij;have hl:i<ρ.length:=by
   have:=(M9.mp e).1
   rwa [P6]at this
  rw[O4 hl]at e;cases e;exact⟨v,by rw[O4 (by rw[R.len];exact hl)],hx⟩
 .rw[O6 hij]at e ⊢;exact R.var j y e
end
inductive HX(α:Type)where
 |ok (a:α) (G:AH)|exc (c:Nat) (fs:Ig) (G:AH)|wall
def HX.bind{α β:Type}:HX α->(α->AH->HX β)->HX β
 |.ok a G,f=>f a G
 |.exc c fs G,_=>.exc c fs G
 |.wall,_=>.wall
def xm(Z:HC)(E:XK)(A:HQ)(n:Nat)(H:Hp)(c:Nat)(fs:Ig)(G':AH):Prop:=∀A' H' e dx es,HH Z A' H' G'->Gro Z A n H A' G'.length H'->H' e=some (XC e (Z.W.cls c) dx)->H' dx=some (XD dx es)->qS Z.W (HM Z A' G'.length) H' fs es->E (.ref e) (some dx) H'
def HPx{α:Type}(Z:HC)(E:XK)(A:HQ)(n:Nat)(H:Hp)(K:α->(Nat->Addr)->Hp->AH->Prop):HX α->Prop
 |.ok x G'=>∀A' H',HH Z A' H' G'->Gro Z A n H A' G'.length H'->K x A' H' G'
 |.exc c fs G'=>xm Z E A n H c fs G'
 |.wall=>False
section
variable {α β:Type}{K:β->(Nat->Addr)->Hp->AH->Prop}{K':α->(Nat->Addr)->Hp->AH->Prop}
def xm.gro(h:xm Z E A n H c fs G)(g:Gro Z A n H A' n' H'):xm Z E A' n' H' c fs G:=λA2 H2 e dx es h2 g2=>h A2 H2 e dx es h2 (g.trans g2)
def HPx.gro{o:HX β}(h:HPx Z E A n H K o)(g:Gro Z A n H A' n' H'):HPx Z E A' n' H' K o:=by
 cases o with
 |ok x G'=>exact λA2 H2 h2 g2=>h A2 H2 h2 (g.trans g2)
 |exc c fs G'=>exact xm.gro h g
 |wall=>exact h
def HPx.bind{o:HX α}{f:α->AH->HX β}(h:HPx Z E A n H K (o.bind f))(k:∀x A' H' G',HH Z A' H' G'->Gro Z A n H A' G'.length H'->HPx Z E A' G'.length H' K (f x G')->K' x A' H' G'):HPx Z E A n H K' o:=by
 cases o with
 |ok x G'=>exact λA2 H2 h2 g2=>k x A2 H2 G' h2 g2 (HPx.gro (o:=f x G') h g2)
 |exc c fs G'=>exact h
 |wall=>exact h
end
abbrev HME:=Vu->AH->HX HV
def KV'(Z:HC)(Q:VK):HV->(Nat->Addr)->Hp->AH->Prop:=λx A' H' G'=>∀v,YF Z.W (HM Z A' G'.length) A' G'.length H' x v->Q v H'
def HE(X:Cx)(W:RC)(E:XK)(e:HY)(m:HME):Prop:=X.K=W.K->∃te,PE X e te/\∀(Z:HC),Z.W=W->∀A H σ ρ G,HR Z A H σ ρ G->∀Q,HPx Z E A G.length H (KV' Z Q) (m ρ G)->te σ H Q
mutual
def imm:PV->Bool
 |.i _=>true | .s _=>true | .b _=>true | .n=>true
 |.t xs=>xn xs
 |.l _=>false | .d _=>false | .o _ _=>false | .x _ _=>false | .sc _=>false | .dt _=>false
def xn:List PV->Bool
 |[]=>true
 |x::xs=>imm x&&xn xs
end
def B7:List (Str×PV)->Bool
 |[]=>true
 |x::xs=>imm x.2&&B7 xs
section
variable {W:RC}{M M':HI}{A A':HQ}{n n':Nat}{H H':Hp}
mutual
def UI:∀{x:PV}{v:V},imm x=true->Rep W M H x v->Rep W M' H x v
 |.i _,_,_,h=>h
 |.s _,_,_,h=>h
 |.b _,_,_,h=>h
 |.n,_,_,h=>h
 |.t xs,_,e,h=>by unfold Rep at h ⊢;unfold imm at e;obtain⟨p,vs,e1,r,q⟩:=h;exact⟨p,vs,e1,r,UJ e q⟩
 |.l _,_,e,_=>by unfold imm at e;cases e
 |.d _,_,e,_=>by unfold imm at e;cases e
 |.o _ _,_,e,_=>by unfold imm at e;cases e
 |.x _ _,_,e,_=>by unfold imm at e;cases e
 |.sc _,_,e,_=>by unfold imm at e;cases e
 |.dt _,_,e,_=>by unfold imm at e;cases e
def UJ:∀{x:Ib}{v:HN},xn x=true->zP W M H x v->zP W M' H x v
 |[],_,_,h=>h
 |x::xs,_,e,h=>by unfold xn at e;simp only[Bool.and_eq_true]at e;obtain⟨v,r,e1,h1,h2⟩:=h;exact⟨v,r,e1,UI e.1 h1,UJ e.2 h2⟩
end
def Vv:∀{x:Ig}{v:Ik},B7 x=true->qS W M H x v->qS W M' H x v
 |[],_,_,h=>h
 |x::xs,_,e,h=>by unfold B7 at e;simp only[Bool.and_eq_true]at e;obtain⟨v,r,e1,h1,h2⟩:=h;exact⟨v,r,e1,UI e.1 h1,Vv e.2 h2⟩
def XW:List Bool->Vu->Option Sto
 |_,[]=>some []
 |[],_::ρ=>(XW [] ρ).map (none::·)
 |false::bs,_::ρ=>(XW bs ρ).map (none::·)
 |true::bs,some (.v x)::ρ=>(XW bs ρ).map (some x::·)
 |true::_,_=>none
def B8(f:HV->Option PV):List HV->Option (List PV)
 |[]=>some []
 |x::xs=>(f x).bind λy=>(B8 f xs).map (y::·)
def lq{κ:Type}(f:HV->Option PV):List (κ×HV)->Option (List (κ×PV))
 |[]=>some []
 |x::xs=>(f x.2).bind λy=>(lq f xs).map ((x.1,y)::·)
def YG(G:AH):Nat->HV->Option PV
 |0,_=>none
 |_+1,.v x=>some x
 |n+1,.t xs=>(B8 (YG G n) xs).map .t
 |n+1,.g k=>match G[k]? with
  |some (.l xs)=>(B8 (YG G n) xs).map .l
  |some (.d kvs)=>(lq (YG G n) kvs).map .d
  |some (.z kvs)=>(lq (YG G n) kvs).map .d
  |some (.o c fs)=>(lq (YG G n) fs).map (.o c)
  |_=>none
def V6(G:AH):List Bool->Vu->Option Sto
 |_,[]=>some []
 |[],_::ρ=>(V6 G [] ρ).map (none::·)
 |false::bs,_::ρ=>(V6 G bs ρ).map (none::·)
 |true::bs,some x::ρ=>(YG G 8 x).bind λy=>(V6 G bs ρ).map (some y::·)
 |true::_,none::_=>none
def Jg{f:HV->Option PV}{N:HI}(hf:∀x v y,YF W M A n H x v->f x=some y->Rep W N H y v):∀{xs:List HV}{vs:HN}{ys:Ib},v_ W M A n H xs vs->B8 f xs=some ys->zP W N H ys vs
 |[],_,_,h,e=>by cases e;exact h
 |x::xs,_,ys,h,e=>by obtain⟨v,r,rfl,h1,h2⟩:=h;unfold B8 at e;obtain⟨y,e1,e⟩:=O1.mp e;obtain⟨zs,e2,rfl⟩:=v4.mp e;exact⟨v,r,rfl,hf _ _ _ h1 e1,Jg hf h2 e2⟩
def Jh{f:HV->Option PV}{N:HI}(hf:∀x v y,YF W M A n H x v->f x=some y->Rep W N H y v):∀{xs:List (Key×HV)}{vs:HP}{ys:Ic},qD (YF W M A n H) xs vs->lq f xs=some ys->qe W N H ys vs
 |[],_,_,h,e=>by cases e;exact h
 |x::xs,_,ys,h,e=>by obtain⟨v,r,rfl,h1,h2⟩:=h;unfold lq at e;obtain⟨y,e1,e⟩:=O1.mp e;obtain⟨zs,e2,rfl⟩:=v4.mp e;exact⟨v,r,rfl,hf _ _ _ h1 e1,Jh hf h2 e2⟩
def UK{f:HV->Option PV}{N:HI}(hf:∀x v y,YF W M A n H x v->f x=some y->Rep W N H y v):∀{xs:List (Str×HV)}{vs:Ik}{ys:Ig},qD (YF W M A n H) xs vs->lq f xs=some ys->qS W N H ys vs
 |[],_,_,h,e=>by cases e;exact h
 |x::xs,_,ys,h,e=>by obtain⟨v,r,rfl,h1,h2⟩:=h;unfold lq at e;obtain⟨y,e1,e⟩:=O1.mp e;obtain⟨zs,e2,rfl⟩:=v4.mp e;exact⟨v,r,rfl,hf _ _ _ h1 e1,UK hf h2 e2⟩
end
section
variable {Z:HC}{A:HQ}{H:Hp}{G:AH}{σ:St}{ρ:Vu}
def J9(h:HH Z A H G):∀(n:Nat)(x:HV)(v:V)(y:PV),YF Z.W (HM Z A G.length) A G.length H x v->YG G n x=some y->Rep Z.W (λ_=>True) H y v
 |0,_,_,_,_,e=>by cases e
 |n+1,.v x,v,y,r,e=>by cases e;exact Rep.sub r λ_ _ _=>trivial
 |n+1,.t xs,v,y,r,e=>by unfold YG at e;obtain⟨ys,e1,rfl⟩:=v4.mp e;unfold YF at r;obtain⟨p,vs,rfl,s,q⟩:=r;exact⟨p,vs,rfl,s,Jg (J9 h n) q e1⟩
 |n+1,.g k,v,y,r,e=>by
  obtain⟨hk,rfl⟩:=r;unfold YG at e;split at e
  .rename_i xs hc;obtain⟨ys,e1,rfl⟩:=v4.mp e;obtain⟨vs,h1,q⟩:=h.cell k _ hc;exact⟨A k,vs,rfl,trivial,h1,Jg (J9 h n) q e1⟩
  .rename_i xs hc;obtain⟨ys,e1,rfl⟩:=v4.mp e;obtain⟨vs,h1,q⟩:=h.cell k _ hc;exact⟨A k,vs,rfl,trivial,.inl h1,Jh (J9 h n) q e1⟩
  .rename_i xs hc;obtain⟨ys,e1,rfl⟩:=v4.mp e;obtain⟨o,vs,h1,q⟩:=h.cell k _ hc;exact⟨A k,vs,rfl,trivial,.inr ⟨o,h1⟩,Jh (J9 h n) q e1⟩
  .rename_i c xs hc;obtain⟨ys,e1,rfl⟩:=v4.mp e;obtain⟨dx,vs,h1,q⟩:=h.cell k _ hc;exact⟨A k,dx,vs,rfl,trivial,h1,UK (J9 h n) q e1⟩
  .cases e
def Ji:∀{bs:HW}{ρ:Vu}{r:Sto}{i:Nat}{x:PV},XW bs ρ=some r->r[i]?=some (some x)->ρ[i]?=some (some (.v x))
 |_,[],r,i,x,e,h=>by unfold XW at e;cases e;simp at h
 |[],_::ρ,r,i,x,e,h=>by
  unfold XW at e;obtain⟨r',e1,rfl⟩:=v4.mp e;cases i with
  |zero=>cases h
  |succ i=>rw[P2]at h ⊢;exact Ji e1 h
 |false::bs,_::ρ,r,i,x,e,h=>by
  unfold XW at e;obtain⟨r',e1,rfl⟩:=v4.mp e;cases i with
  |zero=>cases h
  |succ i=>rw[P2]at h ⊢;exact Ji e1 h
 |true::bs,some (.v y)::ρ,r,i,x,e,h=>by
  unfold XW at e;obtain⟨r',e1,rfl⟩:=v4.mp e;cases i with
  |zero=>cases h;rfl
  |succ i=>rw[P2]at h ⊢;exact Ji e1 h
 |true::bs,none::ρ,r,i,x,e,h=>by cases e
 |true::bs,some (.g _)::ρ,r,i,x,e,h=>by cases e
 |true::bs,some (.t _)::ρ,r,i,x,e,h=>by cases e
def Jj:∀{bs:HW}{ρ:Vu}{r:Sto},XW bs ρ=some r->r.length=ρ.length
 |_,[],r,e=>by unfold XW at e;cases e;rfl
 |[],_::ρ,r,e=>by unfold XW at e;obtain⟨r',e1,rfl⟩:=v4.mp e;rw[I0,I0,Jj e1]
 |false::bs,_::ρ,r,e=>by unfold XW at e;obtain⟨r',e1,rfl⟩:=v4.mp e;rw[I0,I0,Jj e1]
 |true::bs,some (.v y)::ρ,r,e=>by unfold XW at e;obtain⟨r',e1,rfl⟩:=v4.mp e;rw[I0,I0,Jj e1]
 |true::bs,none::ρ,r,e=>by cases e
 |true::bs,some (.g _)::ρ,r,e=>by cases e
 |true::bs,some (.t _)::ρ,r,e=>by cases e
def Vw:∀{bs:HW}{ρ:Vu}{r:Sto}{i:Nat}{x:PV},V6 G bs ρ=some r->r[i]?=some (some x)->∃y,ρ[i]?=some (some y)/\YG G 8 y=some x
 |_,[],r,i,x,e,h=>by unfold V6 at e;cases e;simp at h
 |[],_::ρ,r,i,x,e,h=>by
  unfold V6 at e;obtain⟨r',e1,rfl⟩:=v4.mp e;cases i with
  |zero=>cases h
  |succ i=>rw[P2]at h ⊢;exact Vw e1 h
 |false::bs,_::ρ,r,i,x,e,h=>by
  unfold V6 at e;obtain⟨r',e1,rfl⟩:=v4.mp e;cases i with
  |zero=>cases h
  |succ i=>rw[P2]at h ⊢;exact Vw e1 h
 |true::bs,some y::ρ,r,i,x,e,h=>by
  unfold V6 at e;obtain⟨z,e0,e⟩:=O1.mp e;obtain⟨r',e1,rfl⟩:=v4.mp e;cases i with
  |zero=>cases h;exact⟨y,rfl,e0⟩
  |succ i=>rw[P2]at h ⊢;exact Vw e1 h
 |true::bs,none::ρ,r,i,x,e,h=>by cases e
def Vx:∀{bs:HW}{ρ:Vu}{r:Sto},V6 G bs ρ=some r->r.length=ρ.length
 |_,[],r,e=>by unfold V6 at e;cases e;rfl
 |[],_::ρ,r,e=>by unfold V6 at e;obtain⟨r',e1,rfl⟩:=v4.mp e;rw[I0,I0,Vx e1]
 |false::bs,_::ρ,r,e=>by unfold V6 at e;obtain⟨r',e1,rfl⟩:=v4.mp e;rw[I0,I0,Vx e1]
 |true::bs,some y::ρ,r,e=>by unfold V6 at e;obtain⟨z,e0,e⟩:=O1.mp e;obtain⟨r',e1,rfl⟩:=v4.mp e;rw[I0,I0,Vx e1]
 |true::bs,none::ρ,r,e=>by cases e
def DK{S:HF}(hS:S.all (·==0)=true){i c:Nat}(h:S[i]?=some c):c=0:=by have:=a0H.mp hS c (a00 h);simpa using this
def DL(hl:σ.length=r.length)(hS:S.all (·==0)=true)(hv:∀(i:Nat) x,r[i]?=some (some x)->∃v,σ[i]?=some (some v)/\Rep Z.W M H x v):Rel Z.W (xb H M) S (λ_=>0) H σ r:=by
 have n2:∀{k:Nat},S[k]?=some 2->False:=λ{k} h=>by have:=DK hS h;omega
 have n1:∀{k:Nat},S[k]?=some 1->False:=λ{k} h=>by have:=DK hS h;omega
 refine⟨zr.refl _,hl,λi x e=>?_,λi hi=>(n2 hi).elim,λi j hi=>(n2 hi).elim,λhi=>(n2 hi).elim,λa h=>h.elim,λi hi=>(n2 hi).elim⟩;obtain⟨v,h1,h2⟩:=hv i x e;exact⟨v,h1,λz=>(n2 z).elim,λz=>(n1 z).elim,λ_ _=>h2.sub λa m _=>⟨⟨.inl m,id⟩,λi hi=>(n2 hi).elim⟩⟩
def DM(R:HR Z A H σ ρ G)(e:XW bs ρ=some r)(hS:S.all (·==0)=true):Rel Z.W (xb H (HM Z A G.length)) S (λ_=>0) H σ r:=
 DL (R.len.trans (Jj e).symm) hS λi x h=>R.var i _ (Ji e h)
def DN(R:HR Z A H σ ρ G)(e:V6 G bs ρ=some r)(hS:S.all (·==0)=true):Rel Z.W (xb H λ_=>True) S (λ_=>0) H σ r:=
 DL (R.len.trans (Vx e).symm) hS λi x h=>by obtain⟨y,h1,h2⟩:=Vw e h;obtain⟨v,h3,h4⟩:=R.var i y h1;exact⟨v,h3,J9 R.toHH _ _ _ _ h4 h2⟩
def DO(h:HH Z A H G):∀a,Mof (xb H (HM Z A G.length)) S P a->HM Z A G.length a:=λa m=>m.1.1.elim id λn=>h.new a n
end
def hP(bs:HW)(m:ME):HME:=λρ G=>match XW bs ρ with
 |some r=>match m r with
  |.ok x=>.ok (.v x) G
  |.exc c fs=>.exc c fs G
  |.wall=>.wall
 |none=>match V6 G bs ρ with
  |some r=>match m r with
   |.ok x=>if imm x=true then .ok (.v x) G else .wall
   |.exc c fs=>if B7 fs=true then .exc c fs G else .wall
   |.wall=>.wall
  |none=>.wall
def vK{κ:Type}(xs:List (κ×PV)):List (κ×HV):=xs.map λp=>(p.1,.v p.2)
def A_:PV->Option Cell
 |.l xs=>some (.l (xs.map .v))
 |.d kvs=>some (.d (vK kvs))
 |.o c fs=>some (.o c (vK fs))
 |_=>none
def GG:PV->Bool
 |.l xs=>xn xs
 |.d kvs=>xn (kvs.map (·.2))
 |.o _ fs=>B7 fs
 |_=>false
def hF(bs:HW)(m:ME):HME:=λρ G=>match XW bs ρ with
 |some r=>match m r with
  |.ok x=>match A_ x with
   |some c=>.ok (.g G.length) (G++[c])
   |none=>.wall
  |.exc c fs=>.exc c fs G
  |.wall=>.wall
 |none=>match V6 G bs ρ with
  |some r=>match m r with
   |.ok x=>if GG x=true then match A_ x with
    |some c=>.ok (.g G.length) (G++[c])
    |none=>.wall else .wall
   |.exc c fs=>if B7 fs=true then .exc c fs G else .wall
   |.wall=>.wall
  |none=>.wall
section
variable {W:RC}{M M':HI}{A:HQ}{n:Nat}{H:Hp}
def DP:∀{xs:Ib}{vs:HN},zP W M H xs vs->v_ W M A n H (xs.map .v) vs
 |[],_,h=>h
 |_::_,_,⟨v,r,e,h1,h2⟩=>⟨v,r,e,h1,DP h2⟩
def DQ:∀{xs:Ic}{vs:HP},qe W M H xs vs->qD (YF W M A n H) (vK xs) vs
 |[],_,h=>h
 |_::_,_,⟨v,r,e,h1,h2⟩=>⟨v,r,e,h1,DQ h2⟩
def DR:∀{xs:Ig}{vs:Ik},qS W M H xs vs->qD (YF W M A n H) (vK xs) vs
 |[],_,h=>h
 |_::_,_,⟨v,r,e,h1,h2⟩=>⟨v,r,e,h1,DR h2⟩
def fW:∀{x:Ic}{v:HP},xn (x.map (·.2))=true->qe W M H x v->qe W M' H x v
 |[],_,_,h=>h
 |x::xs,_,e,h=>by rw[M3]at e;unfold xn at e;simp only[Bool.and_eq_true]at e;obtain⟨v,r,e1,h1,h2⟩:=h;exact⟨v,r,e1,UI e.1 h1,fW e.2 h2⟩
def DS(hx:VN W M H p x)(e:A_ x=some c):dC W M A n H p c:=by
 cases x with
 |l xs=>cases e;obtain⟨vs,h,r⟩:=hx;exact⟨vs,h,DP r⟩
 |d xs=>cases e;obtain⟨vs,h,r⟩:=hx;exact⟨vs,h,DQ r⟩
 |o k xs=>cases e;obtain⟨dx,vs,h,r⟩:=hx;exact⟨dx,vs,h,DR r⟩
 |_=>cases e
def sX(e:GG x=true)(hx:VN W M H p x):VN W M' H p x:=by
 cases x with
 |l xs=>obtain⟨vs,h,r⟩:=hx;exact⟨vs,h,UJ e r⟩
 |d xs=>obtain⟨vs,h,r⟩:=hx;exact⟨vs,h,fW e r⟩
 |o k xs=>obtain⟨dx,vs,h,r⟩:=hx;exact⟨dx,vs,h,Vv e r⟩
 |_=>cases e
end
section
variable {X:Cx}{W:RC}{E:XK}{fr:Bool}{S:HF}{e a b:HY}{es:HL}{m:ME}{t:MT}{bs:HW}{pos p:Pos}{i:Nat}{m1 m2:HME}{ms:HMA}{t1 t2:HMT}
def sY(h:HH Z A H G)(q:xm Z E A G.length H c fs G)(hM:∀H2 es,qS Z.W (λa=>M a\/H a=none) H2 fs es->qS Z.W (HM Z A G.length) H2 fs es):XPo ⟨Z.W,E,fr⟩ (xb H M) c fs:=
 λe dx es H2 s h1 h2 h3=>q A H2 e dx es (h.keep s) (Gro.same s) h1 h2 (hM H2 es h3)
def Hq(bs:HW)(h:EM X ⟨W,E,fr⟩ S false e m)(hS:S.all (·==0)=true:=by rfl):HE X W E e (hP bs m):=λhK=>by
 obtain⟨te,a1,a2⟩:=h hK;refine⟨te,a1,λZ hZ A H σ ρ G R Q q=>?_⟩;subst hZ;unfold hP at q;split at q
 .rename_i r hr;refine a2 _ _ H σ r (DM R hr hS) Q ?_;revert q;cases m r with
  |ok x=>exact λq v H2 s rx=>q A H2 (R.toHH.keep s) (Gro.same s) v (rx.rep.sub λa m _=>DO R.toHH a m)
  |exc c fs=>exact λq=>sY R.toHH q λH2 es h=>h.sub λa m _=>m.elim id λn=>R.toHH.new a n
  |wall=>exact id
 .split at q
  .rename_i r hr;refine a2 _ _ H σ r (DN R hr hS) Q ?_;revert q;cases m r with
   |ok x=>
    intro q v H2 s rx;dsimp only at q;split at q
    .rename_i hi;exact q A H2 (R.toHH.keep s) (Gro.same s) v (UI hi rx.rep)
    .exact q.elim
   |exc c fs=>
    intro q;dsimp only at q;split at q
    .rename_i hi;exact sY R.toHH q λH2 es h=>Vv hi h
    .exact q.elim
   |wall=>exact id
  .exact q.elim
def nS{Z:HC}{A:HQ}{H H2:Hp}{G:AH}{c:Cell}{p:Addr}{Q:VK}(h:HH Z A H G)(s:zr H H2)(hp:H p=none)(hc:dC Z.W (HM Z (exA A G.length p) (G.length+1)) (exA A G.length p) (G.length+1) H2 p c)(q:HPx Z E A G.length H (KV' Z Q) (.ok (.g G.length) (G++[c]))):Q (.ref p) H2:=by
 have hl:(G++[c]).length=G.length+1:=by simp
 refine q _ H2 (h.alloc s hp hc) (by rw[hl];exact Gro.ext s hp) _ ⟨by rw[hl];exact a0r _,?_⟩;rw[V5]
def DT{Z:HC}{A:HQ}{n:Nat}{p a:Addr}(m:HM Z A n a)(h:a≠p):HM Z (exA A n p) (n+1) a:=⟨m.1,λk hk e=>by
 by_cases c:k=n
 .rw[c,V5]at e;exact h e.symm
 .rw[KA (by omega)]at e;exact m.2 k (by omega) e⟩
def Hr(bs:HW)(a2:LFr ⟨W,E,fr⟩ S te m)(hS:S.all (·==0)=true:=by rfl):∀(Z:HC),Z.W=W->∀A H σ ρ G,HR Z A H σ ρ G->∀Q,HPx Z E A G.length H (KV' Z Q) (hF bs m ρ G)->te σ H Q:=λZ hZ A H σ ρ G R Q q=>by
 subst hZ;unfold hF at q;split at q
 .rename_i r hr;refine a2 _ _ H σ r (DM R hr hS) Q ?_;revert q;cases m r with
  |ok x=>
   intro q v H2 s rx;dsimp only at q;split at q
   .rename_i c hc;obtain⟨p,rfl,hp,ra⟩:=rx;exact nS R.toHH s hp (DS (ra.gen rfl Fr.refl λa m _=>DT (DO R.toHH a m.1) m.2) hc) q
   .exact q.elim
  |exc c fs=>exact λq=>sY R.toHH q λH2 es h=>h.sub λa m _=>m.elim id λn=>R.toHH.new a n
  |wall=>exact id
 .split at q
  .rename_i r hr;refine a2 _ _ H σ r (DN R hr hS) Q ?_;revert q;cases m r with
   |ok x=>
    intro q v H2 s rx;dsimp only at q;split at q
    .rename_i hi;split at q
     .rename_i c hc;obtain⟨p,rfl,hp,ra⟩:=rx;exact nS R.toHH s hp (DS (sX hi ra) hc) q
     .exact q.elim
    .exact q.elim
   |exc c fs=>
    intro q;dsimp only at q;split at q
    .rename_i hi;exact sY R.toHH q λH2 es h=>Vv hi h
    .exact q.elim
   |wall=>exact id
  .exact q.elim
def Hs(bs:HW)(h:FM X ⟨W,E,fr⟩ S e m)(hS:S.all (·==0)=true:=by rfl):HE X W E e (hF bs m):=λhK=>by obtain⟨te,a1,a2⟩:=h hK;exact⟨te,a1,Hr bs a2 hS⟩
def fX(i:Nat):HME:=λρ G=>match ρ[i]? with
 |some (some x)=>.ok x G
 |_=>.wall
def XX(h:PE X e (cR i)):HE X W E e (fX i):=λ_=>⟨_,h,λZ hZ A H σ ρ G R Q q=>by
 unfold fX at q;split at q
 .rename_i x hx;obtain⟨v,h1,h2⟩:=R.var i x hx;exact⟨v,h1,q A H R.toHH Gro.refl v h2⟩
 .exact q.elim⟩
def v_.len{W:RC}{M:HI}{A:HQ}{n:Nat}{H:Hp}:∀{xs:List HV}{vs:HN},v_ W M A n H xs vs->vs.length=xs.length
 |[],_,h=>by cases(show _=_ from h);rfl
 |x::xs,_,h=>by obtain⟨v,r,rfl,_,h2⟩:=h;rw[I0,I0,v_.len h2]
variable {rest:HL}
end
section
variable {W:RC}{M:HI}{A:HQ}{n:Nat}{H:Hp}
def v_.get:∀{xs:List HV}{vs:HN}{i:Nat}{x:HV},v_ W M A n H xs vs->xs[i]?=some x->∃v,vs[i]?=some v/\YF W M A n H x v
 |[],_,_,_,_,e=>by simp at e
 |x::xs,_,0,y,h,e=>by obtain⟨v,r,rfl,h1,h2⟩:=h;simp at e;subst e;exact⟨v,rfl,h1⟩
 |x::xs,_,i+1,y,h,e=>by obtain⟨v,r,rfl,h1,h2⟩:=h;simp only[List.getElem?_cons_succ]at e ⊢;exact v_.get h2 e
variable {κ:Type}[DecidableEq κ] {R:HV->V->Prop}
def qD.len:∀{kvs:List (κ×HV)}{es:List (κ×V)},qD R kvs es->es.length=kvs.length
 |[],_,h=>by cases(show _=_ from h);rfl
 |_::_,_,⟨v,q,e,h1,h2⟩=>by subst e;rw[I0,I0,qD.len h2]
def qD.lookup:∀{kvs:List (Str×HV)}{es:Ik}{f:Str}{x:HV},qD R kvs es->kvs.lookup f=some x->∃v,es.lookup f=some v/\R x v
 |[],_,_,_,_,e=>by cases e
 |kx::r,_,f,x,h,e=>by
  obtain⟨v,q,rfl,h1,h2⟩:=h;rw[O9]at e ⊢;cases c:(f==kx.1)with
  |true=>rw[c]at e;cases e;exact⟨v,rfl,h1⟩
  |false=>rw[c]at e;exact qD.lookup h2 e
def qD.put{k:κ}{a:List (κ×HV)}{es:List (κ×V)}(h:qD R a es)(hx:R x v):qD R (dput a k x) (putK es k v):=by
 have key:∀{a:List (κ×HV)}{es:List (κ×V)},qD R a es->a.any (λkv=>decide (kv.1=k))=es.any (λkv=>decide (kv.1=k))/\qD R (a.map λkv=>if kv.1=k then(kv.1,x)else kv) (es.map λkv=>if kv.1=k then(kv.1,v)else kv)/\qD R (a++[(k,x)]) (es++[(k,v)]):=by
  intro a
  induction a with
  |nil=>intro es h;cases(show _=_ from h);exact⟨rfl,rfl,v,[],rfl,hx,rfl⟩
  |cons kx a ih=>
   intro es h;obtain⟨u,q,rfl,h1,h2⟩:=h;obtain⟨i1,i2,i3⟩:=ih h2;refine⟨by rw[T7,T7,i1],?_,⟨u,_,rfl,h1,i3⟩⟩;rw[M3,M3];by_cases e:kx.1=k
   .rw[if_pos e,if_pos e];exact⟨v,_,rfl,hx,i2⟩
   .rw[if_neg e,if_neg e];exact⟨u,_,rfl,h1,i2⟩
 obtain⟨i1,i2,i3⟩:=key h;unfold dput putK;rw[i1];split
 .exact i2
 .exact i3
end
def DV(cs:HF)(f:Str)(m:HME):HME:=λρ G=>(m ρ G).bind λx G1=>match x with
 |.g k=>match G1[k]? with
  |some (.o c fs)=>if c∈cs then match fs.lookup f with
   |some z=>.ok z G1
   |none=>.wall else .wall
  |_=>.wall
 |_=>.wall
def hsp(W:RC)(n:Nat)(f:List HV->AH->HX HV):Sp:=λvs H Q E=>∃(Z:HC)(A:HQ)(G:AH)(xs:List HV),Z.W=W/\xs.length=n/\HH Z A H G/\v_ Z.W (HM Z A G.length) A G.length H xs vs/\HPx Z E A G.length H (KV' Z Q) (f xs G)
def Ba:∀vs H Q E,hsp W n f vs H Q E->vs.length=n:=λvs H Q E ⟨Z,A,G,xs,_,hl,_,r,_⟩=>r.len.trans hl
def DW(h:HE X W E e m1)(hc:∀c∈cs,Cls X.K (W.cls c)/\jF X.K (W.cls c) fn)(hb:attributeBase e fn X.env (eval e X.env)=eval e X.env:=by rfl):HE X W E (.Attribute e fn pos) (DV cs fn m1):=λhK=>by
 obtain⟨te,a1,a2⟩:=h hK;refine⟨_,uK a1 hb,λZ hZ A H σ ρ G R Q q=>a2 Z hZ A H σ ρ G R _ (HPx.bind q λx A1 H1 G1 h1 g1 q1 v rx=>?_)⟩;subst hZ;split at q1
 .rename_i k;obtain⟨hk,rfl⟩:=rx;split at q1
  .rename_i c fs hG;obtain⟨dx,vs,hp,r⟩:=h1.cell k _ hG;split at q1
   .rename_i hcs;split at q1
    .rename_i z hz;obtain⟨w,hw,rw'⟩:=r.lookup hz;exact⟨_,_,dx,vs,w,rfl,hp,(hc c hcs).1,(hc c hcs).2,hw,q1 A1 H1 h1 Gro.refl w rw'⟩
    .exact q1.elim
   .exact q1.elim
  .exact q1.elim
 .exact q1.elim
inductive HFw where
 |nx (ρ:Vu) (G:AH)|rt (x:HV) (G:AH)|bk (ρ:Vu) (G:AH)|ct (ρ:Vu) (G:AH)|exc (c:Nat) (fs:Ig) (G:AH)|wall
abbrev HMS:=Vu->AH->HFw
def HPs(Z:HC)(E:XK)(A:HQ)(n:Nat)(H:Hp)(D:Ends):HFw->Prop
 |.nx ρ' G'=>∀A' H' σ',HR Z A' H' σ' ρ' G'->Gro Z A n H A' G'.length H'->D.nx σ' H'
 |.rt x G'=>∀A' H' v,HH Z A' H' G'->Gro Z A n H A' G'.length H'->YF Z.W (HM Z A' G'.length) A' G'.length H' x v->D.rt v H'
 |.bk ρ' G'=>∀A' H' σ',HR Z A' H' σ' ρ' G'->Gro Z A n H A' G'.length H'->D.bk σ' H'
 |.ct ρ' G'=>∀A' H' σ',HR Z A' H' σ' ρ' G'->Gro Z A n H A' G'.length H'->D.ct σ' H'
 |.exc c fs G'=>xm Z E A n H c fs G'
 |.wall=>False
def HX.fw{α:Type}:HX α->(α->AH->HFw)->HFw
 |.ok a G,f=>f a G
 |.exc c fs G,_=>.exc c fs G
 |.wall,_=>.wall
def LHS(W:RC)(E:XK)(ts:TS)(m:HMS):Prop:=∀(Z:HC),Z.W=W->∀A H σ ρ G,HR Z A H σ ρ G->∀D,HPs Z E A G.length H D (m ρ G)->ts D σ H
def HS(X:Cx)(W:RC)(E:XK)(st:IA)(m:HMS):Prop:=X.K=W.K->∃ts,PS X st ts/\LHS W E ts m
def HSs(X:Cx)(W:RC)(E:XK)(st:Iq)(m:HMS):Prop:=X.K=W.K->∃ts,PSs X st ts/\LHS W E ts m
section
variable {α:Type}{K':α->(Nat->Addr)->Hp->AH->Prop}
def HPs.gro(h:HPs Z E A n H D o)(g:Gro Z A n H A' n' H'):HPs Z E A' n' H' D o:=by
 cases o with
 |nx ρ G=>exact λA2 H2 σ2 r g2=>h A2 H2 σ2 r (g.trans g2)
 |rt x G=>exact λA2 H2 v r g2=>h A2 H2 v r (g.trans g2)
 |bk ρ G=>exact λA2 H2 σ2 r g2=>h A2 H2 σ2 r (g.trans g2)
 |ct ρ G=>exact λA2 H2 σ2 r g2=>h A2 H2 σ2 r (g.trans g2)
 |exc c fs G=>exact xm.gro h g
 |wall=>exact h
def HPs.bind{o:HX α}{f:α->AH->HFw}(h:HPs Z E A n H D (o.fw f))(k:∀x A' H' G',HH Z A' H' G'->Gro Z A n H A' G'.length H'->HPs Z E A' G'.length H' D (f x G')->K' x A' H' G'):HPx Z E A n H K' o:=by
 cases o with
 |ok x G'=>exact λA2 H2 h2 g2=>k x A2 H2 G' h2 g2 (HPs.gro (o:=f x G') h g2)
 |exc c fs G'=>exact h
 |wall=>exact h
end
def rh(a b:HMS):HMS:=λρ G=>match a ρ G with
 |.nx ρ' G'=>b ρ' G'
 |.rt x G'=>.rt x G'
 |.bk ρ' G'=>.bk ρ' G'
 |.ct ρ' G'=>.ct ρ' G'
 |.exc c fs G'=>.exc c fs G'
 |.wall=>.wall
def iG(m:HME):HMS:=λρ G=>(m ρ G).fw λ_ G1=>.nx ρ G1
section
variable {X:Cx}{W:RC}{E:XK}{e a b o:HY}{es:HL}{pos p pos' qE:Pos}{m m1 m2:HME}{ms:HMA}{t1:HMT}{s1 s2:HMS}{x:Str}{st:IA}{sts stt:Iq}{i:Nat}
def DX(h1:LHS W E t s1)(h2:LHS W E u s2):LHS W E (E9 t u) (rh s1 s2):=λZ hZ A H σ ρ G R D q=>by
 refine h1 Z hZ A H σ ρ G R _ ?_;unfold rh at q;revert q;cases s1 ρ G with
 |nx ρ' G'=>exact λq A' H' σ' R' g=>h2 Z hZ A' H' σ' ρ' G' R' D (HPs.gro (o:=s2 ρ' G') q g)
 |rt x G'=>exact id
 |bk ρ' G'=>exact id
 |ct ρ' G'=>exact id
 |exc c fs G'=>exact id
 |wall=>exact id
def Jk(h1:HS X W E st s1)(h2:HSs X W E sts s2):HSs X W E (st::sts) (rh s1 s2):=λhK=>by obtain⟨t,a1,a2⟩:=h1 hK;obtain⟨u,b1,b2⟩:=h2 hK;exact⟨_,Ul a1 b1,DX a2 b2⟩
def nU(h1:HS X W E st s1):HSs X W E [st] s1:=λhK=>by obtain⟨t,a1,a2⟩:=h1 hK;exact⟨_,jT a1,a2⟩
def nV(h:HE X W E e m)(hs:swapsWith e none pos.line X.env=pure false:=by rfl):HS X W E (.Expr e pos) (iG m):=λhK=>by obtain⟨te,a1,a2⟩:=h hK;exact⟨_,cS a1 hs,λZ hZ A H σ ρ G R D q=>a2 Z hZ A H σ ρ G R _ (HPs.bind q λx A1 H1 G1 h1 g1 q1 v rx=>q1 A1 H1 σ (R.gro h1 g1) Gro.refl)⟩
def GH{Z:HC}{A:HQ}{H:Hp}{G:AH}{σ:St}{ρ:Vu}{D:Ends}{k:Nat}{c:Cell}{o o0:HO}(R:HR Z A H σ ρ G)(hk:k<G.length)(h0:H (A k)=some o0)(n0:¬Imm o0)(hc:dC Z.W (HM Z A G.length) A G.length (upd H (A k) o) (A k) c)(q:HPs Z E A G.length H D (.nx ρ (G.set k c))):D.nx σ (upd H (A k) o):=by
 have g:Gro Z A G.length H A (G.set k c).length (upd H (A k) o):=by rw[P6];exact R.toHH.frw hk h0 n0
 exact q A _ σ (R.gro (R.toHH.write hk h0 n0 hc) g) g
def DY(mo mk mv:HME):HMS:=λρ G=>(mv ρ G).fw λy G1=>(mo ρ G1).fw λx G2=>(mk ρ G2).fw λz G3=>match x,z with
 |.g k,.v z=>match G3[k]?,pk z with
  |some (.d kvs),some q=>if kvs.length<sizeLine then .nx ρ (G3.set k (.d (dput kvs q y)))else .wall
  |_,_=>.wall
 |_,_=>.wall
def DZ(hu:X.A.units+1<cLine)(ho:HE X W E o m)(hk:HE X W E a m1)(hv:HE X W E e m2)(hs:swapsWith e (some (.Subscript o a pos')) pos.line X.env=pure false:=by rfl):
  HS X W E (.Assign [.Subscript o a pos'] e pos) (DY m m1 m2):=λhK=>by
 obtain⟨to,o1,o2⟩:=ho hK;obtain⟨ta,a1,a2⟩:=hk hK;obtain⟨tv,b1,b2⟩:=hv hK;refine⟨_,cZ hu o1 a1 b1 hs,λZ hZ A H σ ρ G R D q=>b2 Z hZ A H σ ρ G R _ (HPs.bind q λy A1 H1 G1 h1 g1 q1 v ry=>?_)⟩;have R1:=R.gro h1 g1;refine o2 Z hZ A1 H1 σ ρ G1 R1 _ (HPs.bind q1 λx A2 H2 G2 h2 g2 q2 w rx=>?_);have R2:=R1.gro h2 g2;refine a2 Z hZ A2 H2 σ ρ G2 R2 _ (HPs.bind q2 λz A3 H3 G3 h3 g3 q3 u rz=>?_);split at q3
 .rename_i k z;obtain⟨hk,rfl⟩:=rx;split at q3
  .rename_i kvs q hc hq;split at q3
   .rename_i hl;obtain⟨es,hp,r⟩:=h3.cell k _ hc;have hk3:k<G3.length:=N5 hk g3.le;have g4:=h3.frw (o:=.dK (putK es q v)) hk3 hp id;rw[<- g3.agr k hk];refine⟨_,_,rfl,by rw[Ux (yF.iff.mpr (show Rep Z.W _ H3 z u from rz)) hq];exact rP.k hp (by rw[r.len];exact hl),GH (c:=.d (dput kvs q y)) (R2.gro h3 g3) hk3 hp id ⟨_,zg,?_⟩ q3⟩;exact(r.put ((ry.gro g2).gro g3)).imp λ_ _ h=>h.gro g4
   .exact q3.elim
  .exact q3.elim
 .exact q3.elim
end
abbrev HMG:=HV->Vu->Option Vu
def HG(X:Cx)(W:RC)(tg:HY)(mg:HMG):Prop:=X.K=W.K->∃g,PG X tg g/\∀(Z:HC),Z.W=W->∀A H σ ρ G x v,HR Z A H σ ρ G->YF Z.W (HM Z A G.length) A G.length H x v->∀Q:St->Hp->Prop,(∃ρ',mg x ρ=some ρ'/\∀σ',HR Z A H σ' ρ' G->Q σ' H)->g v σ H Q
abbrev Hy:=List HV->Vu->Option Vu
def hgN(i:Nat):HMG:=λx ρ=>some (ρ.set i (some x))
def Bb(hN:X.N.Nodup)(hi:X.N[i]?=some x)(hx:Loc X.env.scope x)(hf:X.fn x=true\/X.env.scope.names.lookup x=some .local:=by first|exact .inl rfl|exact .inr rfl|assumption):HG X W (.Name x pos) (hgN i):=
 λ_=>⟨_,lG hN hi hx hf,λZ hZ A H σ ρ G x v R r Q ⟨ρ',e,k⟩=>by cases e;exact k _ (R.set r)⟩
def lx(g:HMG)(b:HMS):List HV->Vu->AH->HFw
 |[],ρ,G=>.nx ρ G
 |x::xs,ρ,G=>match g x ρ with
  |none=>.wall
  |some ρ1=>match b ρ1 G with
   |.nx ρ2 G2=>lx g b xs ρ2 G2
   |.ct ρ2 G2=>lx g b xs ρ2 G2
   |.bk ρ2 G2=>.nx ρ2 G2
   |.rt v G2=>.rt v G2
   |.exc c fs G2=>.exc c fs G2
   |.wall=>.wall
def isZ:Cell->Bool
 |.z _=>true
 |_=>false
def sZ(A:HQ)(G:AH)(a:Addr):Prop:=∃k c,G[k]?=some c/\isZ c=false/\A k=a
section
variable {X:Cx}{W:RC}{E:XK}{Z:HC}{A A':HQ}{H H':Hp}{G G':AH}{σ:St}{ρ:Vu}{D:Ends}
def dC.live{M:HI}{n:Nat}{p:Addr}:∀{c:Cell},dC W M A n H p c->isZ c=false->∃o,H p=Option.some o/\¬Imm o
 |.l _,⟨_,e,_⟩,_=>⟨_,e,id⟩
 |.d _,⟨_,e,_⟩,_=>⟨_,e,id⟩
 |.z _,_,h=>by cases h
 |.o _ _,⟨_,_,e,_⟩,_=>⟨_,e,id⟩
 |.y _,⟨_,_,e,_⟩,_=>⟨_,e,id⟩
def dC.zed{M:HI}{n:Nat}{p:Addr}:∀{c:Cell},dC W M A n H p c->isZ c=true->∃o,H p=Option.some o/\Imm o
 |.l _,_,h=>by cases h
 |.d _,_,h=>by cases h
 |.z _,⟨_,_,e,_⟩,_=>⟨_,e,trivial⟩
 |.o _ _,_,h=>by cases h
 |.y _,_,h=>by cases h
def Gro.rest(h:HH Z A H G)(h':HH Z A' H' G')(g:Gro Z A G.length H A' G'.length H'):Fr (λa=>¬sZ A G a) H H':=λa o e m=>by
 rcases m with m|m
 .by_cases hc:∃k,k<G.length/\A k=a
  .obtain⟨k,hk,rfl⟩:=hc;have hq:=M5 hk;have hz:isZ G[k]=true:=by
    cases z:isZ G[k]with
    |true=>rfl
    |false=>exact absurd ⟨k,_,hq,z,rfl⟩ m
   obtain⟨o',e',i⟩:=(h.cell k _ hq).zed hz;rw[e']at e;cases e;exact g.fr _ _ e' (.inr i)
  .cases q:Z.H0 a with
   |none=>exact g.fr a o e (.inl ⟨.inr q,λk hk z=>hc ⟨k,hk,z⟩⟩)
   |some u=>have:=h.same a u q;rw[e]at this;cases this;exact h'.same a _ q
 .exact g.fr a o e (.inr m)
open Classical in
def bsH(Z:HC)(A:HQ)(H:Hp)(G:AH):Bs:=⟨λa=>if sZ A G a then none else H a,HM Z A G.length,λ_=>False,λ_ h=>h.elim,none,sZ A G⟩
def FY(R:HR Z A H σ ρ G)(e:XW bs ρ=some r)(hS:S.all (·==0)=true):Rel Z.W (bsH Z A H G) S (λ_=>0) H σ r:=by
 have n2:∀{k:Nat},S[k]?=some 2->False:=λ{k} h=>by have:=DK hS h;omega
 have n1:∀{k:Nat},S[k]?=some 1->False:=λ{k} h=>by have:=DK hS h;omega
 refine⟨λa o h=>?_,R.len.trans (Jj e).symm,λi x hx=>?_,λi hi=>(n2 hi).elim,λi j hi=>(n2 hi).elim,λhi=>(n2 hi).elim,λa h=>?_,λi hi=>(n2 hi).elim⟩
 .unfold bsH at h;dsimp only at h;split at h
  .cases h
  .exact h
 .obtain⟨v,h1,h2⟩:=R.var i _ (Ji e hx);refine⟨v,h1,λz=>(n2 z).elim,λz=>(n1 z).elim,λ_ _=>(show Rep Z.W _ H x v from h2).sub λa m _=>⟨⟨.inl m,λ⟨k,c,hk,_,ea⟩=>m.2 k (M9.mp hk).1 ea⟩,λi hi=>(n2 hi).elim⟩⟩
 .obtain⟨k,c,hk,hz,rfl⟩:=h;obtain⟨o,ho,ni⟩:=(R.toHH.cell k c hk).live hz;exact⟨o,ho,ni,by unfold bsH;dsimp only;rw[if_pos ⟨k,c,hk,hz,rfl⟩]⟩
def s_(hZ:Z.W=W)
  (hi:∀R:It->Hp->Prop,(∀J H2,zr H H2->AO Z.W (HM Z A G.length) (λa=>¬sZ A G a) H2 J xs->R J H2)->wi σ H R)
  (hg:∀(Z:HC),Z.W=W->∀A H σ ρ G x v,HR Z A H σ ρ G->YF Z.W (HM Z A G.length) A G.length H x v->∀Q:St->Hp->Prop,(∃ρ',mg x ρ=some ρ'/\∀σ',HR Z A H σ' ρ' G->Q σ' H)->g v σ H Q) (hb:LHS W E tb mb) (R:HR Z A H σ ρ G) (q:HPs Z E A G.length H D (lx mg mb (xs.map .v) ρ G)):EI wi g tb D σ H:=by
 refine hi _ λJ H2 s2 io=>?_;have R2:=R.keep s2;have q2:=HPs.gro q (Gro.same s2);refine⟨λi n σ' H'=>n=xs.length-i/\i<=xs.length/\∃ρ' A' G',HR Z A' H' σ' ρ' G'/\Gro Z A G.length H2 A' G'.length H'/\HPs Z E A' G'.length H' D (lx mg mb ((xs.drop i).map .v) ρ' G'),⟨_,rfl,P1 _,ρ,A,G,R2,Gro.refl,q2⟩,?_⟩
 rintro i n σ' H' ⟨rfl,hle,ρ',A',G',R',g',q'⟩
 have io':=io H' (Gro.rest R2.toHH R'.toHH g');by_cases hlt:i<xs.length
 .have hx:xs[i]?=some xs[i]:=M5 hlt;obtain⟨go,yl⟩:=io'.1 i _ hx;refine .inr ⟨go,λσ2 H2'=>i+1<=xs.length/\∃ρ' A' G',HR Z A' H2' σ2 ρ' G'/\Gro Z A G.length H2 A' G'.length H2'/\HPs Z E A' G'.length H2' D (lx mg mb ((xs.drop (i+1)).map .v) ρ' G'),λσ2 H2' h=>⟨xs.length-(i+1),by omega,rfl,h.1,h.2⟩,λv H'' hy=>?_⟩;obtain⟨sy,ry⟩:=yl v H'' hy;have Ry:=R'.keep sy;have gy:Gro Z A G.length H2 A' G'.length H'':=g'.trans (Gro.same sy);have rx:Rep Z.W (HM Z A' G'.length) H'' xs[i] v:=ry _ λa m hn=>gy.sM a m hn;rw[a1b hlt,M3]at q';unfold lx at q';split at q'
  .exact q'.elim
  .rename_i ρ1 hρ;refine hg Z hZ A' H'' σ' ρ' G' _ v Ry (show YF Z.W _ _ _ H'' (.v xs[i]) v from rx) _ ⟨ρ1,hρ,λσ1 R1=>hb Z hZ A' H'' σ1 ρ1 G' R1 _ ?_⟩;have q':=HPs.gro q' (Gro.same sy);revert q';cases mb ρ1 G' with
   |wall=>exact id
   |exc c fs G2=>exact id
   |nx ρ2 G2=>exact λq' A3 H3 σ3 R3 g3=>⟨hlt,ρ2,A3,G2,R3,gy.trans g3,HPs.gro (o:=lx mg mb ((xs.drop (i+1)).map .v) ρ2 G2) q' g3⟩
   |ct ρ2 G2=>exact λq' A3 H3 σ3 R3 g3=>⟨hlt,ρ2,A3,G2,R3,gy.trans g3,HPs.gro (o:=lx mg mb ((xs.drop (i+1)).map .v) ρ2 G2) q' g3⟩
   |bk ρ2 G2=>exact id
   |rt x G2=>exact id
 .have e:i=xs.length:=by omega
  subst e;rw[a18]at q';exact .inl ⟨io'.2,q' A' H' σ' R' Gro.refl⟩
end
def Bc(bs:HW)(mi:MI)(g:HMG)(b:HMS):HMS:=λρ G=>match XW bs ρ with
 |some r=>match mi r with
  |.ok xs=>lx g b (xs.map .v) ρ G
  |_=>.wall
 |none=>.wall
section
variable {X:Cx}{W:RC}{E:XK}{fr:Bool}{S:HF}{tg qR:HY}{body:Iq}{mi:MI}{mg:HMG}{mb:HMS}{pos:Pos}
def Bd(bs:HW)(hp:PassesOwn (IW X) X.A X.env X.xe)(hc:X.calm=true)(hi:IM X ⟨W,E,fr⟩ S false tg qR mi)(hg:HG X W tg mg)(hb:HSs X W E body mb)(hS:S.all (·==0)=true:=by rfl)(hs:∀x,foldedSetIterable qR X.env x=pure x:=by intro _;rfl):
  HS X W E (.For tg qR body [] pos) (Bc bs mi mg mb):=λhK=>by
 obtain⟨wi,a1,a2⟩:=hi hK;obtain⟨g,b1,b2⟩:=hg hK;obtain⟨tb,c1,c2⟩:=hb hK;refine⟨_,uI hp hc a1 b1 c1 hs,λZ hZ A H σ ρ G R D q=>?_⟩;unfold Bc at q;split at q
 .rename_i r hr;split at q
  .rename_i xs hx;subst hZ;refine s_ rfl (λR' k=>?_) b2 c2 R q;refine a2 _ _ H σ r (FY R hr hS) R' ?_;rw[hx];intro J H2 s io;refine k J H2 s λH' f=>?_;have n2:∀{k:Nat},S[k]?=some 2->False:=λ{k} h=>by have:=DK hS h;omega
   obtain⟨i1,i2⟩:=io H' λa o h m=>f a o h (m.imp (λm z=>m.1 z) id);refine⟨λi x hx=>⟨(i1 i x hx).1,λv H'' hy=>⟨((i1 i x hx).2 v H'' hy).1,λM' sM=>((i1 i x hx).2 v H'' hy).2 M' λa m hn=>sM a ?_ hn⟩⟩,i2⟩;have m1:HM Z A G.length a\/(bsH Z A H G).H0 a=none:=m.1.1;rcases m1 with m1|m1
   .exact m1
   .unfold bsH at m1;dsimp only at m1;split at m1
    .rename_i hl;exact absurd hl m.1.2
    .exact R.toHH.new a m1
  .exact q.elim
 .exact q.elim
end
section
variable {X:Cx}{W:RC}{E:XK}{e a b:HY}{es:HL}{pos p:Pos}{m1 m2:HME}{ms:HMA}{x:Str}
end
section
variable {X:Cx}{W:RC}{E:XK}{fr:Bool}{S S' Sb Sc:HF}{st:IA}{s1:MS}
end
def FZ(n:Nat)(ms:HMS)(xs:List HV)(G:AH):HX HV:=match ms (xs.map some++List.replicate (n-xs.length) none) G with
 |.nx _ G'=>.ok (.v .n) G'
 |.rt x G'=>.ok x G'
 |.exc c fs G'=>.exc c fs G'
 |_=>.wall
def iH{xs:List HV}{n k:Nat}{x:HV}(h:(xs.map some++List.replicate (n-xs.length) none)[k]?=some (some x)):xs[k]?=some x:=by
 rw[a1B]at h;split at h
 .rw[N7]at h;obtain⟨y,hy,e⟩:=v4.mp h;cases e;exact hy
 .rw[a0N]at h;split at h<;>cases h
def tf(h:HH Z A H G)(r:v_ Z.W (HM Z A G.length) A G.length H xs vs):HR Z A H (start N vs) (xs.map some++List.replicate (N.length-xs.length) none) G:=by
 refine⟨h,?_,λi x e=>?_⟩
 .unfold start;rw[N8,N8,t0,t0,a0A,a0A,r.len]
 .obtain⟨v,hv,rv⟩:=r.get (iH e);have hk:i<vs.length:=(M9.mp hv).1;refine⟨v,?_,rv⟩;unfold start;rw[T4 (by rw[t0];exact hk),N7,hv];rfl
section
variable {P:HZ}{w:Ie}{K:Il}{mg:HD}{base:Heap}
def D0{x qual:Str}{st:IA}{f:Addr}{fd:Ii}{N ps:HA}{k n l:Nat}{W:RC}{ms:HMS}(F:Fun K x qual st f fd)(S:zm N ps (zh st))(hW:K=W.K)(hl:ps.length=l)(hN:N.length=n)
  (h:∀(cdv:Value)(A:Ih)(outer:List Env)(s:HJ)(H:Hp)(E:XK),jU k (A.deeper (envOfC qual (zh st) s.heap.objs.size f cdv))->HSs (thr (ic (CXe P w) P w K mg base N qual (zh st) f cdv A outer s H E) E) W E (wx st) ms):
  yU P w K mg base (CXe P w) (k+1) f fd ps (hsp W l (FZ n ms)):=by
 subst hN hl;refine F.okX S Ba λcdv A outer s H vs Q E hr ⟨Z,A',G,xs,hZ,hl,hh,r,q⟩=>?_;obtain⟨ts,t1,t2⟩:=h cdv A outer s H E hr hW;refine⟨ts,t1,t2 Z hZ A' H _ _ G (tf hh r) _ ?_⟩;unfold FZ at q;revert q;cases ms (xs.map some++List.replicate (N.length-xs.length) none) G with
 |exc c fs G'=>exact id
 |wall=>exact id
 |nx ρ' G'=>exact λq A2 H2 σ2 R2 g2=>q A2 H2 R2.toHH g2 .non rfl
 |rt y G'=>exact λq A2 H2 v h2 g2 rv=>q A2 H2 h2 g2 v rv
 |bk ρ' G'=>exact λq=>q.elim
 |ct ρ' G'=>exact λq=>q.elim
end
section
variable {Z:HC}{E:XK}{A A':HQ}{n n':Nat}{H H':Hp}{G G':AH}{σ σ':St}{ρ ρ':Vu}{a:Addr}{es:HP}{u u':HO}{W:RC}{M:HI}{D:Ends}
end
section
variable {X:Cx}{W:RC}{E:XK}{tg qR:HY}{body:Iq}{mg:HMG}{mb:HMS}{pos:Pos}{i:Nat}
end
section
variable {X:Cx}{W:RC}{E:XK}{fr':Bool}{S:HF}{qR tg elt:HY}{ifs:HL}{me:ME}{mc:MT}{mg:MG}{mi:MI}{pos pY py:Pos}{i j:Nat}{scope:Scope}{y:Str}
end
section
variable {X:Cx}{W:RC}{E:XK}{a o:HY}{pos qE kM:Pos}{m m1:HME}
end
section
variable {Z:HC}{A:HQ}{H:Hp}{G:AH}{σ:St}{ρ:Vu}
end
section
variable {X:Cx}{W:RC}{E:XK}{fr:Bool}{S:HF}{e:HY}{m:ME}
end
def pD1(x:PV):PV->Out PV
 |.i n=>match pk x with|some k=>.ok (.d [(k,.i n)])|none=>.wall
 |_=>.wall
def mD1(mk mv:ME):ME:=λρ=>(mk ρ).bind λx=>(mv ρ).bind λy=>pD1 x y
def F2(h1:EM X C S w1 a m1)(h2:EM X C S w2 b m2):FM X C S (.Dict [some a] [b] pos) (mD1 m1 m2):=λhK=>by
 obtain⟨ta,a1,a2⟩:=h1 hK;obtain⟨tb,b1,b2⟩:=h2 hK;refine⟨_,Ae (rT a1 b1 Ad) rfl rfl (by intro h;cases h) (show 1<=15 by decide),λB P H σ ρ R Q q=>λp hp=>?_⟩;have s0:zr H (upd H p (.dK [])):=zr.upd hp;unfold mD1 at q;show ta σ _ _;refine a2 B P _ σ ρ (R.keep s0) _ ?_;cases e1:m1 ρ with
 |exc c fs=>rw[e1]at q;exact q
 |wall=>rw[e1]at q;exact q
 |ok x=>
  rw[e1]at q;intro v H1 s1 r1;refine b2 B P _ σ ρ (R.keep (s0.trans s1)) _ ?_;cases e2:m2 ρ with
  |exc c fs=>have q:zR C B H _ Q ((m2 ρ).bind _):=q;rw[e2]at q;exact q
  |wall=>have q:zR C B H _ Q ((m2 ρ).bind _):=q;rw[e2]at q;exact q
  |ok y=>
   have q:zR C B H _ Q ((m2 ρ).bind _):=q;rw[e2]at q;intro u H2 s2 r2;have q:zR C B H _ Q (pD1 x y):=q;cases y with
   |i n=>
    cases ek:pk x with
    |none=>have q:zR C B H _ Q (match pk x with|some k=>.ok (.d [(k,.i n)])|none=>.wall):=q;rw[ek]at q;exact q.elim
    |some k=>
    have q:zR C B H _ Q (match pk x with|some k=>.ok (.d [(k,.i n)])|none=>.wall):=q;rw[ek]at q;have ev:=Ux (r1.weak) ek;have eu:u=.int n:=r2.weak;subst ev eu;have hp2:H2 p=some (.dK []):=(s1.trans s2) _ _ zg;refine⟨hp2,[(k,.int n)],rfl,by show 1<=15;decide,q _ _ (λc o hc=>?_) ⟨p,rfl,hp,[(k,.int n)],zg,⟨_,_,rfl,rfl,rfl⟩⟩⟩;have:c≠p:=λz=>by rw[z,hp]at hc;cases hc
    rw[zi this];exact(s0.trans (s1.trans s2)) _ _ hc
   |_=>exact(show False from q).elim
section
variable {Z:HC}{A:HQ}{H:Hp}{G:AH}
end
section
variable {X:Cx}{W:RC}{E:XK}{e a b:HY}{es:HL}{pos p pos2 p2:Pos}{m1 m2:HME}{ms:HMA}{x y:Str}{k n:Nat}{f:Addr}{fd:Ii}{ps:HA}{g:List HV->AH->HX HV}
end
section
variable {X:Cx}{C:LC}{S S' S1 S2 Sb Sc:HF}{e:HY}{es:HL}{ws:HW}{ms:MA}{pos p pos':Pos}{x y:Str}{k i j:Nat}{f:Addr}{fd:Ii}{ps:HA}{fr:Bool}{g:Ia}{m1 m2:MS}
end
section
variable {X:Cx}{C:LC}{S:HF}{tg e:HY}{p pos:Pos}{m:ME}{cc:Bool}
end
section
variable {X:Cx}{W:RC}{E:XK}{o:HY}{pos qE p:Pos}{m1:HME}
end
section
variable {X:Cx}{C:LC}{S Sb Sc:HF}{qR tg elt:HY}{ifs:HL}{me:ME}{mc:MT}{mg:MG}{pos pY py:Pos}{i j:Nat}{scope:Scope}{y:Str}
end
def signsOf:PV->Out (List PV)
 |.s z=>.ok (z.cps.toList.map λc=>.s ⟨#[c]⟩)
 |_=>.wall
def bA(m:ME):MI:=λρ=>(m ρ).bind signsOf
def D2:AO W M N H2 (Its z) (z.cps.toList.map λc=>PV.s ⟨#[c]⟩):=λH' f=>by refine⟨λi x hx=>?_,by rw[t0];exact a1w a0L.symm⟩;rw[N7]at hx;obtain⟨c,hc,rfl⟩:=v4.mp hx;rw[Array.getElem?_toList]at hc;refine⟨(a09.mp hc).1,λv H'' hy=>?_⟩;obtain⟨rfl,c',hc',rfl⟩:=hy;rw[hc]at hc';cases hc';exact⟨zr.refl _,λ_ _=>rfl⟩
section
variable {X:Cx}
end
def dD:List PV->Option (List Str)
 |[]=>some []
 |.s z::xs=>(dD xs).map (z::·)
 |_::_=>none
def dE:∀{vs:HN}{ys:HA},zP W M H xs vs->dD xs=some ys->vs=ys.map V.str:=by
 induction xs with
 |nil=>intro vs ys r e;cases e;unfold zP at r;exact r
 |cons x xs ih=>
  intro vs ys r e;unfold zP at r;obtain⟨v,q,rfl,rv,rq⟩:=r;cases x with
  |s z=>obtain⟨zs,e2,rfl⟩:=v4.mp (show(dD xs).map (z::·)=some ys from e);unfold Rep at rv;rw[ih rq e2,rv];rfl
  |_=>cases(show(none:Option (List Str))=some ys from e)
def Vy:∀{ys:HA},dD (ys.map .s)=some ys
 |[]=>rfl
 |y::ys=>by show(dD (ys.map .s)).map _=_;rw[Vy];rfl
def bB(sep:Str):PV->Out PV
 |.l xs=>match dD xs with
  |some ys=>if(ys.map (·.length)).sum+ys.length*sep.length<=16777216 then .ok (.s (Txt.join sep ys))else .wall
  |none=>.wall
 |_=>.wall
def F3(g:Str->PV->Out PV)(m1 m2:ME):ME:=λρ=>(m1 ρ).bind λx=>match x with
 |.s z=>(m2 ρ).bind (g z)
 |_=>.wall
def Be(ho:EM X C S w1 o m1)(ha:EM X C S w2 e m2)(aC:attributeBase o "join" X.env (eval o X.env)=eval o X.env:=by rfl)
  (EH:((backTo kM (starEach [e] X.env)).all (λx=>!x.1)&&(backToKw kM (keywordEach [] X.env)).all (λx=>x.1.isSome)
   && decide (([e]:List Expr).length+([]:List Keyword).length+(if([]:List Keyword).isEmpty then 0 else 1)<30))=true:=by rfl)
  (aB:(qE.endLine==kM.line)=true:=by rfl) (hs:starEach [e] X.env=[(false,eval e X.env)]:=by rfl):EM X C S false (.Call (.Attribute o "join" qE) [e] [] kM) (F3 bB m1 m2):=λhK=>by
 obtain⟨to,a1,a2⟩:=ho hK;obtain⟨te,b1,b2⟩:=ha hK;refine⟨_,CL PySem.F.plainAttrs_str PySem.F.slot_str_join PySem.F.type_str_join Al a1 (J5 b1 aL (by rw[hs];rfl)) aC EH aB (by rw[hs];rfl) rfl,λB P H σ ρ R Q q=>a2 B P H σ ρ R _ (z4 q λx v H1 s1 r1 q1=>?_)⟩;cases x with
 |s z=>
  have ev:v=V.str z:=r1.weak;subst ev;refine⟨rfl,b2 B P H1 σ ρ (R.keep s1) _ (z4 (o:=m2 ρ) (f:=bB z) q1 λx u H2 s2 r2 q2=>?_)⟩;cases x with
  |l xs=>
   obtain⟨p,vs,rfl,_,hl,rr⟩:=r2.weak;cases et:dD xs with
   |none=>
    have e:bB z (.l xs)=.wall:=by show(match dD xs with|some ys=>_|none=>_)=_;rw[et]
    rw[e]at q2;exact q2.elim
   |some ys=>
    have evs:=dE rr et;subst evs;by_cases h:(ys.map (·.length)).sum+ys.length*z.length<=16777216
    .have e:bB z (.l xs)=.ok (.s (Txt.join z ys)):=by show(match dD xs with|some ys=>_|none=>_)=_;rw[et];exact if_pos h
     rw[e]at q2;exact⟨z,p,ys,rfl,rfl,SqL.of hl,h,q2 _ _ (zr.refl _) (RV.of rfl)⟩
    .have e:bB z (.l xs)=.wall:=by show(match dD xs with|some ys=>_|none=>_)=_;rw[et];exact if_neg h
     rw[e]at q2;exact q2.elim
  |_=>exact q2.elim
 |_=>exact q1.elim
def D3(h:EM X C S w e m):IM X C S cc (.Name y py) e (bA m):=λhK=>by
 obtain⟨te,a1,a2⟩:=h hK;refine⟨_,C3 a1,λB P H σ ρ R Q q=>a2 B P H σ ρ R _ ?_⟩;unfold bA at q;revert q;cases m ρ with
 |exc c fs=>exact id
 |wall=>exact id
 |ok x=>
  intro q v H2 s r;cases x with
  |s z=>have ev:v=V.str z:=r.weak;exact⟨z,ev,q _ H2 s D2⟩
  |_=>exact(show False from q).elim
section
variable {X:Cx}{W:RC}{E:XK}{fr:Bool}{S:HF}{e:HY}{m:ME}
end
section
variable {X:Cx}{C:LC}{S S' Sb Sc:HF}{o a:HY}{w1 w2:Bool}{m1 m2:ME}{to ta:TE}{y z:Str}{n:Int}{qE kM py pz pi pos rp cp kp:Pos}{jy jz ji j:Nat}
end
section
variable {X:Cx}{W:RC}{E:XK}{tg qR:HY}{body:Iq}{m:HME}{mg:HMG}{mb:HMS}{pos:Pos}
end
section
variable {X:Cx}{W:RC}{E:XK}{e:HY}{es:HL}{ms:HMA}{ws:HW}{g:Ia}{k:Nat}{f:Addr}{fd:Ii}{ps:HA}{x:Str}{p pos:Pos}
end
section
variable {X:Cx}{C:LC}{S:HF}{mi:MI}{mg:MG}{mc:MT}{me:ME}
end
section
variable {X:Cx}{W:RC}{E:XK}
variable {fr':Bool}{S:HF}{qR tg elt:HY}{ifs:HL}{me:ME}{mc:MT}{mg:MG}{mi:MI}{pos pY py:Pos}{i j:Nat}{scope:Scope}{y:Str}
end
def Bf(kvs:Ic)(y:PV):Out PV:=match pk y with
 |some k=>.ok ((zB kvs k).getD .n)
 |none=>.wall
def B9(m1 m2:ME):ME:=λρ=>(m1 ρ).bind λx=>match x with
 |.d kvs=>(m2 ρ).bind (Bf kvs)
 |_=>.wall
def xo(hu:X.A.units+1<cLine)(h1:EM X C S w1 o m1)(h2:EM X C S w2 e m2)(m:M1 X o "get" qE e kM):EM X C S false (.Call (.Attribute o "get" qE) [e] [] kM) (B9 m1 m2):=λhK=>by
 obtain⟨ta,a1,a2⟩:=h1 hK;obtain⟨tb,b1,b2⟩:=h2 hK;refine⟨_,rV hu a1 b1 m,λB P H σ ρ R Q q=>a2 B P H σ ρ R _ (z4 q λx v H1 s1 r1 q1=>?_)⟩;cases x with
 |d kvs=>
  obtain⟨p,es,rfl,_,hd,rk⟩:=r1.weak;refine⟨p,rfl,.inl ⟨es,hd⟩,b2 B P H1 σ ρ (R.keep s1) _ (z4 (o:=m2 ρ) (f:=Bf kvs) q1 λy u H2 s2 r2 q2=>?_)⟩;cases ek:pk y with
  |none=>
   have e:Bf kvs y=.wall:=by unfold Bf;rw[ek]
   rw[e]at q2;exact q2.elim
  |some k=>
   have e:Bf kvs y=.ok ((zB kvs k).getD .n):=by unfold Bf;rw[ek]
   rw[e]at q2;have eu:=Ux r2.weak ek;subst eu;have hd2:Rd H2 p (.dK es):=hd.elim (λz=>.inl (s2 _ _ z)) λ⟨o,z⟩=>.inr ⟨o,s2 _ _ z⟩;refine⟨W7 es k,.inl ⟨es,k,hd2,rfl,rfl⟩,?_⟩;cases ed:zB kvs k with
   |none=>rw[ed]at q2;rw[rk.ET ed];exact q2 _ H2 (zr.refl _) (RV.of rfl)
   |some x=>rw[ed]at q2;obtain⟨v,ev,rv⟩:=rk.get ed;rw[ev];exact q2 _ H2 (zr.refl _) (RV.of (rv.same s2))
 |_=>exact q1.elim
section
variable {X:Cx}{W:RC}{E:XK}{o a:HY}{m1 m2:HME}{pos qE kM:Pos}
end
section
variable {X:Cx}{W:RC}{E:XK}{fr:Bool}{S S1 Sb Sc:HF}{tg a0 b0:HY}{body:Iq}{mg:MG}{mb:MS}{pos ipos:Pos}{i j:Nat}
end
def pk2:List PV->Option (List Key)
 |[x,y]=>(pk x).bind λa=>(pk y).bind λb=>some [a,b]
 |_=>none
def V7(s:zr H H')(h:Rd H p u):Rd H' p u:=(zr.fr (M:=λ_=>True) s).rd h trivial
def UL{k:IB}:∀{kvs:IE},W7 (dtV kvs) k=(zB kvs k).map V.int
 |[]=>rfl
 |q::r=>by
  unfold dtV W7 zB;rw[M3,a1a,a1a];by_cases c:q.1=k
  .simp only[c,decide_true];rfl
  .simp only[c,decide_false];exact UL (kvs:=r)
def Bg:putK (dtV kvs) k (.int n)=dtV (dput kvs k n):=by
 have e:∀{kvs:IE},(dtV kvs).any (λkv=>decide (kv.1=k))=kvs.any (λkv=>decide (kv.1=k))/\(dtV kvs).map (λkv=>if kv.1=k then(kv.1,V.int n)else kv)=dtV (kvs.map λkv=>if kv.1=k then(kv.1,n)else kv):=λ{kvs}=>by
  induction kvs with
  |nil=>exact⟨rfl,rfl⟩
  |cons q r ih=>
   unfold dtV at ih ⊢;refine⟨by rw[M3,T7,T7,ih.1],?_⟩;rw[M3,M3,M3,M3,ih.2];by_cases c:q.1=k
   .rw[if_pos c,if_pos c]
   .rw[if_neg c,if_neg c]
 unfold putK dput;rw[e.1];split
 .exact e.2
 .unfold dtV;rw[P9];rfl
section
variable {X:Cx}{C:LC}{S S' Sb Sc:HF}{e a b o:HY}{es:HL}{w w1 w2:Bool}{ws:HW}{m m1 m2:ME}{ms:MA}{pos p pos':Pos}{i x1:Nat}
def RVs.EZ(h:RVs C B S P H ws xs vs)(hk:pk2 xs=some ks):vs=ks.map kV/\vs.length<=sizeLine:=by
 have h:=h.weak
 match xs,hk with
 |[x,y],hk=>obtain⟨k1,h1,hk⟩:=O1.mp hk;obtain⟨k2,h2,hk⟩:=O1.mp hk;cases hk;obtain⟨v,r,rfl,r1,u,r',rfl,r2,e⟩:=h;cases(show r'=[]from e);rw[Ux r1 h1,Ux r2 h2];exact⟨rfl,by show 2<=sizeLine;decide⟩
def xp:ME:=λ_=>.ok (.dt [])
def tq:FM X C S (.Dict [] [] pos) xp:=λhK=>⟨_,rS,λB P H σ ρ R Q q=>λp hp=>q _ _ (zr.upd hp) ⟨p,rfl,hp,zg⟩⟩
def GI(x:PV)(xs:Ib):Out PV:=match x,pk2 xs with
 |.dt kvs,some ks=>kN ((zB kvs ks).map PV.i)
 |_,_=>.wall
def rj(m:ME)(ms:MA):ME:=λρ=>(m ρ).bind λx=>(ms ρ).bind λxs=>GI x xs
def fY(hu:X.A.units+1<cLine)(h1:EM X C S w1 a m1)(h2:AM X C S ws es ms)(hs:Uo (.Tuple es x1 p):=by intro _ _;rfl):EM X C S false (.Subscript a (.Tuple es x1 p) pos) (rj m1 ms):=λhK=>by
 obtain⟨ta,a1,a2⟩:=h1 hK;obtain⟨tb,b1,b2⟩:=h2 hK;refine⟨_,CF (mQ hu) a1 (XM b1) hs,λB P H σ ρ R Q q=>a2 B P H σ ρ R _ (z4 q λx v H1 s1 r1 q1=>b2 B P H1 σ ρ (R.keep s1) _ (yH q1 λxs vs H2 s2 r2 q2=>?_))⟩;unfold GI at q2;split at q2
 .rename_i kvs ks hk;obtain⟨y,hy,q3⟩:=yI q2;obtain⟨n,hn,rfl⟩:=v4.mp hy;obtain⟨rfl,hl⟩:=r2.EZ hk;obtain⟨p,rfl,_,hr⟩:=r1.weak;refine⟨hl,λz hz=>⟨p,.int n,rfl,.inr ⟨_,_,z,V7 (zr.upd hz) (V7 s2 hr),rfl,zg,by rw[UL,hn];rfl⟩,q3 _ _ (zr.upd hz) (RV.of rfl)⟩⟩
 .exact q2.elim
def inT(neg:Bool)(ks:IB):PV->Out PV
 |.dt kvs=>.ok (.b (xor neg (zB kvs ks).isSome))
 |_=>.wall
def nW(neg:Bool)(ms:MA)(m:ME):ME:=λρ=>(ms ρ).bind λxs=>match pk2 xs with
 |some ks=>(m ρ).bind (inT neg ks)
 |none=>.wall
def xq(h2:LA C S ws ta ms)(h1:LE C S w1 tb m1):LE C S false (tOp (EW C.W.K neg) (Gv ta) tb) (nW neg ms m1):=λB P H σ ρ R Q q=>h2 B P H σ ρ R _ (yH q λxs vs H1 s1 r1 q1=>by
 split at q1
 .rename_i ks hk;obtain⟨rfl,hl⟩:=r1.EZ hk;refine⟨hl,λz hz=>h1 B P _ σ ρ ((R.keep s1).keep (zr.upd hz)) _ (z4 (vZ q1 (zr.upd hz)) λy u H2 s2 r2 q2=>?_)⟩;unfold inT at q2;split at q2
  .obtain⟨p,rfl,_,hr⟩:=r2.weak;exact .inr ⟨p,_,rfl,.inr ⟨_,_,z,hr,rfl,s2 _ _ zg,rfl⟩,by rw[UL,a0W];exact q2 _ _ (zr.refl _) (RV.of rfl)⟩
  .exact q2.elim
 .exact q1.elim)
def nX(hu:X.A.units+1<cLine)(h1:AM X C S ws es ms)(h2:EM X C S w2 b m2)(hm:behindInMarks .In b=false:=by with_unfolding_all rfl):TM X C S (.Compare (.Tuple es x1 p) [.In] [b] pos) (zX (nW false ms m2)):=λhK=>by obtain⟨ta,a1,a2⟩:=h1 hK;obtain⟨tb,b1,b2⟩:=h2 hK;exact⟨_,cU (mT hu) (XM a1) b1 hm,Uw (by rw[hK];exact xq a2 b2)⟩
def nY(hu:X.A.units+1<cLine)(h1:AM X C S ws es ms)(h2:EM X C S w2 b m2)(hm:behindInMarks .NotIn b=false:=by with_unfolding_all rfl):TM X C S (.Compare (.Tuple es x1 p) [.NotIn] [b] pos) (zX (nW true ms m2)):=λhK=>by obtain⟨ta,a1,a2⟩:=h1 hK;obtain⟨tb,b1,b2⟩:=h2 hK;exact⟨_,cU (bg hu) (XM a1) b1 hm,Uw (by rw[hK];exact xq a2 b2)⟩
def F4(i:Nat)(ρ:Sto)(o:Out (List PV)):Option (Option PV)->PV->Out Fw
 |some (some (.dt kvs)),.i n=>o.bind λxs=>match pk2 xs with
  |some k=>if kvs.length<sizeLine then .ok (.nx (ρ.set i (some (.dt (dput kvs k n)))))else .wall
  |none=>.wall
 |_,_=>.wall
def bC(i:Nat)(ms:MA)(mv:ME):MS:=λρ=>(mv ρ).bind λv=>F4 i ρ (ms ρ) ρ[i]? v
def dF(hu:X.A.units+1<cLine)(ho:PE X o (cR i))(hk:AM X C S ws es ms)(hv:EM X C S false e m2)(hi:S[i]?=some 2:=by rfl)(hs:swapsWith e (some (.Subscript o (.Tuple es x1 p) pos')) pos.line X.env=pure false:=by rfl):
  SM X C S S Sb Sc (.Assign [.Subscript o (.Tuple es x1 p) pos'] e pos) (bC i ms m2):=λhK=>by
 obtain⟨ta,a1,a2⟩:=hk hK;obtain⟨tv,b1,b2⟩:=hv hK;refine⟨_,cZ hu ho (XM a1) b1 hs,λB P H σ ρ R D q=>b2 B P H σ ρ R _ ?_⟩;unfold bC at q;revert q;cases m2 ρ with
 |ok y=>
  intro q v H1 sm1 rv;have R1:=R.keep sm1;have q:vw C B S Sb Sc D (F4 i ρ (ms ρ) ρ[i]? y):=q;unfold F4 at q;split at q
  .rename_i kvs n hx q0;obtain⟨hσ,hp,hl⟩:=R1.at2 hi hx;have hp:H1 (P i)=some (.dT (dtV kvs)):=hp;cases(show v=.int n from rv.weak);refine⟨_,hσ,a2 B P H1 σ ρ R1 _ ?_⟩;revert q;cases ms ρ with
   |ok z=>
    intro q u H2 sm2 ru;have R2:=R1.keep sm2;have q:vw C B S Sb Sc D (match pk2 z with
     |some k=>if kvs.length<sizeLine then .ok (.nx (ρ.set i (some (.dt (dput kvs k n)))))else .wall
     |none=>.wall):=q
    split at q
    .rename_i k hk;split at q
     .rename_i hz;obtain⟨rfl,hl2⟩:=ru.EZ hk;refine⟨hl2,λt ht=>?_⟩;have R3:=R2.keep (zr.upd (o:=.tup (k.map kV)) ht);have hp2:=zr.upd (o:=.tup (k.map kV)) ht _ _ (sm2 _ _ hp);refine⟨_,_,rfl,rP.t hp2 zg (by unfold dtV;rw[t0];exact hz),q P _ σ (R3.wr hi hl hσ (by exact id) ?_)⟩;show upd _ _ _ _=_;rw[zg,Bg]
     .exact q.elim
    .exact q.elim
   |exc c fs=>exact id
   |wall=>exact id
  .exact q.elim
 |exc c fs=>exact id
 |wall=>exact id
end
section
variable {X:Cx}{W:RC}{E:XK}{o e:HY}{es:HL}{m:HME}{ms:HMA}{pos qE:Pos}{mn:Str}{n:Nat}
end
def F5{α:Type}{P:List α->Prop}{us:List α}(hl:us.length=6)(h:∀a b c d e f,P [a,b,c,d,e,f]):P us:=by
 match us,hl with|[a,b,c,d,e,f],_=>exact h a b c d e f
section
variable {X:Cx}{k:Nat}{f C:Addr}{fd:Ii}{ps:HA}{sp:Sp}{x m:Str}{p pos qE:Pos}{e o:HY}{es:HL}{ta te:TE}{t:TA}{alts:Addr->Sp->Prop}
end
section
variable {X:Cx}{C:LC}{S S' S1 S2 Sb Sc:HF}{e o:HY}{es:HL}{ws:HW}{m:ME}{ms:MA}{pos p pos' qE:Pos}{x y mn:Str}{k i j:Nat}{f:Addr}{fd:Ii}{ps:HA}{fr w:Bool}{g:Ia}{m1 m2:MS}
end
end L2
namespace L2
open PySem PySem.W PyProof.Rows
def Vz{α:Type}(P:IL)(f:IJ):KasT α->(α->Prop)->Prop
 |.ret a,Q=>Q a
 |.ask i j k,Q=>P i/\P j/\Vz P f (k (f i j)) Q
def wa{α β:Type}{P:IL}{f:IJ}{g:α->KasT β}{Q:β->Prop}:∀{t:KasT α},Vz P f t (λa=>Vz P f (g a) Q)->Vz P f (t.bind g) Q
 |.ret _,h=>h
 |.ask _ _ _,h=>⟨h.1,h.2.1,wa h.2.2⟩
def yM{α:Type}{P:IL}{f:IJ}{Q Q':α->Prop}(hq:∀a,Q a->Q' a):∀{t:KasT α},Vz P f t Q->Vz P f t Q'
 |.ret _,h=>hq _ h
 |.ask _ _ _,h=>⟨h.1,h.2.1,yM hq h.2.2⟩
def nZ{α:Type}{P:IL}{f:IJ}{cmp:Nat->Nat->(Bool->Shared->Prop)->Shared->Prop}{J:Shared->Prop}(hc:∀i j C s,P i->P j->J s->(∀s',J s'->C (f i j) s')->cmp i j C s){Q:α->Prop}{R:α->Shared->Prop}(hq:∀a s,Q a->J s->R a s):∀{t:KasT α}{s:HJ},J s->Vz P f t Q->t.kasWp cmp R s
 |.ret a,s,hs,h=>hq a s h hs
 |.ask i j k,s,hs,h=>hc i j _ s h.1 h.2.1 hs λs' hs'=>nZ hc hq hs' h.2.2
abbrev at0(p:Iz)(k:Nat):Nat:=p.getD k 0
def Jl:at0 p k=(p[k]?).getD 0:=by
 unfold at0;by_cases h:k<p.size
 .simp[Array.getD,h]
 .simp[Array.getD,h]
def UM(hj:j<=p.size)(k:Nat):at0 (kas_rev p i j) k=if i<=k/\k<j then at0 p (i+j-1-k)else at0 p k:=by rw[Jl,Jl,Jl];unfold kas_rev;rw[getElem?_mirror_all hj];split<;>rfl
def XY(hk:k<p.size)(hl:l<=k)(i:Nat):at0 (bubble p k (k-l)) i=if i=l then at0 p k else if l<i/\i<=k then at0 p (i-1)else at0 p i:=by
 rw[Jl,Jl,Jl,Jl,getElem?_bubble hk (k-l) (by omega),show k-(k-l)=l by omega];split
 .rfl
 .split<;>rfl
section
variable {O:KeyOrd}{key:Nat->O.α}{n:Nat}
abbrev kk(key:Nat->O.α)(p:Iz)(i:Nat):O.α:=key (at0 p i)
abbrev ans(key:Nat->O.α)(i j:Nat):Bool:=O.blt (key i) (key j)
structure Pm(n:Nat)(p:Iz):Prop where
 perm:p.toList.Perm (List.range n)
 size:p.size=n
def Pm.rev(h:Pm n p):Pm n (kas_rev p i j):=⟨(a1S.mp (mirror_perm p i j _)).trans h.perm,(kas_rev_size i j).trans h.size⟩
def Pm.bub(h:Pm n p):Pm n (bubble p i j):=⟨(a1S.mp (bubble_perm p i j)).trans h.perm,(bubble_size p i j).trans h.size⟩
def Pm.lt(h:Pm n p)(h0:0<n)(k:Nat):at0 p k<n:=by
 rw[Jl];by_cases hk:k<p.size
 .rw[getElem?_pos p k hk];have:p[k]∈p.toList:=by simp
  exact a0l.mp (h.perm.mem_iff.mp this)
 .rw[getElem?_neg p k hk];exact h0
def Up(key:Nat->O.α)(p:Iz)(m:Nat):Prop:=∀i j,i<=j->j<m->O.kle (kk key p i) (kk key p j)
def Dn(key:Nat->O.α)(p:Iz)(m:Nat):Prop:=∀i j,i<=j->j<m->O.kle (kk key p j) (kk key p i)
def n4{p:Iz}(hp:Pm n p)(h0:0<n):∀{f m:Nat},1<=m->m+f<=n->Up key p m->Vz (·<n) (ans key) (kas_asc p f m) λr=>m<=r/\r<=m+f/\Up key p r/\(r<m+f->O.klt (kk key p r) (kk key p (r-1)))
 |0,m,_,_,hu=>⟨L5 _,L5 _,hu,λh=>absurd h (by omega)⟩
 |f+1,m,h1,hm,hu=>by
  refine⟨hp.lt h0 _,hp.lt h0 _,?_⟩;show Vz _ _ (if O.blt (kk key p m) (kk key p (m-1))=true then _ else _) _;cases hc:O.blt (kk key p m) (kk key p (m-1))with
  |true=>exact⟨L5 _,by omega,hu,λ_=>hc⟩
  |false=>
   have hu':Up key p (m+1):=λi j hij hj=>by
    by_cases c:j=m
    .subst c;by_cases c2:i=j
     .subst c2;exact O.irrefl _
     .exact a2a (hu i (j-1) (by omega) (by omega)) hc
    .exact hu i j hij (by omega)
   exact yM (λr ⟨a,b,c,d⟩=>⟨by omega,by omega,c,λh=>d (by omega)⟩) (n4 hp h0 (f:=f) (m:=m+1) (by omega) (by omega) hu')
structure B_(key:Nat->O.α)(n:Nat)(p:Iz)(m q:Nat):Prop where
 pm:Pm n p
 dn:Dn key p m
 le:m<=n
 qm:q+1<=m
 eq:∀k,m-(q+1)<=k->k<m->kk key p k=kk key p (m-1)
def B_.alike(h:B_ key n p m q)(k:Nat):kk key (kas_rev p (m-(q+1)) m) k=kk key p k:=by
 have hm:=h.le;have hs:=h.pm.size;have hq:=h.qm;unfold kk;rw[UM (by omega)];split
 .rename_i c;have e1:=h.eq (m-(q+1)+m-1-k) (by omega) (by omega);have e2:=h.eq k c.1 c.2;exact e1.trans e2.symm
 .rfl
def dG(h0:0<n):∀{f m q:Nat}{p:Iz},m+f<=n->B_ key n p m q->Vz (·<n) (ans key) (kas_desc f p m q) λr=>m<=r.2.1/\r.2.1<=m+f/\B_ key n r.1 r.2.1 r.2.2
 |0,m,q,p,_,h=>⟨L5 _,L5 _,h⟩
 |f+1,m,q,p,hm,h=>by
  have hq:=h.qm;refine⟨h.pm.lt h0 _,h.pm.lt h0 _,?_⟩;show Vz _ _ (if O.blt (kk key p m) (kk key p (m-1))=true then _ else _) _;have dn1:∀{p':Iz},(∀k,kk key p' k=kk key p k)->O.kle (kk key p m) (kk key p (m-1))->Dn key p' (m+1):=λ{p'} he hk i j hij hj=>by
   rw[he,he];by_cases c:j=m
   .subst c;by_cases c2:i=j
    .subst c2;exact O.irrefl _
    .exact a2a hk (h.dn i (j-1) (by omega) (by omega))
   .exact h.dn i j hij (by omega)
  cases hc:O.blt (kk key p m) (kk key p (m-1))with
  |true=>
   have hk:O.kle (kk key p m) (kk key p (m-1)):=a2b hc;have go:∀{p':Iz},Pm n p'->(∀k,kk key p' k=kk key p k)->Vz (·<n) (ans key) (kas_desc f p' (m+1) 0) λr=>m<=r.2.1/\r.2.1<=m+(f+1)/\B_ key n r.1 r.2.1 r.2.2:=λ{p'} hp he=>
    yM (λr ⟨a,b,c⟩=>⟨by omega,by omega,c⟩) (dG h0 (f:=f) (m:=m+1) (q:=0) (p:=p') (by omega) ⟨hp,dn1 he hk,by omega,by omega,λk k1 k2=>by rw[show k=m+1-1 by omega]⟩)
   show Vz _ _ (if q>0 then kas_desc f (kas_rev p (m-(q+1)) m) (m+1) 0 else kas_desc f p (m+1) 0) _;by_cases c:q>0
   .rw[if_pos c];exact go h.pm.rev h.alike
   .rw[if_neg c];exact go h.pm λ_=>rfl
  |false=>
   refine⟨h.pm.lt h0 _,h.pm.lt h0 _,?_⟩;show Vz _ _ (if O.blt (kk key p (m-1)) (kk key p m)=true then _ else _) _;cases hd:O.blt (kk key p (m-1)) (kk key p m)with
   |true=>exact⟨L5 _,by show m<=m+(f+1);omega,h⟩
   |false=>
    have e:kk key p m=kk key p (m-1):=O.total _ _ hc hd;refine yM (λr ⟨a,b,c⟩=>⟨by omega,by omega,c⟩) (dG h0 (f:=f) (m:=m+1) (q:=q+1) (p:=p) (by omega) ⟨h.pm,dn1 (λ_=>rfl) hd,by omega,by omega,λk k1 k2=>?_⟩);by_cases c:k=m
    .rw[c];rfl
    .rw[show m+1-1=m by omega,e];exact h.eq k (by omega) (by omega)
abbrev F6(key:Nat->O.α)(n:Nat):Nat×Array Nat->Prop:=λr=>Pm n r.2/\1<=r.1/\r.1<=n/\Up key r.2 r.1
def fZ(h0:0<n)(hp:Pm n p)(h1:1<=m)(hm:m<=n)(hd:Dn key p m):Vz (·<n) (ans key) (kas_tail3 m n p) (F6 key n):=by
 have hs:=hp.size;have hu:Up key (kas_rev p 0 m) m:=λi j hij hj=>by unfold kk;rw[UM (by omega),UM (by omega),if_pos ⟨by omega,by omega⟩,if_pos ⟨by omega,by omega⟩];exact hd (0+m-1-j) (0+m-1-i) (by omega) (by omega)
 refine wa (yM (λr ⟨a,b,c,_⟩=>?_) (n4 hp.rev h0 (f:=n-m) (m:=m) h1 (by omega) hu));exact⟨hp.rev,by show 1<=r;omega,by show r<=n;omega,c⟩
def V8(h0:0<n)(hp:Pm n p)(h1:1<=m)(hm:m+1<=n)(he:∀k,k<m->kk key p k=kk key p (m-1))(hl:O.klt (kk key p m) (kk key p (m-1))):Vz (·<n) (ans key) (kas_descPart m n p) (F6 key n):=by
 have hs:=hp.size;have hf:B_ key n p (m+1) 0:=⟨hp,λi j hij hj=>by
  by_cases c:j=m
  .subst c;by_cases c2:i=j
   .subst c2;exact O.irrefl _
   .rw[he i (by omega)];exact a2b hl
  .rw[he i (by omega),he j (by omega)];exact O.irrefl _,by omega,by omega,λk k1 k2=>by rw[show k=m+1-1 by omega]⟩
 refine wa (yM (λr ⟨a,b,c⟩=>?_) (dG h0 (f:=n-(m+1)) (m:=m+1) (q:=0) (p:=p) (by omega) hf));have cm:=c.qm;by_cases hq:r.2.2>0
 .rw[if_pos hq];exact fZ h0 c.pm.rev (by omega) c.le λi j hij hj=>by rw[c.alike,c.alike];exact c.dn i j hij hj
 .rw[if_neg hq];exact fZ h0 c.pm (by omega) c.le c.dn
def tw(h0:0<n)(hp:Pm n p):Vz (·<n) (ans key) (kas_count n p) (F6 key n):=by
 have hs:=hp.size;refine wa (yM (λm ⟨a,b,c,d⟩=>?_) (n4 (key:=key) hp h0 (f:=n-1) (m:=1) (L5 _) (by omega) λi j hij hj=>by rw[show i=j by omega];exact O.irrefl _));by_cases e1:(m==n)=true
 .rw[if_pos e1];exact⟨hp,a,by show m<=n;omega,c⟩
 .rw[if_neg e1];have hmn:m<n:=by have:m≠n:=λq=>e1 (by rw[q];exact a0I _);omega
  have hl:=d (by omega);by_cases e2:m>1
  .rw[if_pos e2];refine⟨hp.lt h0 _,hp.lt h0 _,?_⟩;show Vz _ _ (if O.blt (kk key p 0) (kk key p (m-1))=true then _ else _) _;cases hc:O.blt (kk key p 0) (kk key p (m-1))with
   |true=>exact⟨hp,a,by show m<=n;omega,c⟩
   |false=>
    have e:kk key p 0=kk key p (m-1):=O.total _ _ hc (c 0 (m-1) (by omega) (by omega));have al:∀k,k<m->kk key p k=kk key p (m-1):=λk hk=>O.total _ _ (by rw[<- e];exact c 0 k (by omega) hk) (c k (m-1) (by omega) (by omega));have rv:∀k,kk key (kas_rev p 0 m) k=kk key p k:=λk=>by
     unfold kk;rw[UM (by omega)];split
     .rename_i z;exact(al (0+m-1-k) (by omega)).trans (al k z.2).symm
     .rfl
    exact V8 h0 hp.rev a hmn (λk hk=>by rw[rv,rv];exact al k hk) (by rw[rv,rv];exact hl)
  .rw[if_neg e2];exact V8 h0 hp a hmn (λk hk=>by rw[show k=m-1 by omega]) hl
def jJ{p:Iz}(hp:Pm n p)(h0:0<n){k:Nat}(hu:Up key p k):∀{f l r:Nat},l<=r->r<=k->r-l<=f->(∀i,i<l->O.kle (kk key p i) (kk key p k))->(∀i,r<=i->i<k->O.klt (kk key p k) (kk key p i))->
  Vz (·<n) (ans key) (kas_place p k f l r) λl=>l<=k/\(∀i,i<l->O.kle (kk key p i) (kk key p k))/\∀i,l<=i->i<k->O.klt (kk key p k) (kk key p i)
 |0,l,r,lr,rk,hf,h1,h2=>⟨by omega,h1,λi hi=>h2 i (by omega)⟩
 |f+1,l,r,lr,rk,hf,h1,h2=>by
  show Vz _ _ (if l ≥ r then KasT.ret l else _) _;by_cases c:l ≥ r
  .rw[if_pos c];exact⟨by omega,h1,λi hi=>h2 i (by omega)⟩
  .rw[if_neg c];refine⟨hp.lt h0 _,hp.lt h0 _,?_⟩;show Vz _ _ (if O.blt (kk key p k) (kk key p ((l+r) / 2))=true then _ else _) _;cases hc:O.blt (kk key p k) (kk key p ((l+r) / 2))with
   |true=>exact jJ hp h0 hu (f:=f) (l:=l) (r:=(l+r) / 2) (by omega) (by omega) (by omega) h1 λi i1 i2=>KeyOrd.klt_of_klt_of_kle hc (hu _ _ i1 i2)
   |false=>exact jJ hp h0 hu (f:=f) (l:=(l+r) / 2+1) (r:=r) (by omega) rk (by omega) (λi hi=>a2a (hu i ((l+r) / 2) (by omega) (by omega)) hc) h2
def xt(h0:0<n):∀{f k:Nat}{p:Iz},Pm n p->k+f<=n->Up key p k->Vz (·<n) (ans key) (kas_bin f p k) λp'=>Pm n p'/\Up key p' (k+f)
 |0,k,p,hp,_,hu=>⟨hp,hu⟩
 |f+1,k,p,hp,hk,hu=>by
  have hs:=hp.size;refine wa (yM (λl ⟨a,b,c⟩=>?_) (jJ hp h0 hu (f:=k) (l:=0) (r:=k) (P1 _) (L5 _) (by omega) (λi hi=>absurd hi (Nat.not_lt_zero _)) λi i1 i2=>absurd i2 (by omega)));refine yM (λp' ⟨x,y⟩=>⟨x,by rw[show k+(f+1)=k+1+f by omega];exact y⟩) (xt h0 (f:=f) (k:=k+1) hp.bub (by omega) λi j hij hj=>?_);unfold kk;rw[XY (by omega) a,XY (by omega) a];by_cases i1:i=l
  .rw[if_pos i1];by_cases j1:j=l
   .rw[if_pos j1];exact O.irrefl _
   .rw[if_neg j1,if_pos ⟨by omega,by omega⟩];exact a2b (c (j-1) (by omega) (by omega))
  .rw[if_neg i1];by_cases j1:j=l
   .rw[if_pos j1,if_neg (by omega)];exact b i (by omega)
   .rw[if_neg j1];by_cases i2:l<i/\i<=k
    .rw[if_pos i2,if_pos ⟨by omega,by omega⟩];exact hu (i-1) (j-1) (by omega) (by omega)
    .rw[if_neg i2];by_cases j2:l<j/\j<=k
     .rw[if_pos j2];exact hu i (j-1) (by omega) (by omega)
     .rw[if_neg j2];exact hu i j hij (by omega)
def n5(h0:0<n):Vz (·<n) (ans key) (kas_sort n) λp=>Pm n p/\Up key p n:=by
 refine wa (yM (λr ⟨a,b,c,d⟩=>?_) (tw (key:=key) h0 (p:=List.toArray (List.range n)) ⟨List.Perm.refl _,by simp⟩));by_cases h:r.1<n
 .rw[if_pos h,show max r.1 1=r.1 by omega];refine yM (λp ⟨x,y⟩=>⟨x,by rw[show n=r.1+(n-r.1) by omega];exact y⟩) (xt h0 (f:=n-r.1) (k:=r.1) a (by omega) d)
 .rw[if_neg h];exact⟨a,by rw[show n=r.1 by omega];exact d⟩
end
end L2
namespace L2
open PySem PySem.Spec PyProof.Rows PySem.W
abbrev XZ:=Int×Int×Str
def Bh(x y:XZ):Bool:=if x.1=y.1 then(if x.2.1=y.2.1 then decide (x.2.2.cps.toList<y.2.2.cps.toList)else decide (x.2.1<y.2.1))else decide (x.1<y.1)
def Bi{a b:Str}(h:a.cps.toList=b.cps.toList):a=b:=by obtain⟨x⟩:=a;obtain⟨y⟩:=b;exact R8 Str.mk (a2c.mp h)
def D4:KeyOrd where
 α:=XZ
 blt:=Bh
 irrefl a:=by unfold Bh;rw[if_pos rfl,if_pos rfl];exact strKind.irrefl _
 trans a b c h1 h2:=by
  unfold Bh at *;by_cases e1:a.1=b.1
  .rw[if_pos e1]at h1;by_cases e2:b.1=c.1
   .rw[if_pos e2]at h2;rw[if_pos (e1.trans e2)];by_cases f1:a.2.1=b.2.1
    .rw[if_pos f1]at h1;by_cases f2:b.2.1=c.2.1
     .rw[if_pos f2]at h2;rw[if_pos (f1.trans f2)];exact strKind.trans _ _ _ h1 h2
     .rw[if_neg f2]at h2;rw[if_neg (by rw[f1];exact f2),f1];exact h2
    .rw[if_neg f1]at h1;by_cases f2:b.2.1=c.2.1
     .rw[if_pos f2]at h2;rw[if_neg (by rw[<- f2];exact f1),<- f2];exact h1
     .rw[if_neg f2]at h2;have h1:=R4 h1;have h2:=R4 h2;rw[if_neg (by omega)];exact M6 (by omega)
   .rw[if_neg e2]at h2;rw[if_neg (by rw[e1];exact e2),e1];exact h2
  .rw[if_neg e1]at h1;have h1:=R4 h1;by_cases e2:b.1=c.1
   .rw[if_neg (by omega)];exact M6 (by omega)
   .rw[if_neg e2]at h2;have h2:=R4 h2;rw[if_neg (by omega)];exact M6 (by omega)
 negTrans a b c h:=by
  unfold Bh at *;by_cases e1:a.1=b.1
  .rw[if_pos e1];by_cases e2:b.1=c.1
   .rw[if_pos (e1.trans e2)]at h;rw[if_pos e2];by_cases f1:a.2.1=b.2.1
    .rw[if_pos f1];by_cases f2:b.2.1=c.2.1
     .rw[if_pos (f1.trans f2)]at h;rw[if_pos f2];exact strKind.negTrans _ _ _ h
     .rw[if_neg (by rw[f1];exact f2)]at h;rw[if_neg f2];exact .inr (by rw[<- f1];exact h)
    .rw[if_neg f1];by_cases f2:b.2.1=c.2.1
     .rw[if_neg (by rw[<- f2];exact f1)]at h;exact .inl (by rw[f2];exact h)
     .rw[if_neg f2];by_cases g:a.2.1<b.2.1
      .exact .inl (M6 g)
      .by_cases f3:a.2.1=c.2.1
       .exact .inr (M6 (by omega))
       .rw[if_neg f3]at h;have h:=R4 h;exact .inr (M6 (by omega))
   .rw[if_neg (by rw[e1];exact e2)]at h;rw[if_neg e2];exact .inr (by rw[<- e1];exact h)
  .rw[if_neg e1];by_cases g:a.1<b.1
   .exact .inl (M6 g)
   .refine .inr ?_;by_cases e2:b.1=c.1
    .rw[if_neg (by rw[<- e2];exact e1)]at h;have h:=R4 h;omega
    .rw[if_neg e2];by_cases f3:a.1=c.1
     .exact M6 (by omega)
     .rw[if_neg f3]at h;have h:=R4 h;exact M6 (by omega)
 total a b h1 h2:=by
  unfold Bh at *;by_cases e1:a.1=b.1
  .rw[if_pos e1]at h1;rw[if_pos e1.symm]at h2;by_cases f1:a.2.1=b.2.1
   .rw[if_pos f1]at h1;rw[if_pos f1.symm]at h2;have:=Bi (strKind.total _ _ h1 h2);exact a23 e1 (a23 f1 this)
   .rw[if_neg f1]at h1;rw[if_neg (Ne.symm f1)]at h2;have h1:=a1h h1;have h2:=a1h h2;omega
  .rw[if_neg e1]at h1;rw[if_neg (Ne.symm e1)]at h2;have h1:=a1h h1;have h2:=a1h h2;omega
def E1(h:Heap)(v:Value)(k:XZ):Prop:=∃a o n t1 t2 t3,v=.ref a/\h.get? a=some o/\o.cls=.type "tuple"/\o.data=.seq #[.int k.1 t1,.int k.2.1 t2,.str k.2.2 t3] n
section
variable {prog:HZ}{w:Ie}{A:Ih}{E:HB}{s:HJ}
def lt3(h1:E1 s.heap x k1)(h2:E1 s.heap y k2)(h:Q (Bh k1 k2) s):wpAny (model prog w) A (keyLt' (tuples' true) x y) Q E s:=by
 obtain⟨a,o,n,t1,t2,t3,rfl,ho,_,hd⟩:=h1;obtain⟨b,p,m,u1,u2,u3,rfl,hp,_,hq⟩:=h2;refine kat_lt ho hd hp hq ?_;unfold Bh at h;refine kat_cons (a13 ?_);by_cases e1:k1.1=k2.1
 .rw[if_pos e1]at h;rw[show(k1.1==k2.1)=true from O7.mpr e1];refine kat_yes (kat_cons (a13 ?_));by_cases e2:k1.2.1=k2.2.1
  .rw[if_pos e2]at h;rw[show(k1.2.1==k2.2.1)=true from O7.mpr e2];refine kat_yes (kat_cons (wpAny_eqBool_str ?_));by_cases e3:k1.2.2=k2.2.2
   .rw[M6 e3];refine kat_yes (kat_nil ?_);rw[e3,show decide (k2.2.2.cps.toList<k2.2.2.cps.toList)=false from strKind.irrefl _]at h;exact h
   .rw[M4 e3];exact kat_no (kat_one _ _ (lt_str h))
  .rw[if_neg e2]at h;rw[show(k1.2.1==k2.2.1)=false from P8.mpr e2];exact kat_no (kat_one _ _ (lt_int h))
 .rw[if_neg e1]at h;rw[show(k1.1==k2.1)=false from P8.mpr e1];exact kat_no (oneLt_int h)
def bD(h:Heap):List Value->List XZ->Prop
 |[],[]=>True
 |v::vs,k::ks=>E1 h v k/\bD h vs ks
 |_,_=>False
def bD.get(d:XZ):∀{vs:HK}{ks:List XZ}{i:Nat},bD h vs ks->i<ks.length->E1 h (vs.getD i .none) (ks.getD i d):=by
 intro vs
 induction vs with
 |nil=>
  intro ks i t hi;cases ks with
  |nil=>exact absurd hi (Nat.not_lt_zero _)
  |cons k ks=>exact t.elim
 |cons v vs ih=>
  intro ks i t hi;cases ks with
  |nil=>exact t.elim
  |cons k ks=>
   cases i with
   |zero=>exact t.1
   |succ i=>exact ih (ks:=ks) (i:=i) t.2 (Nat.lt_of_succ_lt_succ hi)
def bD.kat{h:Heap}:∀{vs:HK}{ks:List XZ},bD h vs ks->∃fs:List Value,KatTups h vs fs/\fs.length=ks.length/\∀v∈fs,∃n t,v=.int n t
 |[],[],_=>⟨[],trivial,rfl,λv h=>by cases h⟩
 |_::_,_::_,⟨⟨a,o,n,t1,t2,t3,e,ho,hc,hd⟩,t⟩=>by obtain⟨fs,f1,f2,f3⟩:=bD.kat t;exact⟨_::fs,⟨⟨a,o,_,n,e,ho,hc,hd,rfl⟩,f1⟩,by rw[I0,I0,f2],λv hv=>(N4.mp hv).elim (λe=>⟨_,_,e⟩) (f3 v)⟩
 |[],_::_,t=>t.elim
 |_::_,[],t=>t.elim
def F7(t:bD s.heap vs ks)(h0:0<ks.length)(h:Q (tuples' true) s):wpAny (model prog w) A (keyKind' vs.toArray) Q E s:=by obtain⟨fs,f1,f2,f3⟩:=t.kat;refine kat_kind (T:=.type "int") f1 (by omega) (λv hv=>?_) (by decide) (by rw[show((Value.type "int") != Value.type "tuple")=true by decide];exact h);obtain⟨n,t,rfl⟩:=f3 v hv;exact .now
end
section
variable {X:Cx}{pins:Hz}{σ:St}{H:Hp}{s:HJ}{h':Heap}
def Inv.F8(I:Inv X pins σ H s)(k:∀b o,b≠it->s.heap.get? b=some o->h'.get? b=some o)(hn:H it=none)(hL:it≠X.env.locals)
  (h1:it∈X.ex\/X.s₀.heap.objs.size<=it) (h2:∀x c,X.env.cells.lookup x=some c->c≠it) (h3:∀p∈X.pn++pins,p.1≠it) (new:yC X.prog X.w (upd H it o) h' it o):Inv X pins σ (upd H it o) { s with heap:=h',toks:=t' }:=by
 have nit:∀b u,H b=some u->b≠it:=λb u e z=>by rw[z,hn]at e;cases e
 have nc:∀b,b∉[it]->b≠it:=λb hc z=>hc (by simp[z]);refine I.step (g':=s.gens) (d':=s.drawn) (ch:=[it]) (λb hb=>?_) (λb o _ _ hc e _=>k b o (nc b hc) e) (λb o _ _ hc e _=>⟨o.slots,k b o (nc b hc) e⟩) (λb _ hc _ n=>by rw[zi (nc b hc)];exact n)
  (λb o hc e=>⟨o,k b o (nc b hc) e⟩) (λb xs e=>by rw[zi (nit b _ e)];exact e) (λb _ _ e=>by rw[zi (nit b _ e)];exact e) (λb ps e=>⟨#[],by rw[zi (nit b _ e),e];simp⟩) (λm hm=>?_) (λb u e=>?_) I.bare
 .have e:b=it:=by simpa using hb
  subst e;exact⟨h1,hL,h2,h3⟩
 .obtain⟨o,es,ep,ho,r⟩:=hm;exact⟨o,es,ep,k _ o (Ne.symm hL) ho,r⟩
 .by_cases hb:b=it
  .subst hb;rw[zg]at e;cases e;exact new
  .rw[zi hb]at e;refine(I.hok b u e).rA (λc v hc q=>k c v ?_ q) (λc q=>by rw[zi (nit c _ q)];exact q) λc xs q=>by rw[zi (nit c _ q)];exact q
   rcases hc with z|z
   .rw[z];exact nit b u e
   .exact nit c _ z
structure tD(X:Cx)(pins:Hz)(a:Addr):Prop where
 loc:a≠X.env.locals
 fs:a∉X.fs
 ex:a∈X.ex\/X.s₀.heap.objs.size<=a
 cel:∀x c,X.env.cells.lookup x=some c->c≠a
 pin:∀p∈X.pn++pins,p.1≠a
def Inv.GJ{H':Hp}(I:Inv X pins σ H s)(hb:s.heap.objs.size<=b):tD X pins b:=by have:=I.BY (H':=λ_=>none) hb rfl;exact⟨this.2.1,this.2.2.1,this.2.2.2.1,this.2.2.2.2.1,this.2.2.2.2.2⟩
def Inv.E2(I:Inv X pins σ H s)(w:tD X pins a)(hn:H a=none)(ho:s.heap.get? a=some o)(hc:∀v,o.data≠.cell v):Inv X (pins++[(a,o)]) σ H s:=
 I.Uj λp hp=>(S4.mp hp).elim (λz=>I.pin p (O2 _ z)) λz=>by rw[O0.mp z];exact⟨ho,hn,w.loc,w.fs,hc⟩
def Inv.at1(I:Inv X (pins++[(a,o)]) σ H s):s.heap.get? a=some o/\H a=none:=by have:=I.pin (a,o) (O2 _ (O2 _ L4));exact⟨this.1,this.2.1⟩
end
def n6(sp:Sp):List V->List V->Hp->(List V->Hp->Prop)->Prop
 |[],acc,H,Q=>Q acc H
 |v::vs,acc,H,Q=>sp [v] H (λz H'=>n6 sp vs (acc++[z]) H' Q) (λ_ _ _=>False)
def Xa(K:Il)(H:Hp):List V->List XZ->Prop
 |[],[]=>True
 |z::zs,k::ks=>(∃p,z=.ref p/\SqT K H p [.int k.1,.int k.2.1,.str k.2.2])/\Xa K H zs ks
 |_,_=>False
def Xa.len{K:Il}{H:Hp}:∀{zs:HN}{ks:List XZ},Xa K H zs ks->zs.length=ks.length
 |[],[],_=>rfl
 |_::_,_::_,t=>by rw[I0,I0,Xa.len t.2]
 |[],_::_,t=>t.elim
 |_::_,[],t=>t.elim
def Xa.lA{X:Cx}{pins:Hz}{σ:St}{H:Hp}{s:HJ}(I:Inv X pins σ H s):∀{zs:HN}{ks:List XZ}{us:HK},Xa X.K H zs ks->Vals zs us->bD s.heap us ks
 |[],[],_,_,.nil=>trivial
 |_::_,k::_,_,⟨⟨p,e,hq⟩,t⟩,.cons r rs=>by
  subst e;cases r;refine⟨?_,Xa.lA I t rs⟩;obtain⟨its,r',⟨o,ho,hc,n,hd⟩,_⟩:=I.tuple hq;cases r' with
  |cons r1 r'=>cases r' with
   |cons r2 r'=>cases r' with
    |cons r3 r'=>cases r';obtain⟨t1,rfl⟩:=r1;obtain⟨t2,rfl⟩:=r2;obtain⟨t3,rfl⟩:=r3;exact⟨p,o,n,t1,t2,t3,rfl,ho,hc,hd⟩
 |[],_::_,_,t,_=>t.elim
 |_::_,[],_,t,_=>t.elim
def Srt(kz:List XZ)(q:HF):Prop:=q.Perm (List.range kz.length)/\q.Pairwise λi j=>D4.kle (kz.getD i (0,0,"")) (kz.getD j (0,0,""))
def xu(sp:Sp)(K:Il)(ys:HN)(H:Hp)(Q:VK):Prop:=ys.length<64/\n6 sp ys [] H λzs H'=>∃kz:List XZ,kz.length=ys.length/\Xa K H' zs kz/\∀(q:HF) a,Srt kz q->H' a=none->Q (.ref a) (upd H' a (.lst (q.map λi=>ys.getD i .non)))
def xw(hp:Pm kz.length p)(hu:Up (O:=D4) (λi=>kz.getD i (0,0,"")) p kz.length):Srt kz p.toList:=by
 refine⟨hp.perm,?_⟩;rw[a12];intro i j hi hj hij;have hs:=hp.size;rw[a0L]at hi hj;have:=hu i j (a1e hij) (by omega);have e:∀k (hk:k<p.size),at0 p k=p.toList[k]'(by rw[a0L];exact hk):=λk hk=>by rw[Jl,getElem?_pos p k hk];simp
 unfold kk at this;rw[e i hi,e j hj]at this;exact this
section
variable {X:Cx}{k:Nat}{f:Addr}{fd:Ii}{ps:HA}{sp:Sp}
def tE(F:yU X.prog X.w X.K X.mg X.base (CXe X.prog X.w) k f fd ps sp)(hr:jU k A)(hA:p4 X.prog X.w X.K X.mg X.base A X.stack s H)(hb:Binds X.K fd ps [])
  (I:Inv X pins σ H s) (r:RelV v u) (h:sp [v] H Q (λ_ _ _=>False)):wpAny (IW X) A (call (.ref f) [u]) (EP X pins σ Q) E s:=by
 have r2:Vals [v] [u]:=.cons r .nil;have hl:([u]++[]).length=ps.length:=by rw[P0,<- r2.length];exact F.len _ _ _ _ h
 have bd:=hb s [u] I.kIn hl;rw[P0]at bd;refine a0R (a0w (F.run A X.stack s H ⟨[u],[]⟩ [u] [v] Q _ hr hA bd r2 h) λr s' hq=>?_);cases r with
 |error e=>exact(bw hq).elim
 |ok fl=>
  cases fl with
  |ret u=>exact I.after hq
  |next=>exact False.elim hq
  |brk=>exact False.elim hq
  |cont=>exact False.elim hq
def KC(X:Cx)(k:Nat)(lp:Hz)(f:Addr)(sp:Sp):Prop:=∀{pins:Hz}{σ:St}{H:Hp}{s:HJ}{Q:VK}{E:HB}{A:Ih}{u:Value}{v:V},(∀p∈lp,p∈pins)->jU k A->p4 X.prog X.w X.K X.mg X.base A X.stack s H->Inv X pins σ H s->RelV v u->sp [v] H Q (λ_ _ _=>False)->wpAny (IW X) A (call (.ref f) [u]) (EP X pins σ Q) E s
def F9(F:yU X.prog X.w X.K X.mg X.base (CXe X.prog X.w) k f fd ps sp)(hb:Binds X.K fd ps []):KC X k [] f sp:=λ_ hr hA I r h=>tE F hr hA hb I r h
end
section
variable {X:Cx}{k:Nat}{f:Addr}{sp:Sp}
def f6{pins:Hz}{σ:St}{A:Ih}{E:HB}{kS:Addr}{Q0:List V->Hp->Prop}{body:Value->PUnit->Sem (ForInStep PUnit)}{lp:Hz}(F:KC X k lp f sp)(hlp:∀p∈lp,p∈pins)(hr:jU k A)(hA:A.frames=X.A.frames)
  (w:tD X pins kS)
  (la:∀x s (C:Shared->Prop),wpAny (IW X) A (call (.ref f) [x]) (λz s'=>wpAny (IW X) A (Builtin.List.listUpdate (.ref kS) (·.push z)) (λ_ s''=>C s'') (λ_ _=>False) s') (λ_ _=>False) s->wpAny (IW X) A (body x ⟨⟩) (λr s'=>r=.yield ⟨⟩/\C s') E s):
  ∀{ys:HN}{its:HK}{acc:HN}{us:HK}{e:Nat}{H:Hp}{s:HJ},acc.length+ys.length<64->Vals ys its->Vals acc us->Inv X (pins++[(kS,seqObj "list" us.toArray e)]) σ H s->n6 sp ys acc H Q0->
   wpAny (IW X) A (forIn its PUnit.unit body) (λ_ s'=>∃zs us' e' H',zs.length=acc.length+ys.length/\Vals zs us'/\Inv X (pins++[(kS,seqObj "list" us'.toArray e')]) σ H' s'/\Q0 zs H') E s
 |[],_,acc,us,e,H,s,_,.nil,ra,I,h=>by rw[List.forIn_nil];exact L6 ⟨acc,us,e,H,rfl,ra,I,h⟩
 |v::ys,_,acc,us,e,H,s,hl,.cons (b:=u) (l₂:=its) r rs,ra,I,h=>by
  rw[I0]at hl;have hul:=ra.length;rw[List.forIn_cons];refine f8 (S7 (la u s (λs'=>∃(zs:(V×Nat)×Value) (H':Hp),Inv X (pins++[(kS,seqObj "list" (us++[zs.2]).toArray zs.1.2)]) σ H' s'/\RelV zs.1.1 zs.2/\n6 sp ys (acc++[zs.1.1]) H' Q0) ?_) (λq s' hq=>?_) λ_ _ x=>x)
  .have A0:p4 X.prog X.w X.K X.mg X.base A X.stack s H:=⟨hA.trans I.lX.frames,I.lX.mod,I.lX.bs,I.lX.bsz,I.lX.eS,I.lX.frf,I.lX.hok,I.lX.bare⟩;refine S7 (F (λp hp=>a0F _ (hlp p hp)) hr A0 I r h) (λz s1 ⟨y,H1,I1,r1,q1⟩=>?_) λ_ _ x=>x;have a1:=I1.at1;have J1:Inv X pins σ H1 s1:=I1.kQ;obtain⟨e2,he2⟩:∃e2,(s1.heap.update kS (Obj.mapSeq (·.push z))).get? kS=some (seqObj "list" (us++[z]).toArray e2):=⟨_,by
    have:=get?_update_seq a1.1 (·.push z);rw[show us.toArray.push z=(us++[z]).toArray by simp]at this;exact this⟩
   refine a1T a1.1 rfl ?_ (by rw[M8,S0];omega) (O5 (a1w (Array.size_push ..)) (by rw[M8,S0];omega));have J2:Inv X pins σ H1 { s1 with heap:=s1.heap.update kS (Obj.mapSeq (·.push z)),toks:=s1.toks }:=J1.turned (λb o hb ho=>(N9 s1.heap _ (Ne.symm hb)).trans ho) a1.2 w.loc w.ex w.cel w.pin;exact⟨((y,e2),z),H1,J2.E2 w a1.2 he2 (λv h=>by cases h),r1,q1⟩
  .obtain⟨rfl,zs,H',I',r',q'⟩:=hq;show wpAny (IW X) A (forIn its PUnit.unit body) _ E s';refine S7 (f6 F hlp hr hA w la (ys:=ys) (acc:=acc++[zs.1.1]) (us:=us++[zs.2]) (by rw[N8,a1s];omega) rs (ra.append (.cons r' .nil)) I' q') (λ_ s2 ⟨zs',us',e',H2,hl',h2,h3,h4⟩=>⟨zs',us',e',H2,?_,h2,h3,h4⟩) λ_ _ x=>x;rw[hl',N8,a1s,I0];omega
def Vals.getD(r:Vals ys its)(i:Nat):RelV (ys.getD i .non) (its.getD i .none):=by
 induction r generalizing i with
 |nil=>exact rfl
 |cons r rs ih=>
  cases i with
  |zero=>exact r
  |succ i=>exact ih i
def UN{ys:HN}{its:HK}(r:Vals ys its):∀q:List Nat,Vals (q.map λi=>ys.getD i .non) (q.map λi=>its.getD i .none)
 |[]=>.nil
 |i::q=>.cons (r.getD i) (UN r q)
end
section
variable {X:Cx}{k:Nat}{f:Addr}{fd:Ii}{ps:HA}{sp:Sp}
def bE{pins:Hz}{σ:St}{A:Ih}{E:HB}{kS D:Addr}{e e1:Nat}{H:Hp}{s:HJ}{us outU:HK}{outV:HN}{st:SortSt}{Q:VK}{P:PySem.Fin->Shared->Prop}
  (w1:tD X pins D) (w2:tD X (pins++[(D,seqObj "list" #[] e1)]) kS) (hu:us.length<64) (ho:outU.length<64) (ro:Vals outV outU) (hout:(arrOf st).map (·.2)=List.toArray outU) (hf:failedOf st=none)
  (I:Inv X (pins++[(D,seqObj "list" #[] e1)]++[(kS,seqObj "list" us.toArray e)]) σ H s) (hq:Q (.ref D) (upd H D (.lst outV))) (hP:∀s',EP X pins σ Q (.ref D) s'->P (.done (.ret .none)) s'):wpAny (IW X) A (ksk_tail D false e1 (.ref kS) st) P E s:=by
 have aK:=I.at1;have J1:Inv X (pins++[(D,seqObj "list" #[] e1)]) σ H s:=I.kQ;have hne:kS≠D:=λz=>w2.pin (D,seqObj "list" #[] e1) (O2 _ (O2 _ L4)) z.symm;have J2:Inv X (pins++[(D,seqObj "list" #[] e1)]) σ H { s with heap:=s.heap.update kS (Obj.mapSeq λ_=>(#[]:Array Value)),toks:=s.toks }:=J1.turned (λb o hb ho=>(N9 s.heap _ (Ne.symm hb)).trans ho) aK.2 w2.loc w2.ex w2.cel w2.pin;have aD:=J2.at1;unfold ksk_tail
 try dsimp only
 rw[hout];refine f8 (a1T aK.1 rfl ?_ (by rw[M8,S0];omega) (P1 _));refine f8 (a2Z ?_);refine f8 (seqEpoch_at aD.1 rfl ?_);refine f8 (a1T aD.1 rfl ?_ (P1 _) (by simp only[Bool.false_eq_true,if_false,List.size_toArray];rw[S0];omega));rw[hf];simp only[bne_self_eq_false,Bool.false_eq_true,if_false];refine L6 (hP _ ?_);have e2:=get?_update_seq aD.1 λ_=>List.toArray outU;have hl:=ro.length;have J4:Inv X pins σ (upd H D (.lst outV)) { s with heap:=(s.heap.update kS (Obj.mapSeq λ_=>(#[]:Array Value))).update D (Obj.mapSeq λ_=>List.toArray outU),toks:=s.toks }:=Inv.F8 (s:={ s with heap:=s.heap.update kS (Obj.mapSeq λ_=>(#[]:Array Value)),toks:=s.toks }) J2.kQ (λb o hb ho=>(N9 _ _ (Ne.symm hb)).trans ho) aD.2 w1.loc w1.ex w1.cel w1.pin (o:=.lst outV) ⟨by rw[S0];omega,outU,_,ro,e2⟩;exact⟨.ref D,_,J4,rfl,hq⟩
def tF
  (w1:tD X pins D) (w2:tD X (pins++[(D,seqObj "list" #[] e1)]) kS) (hy:ys.length<64) (ry:Vals ys its) (rz:Vals zs us) (hk:Xa X.K H zs kz) (hkl:kz.length=ys.length)
  (I:Inv X (pins++[(D,seqObj "list" #[] e1)]++[(kS,seqObj "list" us.toArray e)]) σ H s) (hq:∀q:List Nat,Srt kz q->Q (.ref D) (upd H D (.lst (q.map λi=>ys.getD i .non)))) (hP:∀s',EP X pins σ Q (.ref D) s'->P (.done (.ret .none)) s'):wpAny (IW X) A (ksk_end D false its.toArray e1 (.ref kS) us.toArray) P E s:=by
 have hl:=ry.length;have hzl:=hk.len;have hul:=rz.length;have hit:us.length=its.length:=by omega
 unfold ksk_end
 try dsimp only
 simp only[Bool.false_eq_true,if_false];by_cases h2:its.toArray.size<2
 .rw[if_pos h2,if_pos h2];rw[M8]at h2;refine f8 (L6 ?_);rw[StateT.run_pure];refine f8 (L6 ?_)
  try dsimp only
  have hs:Srt kz (List.range its.length):=by refine⟨by rw[hkl,hl],?_⟩;rw[a12];intro i j hi hj hij;rw[R9]at hi hj;omega
  refine bE w1 w2 (by omega) (outU:=(List.range its.length).map λi=>its.getD i .none) (by rw[t0,R9];omega) (UN ry _) ?_ rfl I (hq _ hs) hP;apply a2c.mp;show((us.toArray.zip its.toArray).map (·.2)).toList=_;rw[Array.toList_map,ksk_zip,List.map_snd_zip (by rw[List.toList_toArray,hit];exact L5 _)];refine a2d (by rw[t0,R9]) λi h1 h2=>?_;rw[a0u,a1g];simp[h1]
 .rw[if_neg h2,if_neg h2];rw[M8]at h2;have T3:=hk.lA I rz;refine f8 (F7 T3 (by omega) ?_);have tree:(kas_sort its.length).kasWp (kas_ask X.prog X.w A (tuples' true) us) (λp s'=>s'=s/\Srt kz p.toList) s:=by
   refine nZ (P:=(·<kz.length)) (f:=ans (O:=D4) λi=>kz.getD i (0,0,"")) (J:=λs'=>s'=s) (Q:=λp=>Srt kz p.toList) (λi j C s' hi hj hs hC=>?_) (λp s' h1 h2=>⟨h2,h1⟩) rfl ?_
   .subst hs;exact lt3 (T3.get (0,0,"") hi) (T3.get (0,0,"") hj) (hC _ rfl)
   .have:=n5 (O:=D4) (key:=λi=>kz.getD i (0,0,"")) (n:=kz.length) (by omega);rw[show its.length=kz.length by omega];exact yM (λp ⟨a,b⟩=>xw a b) this
  refine f8 (S7 (kat_run (ks:=us) (vs:=its) (Q:=λst' s'=>s'=s/\∃p:Array Nat,p.size=its.length/\arrOf st'=p.map (kas_item (us.toArray.zip its.toArray))/\failedOf st'=none/\Srt kz p.toList) hit (by omega) (by omega) (λp st' s' a1 a2 a3 a4=>⟨a4.1,p,a1,a2,a3,a4.2⟩) tree) ?_ λ_ _ x=>x)
  rintro⟨⟨⟩,st'⟩ s' ⟨rfl,p,hp,har,hf,srt⟩
  try dsimp only
  exact bE w1 w2 (by omega) (outU:=p.toList.map λi=>its.getD i .none) (by rw[t0,a0L];omega) (UN ry _) (kat_snds hit har) hf I (hq _ srt) hP
end
def iI(F:KC X k lp f sp)(hlp:∀p∈lp,p∈pins)(hr:jU (k+2) X.A)
  (I:Inv X pins σ H s) (hl:SqL X.K H l ys) (h:xu sp X.K ys H Q):wpAny (IW X) X.A (call (.builtin "sorted") [.ref l] [(Str.ofString "key",.ref f)]) (EP X pins σ Q) E s:=by
 obtain⟨hy,h⟩:=h;obtain⟨its,ry,pl,hz⟩:=I.list hl;have hlen:=ry.length;refine call_function_entry_kw kind_sorted plain_sorted entry_sorted (ksk_s1 _ _) ?_;unfold Builtin.«sorted»;refine f8 (m:=checkCount "sorted" 1 1 _) (L6 ?_);refine f8 (collect_list pl.isList ?_ (by rw[S0];omega));refine f8 (a2H ?_ (by rw[S0];omega));have hsz:((s.heap.push (seqObj "list" #[] 0)).update s.heap.objs.size (Obj.mapSeq (·++its.toArray))).objs.size=s.heap.objs.size+1:=by rw[Heap.size_update,a2E]
 have hoL:(((s.heap.push (seqObj "list" #[] 0)).update s.heap.objs.size (Obj.mapSeq (·++its.toArray))).push (seqObj "list" its.toArray 0)).get? (s.heap.objs.size+1)=some (seqObj "list" its.toArray 0):=by rw[<- hsz];exact M7 _ rfl
 have keep:∀b o,s.heap.get? b=some o->(((s.heap.push (seqObj "list" #[] 0)).update s.heap.objs.size (Obj.mapSeq (·++its.toArray))).push (seqObj "list" its.toArray 0)).get? b=some o:=λb o q=>by have hlt:b<s.heap.objs.size:=L7 q;rw[Heap.get?_push_ne _ _ _ (by rw[hsz];exact L9 (a0q hlt)),a1H _ _ _ _ (L9 hlt),Heap.get?_push_ne _ _ _ (L9 hlt)];exact q
 have hs1:(((s.heap.push (seqObj "list" #[] 0)).update s.heap.objs.size (Obj.mapSeq (·++its.toArray))).push (seqObj "list" its.toArray 0)).objs.size=s.heap.objs.size+2:=by rw[a2E,hsz]
 show wpAny _ _ _ _ _ { s with heap:=((s.heap.push (seqObj "list" #[] 0)).update s.heap.objs.size (Obj.mapSeq (·++its.toArray))).push (seqObj "list" its.toArray 0) };rw[hsz];have I1:Inv X pins σ H { s with heap:=((s.heap.push (seqObj "list" #[] 0)).update s.heap.objs.size (Obj.mapSeq (·++its.toArray))).push (seqObj "list" its.toArray 0),toks:=s.toks }:=I.kept keep;have w1:tD X pins (s.heap.objs.size+1):=I.GJ (H':=H) (T8 _);have n1:H (s.heap.objs.size+1)=none:=I.hok.fresh (T8 _);generalize((s.heap.push (seqObj "list" #[] 0)).update s.heap.objs.size (Obj.mapSeq (·++its.toArray))).push (seqObj "list" its.toArray 0)=h1 at hoL hs1 I1 keep;generalize hD:s.heap.objs.size+1=D at hoL w1 n1;refine f8 (P7 (wpAny_call_entry_kw slot_list_sort ⟨_,hoL,rfl⟩ entry_list_sort ?body (ksk_l1 _ _)))
 case body=>
  show wpAny (IW X) X.A.in1.in1 (Builtin.«list.sort» ⟨[.ref D],[(Str.ofString "key",.ref f)]⟩) _ _ _;rw[ksk_t1];obtain⟨e1,ho1⟩:∃e1,(h1.update D (Obj.mapSeq λ_=>(#[]:Array Value))).get? D=some (seqObj "list" #[] e1):=⟨_,get?_update_seq hoL λ_=>#[]⟩;have I2:Inv X pins σ H { s with heap:=h1.update D (Obj.mapSeq λ_=>(#[]:Array Value)),toks:=s.toks }:=Inv.turned (s:={ s with heap:=h1,toks:=s.toks }) I1 (λb o hb ho=>(N9 h1 _ (Ne.symm hb)).trans ho) n1 w1.loc w1.ex w1.cel w1.pin;have hs2:(h1.update D (Obj.mapSeq λ_=>(#[]:Array Value))).objs.size=s.heap.objs.size+2:=by rw[Heap.size_update,hs1]
  unfold ksk_tree;refine f8 (listItems_at hoL rfl ?_);refine f8 (a1T hoL rfl ?_ (by rw[M8,S0];omega) (P1 _));generalize h1.update D (Obj.mapSeq λ_=>(#[]:Array Value))=h2 at ho1 I2 hs2;refine f8 (seqEpoch_at ho1 rfl ?_);refine f8 (wpAny_newTuple ?_ (by show its.length<=_;rw[S0];omega));refine f8 (a2H ?_ (P1 _));refine P7 ?_;have hk3:(h2.push { cls:=.type "tuple",data:=.seq its.toArray.toList.toArray }).objs.size=s.heap.objs.size+3:=by rw[a2E,hs2]
  have keep3:∀b o,h2.get? b=some o->((h2.push { cls:=.type "tuple",data:=.seq its.toArray.toList.toArray }).push { cls:=.type "list",data:=.seq ([]:List Value).toArray }).get? b=some o:=λb o q=>u8 _ (u8 _ q);have I3:Inv X pins σ H { s with heap:=(h2.push { cls:=.type "tuple",data:=.seq its.toArray.toList.toArray }).push { cls:=.type "list",data:=.seq ([]:List Value).toArray },toks:=s.toks }:=Inv.kept (s:={ s with heap:=h2,toks:=s.toks }) I2 keep3;have hoK:((h2.push { cls:=.type "tuple",data:=.seq its.toArray.toList.toArray }).push { cls:=.type "list",data:=.seq ([]:List Value).toArray }).get? (h2.push { cls:=.type "tuple",data:=.seq its.toArray.toList.toArray }).objs.size=some (seqObj "list" ([]:List Value).toArray 0):=M7 _ rfl;have hoD:=keep3 D _ ho1;show wpAny (IW X) X.A.in1.in1 (ksk_rest D (.ref f) false its.toArray e1 (.ref (h2.push { cls:=.type "tuple",data:=.seq its.toArray.toList.toArray }).objs.size)) _ _ { s with heap:=(h2.push { cls:=.type "tuple",data:=.seq its.toArray.toList.toArray }).push { cls:=.type "list",data:=.seq ([]:List Value).toArray },toks:=s.toks };have w2:tD X (pins++[(D,seqObj "list" #[] e1)]) (h2.push { cls:=.type "tuple",data:=.seq its.toArray.toList.toArray }).objs.size:=by have J:Inv X (pins++[(D,seqObj "list" #[] e1)]) σ H { s with heap:=h2,toks:=s.toks }:=Inv.E2 (s:={ s with heap:=h2,toks:=s.toks }) I2 w1 n1 ho1 (λv h=>by cases h);exact J.GJ (H':=H) (by show h2.objs.size<=_;rw[hk3,hs2];omega)
  have n2:H (h2.push { cls:=.type "tuple",data:=.seq its.toArray.toList.toArray }).objs.size=none:=I.hok.fresh (by rw[hk3];omega);generalize(h2.push { cls:=.type "tuple",data:=.seq its.toArray.toList.toArray }).push { cls:=.type "list",data:=.seq ([]:List Value).toArray }=h3 at I3 hoK hoD;generalize(h2.push { cls:=.type "tuple",data:=.seq its.toArray.toList.toArray }).objs.size=kS at hoK w2 n2;have I4:Inv X (pins++[(D,seqObj "list" #[] e1)]++[(kS,seqObj "list" ([]:List Value).toArray 0)]) σ H { s with heap:=h3,toks:=s.toks }:=
   Inv.E2 (s:={ s with heap:=h3,toks:=s.toks }) (Inv.E2 (s:={ s with heap:=h3,toks:=s.toks }) I3 w1 n1 hoD (λv h=>by cases h)) w2 n2 hoK (λv h=>by cases h)
  unfold ksk_rest;refine f8 (a11 ?_)
  first
   |rw[List.forIn_toArray]
   | (rw[<- a2U];simp only[List.toList_toArray])
   |rw[<- a2U]
  refine f8 (S7 (f6 (pins:=pins++[(D,seqObj "list" #[] e1)]) (σ:=σ) (A:=X.A.in1.in1) (E:=E) F (λp hp=>a0F _ (hlp p hp)) hr.in1.in1 rfl w2 (λx s' C hx=>?_) (ys:=ys) (its:=its) (acc:=[]) (us:=[]) (e:=0) (H:=H) (by rw[a1y];omega) ry .nil I4 h) (λ_ s' hd=>?_) λ_ _ x=>x)
  .refine f8 (a1q (S7 hx (λz s'' hz=>?_) λ_ _ hF=>hF.elim))
   try dsimp only
   exact f8 (S7 hz (λ_ s3 h3=>L6 ⟨rfl,h3⟩) λ_ _ hF=>hF.elim)
  .obtain⟨zs,us,e2,H',hzl,rz,I5,kz,hkl,hk3,hq⟩:=hd;have aK:=I5.at1;have aD:=I5.kQ.at1
   try dsimp only
   refine f8 (listItems_at aK.1 rfl ?_);exact tF w1 w2 hy ry rz hk3 hkl I5 (λq srt=>hq q D srt aD.2) λs3 he=>⟨_,rfl,L6 ⟨_,rfl,he⟩⟩
def UO(g:Ia):List PV->Option (List XZ)
 |[]=>some []
 |x::xs=>match g [x]with
  |.ok (.t [.i a,.i b,.s c])=>(UO g xs).map ((a,b,c)::·)
  |_=>none
def bF{g:Ia}:∀{xs:Ib}{kz:List XZ},UO g xs=some kz->kz.length=xs.length
 |[],_,h=>by cases h;rfl
 |x::xs,kz,h=>by
  unfold UO at h;split at h
  .obtain⟨ks,e,rfl⟩:=v4.mp h;rw[I0,I0,bF e]
  .cases h
def n8{α:Type}{P:IL}{f:IJ}{Q:α->Prop}:∀{t:KasT α},Vz P f t Q->∃a,Q a
 |.ret a,h=>⟨a,h⟩
 |.ask _ _ _,h=>n8 h.2.2
def xx(kz:List XZ):∃q,Srt kz q:=by
 by_cases h:0<kz.length
 .obtain⟨p,a,b⟩:=n8 (n5 (O:=D4) (key:=λi=>kz.getD i (0,0,"")) h);exact⟨p.toList,xw a b⟩
 .refine⟨[],?_,List.Pairwise.nil⟩;rw[show kz.length=0 by omega];exact List.Perm.refl _
def Bj(kz:List XZ):List Nat:=Classical.choose (xx kz)
def VA(kz:List XZ):Srt kz (Bj kz):=S6 (xx kz)
def Bk(nd:kz.Nodup)(h:Srt kz q)(h':Srt kz q'):q=q':=by
 refine a2e (λa b ha hb h1 h2=>?_) h.2 h'.2 (h.1.trans h'.1.symm);have a1:=a0l.mp (h.1.mem_iff.mp ha);have b1:=a0l.mp (h'.1.mem_iff.mp hb);have e:=KeyOrd.kle_antisymm h1 h2;have ga:kz.getD a (0,0,"")=kz[a]:=by simp[a1]
 have gb:kz.getD b (0,0,"")=kz[b]:=by simp[b1]
 rw[ga,gb]at e;exact(List.getElem_inj nd).mp e
open Classical in
def tH(g:Ia)(xs:Ib):Out PV:=if xs.length<64 then match UO g xs with
 |some kz=>if kz.Nodup then .ok (.l ((Bj kz).map λi=>xs.getD i .n))else .wall
 |none=>.wall else .wall
def f7(g:Ia)(ms:MA):ME:=λρ=>(ms ρ).bind λxs=>match xs with
 |[.l xs]=>tH g xs
 |_=>.wall
def SqT.same{K:Il}{H H':Hp}{p:Addr}{xs:HN}(h:SqT K H p xs)(s:zr H H'):SqT K H' p xs:=by
 rcases h with h|h
 .rcases h with h|⟨o,h⟩
  .exact .inl (.inl (s _ _ h))
  .exact .inl (.inr ⟨o,s _ _ h⟩)
 .exact .inr h
def n_{W:RC}{M:HI}{wk:Bool}{g:Ia}{Q:List V->Hp->Prop}:∀{xs:Ib}{vs acc:HN}{H:Hp}{kz:List XZ},zP W M H xs vs->UO g xs=some kz->(∀H' zs,zr H H'->Xa W.K H' zs kz->Q (acc++zs) H')->n6 (lsp W false [wk] g) vs acc H Q
 |[],_,acc,H,kz,hr,hk,q=>by cases(show _=_ from hr);cases hk;have:=q H [] (zr.refl _) trivial;rw[P0]at this;exact this
 |x::xs,_,acc,H,kz,hr,hk,q=>by
  obtain⟨v,r,rfl,h1,h2⟩:=hr;unfold UO at hk;split at hk
  .rename_i a b c hg;obtain⟨ks,e,rfl⟩:=v4.mp hk;refine⟨M,[x],⟨x,v,[],[],rfl,rfl,?_,rfl,rfl⟩,?_⟩
   .cases wk with
    |true=>rw[if_pos rfl];exact h1.weak
    |false=>rw[if_neg N6];exact yF.iff.mpr h1
   .rw[hg];intro z H2 s hz;unfold RtV at hz;rw[if_neg N6]at hz;obtain⟨p,ws,rfl,hq,hws⟩:=hz;obtain⟨v1,r1,rfl,e1,hws⟩:=hws;obtain⟨v2,r2,rfl,e2,hws⟩:=hws;obtain⟨v3,r3,rfl,e3,hws⟩:=hws;cases(show _=_ from hws);cases(show _=_ from e1);cases(show _=_ from e2);cases(show _=_ from e3);refine n_ (acc:=acc++[.ref p]) (h2.same s) e λH' zs s' hz=>?_;have:=q H' (.ref p::zs) (s.trans s') ⟨⟨p,rfl,hq.same s'⟩,hz⟩;rw[T6];exact this
  .cases hk
def zP.xy{W:RC}{M:HI}{H:Hp}{xs:Ib}{vs:HN}(h:zP W M H xs vs):∀q:List Nat,zP W M H (q.map λi=>xs.getD i .n) (q.map λi=>vs.getD i .non)
 |[]=>rfl
 |i::q=>by
  refine⟨_,_,rfl,?_,h.xy q⟩;show Rep W M H (xs.getD i .n) (vs.getD i .non);simp only[List.getD_eq_getElem?_getD];cases hx:xs[i]? with
  |some x=>obtain⟨v,e,r⟩:=h.get hx;rw[e];exact r
  |none=>
   cases hv:vs[i]? with
   |none=>exact rfl
   |some v=>obtain⟨x,e,_⟩:=h.B4 hv;rw[hx]at e;cases e
def tI(F:yU X.prog X.w X.K X.mg X.base (CXe X.prog X.w) k f fd ps sp)(hr:jU (k+2) X.A)(hb:Binds X.K fd ps [])(hg:Gl X "sorted")(hm:X.mg "sorted"=none)(hgf:Gl X fn)(hmf:X.mg fn=some (.ref f))(ha:PA X [e] t)(hdb:(fn==("__debug__":Str))=false:=by decide)
  (he1:backTo pos (starEach [e] X.env)=(false,eval e X.env)::backTo pos (starEach [] X.env):=by rfl) (hpl:(backTo pos (starEach [e] X.env)).any (·.1)=false:=by rfl):
  PE X (.Call (.Name "sorted" p) [e] [⟨some "key",.Name fn p2,kpos⟩] pos) (λσ H Q=>t σ H λvs H1=>∃l ys,vs=[.ref l]/\SqL X.K H1 l ys/\xu sp X.K ys H1 Q):=by
 intro pins s σ H Q I h;refine a0d (VG I hg hm boot_sorted ?_ (by decide) (by decide));refine callWith_kw (thn (ha pos pins s σ H _ I h) λus s1 ⟨vs,H1,I1,r1,l,ys,hv,hl,hq⟩=>?_) he1 hpl;subst hv;obtain⟨u,rfl,ru⟩:=vals1 r1;cases ru;refine thn (x6 (nm:=some "key") (kpos:=kpos) (zK (v:=.ref f) hgf hmf rfl hdb) CD pos pins s1 σ H1 (λzs H2=>zs=[.ref f]/\H2=H1) I1 ⟨rfl,rfl⟩) λws s2 ⟨zs,H2,I2,rz,e1,e2⟩=>?_;subst e1;subst e2;obtain⟨u2,rfl,ru2⟩:=vals1 rz;cases ru2;exact iI (F9 F hb) (λ_ h=>nomatch h) hr I2 hl hq
def tJ(F:yU X.prog X.w X.K X.mg X.base (CXe X.prog X.w) k f fd ps (lsp C.W false [wk] g))(hr:jU (k+2) X.A)(hb:Binds X.K fd ps [])(hg:Gl X "sorted")(hm:X.mg "sorted"=none)(hgf:Gl X fn)(hmf:X.mg fn=some (.ref f))(ha:AM X C S ws [e] ms)(hdb:(fn==("__debug__":Str))=false:=by decide)
  (he1:backTo pos (starEach [e] X.env)=(false,eval e X.env)::backTo pos (starEach [] X.env):=by rfl) (hpl:(backTo pos (starEach [e] X.env)).any (·.1)=false:=by rfl):
  FM X C S (.Call (.Name "sorted" p) [e] [⟨some "key",.Name fn p2,kpos⟩] pos) (f7 g ms):=λhK=>by
 obtain⟨ta,a1,a2⟩:=ha hK;refine⟨_,tI F hr hb hg hm hgf hmf a1 hdb he1 hpl,λB P H σ ρ R Q q=>a2 B P H σ ρ R _ (jW q λxs vs H1 s1 r1 q1=>?_)⟩;have r1:=r1.weak;split at q1
 .rename_i ys _;obtain⟨v,r,rfl,⟨l,us,rfl,_,hl,rr⟩,hr'⟩:=r1;cases(show _=_ from hr');unfold tH at q1;split at q1
  .rename_i h64;split at q1
   .rename_i kz hk;split at q1
    .rename_i nd;have hlen:us.length=ys.length:=(zP.len rr).symm▸rfl;rw[hK];refine⟨l,us,rfl,SqL.of hl,by omega,n_ rr hk λH' zs s hz=>⟨kz,by rw[bF hk,hlen],by rw[a0B];exact hz,λq' a srt ha=>?_⟩⟩;rw[Bk nd srt (VA kz)];have q2:=jV q1 s;exact q2 _ _ (zr.upd ha) (v5 ((rr.same s).xy _) ha)
    .exact q1.elim
   .exact q1.elim
  .exact q1.elim
 .exact q1.elim
def V9(f:Str)(x:HV):List (Str×HV)->List (Str×HV)
 |[]=>[(f,x)]
 |kx::r=>if kx.1=f then(kx.1,x)::r else kx::V9 f x r
def qD.JZ{R:HV->V->Prop}{f:Str}{x:HV}{v:V}(hx:R x v):∀{fs:List (Str×HV)}{es:Ik},qD R fs es->qD R (V9 f x fs) (JZ f v es)
 |[],_,h=>by cases(show _=_ from h);exact⟨v,[],rfl,hx,rfl⟩
 |kx::r,_,⟨u,q,e,h1,h2⟩=>by
  subst e;unfold V9 L2.JZ;by_cases c:kx.1=f
  .rw[if_pos c,if_pos (by simpa using c)];exact⟨v,q,rfl,hx,h2⟩
  .rw[if_neg c,if_neg (by simpa using c)];exact⟨u,_,rfl,h1,qD.JZ hx h2⟩
def UP(cs:HF)(f:Str)(mo mv:HME):HMS:=λρ G=>(mv ρ G).fw λy G1=>(mo ρ G1).fw λx G2=>match x with
 |.g k=>match G2[k]? with
  |some (.o c fs)=>if c∈cs/\fs.length<1000 then .nx ρ (G2.set k (.o c (V9 f y fs)))else .wall
  |_=>.wall
 |_=>.wall
def oa(ho:HE X W E o m1)(hv:HE X W E e m2)(hc:∀c∈cs,Cls X.K (W.cls c)/\jF X.K (W.cls c) fn)(hs:swapsWith e (some (.Attribute o fn pos')) pos.line X.env=pure false:=by rfl):
  HS X W E (.Assign [.Attribute o fn pos'] e pos) (UP cs fn m1 m2):=λhK=>by
 obtain⟨to,o1,o2⟩:=ho hK;obtain⟨te,a1,a2⟩:=hv hK;refine⟨_,uL o1 a1 hs,λZ hZ A H σ ρ G R D q=>a2 Z hZ A H σ ρ G R _ (HPs.bind q λy A1 H1 G1 h1 g1 q1 u ry=>?_)⟩;have R1:=R.gro h1 g1;refine o2 Z hZ A1 H1 σ ρ G1 R1 _ (HPs.bind q1 λx A2 H2 G2 h2 g2 q2 v rx=>?_);subst hZ;split at q2
 .rename_i k;obtain⟨hk,rfl⟩:=rx;split at q2
  .rename_i c fs hG;split at q2
   .rename_i hcs;obtain⟨dx,vs,hp,r⟩:=h2.cell k _ hG;have hl:=qD.len r;have g3:=h2.frw (o:=.ins (Z.W.cls c) dx (JZ fn u vs)) hk hp id;refine⟨_,_,dx,vs,rfl,hp,(hc c hcs.1).1,(hc c hcs.1).2,by rw[hl];exact hcs.2,GH (c:=.o c (V9 fn y fs)) (R1.gro h2 g2) hk hp id ⟨dx,_,zg,?_⟩ q2⟩;exact qD.JZ ((ry.gro g2).gro g3) (r.imp λ_ _ z=>z.gro g3)
   .exact q2.elim
  .exact q2.elim
 .exact q2.elim
section
variable {X:Cx}{W:RC}{E:XK}{e:HY}{es:HL}{ms:HMA}{g:List HV->AH->HX HV}{k n:Nat}{f:Addr}{fd:Ii}{ps:HA}{x:Str}{p pos:Pos}
end
def F_(kvs:IE)(ks:IB):PV->Out PV
 |.i n=>.ok (.i ((zB kvs ks).getD n))
 |_=>.wall
def iJ(m:ME)(ms:MA)(md:ME):ME:=λρ=>(m ρ).bind λx=>match x with
 |.dt kvs=>(ms ρ).bind λxs=>match pk2 xs with
  |some ks=>(md ρ).bind (F_ kvs ks)
  |none=>.wall
 |_=>.wall
def og(hu:X.A.units+1<cLine)(h1:EM X C S w1 o m1)(h2:AM X C S ws es ms)(h3:EM X C S w2 f m2)(m:M2 X o "get" qE (.Tuple es x1 p) f kM):EM X C S false (.Call (.Attribute o "get" qE) [.Tuple es x1 p,f] [] kM) (iJ m1 ms m2):=λhK=>by
 obtain⟨ta,a1,a2⟩:=h1 hK;obtain⟨tb,b1,b2⟩:=h2 hK;obtain⟨tc,c1,c2⟩:=h3 hK;refine⟨_,rW hu a1 (XM b1) c1 m,λB P H σ ρ R Q q=>a2 B P H σ ρ R _ (z4 q λx v H1 s1 r1 q1=>?_)⟩;cases x with
 |dt kvs=>
  obtain⟨a,rfl,_,hd⟩:=r1.weak;refine⟨a,rfl,.inr ⟨_,hd⟩,b2 B P H1 σ ρ (R.keep s1) _ (yH q1 λxs vs H2 s2 r2 q2=>?_)⟩;split at q2
  .rename_i ks hk;obtain⟨rfl,hl⟩:=r2.EZ hk;refine⟨hl,λz hz=>c2 B P _ σ ρ (((R.keep s1).keep s2).keep (zr.upd hz)) _ (z4 (vZ q2 (zr.upd hz)) λy u H3 s3 r3 q3=>?_)⟩;unfold F_ at q3;split at q3
   .rename_i n;cases(show u=.int n from r3.weak);refine⟨_,.inr ⟨_,_,z,V7 s3 (V7 (zr.upd hz) (V7 s2 hd)),rfl,s3 _ _ zg,rfl⟩,?_⟩;rw[UL];cases e:zB kvs ks with
    |none=>rw[e]at q3;exact q3 _ H3 (zr.refl _) (RV.of rfl)
    |some k=>rw[e]at q3;exact q3 _ H3 (zr.refl _) (RV.of rfl)
   .exact q3.elim
  .exact q2.elim
 |_=>exact q1.elim
section
open PySem.SeqAt
open PySem.AutoSeq1 (wpAny_loadPart')
open PySem.MeetsSeq PySem.MeetsSeq2 PySem.MeetsSeq3
end
section
variable {X:Cx}
end
section
variable {X:Cx}{C:LC}{S:HF}{o f:HY}{es:HL}{ws:HW}{w1 w2:Bool}{m1 m2:ME}{ms:MA}{kM qE p:Pos}{x1:Nat}
end
end L2
namespace L2
open PySem PySem.Spec PyProof.Rows PySem.W
section
variable {X:Cx}{W:RC}{E:XK}{o a e:HY}{m m1 m2:HME}{pos tpos:Pos}
end
section
variable {Z:HC}{E:XK}{A A':HQ}{H H':Hp}{G G':AH}{σ σ':St}{ρ ρ':Vu}{es:HP}{k n:Nat}{D:Ends}{kvs:List (Key×HV)}{o:Obj}
end
section
variable {X:Cx}{W:RC}{E:XK}{tg qR:HY}{body:Iq}{mg:HMG}{mb:HMS}{pos:Pos}{i:Nat}
end
section
variable {X:Cx}{pins:Hz}{σ:St}{H:Hp}{s:HJ}{a b:Addr}{kvs more:HP}{A:Ih}{E:HB}
end
section
variable {X:Cx}{C:LC}{S Sb Sc:HF}{o e:HY}{m:ME}{w:Bool}{pos p:Pos}
end
section
variable {X:Cx}{o:HY}{to:TE}{p pos qE kM:Pos}
end
section
variable {X:Cx}{C:LC}{S:HF}{w:Bool}{o:HY}{m:ME}{p pos qE kM:Pos}
end
section
variable {X:Cx}{W:RC}{E:XK}{tg a0 b0:HY}{body:Iq}{mg:HMG}{mb:HMS}{pos ipos:Pos}{i:Nat}{n:Int}
end
section
variable {prog:HZ}{w:Ie}{A:Ih}{E:HB}{s:HJ}
end
section
variable {X:Cx}{pins:Hz}{σ:St}{H:Hp}{s:HJ}{W:RC}
end
section
variable {X:Cx}{C:LC}{S:HF}{e a b:HY}{m m1 m2:ME}{pos:Pos}
end
section
variable {X:Cx}{o:HY}{to:TE}{p pos qE kM:Pos}
end
section
variable {X:Cx}{C:LC}{S:HF}{w:Bool}{o:HY}{m:ME}{p pos qE kM:Pos}
end
section
variable {prog:HZ}{w:Ie}{A:Ih}{R:Result->Shared->Prop}{I S:Addr}{fp wr:Iy}{n:Nat}{P:IU}{St:Nat->Heap->Prop}{d:Value}
end
section
variable {X:Cx}{C:LC}{S:HF}{e:HY}{ws:HW}{ms:MA}{p pos kpos pk:Pos}{jk:Nat}{n:Int}{t:TA}
end
section
variable {X:Cx}{C:LC}{S:HF}{mi:MI}{mg:MG}{mc:MT}{me:ME}
end
section
variable {X:Cx}{W:RC}{E:XK}
variable {fr':Bool}{S:HF}{qR tg elt:HY}{ifs:HL}{me:ME}{mc:MT}{mg:MG}{mi:MI}{pos pY py:Pos}{i j:Nat}{scope:Scope}{y:Str}
end
section
variable {X:Cx}
end
section
variable {X:Cx}{W:RC}{E:XK}{o e f:HY}{m1 m2:HME}{ma:HMA}{qE p pos:Pos}
end
section
variable {X:Cx}{C:LC}{S:HF}{w:Bool}{e:HY}{lo hi:IP}{m:ME}{ml mh:MO}{p2 pos:Pos}
end
section
variable {X:Cx}{pins:Hz}{σ:St}{H:Hp}{s:HJ}{h':Heap}{ch:Iy}{T:Addr}{o:HO}{t':Nat}
end
section
variable {P:HZ}{w:Ie}{K:Il}{elts:HL}{kk:Nat}{tp:Pos}
end
section
variable {X:Cx}{C:LC}{S:HF}{elts:HL}{kk:Nat}{tp p pos:Pos}{e a b:HY}{m:ME}{ms:MA}{cc:Bool}
end
section
variable {X:Cx}{C:LC}{S:HF}{o e f:HY}{w1 w2:Bool}{m1 m2 m3:ME}{kM qE:Pos}
end
section
variable {X:Cx}{C:LC}{S:HF}{elts:HL}{kk:Nat}{tp p pos:Pos}{a b:HY}{m1 m2:ME}
end
section
variable {X:Cx}{W:RC}{E:XK}{e:HY}{es:HL}{pos p:Pos}{ms:HMA}{x:Str}{k:Nat}{f:Addr}{fd:Ii}{ps:HA}{g:Ia}{ws:HW}
end
section
variable {X:Cx}{W:RC}{E:XK}{a b:HY}{rest:HL}{pos:Pos}{m1 m2:HME}
end
section
variable {X:Cx}{W:RC}{E:XK}{fr' fr:Bool}{S:HF}{qR tg elt:HY}{ifs:HL}{m me:ME}{mc:MT}{mg:MG}{mi:MI}{pos pY py:Pos}{i j:Nat}{scope:Scope}{y:Str}
end
section
variable {X:Cx}{C:LC}{S S' S1 S2 S3 Sb Sc:HF}{j:Nat}{pos:Pos}{m1 m2 m3:MS}
end
section
variable {X:Cx}{W:RC}{E:XK}{e:HY}{es:HL}{pos p pos':Pos}{ms:HMA}{m:HME}{x y:Str}{k n i j:Nat}{f:Addr}{fd:Ii}{ps:HA}{g:List HV->AH->HX HV}{m1 m2 m3:HMS}
end
section
variable {X:Cx}{W:RC}{E:XK}{a b:HY}{pos:Pos}{m1 m2:HME}
end
section
variable {X:Cx}{W:RC}{E:XK}{e:HY}{es:HL}{pos p:Pos}{ms:MA}{x:Str}{k:Nat}{f:Addr}{fd:Ii}{ps:HA}{g:Ia}{ws:HW}{S:HF}{fr:Bool}
end
section
variable {X:Cx}{W:RC}{E:XK}{fr' fr:Bool}{S:HF}{qR tg elt:HY}{ifs:HL}{m me:ME}{mc:MT}{mg:MG}{mi:MI}{pos pY py:Pos}{i j:Nat}{scope:Scope}{y:Str}
end
section
variable {X:Cx}{W:RC}{e:HY}{es:HL}{ms:HMA}{g:List HV->AH->HX HV}{k n:Nat}{f:Addr}{fd:Ii}{ps:HA}{x:Str}{p pos:Pos}
end
def leS(a b:Str):Bool:=!ltCps b.cps.toList a.cps.toList
def QI:leS a b=true↔a.cps.toList<=b.cps.toList:=by unfold leS;rw[ltCps_eq];simp
def bG(a b c:Str)(h1:leS a b=true)(h2:leS b c=true):leS a c=true:=QI.mpr (List.le_trans (QI.mp h1) (QI.mp h2))
def oh(a b:Str):(leS a b||leS b a)=true:=by
 rcases List.le_total a.cps.toList b.cps.toList with h|h
 .rw[QI.mpr h];rfl
 .rw[QI.mpr h];exact Bool.or_true _
def tK(h1:leS a b=true)(h2:leS b a=true):a=b:=by have h:=List.le_antisymm (QI.mp h1) (QI.mp h2);obtain⟨x⟩:=a;obtain⟨y⟩:=b;exact R8 Str.mk (a2c.mp h)
def kU(l:HA):List Str:=l.mergeSort leS
def f9{a b:HA}(h:a.Perm b)(ha:a.Pairwise λx y=>leS x y=true)(hb:b.Pairwise λx y=>leS x y=true):a=b:=
 a2e (λ_ _ _ _ h1 h2=>tK h1 h2) ha hb h
def V_:(kU l).Pairwise λx y=>leS x y=true:=List.pairwise_mergeSort bG oh l
def oi(h:a.Perm b):kU a=kU b:=f9 (((a1J a leS).trans h).trans (a1J b leS).symm) V_ V_
def pw_of_rising:∀{l:HA}{p:Str},risingS p l=true->(p::l).Pairwise λx y=>leS x y=true
 |[],p,_=>List.pairwise_singleton _ _
 |x::r,p,h=>by
  unfold risingS at h;rw[a0G]at h;have ih:=pw_of_rising h.2;refine a2V.mpr ⟨λy hy=>?_,ih⟩;rcases N4.mp hy with rfl|hy
  .exact h.1
  .exact bG p x y h.1 ((a2V.mp ih).1 y hy)
def pw_of_sorted(h:sortedS l=true):l.Pairwise λx y=>leS x y=true:=by
 cases l with
 |nil=>exact List.Pairwise.nil
 |cons x r=>exact pw_of_rising h
def bH(hp:l'.Perm l)(h:sortedS l'=true):l'=kU l:=f9 (hp.trans (a1J l leS).symm) (pw_of_sorted h) V_
def J_:∀{ss:HA}{its:HK},Vals (ss.map V.str) its->StrsAre its ss
 |[],_,h=>by cases h;exact .nil
 |z::ss,_,h=>by cases h with|cons r t=>obtain⟨k,rfl⟩:=r;exact .cons z k (J_ t)
def UQ:∀{ss:HA}{its:HK},StrsAre its ss->Vals (ss.map V.str) its
 |_,_,.nil=>.nil
 |_,_,.cons z t h=>.cons ⟨t,rfl⟩ (UQ h)
def oj(K:Il):List V->Hp->VK->Prop:=λvs H Q=>∃p ss,vs=[.ref p]/\SqL K H p (ss.map V.str)/\ss.length<64/\∀l,H l=none->Q (.ref l) (upd H l (.lst ((kU ss).map V.str)))
def iK:jr X (.builtin "sorted") (oj X.K):=by
 intro pins s σ H xs us Q I r h;obtain⟨p,ss,rfl,hq,h64,q⟩:=h;obtain⟨u,rfl,rx⟩:=vals1 r;cases rx;obtain⟨its,rv,pl,hz⟩:=I.list hq;have hS:=J_ rv;have hlen:its.length=ss.length:=by rw[<- rv.length,t0]
 refine sorted_strs pl.isList hS (by rw[hlen];exact h64) λout ss' a1 a2 a3=>?_;obtain⟨e,he⟩:=sortedAll_at s.heap its out;have e2:=bH a2 a3;subst e2;exact⟨.ref _,_,I.laid (t':=s.toks) (λ_ _=>sortedAll_old) (T8 _) (show yC X.prog X.w _ _ _ (.lst ((kU ss).map V.str))from⟨by rw[t0,a2.length_eq];rw[t0]at hz;exact hz,out.toList,e,UQ a1,by rw[a1D];exact he⟩),rfl,q _ (I.hok.fresh (T8 _))⟩
def om:List PV->Out PV
 |[.l xs]=>match dD xs with
  |some ss=>if ss.length<64 then .ok (.l ((kU ss).map .s))else .wall
  |none=>.wall
 |_=>.wall
def UR{W:RC}{M:HI}{H:Hp}:∀{ss:HA},zP W M H (ss.map PV.s) (ss.map V.str)
 |[]=>rfl
 |_::_=>⟨_,_,rfl,rfl,UR⟩
def tL:LfF W (oj W.K) om:=λM C B H xs vs Q n h q=>by
 unfold om at q;split at q
 .split at q
  .rename_i ss hs;split at q
   .rename_i h64;obtain⟨v,r,rfl,⟨p,us,rfl,_,hl,rr⟩,hr⟩:=h;cases(show _=_ from hr);rw[dE rr hs]at hl;exact⟨p,ss,rfl,SqL.of hl,h64,λl hl=>q _ _ (zr.upd hl) (v5 UR hl)⟩
   .exact q.elim
  .exact q.elim
 .exact q.elim
def tM{id:String}{r:List V->Hp->VK->Prop}{g:Ia}(hc:X.K=C.W.K->jr X (.builtin id) r)(L:LfF C.W r g)(hg:Gl X x)(hm:X.mg x=none)(hv:bootBuiltins x=some (.builtin id))(ha:AM X C S ws (e::es) ms)(hn:x≠"__name__":=by decide)(hdb:(x==("__debug__":Str))=false:=by decide)
  (he:starEach (e::es) X.env=(false,eval e X.env)::starEach es X.env:=by rfl) (hpl:(backTo pos (starEach es X.env)).any (·.1)=false:=by rfl):FM X C S (.Call (.Name x p) (e::es) [] pos) (zk g ms):=λhK=>by
 obtain⟨ta,a1,a2⟩:=ha hK;exact⟨_,Vt (hc hK) hg hm hv a1 hn hdb he hpl,Av L a2⟩
section
variable {X:Cx}{W:RC}{E:XK}{e:HY}{ms:HMA}{p pos:Pos}
end
section
variable {X:Cx}{W:RC}{E:XK}{o:HY}{m:HME}{pos qE:Pos}{mn:Str}
end
section
variable {prog:HZ}{w:Ie}{A:Ih}{it t:Addr}{items:Iv}{i:Nat}{x:Value}
end
section
variable {prog:HZ}{w:Ie}{A:Ih}{z TI TO i1 i2 l1 l2:Addr}{x y a b:Value}{B1 N1 B2 N2:Heap->Prop}
end
section
variable {prog:HZ}{w:Ie}{A:Ih}{z TI TO i1 i2 l1 l2:Addr}{xs ys:Iv}{x y a b:Value}{i:Nat}{s:HJ}{Q:Option Value->Shared->Prop}{E:HB}
end
section
variable {prog:HZ}{w:Ie}{A:Ih}{E:HB}{s:HJ}{l1 l2:Addr}{xs ys:Iv}{Q:HB}
end
section
variable {P:HZ}{w:Ie}{K:Il}{elts:HL}{kk:Nat}{tp:Pos}
end
section
variable {X:Cx}{C:LC}{S:HF}{elts:HL}{kk:Nat}{tp p pos:Pos}{a b:HY}{ms:MA}{cc:Bool}
end
def Ivl(a:Addr)(o:Obj)(es:HP):It:=
 ⟨λi H=>H a=some (.frz o (.dK es))/\i<es.length,λi H x H'=>H'=H/\∃k,es[i]?=some (k,x),λi H=>H a=some (.frz o (.dK es))/\es.length<=i⟩
def Bl(h:KV es vs):∀{i:Nat}{k:Key}{v:V},es[i]?=some (k,v)->∃w,vs[i]?=some (k,w)/\RelV v w:=by
 induction h with
 |nil=>intro i k v e;simp at e
 |@cons p q _ _ hp _ ih=>
  intro i k v e;cases i with
  |zero=>simp at e;subst e;exact⟨q.2,by simp;exact a23 hp.1.symm rfl,hp.2⟩
  |succ i=>simp at e ⊢;exact ih e
def oq{P:HZ}{w:Ie}{K:Il}{tg:HY}(a it:Addr)(o:Obj)(es:HP):Turn P w K tg (Ivl a o es) [it] it (λi h=>h.IsValIter it a i es.length (DH o))where
 mem:=by simp
 obj:=λi h st b hb=>by
  have e:b=it:=by simpa using hb
  subst e;obtain⟨o,e,c,d⟩:=st;exact⟨o,e,λv z=>by rw[d]at z;cases z⟩
 keep:=λi h h' st k=>st.at λo e=>k it (by simp) o e
 item:=by intro X hP hw hK hc i pins s σ H E I hf st hg;subst hP hw hK;obtain⟨ha,hi⟩:=hg;obtain⟨hd,vs,rel,dd⟩:=nI I.hok ha;have hx:es[i]?=some es[i]:=M5 hi;obtain⟨w,hw,rw'⟩:=Bl rel (k:=es[i].1) (v:=es[i].2) hx;obtain⟨f0,f1,f2,f3,f4,f5⟩:=hf it (by simp);rw[a0g rel]at st;refine wpAny_pyNext_values_item st dd hw λh' st' sb=>?_;have I1:Inv X pins σ H { s with heap:=h' }:=I.turned (t':=s.toks) (λb o hb e=>(sb.2 b hb).trans e) f0 f1 f3 f4 f5;obtain⟨q,e,c,d⟩:=id st';refine⟨w,rfl,rG (s:={ s with heap:=h' }) e c d (by decide) ⟨_,H,I1,rw',⟨rfl,_,hx⟩,?_,λb hb=>(hf b hb).1⟩⟩;rw[a0g rel];exact st'
 done:=by intro X hP hw hK hc i pins s σ H E I hf st hg;subst hP hw hK;obtain⟨ha,hi⟩:=hg;obtain⟨hd,vs,rel,dd⟩:=nI I.hok ha;obtain⟨f0,f1,f2,f3,f4,f5⟩:=hf it (by simp);have hl:=a0g rel;rw[hl]at st;exact wpAny_pyNext_values_end (I.ok.hd hc) st dd (a10.mpr (by omega)) λh' eb=>⟨rfl,I.turned (t':=s.toks) (λb o hb e=>eb b o hb e) f0 f1 f3 f4 f5⟩
 self:=λ_ _ _ _ _ st h=>wpAny_pyIter_valiter st h
def xA(tl:TE):TI:=λσ H R=>tl σ H λx H1=>∃a o es,x=.ref a/\H1 a=some (.frz o (.dK es))/\R (Ivl a o es) H1
def tN(hl:PE X l tl)(aC:attributeBase l "values" X.env (eval l X.env)=eval l X.env)(aB:(qE.endLine==kM.line)=true):PI X tg (.Call (.Attribute l "values" qE) [] [] kM) (xA tl):=by
 intro pins s σ H R I h;refine wpAny_Call_method0_late aC aB (thn (hl pins s σ H _ I h) λv s1 ⟨x,H1,I1,r1,a,o,es,e,ha,q⟩=>?_);subst e;cases r1;obtain⟨hd,vs,rel,dd⟩:=nI I1.hok ha;obtain⟨t1,t2,_⟩:=mf I1 (.inl ⟨es,.inr ⟨o,ha⟩⟩);refine⟨"dict","dict.values",a1k,a2f,PySem.F.type_dict_values,t1,t2,a0U rfl (PySem.evalArgs_none ?_)⟩;have dO:s1.heap.DictOf (zT X.prog X.w) a vs:=by obtain⟨_,_,vs',rel',dO⟩:=Zw I1.hok (.inr ⟨o,ha⟩);obtain⟨oo,ed,e1,e2,e3,e4⟩:=dd;exact⟨oo,ed,_,e1,e2,e3,e4⟩
 refine a1z a2f t1 PySem.F.entry_dict_values (PySem.F.args_dict_values_1 _) (meets_dict_values (zT X.prog X.w) a hd) ⟨⟨vs,dO⟩,?_⟩;have kp:∀b u,s1.heap.get? b=some u->(s1.heap.push { cls:=.type "dict_values",data:=.fields #[.ref a] }).get? b=some u:=λb u e=>u8 _ e;have I2:Inv X pins σ H1 { s1 with heap:=s1.heap.push { cls:=.type "dict_values",data:=.fields #[.ref a] } }:=I1.kept (t':=s1.toks) kp;have dd2:(s1.heap.push { cls:=.type "dict_values",data:=.fields #[.ref a] }).DictAt (zT X.prog X.w) a vs (DH o):=dd.at' λu e=>kp _ _ e;show wpAny _ _ (pyIter (.ref s1.heap.objs.size)) _ _ _;refine wpAny_pyIter_values (s:={ s1 with heap:=s1.heap.push { cls:=.type "dict_values",data:=.fields #[.ref a] } }) ⟨_,M7 _ rfl,rfl,rfl⟩ dd2 ?_;refine⟨_,[_],_,_,H1,rfl,I2.kept (t':=s1.toks) λb o e=>u8 _ e,oq a _ o es,?_,λb hb=>?_,q⟩
 .rw[a0g rel];exact⟨_,M7 _ rfl,rfl,rfl⟩
 have e:=O0.mp hb;subst e;exact I2.BY (L5 _) (I2.hok.fresh (L5 _))
def Va(i:Nat):MI:=λρ=>match ρ[i]? with
 |some (some (.d kvs))=>.ok (kvs.map (·.2))
 |_=>.wall
def ot{W:RC}{M:HI}{H:Hp}:∀{kvs:Ic}{es:HP},qe W M H kvs es->∀{i:Nat}{kx:Key×PV},kvs[i]?=some kx->∃v,es[i]?=some (kx.1,v)/\Rep W M H kx.2 v
 |[],_,_,i,kx,h=>by simp at h
 |k0::r,_,⟨v,q,e,h1,h2⟩,i,kx,h=>by
  subst e;cases i with
  |zero=>simp at h;subst h;exact⟨v,rfl,h1⟩
  |succ i=>simp at h ⊢;exact ot h2 h
def ou(hMN:∀a,M a->N a)(ha:H2 a=some (.frz o (.dK es)))(hk:qe W M H2 kvs es):AO W M N H2 (Ivl a o es) (kvs.map (·.2)):=λH' f=>by
 have ha':=f a _ ha (.inr trivial);have hl:es.length=kvs.length:=by simpa using R8 List.length (qe.iff.mp hk).1
 refine⟨λi x hx=>?_,ha',by rw[t0];omega⟩;rw[N7]at hx;obtain⟨kx,hkx,rfl⟩:=v4.mp hx;have hi:i<kvs.length:=(M9.mp hkx).1;obtain⟨v0,h0,r0⟩:=ot hk hkx;refine⟨⟨ha',by omega⟩,λv H'' hy=>?_⟩;obtain⟨rfl,k,hes⟩:=hy;rw[h0]at hes;cases hes;exact⟨zr.refl _,λM' sM=>Rep.gen (λa o h m=>f a o h (m.imp (hMN a) id)) (λa m n=>sM a m n) r0⟩
section
variable {X:Cx}{C:LC}{S:HF}{qR tg elt:HY}{ifs:HL}{me:ME}{mc:MT}{mg:MG}{pos qE kM:Pos}{i:Nat}{scope:Scope}
def f_(R:Rel W B S P H σ ρ)(hS:S[i]?≠some 2)(hx:ρ[i]?=some (some (.d kvs))):∃a es,σ[i]?=some (some (.ref a))/\NA B S P a/\Rd H a (.dK es)/\qe W (Mof B S P) H kvs es:=by
 obtain⟨v,h1,_,h3,h4⟩:=R.var i _ hx;by_cases c:S[i]?=some 1
 .obtain⟨a,es,rfl,n,r,rk⟩:=h3 c;have h0:=B.nz a n;exact⟨a,es,h1,⟨λz=>h0 (R.exc a z).choose_spec.2.2,λj hj e=>h0 (e▸(R.act j hj).1)⟩,r,rk⟩
 .obtain⟨a,es,rfl,m,r,rk⟩:=h4 hS c;exact⟨a,es,h1,Mof.na m,r,rk⟩
def D5{g:TG}{tc:TT}{te:TE}{fr:H_}{Si:HF}(hS2:S[i]?≠some 2)(hS:Si=inS S fr)(hg:LG ⟨C.W,E0,false⟩ Si Si g mg)(ht:LT ⟨C.W,E0,false⟩ Si tc mc)(he:LE ⟨C.W,E0,false⟩ Si false te me):LFr C S (tGz (tLC (xA (cR i)) g tc te fr)) (mLC (Va i) fr mg mc me):=λB P H σ ρ R Q q=>by
 cases hx:Va i ρ with
 |wall=>unfold mLC at q;rw[hx]at q;exact q.elim
 |exc c fs=>unfold Va at hx;split at hx<;>cases hx
 |ok xs=>
  obtain⟨kvs,hρ⟩:∃kvs,ρ[i]?=some (some (.d kvs)):=by
   unfold Va at hx;split at hx
   .rename_i kvs h;exact⟨kvs,h⟩
   .cases hx
  have hxs:xs=kvs.map (·.2):=by unfold Va at hx;rw[hρ]at hx;cases hx;rfl
  subst hxs;obtain⟨a,es,hσ,na,hrd,hk⟩:=f_ R hS2 hρ;rcases hrd with ha|⟨o,ha⟩
  .refine .inl ⟨a,es,ha,λo=>?_⟩;have h0:=A6 R na ha;have Rf:=R.loop.sw (u':=.frz o (.dK es)) h0 (.inl rfl) (.inr ⟨o,rfl⟩);refine dz (C:=C) (mi:=Va i) (λRr qq=>?_) rfl hS hg ht he Rf _ ?_
   .rw[hx]at qq;obtain⟨a',es',hσ',_,hrd',hk'⟩:=f_ Rf hS2 hρ;rw[hσ]at hσ';cases hσ';have ee:=nJ (.inr ⟨o,zg⟩) hrd';subst ee;exact⟨.ref a,hσ,a,o,es',rfl,zg,qq _ _ (zr.refl _) (ou (λa m=>Mof.nac m) zg hk')⟩
   .unfold mLC at q ⊢;rw[hx]at q ⊢;have q:zR C B H (RFr C.W (Mof B S P) H) Q (lcP mg mc me (kvs.map (·.2)) (W9 ρ fr) []):=q;show zR C _ _ _ _ (lcP mg mc me (kvs.map (·.2)) (W9 ρ fr) []);revert q;cases ho:lcP mg mc me (kvs.map (·.2)) (W9 ρ fr) []with
    |wall=>exact id
    |exc c fs=>exact absurd ho V2
    |ok x=>
     intro q v H2 s r;have hf:=s a _ (zg (H:=H) (o:=.frz o (.dK es)));refine⟨⟨o,hf⟩,q v _ (λb u hb=>?_) ?_⟩
     .by_cases e:b=a
      .subst e;rw[ha]at hb;rw[zg];exact hb
      .rw[zi e];exact s b u (by rw[zi e];exact hb)
     .obtain⟨p,e,hp,r⟩:=r;have pa:p≠a:=λz=>by rw[z,zg]at hp;cases hp
      rw[zi pa]at hp;refine⟨p,e,hp,VN.sw pa (.inr ⟨o,hf⟩) (.inl zg) (λb z=>zi z) (r.gen rfl Fr.refl λb m _=>⟨?_,m.2⟩)⟩;have n0:(B.loop S P H R.hz).H0 a≠none:=by rw[h0];exact λz=>by cases z
      have m1:=(xj n0).mp m.1;exact⟨⟨VW R m1.1.1,m1.1.2⟩,m1.2⟩
  .refine .inr (dz (C:=C) (mi:=Va i) (λRr qq=>?_) rfl hS hg ht he R _ q);rw[hx]at qq;exact⟨.ref a,hσ,a,o,es,rfl,ha,qq _ _ (zr.refl _) (ou (λa m=>Mof.nac m) ha hk)⟩
def xB(N:HA)(fr:H_)(Si:HF)(hc:X.calm=true)(hok:p5 X scope N fr=true)(hv:PE X qR (cR i))(hg:∀z:CI,GM (cxI X scope N z) ⟨C.W,E0,false⟩ Si Si tg mg)(ht:∀z:CI,TsM (cxI X scope N z) ⟨C.W,E0,false⟩ Si ifs mc)(he:∀z:CI,EM (cxI X scope N z) ⟨C.W,E0,false⟩ Si false elt me)(hS2:S[i]?≠some 2:=by decide)(hS:Si=inS S fr:=by rfl)
  (aC:attributeBase qR "values" X.env (eval qR X.env)=eval qR X.env:=by rfl) (aB:(qE.endLine==kM.line)=true:=by rfl) (hs:∀x,foldedSetIterable (.Call (.Attribute qR "values" qE) [] [] kM) X.env x=pure x:=by intro _;rfl):FM X C S (.ListComp elt [⟨tg,.Call (.Attribute qR "values" qE) [] [] kM,ifs,0⟩] scope pos) (mLC (Va i) fr mg mc me):=λhK=>by
 obtain⟨g,b1,b2⟩:=dy hg λ_=>hK;obtain⟨tc,c1,c2⟩:=dw ht λ_=>hK;obtain⟨te,d1,d2⟩:=dv he λ_=>hK;exact⟨_,FR (C1 N fr hc hok (tN hv aC aB) (λfp pn s H L=>b1 ⟨fp,pn,s,H,L⟩) (λfp pn s H L=>c1 ⟨fp,pn,s,H,L⟩) (λfp pn s H L=>d1 ⟨fp,pn,s,H,L⟩) hs),D5 hS2 hS b2 c2 d2⟩
end
section
variable {prog:HZ}{w:Ie}{A:Ih}{E:HB}{s:HJ}{K:Type}[DecidableEq K] {knd:PySem.KeyKind prog w K}
def bI{Q:List Value->Shared->Prop}{d:Addr}{kvs:List (K×Value)}{ep:Nat}(hh:A.handled=none)(hd:(d==sysModules)=false)(hm:s.heap.DictAt knd d kvs ep)(hn:kvs.length<=sizeLine)
  (hQ:∀h' tk acc',(∀b o,s.heap.get? b=some o->h'.get? b=some o)->s.heap.objs.size<=h'.objs.size->ItemsOf (λi v=>∃k x,kvs[i]?=some (k,x)/\knd.is k v=true) acc' kvs.length->Q acc'.toList { s with heap:=h',toks:=tk }):
  wpAny (model prog w) A (collect (.ref d)) Q E s:=by
 have l1:d<s.heap.objs.size:=by obtain⟨o,_,ho,_⟩:=hm;exact L7 ho
 unfold collect;refine f8 (wpAny_runValue (a0D PySem.F.entry_proto_collect ?_));rw[a0p PySem.F.plain_proto_collect _];show wpAny _ A.in1 (newList [] >>= λl=>again (.builtin "list.__iadd__" ⟨[l,.ref d],[]⟩)) _ _ s;refine f8 (a0X ?_);refine L6 ⟨a0O a2l _,a0D PySem.F.entry_list_iadd ?_⟩;rw[a0p a2l _];have hS₂:(s.heap.push { cls:=.type "list",data:=.seq ([]:List Value).toArray }).get? s.heap.objs.size=some { cls:=.type "list",data:=.seq ([]:List Value).toArray }:=M7 _ rfl;have kp:∀b o,s.heap.get? b=some o->(s.heap.push { cls:=.type "list",data:=.seq ([]:List Value).toArray }).get? b=some o:=λb o e=>u8 _ e;show wpAny _ A.in1 (Builtin.List.listExtendWith (.ref s.heap.objs.size) (.ref d) (.ref s.heap.objs.size)) _ _ _;generalize(s.heap.push { cls:=.type "list",data:=.seq ([]:List Value).toArray })=h2 at hS₂ kp;have hm2:h2.DictAt knd d kvs ep:=hm.at' λo e=>kp _ _ e;have hT2:∀{s':HJ},s'.heap.DictAt knd d kvs ep->s'.TypeIs (.ref d) "dict":=λz=>z.dictOf.typeIs;unfold Builtin.List.listExtendWith;refine f8 (a0J (T:="dict") (hT2 hm2) ?_);have hne1:s.heap.objs.size≠d:=a0a l1;have h1:Builtin.List.listSameRef (.ref s.heap.objs.size) (.ref d)=false:=by simp[Builtin.List.listSameRef,hne1]
 rw[if_neg (by rw[h1];decide)];refine f8 (wpAny_pyIter_dict hd hm2 ?_);have kp2:∀b o,h2.get? b=some o->(h2.push { cls:=.type "dict_keyiterator",data:=.fields #[.ref d,.int 0 0,.int kvs.length 0,.int ep 0] }).get? b=some o:=λb o e=>u8 _ e;have hm3:(h2.push { cls:=.type "dict_keyiterator",data:=.fields #[.ref d,.int 0 0,.int kvs.length 0,.int ep 0] }).DictAt knd d kvs ep:=hm2.at' λo e=>kp2 _ _ e;refine f8 (P7 (nR (hT2 hm3) ?_));rw[if_pos (by decide)];refine f8 (a11 ?_);unfold Builtin.List.listTouch Builtin.List.listUpdate;have s2:s.heap.objs.size<h2.objs.size:=L7 hS₂;have dn:d≠h2.objs.size:=L9 (a0Z l1 s2);have hS3:=kp2 _ _ hS₂;have it3:(h2.push { cls:=.type "dict_keyiterator",data:=.fields #[.ref d,.int 0 0,.int kvs.length 0,.int ep 0] }).get? h2.objs.size=some { cls:=.type "dict_keyiterator",data:=.fields #[.ref d,.int 0 0,.int kvs.length 0,.int ep 0] }:=M7 _ rfl;have kq:∀b o,s.heap.get? b=some o->(h2.push { cls:=.type "dict_keyiterator",data:=.fields #[.ref d,.int 0 0,.int kvs.length 0,.int ep 0] }).get? b=some o:=λb o e=>kp2 _ _ (kp b o e);generalize(h2.push { cls:=.type "dict_keyiterator",data:=.fields #[.ref d,.int 0 0,.int kvs.length 0,.int ep 0] })=h3 at hS3 it3 kq hm3;refine f8 (f8 (a0T hS3 rfl ?_));have hS4:=R7 (Obj.mapSeq (λx:Array Value=>x.push Value.none)) hS3 rfl;refine a0T hS4 rfl ?_;have hS5:=R7 (Obj.mapSeq (λx:Array Value=>x.pop)) hS4 rfl;have ku:∀b o,b≠s.heap.objs.size->h3.get? b=some o->((h3.update s.heap.objs.size (Obj.mapSeq λx=>x.push Value.none)).update s.heap.objs.size (Obj.mapSeq λx=>x.pop)).get? b=some o:=λb o hb e=>
  (N9 _ _ (Ne.symm hb)).trans ((N9 _ _ (Ne.symm hb)).trans e)
 have hm5:=hm3.at' (h':=((h3.update s.heap.objs.size (Obj.mapSeq λx=>x.push Value.none)).update s.heap.objs.size (Obj.mapSeq λx=>x.pop))) λo e=>ku _ _ (Ne.symm hne1) e;have it5:=ku _ _ (a0a s2) it3;have k5:∀b o,s.heap.get? b=some o->((h3.update s.heap.objs.size (Obj.mapSeq λx=>x.push Value.none)).update s.heap.objs.size (Obj.mapSeq λx=>x.pop)).get? b=some o:=λb o e=>ku b o (L9 (L7 e)) (kq b o e);generalize((h3.update s.heap.objs.size (Obj.mapSeq λx=>x.push Value.none)).update s.heap.objs.size (Obj.mapSeq λx=>x.pop))=h5 at hS5 hm5 it5 k5;refine L6 ⟨a0O a1d _,a1C (Walks.dictKeys (knd:=knd) (A:=A.in1) hh h2.objs.size d dn kvs ep).toS hn s.heap.objs.size (by simp;exact⟨L9 s2,hne1⟩) _ kvs.length 0 _ _ _ rfl (P1 _) (show _/\_ from⟨⟨_,it5,rfl,rfl⟩,hm5⟩) hS5 (a20 _) λs' acc' c' hmv hS' hacc=>?_⟩;rw[a1R hmv]at hS' ⊢;show wpAny _ A (load s.heap.objs.size >>= _) _ _ _;refine f8 (a1Z hS' ?_);refine L6 (hQ s'.heap s'.toks acc' (λb o e=>hmv.heap b o (λhmem=>?_) (k5 b o e)) (a1e (L7 hS')) hacc);have:=L7 e;rcases N4.mp hmem with e'|hm
 .exact L9 this e'
 .exact L9 (a0Z this s2) (O0.mp hm)
def dH{Q:HB}{d:Addr}{kvs:List (K×Value)}{ep:Nat}{vs:HK}{ss:HA}(hh:A.handled=none)(hd:(d==sysModules)=false)(hm:s.heap.DictAt knd d kvs ep)(h64:kvs.length<64)
  (hS:∀vs:List Value,ItemsOf (λi v=>∃k x,kvs[i]?=some (k,x)/\knd.is k v=true) vs.toArray kvs.length->StrsAre vs ss)
  (h:∀(h':Heap)(tk:Nat)(out:Iv)(ss':HA)(e:Nat)(l:Addr),(∀b o,s.heap.get? b=some o->h'.get? b=some o)->s.heap.objs.size<=l->h'.get? l=some (seqObj "list" out e)->StrsAre out.toList ss'->ss'.Perm ss->sortedS ss'=true->Q (.ref l) { s with heap:=h',toks:=tk }):
  wpAny (model prog w) A (call (.builtin "sorted") [.ref d]) Q E s:=by
 refine Calls.call_function_entry kind_sorted plain_sorted entry_sorted (args_sorted1 _) ?_;unfold Builtin.«sorted»;refine f8 (m:=checkCount "sorted" 1 1 _) (L6 ?_);have hz:kvs.length<=sizeLine:=by rw[S0];omega
 refine f8 (bI (A:=A.in1) hh hd hm hz λh' tk acc hk hsz hi=>?_);have hSs:=hS acc.toList (by rw[a1D];exact hi);have hlen:acc.toList.length=kvs.length:=hi.1;refine f8 (a2H ?_ (by rw[hlen];exact hz));have hoL:(h'.push (seqObj "list" acc.toList.toArray 0)).get? h'.objs.size=some (seqObj "list" acc.toList.toArray 0):=M7 _ rfl;show wpAny _ _ _ _ _ { s with heap:=h'.push (seqObj "list" acc.toList.toArray 0),toks:=tk };refine f8 (P7 (wpAny_call_entry slot_list_sort ⟨_,hoL,rfl⟩ entry_list_sort (list_sort_treeK strKind_oneLt hoL hSs.keysOf (λv₁ v₂ rest e=>keyKind_strs (by rw[<- e];exact hSs)) (by rw[hlen];exact h64) λst' a1 a2=>⟨_,rfl,?_⟩) (args_list_sort _)));obtain⟨ss',b1,b2,b3⟩:=sorted_out_str hSs a1 a2;obtain⟨e,he⟩:=sortedHeap_at (out:=(arrOf st').map (·.2)) hoL;refine L6 ⟨_,rfl,h _ _ _ ss' e _ (λb o q=>?_) hsz he b1 b2 b3⟩;have hb:=L7 (hk b o q);rw[sortedHeap_old (L9 hb) (by rw[a2E];exact a0q hb)];exact u8 _ (hk b o q)
end
def xC:List V->Hp->VK->Prop:=λvs H Q=>∃p es ss,vs=[.ref p]/\Rd H p (.dK es)/\es.map (·.1)=ss.map Sum.inr/\ss.length<64/\∀l,H l=none->Q (.ref l) (upd H l (.lst ((kU ss).map V.str)))
def X0:∀{ss:HA}{vs:HK},vs.length=ss.length->(∀(i:Nat)(v:Value),vs[i]?=some v->∃(x:Str)(t:Tok),ss[i]?=some x/\v=Value.str x t)->StrsAre vs ss
 |[],[],_,_=>.nil
 |x::ss,v::vs,hl,h=>by obtain⟨y,t,e,rfl⟩:=h 0 v rfl;cases e;exact .cons _ t (X0 (by simpa using hl) λi v e=>h (i+1) v e)
def iL(hc:X.calm=true):jr X (.builtin "sorted") xC:=by
 intro pins s σ H xs us Q I r h;obtain⟨p,es,ss,rfl,hS,hk,h64,q⟩:=h;obtain⟨u,rfl,ru⟩:=vals1 r;cases ru;obtain⟨z,hd,vs,rel,o,ds,ep,e1,e2,e3,e4,e5,e6⟩:=Zw I.hok hS;have hl:vs.length=es.length:=rel.length.symm;have hls:es.length=ss.length:=by simpa using R8 List.length hk
 refine dH (knd:=zT X.prog X.w) (kvs:=vs) (ep:=ep) (vs:=[]) (ss:=ss) (I.ok.hd hc) hd ⟨o,ds,e1,e2,e3,e4,e5,e6⟩ (by omega) (λws hi=>X0 (by have:=hi.1;simp at this;omega) λi v hv=>?_) λh' tk out ss' e l hk' hl' he b1 b2 b3=>?_
 .obtain⟨k,x,f3,f4⟩:=hi.2 i v (by simpa using hv);have hi':i<es.length:=by have:=(M9.mp f3).1;omega
  obtain⟨w',hw⟩:=xi rel (k:=es[i].1) (v:=es[i].2) (M5 hi');rw[hw]at f3;cases f3;have h1:(es.map (·.1))[i]?=some es[i].1:=by rw[N7,M5 hi'];rfl
  rw[hk,N7]at h1;obtain⟨y,hy,ey⟩:=v4.mp h1;rw[<- ey]at f4;obtain⟨t,rfl⟩:=(show ∃t:Tok,v=Value.str y t from by
   rw[XH]at f4;rcases yf f4 with⟨i,t,e,_⟩|⟨x,t,e,rfl⟩
   .cases e
   .cases e;exact⟨t,rfl⟩)
  exact⟨y,t,hy,rfl⟩
 .have e2:=bH b2 b3;subst e2;exact⟨.ref _,_,I.laid (t':=tk) hk' hl' (show yC X.prog X.w _ _ _ (.lst ((kU ss).map V.str))from⟨by rw[t0,b2.length_eq,<- hls];exact z,out.toList,e,UQ b1,by rw[a1D];exact he⟩),rfl,q _ (I.hok.fresh hl')⟩
def dI:List (Key×PV)->Option (List Str)
 |[]=>some []
 | (.inr x,_)::r=>(dI r).map (x::·)
 |_::_=>none
def gc:∀{kvs:Ic}{ss:HA},dI kvs=some ss->kvs.map (·.1)=ss.map Sum.inr
 |[],_,h=>by cases h;rfl
 | (.inr x,y)::r,ss,h=>by unfold dI at h;obtain⟨zs,e,rfl⟩:=v4.mp h;rw[M3,M3,gc e]
 | (.inl x,y)::r,ss,h=>by cases h
def Jm:List PV->Out PV
 |[.l xs]=>om [.l xs]
 |[.d kvs]=>match dI kvs with
  |some ss=>if ss.length<64 then .ok (.l ((kU ss).map .s))else .wall
  |none=>.wall
 |_=>.wall
def tO:LfF W (λvs H Q=>oj W.K vs H Q\/xC vs H Q) Jm:=λM C B H xs vs Q n h q=>by
 unfold Jm at q;split at q
 .exact .inl (tL M C B H _ vs Q n h q)
 .split at q
  .rename_i ss hs;split at q
   .rename_i h64;obtain⟨v,r,rfl,⟨p,es,rfl,_,hl,rr⟩,hr⟩:=h;cases(show _=_ from hr);exact .inr ⟨p,es,ss,rfl,hl,(qe.iff.mp rr).1.trans (gc hs),h64,λl hl=>q _ _ (zr.upd hl) (v5 UR hl)⟩
   .exact q.elim
  .exact q.elim
 .exact q.elim
def gf(hc:X.calm=true)(hg:Gl X "sorted")(hm:X.mg "sorted"=none)(ha:AM X C S ws [e] ms)(he:starEach [e] X.env=[(false,eval e X.env)]:=by rfl):FM X C S (.Call (.Name "sorted" p) [e] [] pos) (zk Jm ms):=
 tM (λhK=>hK▸iK.or (iL hc)) tO hg hm boot_sorted ha (he:=he)
def fmS(val:Nat->Str)(i:Nat):List Str:=((List.range i).map val).foldl step_dedup []
def US(val:Nat->Str)(i:Nat):fmS val (i+1)=step_dedup (fmS val i) (val i):=by unfold fmS;rw[List.range_succ,P9,List.foldl_append];rfl
def xD(val:Nat->Str):∀i,(fmS val i).length<=i
 |0=>L5 _
 |i+1=>by
  have:=xD val i;rw[US];unfold step_dedup;split
  .omega
  .rw[N8];show _+1<=_;omega
def ow(σ:HA)(v k:Str):(step_dedup σ v).any (·==k)=(σ.any (·==k)||decide (k=v)):=by
 unfold step_dedup;split
 .rename_i h;by_cases e:k=v
  .subst e;rw[h];rfl
  .rw[M4 e,a2F]
 .rw[List.any_append];congr 1;show((v==k)||false)=decide (k=v);rw[a2F];by_cases e:k=v
  .subst e;simp
  .rw[M4 e];exact P8.mpr (Ne.symm e)
def oy(σ:HA)(v:Str):(step_dedup σ v).length=if σ.any (·==v)then σ.length else σ.length+1:=by unfold step_dedup;split<;>simp
section
variable {prog:HZ}{w:Ie}{A:Ih}{R:Result->Shared->Prop}{I:Addr}{fp wr:Iy}{G:Array GenState->Array GenState->Prop}{n:Nat}{P:IU}{St:IS}
def oz(W:WalksS prog w A.in1 I fp wr G n P St)(S:Addr)(hSf:S∉fp)
  (val:Nat->Str) (hval:∀i v,P i v->∃t:Tok,v=Value.str (val i) t) (hb:n+1<scanBound):
  ∀(k i:Nat)(s:HJ),n-i=k->i<=n->St i s->
   s.heap.SetOf (PySem.strKind prog w) S (λk'=>(fmS val i).any (·==k')) (fmS val i).length->
   (∀s',Moved (S::wr) G s s'->s'.heap.SetOf (PySem.strKind prog w) S (λk'=>(fmS val n).any (·==k')) (fmS val n).length->R (.ok (.ret .none)) s')->
   codeAny (model prog w) A (.builtin "set.update.loop" ⟨[.ref S,.ref I],[]⟩) R s:=by
 have hSw:S∉wr:=λh=>hSf (W.sub _ h);have hsub:∀b∈wr,b∈S::wr:=λb hb=>L8 _ hb;intro k
 induction k with
 |zero=>
  intro i s hk hi hst hS hR;have hin:i=n:=by omega
  subst hin;refine a0D a1i ?_;rw[a0p a0y _];show wpAny _ A.in1 (pyNext (.ref I) >>= _) _ _ s;refine f8 (W.done s _ _ hst λs' hm=>?_);show wpAny _ A.in1 (ret Value.none) _ _ s';exact L6 (hR s' (hm.mono hsub) (by
   obtain⟨o,es,ep,t,ho,rest⟩:=hS;exact⟨o,es,ep,t,hm.heap S _ hSw ho,rest⟩))
 |succ k ih=>
  intro i s hk hi hst hS hR;have hlt:i<n:=by omega
  refine a0D a1i ?_;rw[a0p a0y _];show wpAny _ A.in1 (pyNext (.ref I) >>= _) _ _ s;refine f8 (W.item i s _ _ hlt hst λv s' hP hst' hm=>?_);obtain⟨t,rfl⟩:=hval i v hP;have hS':s'.heap.SetOf (PySem.strKind prog w) S (λk'=>(fmS val i).any (·==k')) (fmS val i).length:=by obtain⟨o,es,ep,tb,ho,rest⟩:=hS;exact⟨o,es,ep,tb,hm.heap S _ hSw ho,rest⟩
  show wpAny _ A.in1 (holding [Value.str (val i) t] (setAdd S (.str (val i) t)) >>= _) _ _ s';refine f8 (P7 ?_);unfold setAdd;refine P7 ?_;refine f8 ((PySem.strKind prog w).pyHash (k:=val i) (strKind_is _ _ _ _) ?_);have hroom:(fmS val i).length+1<scanBound:=by have:=xD val i;omega
  refine wpAny_setAddHashed_of (knd:=PySem.strKind prog w) (s:={ s' with toks:=s'.toks+1 }) (strKind_is _ _ _ _) rfl hS' hroom λh' hsb hS2=>?_;have hSi:h'.SetOf (PySem.strKind prog w) S (λk'=>(fmS val (i+1)).any (·==k')) (fmS val (i+1)).length:=
   SetOf_congr hS2 (λk'=>by rw[US,ow]) (by rw[US,oy])
  refine L6 ⟨a0O a0y _,ih (i+1) _ (by omega) hlt (W.frame _ s' _ _ hst' (T8 _) λb hb o e=>?_) hSi λs'' hm'' hS''=>?_⟩
  .rw[hsb.2 b (λh:b=S=>hSf (by rw[<- h];exact hb))];exact e
  .refine hR s'' (Moved.trans W.gtrans ((hm.mono hsub).then_heap (T8 _) λb o hb e=>?_) hm'') hS'';rw[hsb.2 b (λh:b=S=>hb (by rw[h];exact L4))];exact e
end
def UT{l:Addr}{items:Iv}{val:Nat->Str}{Q:HB}
  (hh:A.handled=none) (hl:s.heap.IsList l items) (hval:∀(i:Nat)(v:Value),items[i]?=some v->∃t:Tok,v=Value.str (val i) t) (hb:items.size+1<scanBound)
  (h:∀(h':Heap)(tk:Nat),h'.SetOf (PySem.strKind prog w) s.heap.objs.size (λk'=>(fmS val items.size).any (·==k')) (fmS val items.size).length->
   (∀b o,b<s.heap.objs.size->s.heap.get? b=some o->h'.get? b=some o)->Q (.ref s.heap.objs.size) { s with heap:=h',toks:=tk }):
  wpAny (model prog w) A (call (.type "set") [.ref l]) Q E s:=by
 obtain⟨c,tl,hmro⟩:=PySem.F.called_set.mro;have hmade:=PySem.F.called_set.made;have hsub:=PySem.F.called_set.sub;refine a0R (codeAny_of_tree ?_);show wpAny _ _ (callAny (.type "set") _) _ _ _;refine L6 ⟨a1N _ (by decide +kernel),a0D PySem.F.entry_type_call ?_⟩;rw[Around.under_plain (weight_type_call_type "set" [.ref l] []) rfl];have h1:=PySem.F.called_set.notType;have h2:=PySem.F.called_set.canCreate;have hct:=PySem.F.typeCall_set_1 (.ref l)
 repeat(any_goals(first|assumption|wp_step))
 refine a0w (code_set_new_1 (.ref l) (E:=E) (Q₁:=λobj s₁=>∃led:Bool,obj=.ref s.heap.objs.size/\s₁={ s with heap:=s.heap.push { cls:=.type "set",dict:=none,data:=.set #[] 0 (.fresh 0 0 led) } }) λled=>⟨led,rfl,rfl⟩) λr s₁ hr=>?_;cases r with
 |error e=>exact hr
 |ok fl=>
  cases fl with
  |ret obj=>
   obtain⟨led,rfl,rfl⟩:=hr;have hS:(s.heap.push { cls:=.type "set",dict:=none,data:=.set #[] 0 (.fresh 0 0 led) }).get? s.heap.objs.size=some { cls:=.type "set",dict:=none,data:=.set #[] 0 (.fresh 0 0 led) }:=M7 _ rfl;have hT:Shared.TypeIs { s with heap:=s.heap.push { cls:=.type "set",dict:=none,data:=.set #[] 0 (.fresh 0 0 led) } } (.ref s.heap.objs.size) "set":=⟨_,hS,rfl⟩;have hli:=PySem.F.called_set.init.lookup;have hbi:=PySem.F.called_set.init.bind (.ref s.heap.objs.size)
   repeat(any_goals(first|assumption|wp_step))
   refine a0w (a02 (R:=wants (λr s₂=>r=.none/\∃h' tk,s₂={ s with heap:=h',toks:=tk }/\
     h'.SetOf (PySem.strKind prog w) s.heap.objs.size (λk'=>(fmS val items.size).any (·==k')) (fmS val items.size).length/\
     (∀b o,b<s.heap.objs.size->s.heap.get? b=some o->h'.get? b=some o)) E) PySem.F.called_set.init.plain PySem.F.entry_set_init (check_set_init_1 hT ?_)) λr₂ s₂ hr₂=>?_
   .obtain⟨ol,hol,hcl,nl,hdl⟩:=hl;obtain⟨ocls,odict,odata,oslots⟩:=ol;simp only at hcl hdl;subst hcl;subst hdl;have hol':(s.heap.push { cls:=.type "set",dict:=none,data:=.set #[] 0 (.fresh 0 0 led) }).get? l=some { cls:=.type "list",dict:=odict,data:=.seq items nl,slots:=oslots }:=u8 _ hol;have hsls:=PySem.F.sub_list_set;have hslf:=PySem.F.sub_list_frozenset;have hne:(Value.type "list"==Value.type "dict")=false:=by decide
    have hl1:(s.heap.push { cls:=.type "set",dict:=none,data:=.set #[] 0 (.fresh 0 0 led) }).IsList l items:=⟨_,hol',rfl,nl,rfl⟩;unfold Builtin.«set.__init__» noKeywords Builtin.Frozenset.updateFrom;generalize hPI:pyIter=PI
    wp_walk
    subst hPI;refine a1o hl1 ?_;refine f8 (wpAny_runValue ?_);have hlS:l<s.heap.objs.size:=L7 hol;have hh3:A.in1.in1.in1.handled=none:=by simp[hh]
    have hneI:l≠(s.heap.push { cls:=.type "set",dict:=none,data:=.set #[] 0 (.fresh 0 0 led) }).objs.size:=by rw[a0i];exact L9 (a0q hlS)
    have hSf:s.heap.objs.size∉[(s.heap.push { cls:=.type "set",dict:=none,data:=.set #[] 0 (.fresh 0 0 led) }).objs.size,l]:=by rw[a0i];simp only[List.mem_cons,List.mem_singleton,List.not_mem_nil,or_false,not_or];exact⟨L9 (a0r _),a0a hlS⟩
    refine oz ((Walks.list hh3 _ l hneI items).toS) s.heap.objs.size
     hSf val hval hb (items.size-0) 0 _ (by omega) (P1 _)
     ⟨⟨_,M7 _ rfl,rfl,rfl⟩,(hl1.push _)⟩ ?hS0 ?hR
    case hS0=>
     have hget:((s.heap.push { cls:=.type "set",dict:=none,data:=.set #[] 0 (.fresh 0 0 led) }).push { cls:=.type "list_iterator",data:=.fields #[.ref l,.int 0 0] }).get? s.heap.objs.size
       = some { cls:=.type "set",dict:=none,data:=.set #[] 0 (.fresh 0 0 led) }:=u8 _ hS
     exact SetOf_congr ((setObjOf_fresh (knd:=PySem.strKind prog w) led).setOf hget (by unfold scanBound;omega)) (λ_=>rfl) rfl
    case hR=>
     intro s' hm hS';obtain⟨h',g',d',tk',os'⟩:=s';have eg:g'=s.gens:=hm.gens;have ed:d'=s.drawn:=hm.drawn;have eo:os'=s.os:=hm.os;subst eg;subst ed;subst eo;show wpAny _ _ _ _ _ _;refine L6 ?_;show wpAny _ _ (ret Value.none) _ _ _;refine L6 ⟨rfl,h',tk',rfl,hS',λb o hb e=>?_⟩;have hb1:b≠s.heap.objs.size:=L9 hb;have hb2:b≠(s.heap.push { cls:=.type "set",dict:=none,data:=.set #[] 0 (.fresh 0 0 led) }).objs.size:=by rw[a0i];exact L9 (a0q hb)
     exact hm.heap b o (by simp only[List.mem_cons,List.mem_singleton,List.not_mem_nil,or_false,not_or];exact⟨hb1,hb2⟩) (u8 _ (u8 _ e))
   .cases r₂ with
    |error e=>exact hr₂
    |ok fl₂=>
     cases fl₂ with
     |ret r=>
      obtain⟨rfl,h',tk,rfl,hS',hk'⟩:=hr₂
      repeat(any_goals(first|assumption|wp_step))
      exact h _ _ hS' hk'
     |_=>exact hr₂.elim
  |_=>exact hr.elim
def Ga(P:HZ)(w:Ie)(a:Addr)(n:Nat):HO:=.ext λh=>∃S,h.SetOf (PySem.strKind P w) a S n
def ddS(ss:HA):List Str:=ss.foldl step_dedup []
def D6(ss:HA):fmS (λi=>ss.getD i "") ss.length=ddS ss:=by unfold fmS ddS;congr 1;refine a2d (by simp) λi h1 h2=>?_;simp[h2]
def D7:∀{acc:HA},(acc++ss).Nodup->ss.foldl step_dedup acc=acc++ss:=by
 induction ss with
 |nil=>intro acc _;simp
 |cons x ss ih=>
  intro acc h;have hx:acc.any (·==x)=false:=by rw[List.any_eq_false];intro y hy e;have:=(a0Y.mp h).2.2 y hy x L4;exact this (O7.mp e)
  rw[a0o,show step_dedup acc x=acc++[x] by unfold step_dedup;rw[hx];rfl,ih (by rw[T6];exact h),T6];rfl
def D8(P:HZ)(w:Ie)(K:Il):List V->Hp->VK->Prop:=λvs H Q=>∃p ss,vs=[.ref p]/\SqL K H p (ss.map V.str)/\ss.length+1<4096/\∀a,H a=none->Q (.ref a) (upd H a (Ga P w a (ddS ss).length))
def D9(P:HZ)(w:Ie):List V->Hp->VK->Prop:=λvs H Q=>∃a n,vs=[.ref a]/\H a=some (Ga P w a n)/\Q (.int n) H
def oA:bootBuiltins "set"=some (.type "set"):=by rfl
def oB(hc:X.calm=true):jr X (.type "set") (D8 X.prog X.w X.K):=by
 intro pins s σ H xs us Q I r h;obtain⟨p,ss,rfl,hq,hb,q⟩:=h;obtain⟨u,rfl,rx⟩:=vals1 r;cases rx;obtain⟨its,rv,pl,hz⟩:=I.list hq;have hS:=J_ rv;have hlen:its.length=ss.length:=by rw[<- rv.length,t0]
 refine UT (val:=λi=>ss.getD i "") (I.ok.hd hc) pl.isList (λi v hv=>?_) (by rw[M8,hlen];exact hb) λh' tk hS' hk=>?_
 .rw[List.getElem?_toArray]at hv;clear hlen hz pl rv hb hq q
  induction hS generalizing i with
  |nil=>simp at hv
  |cons z t _ ih=>
   cases i with
   |zero=>simp at hv;exact⟨t,hv.symm⟩
   |succ i=>simp at hv;simpa using ih i hv
 .rw[show its.toArray.size=ss.length from hlen,D6]at hS';have he:∃o,h'.get? s.heap.objs.size=some o:=by obtain⟨o,_,_,_,e,_⟩:=hS';exact⟨o,e⟩
  refine⟨.ref _,_,I.laid (t':=tk) (λb u e=>hk b u (L7 e) e) (L5 _) (o:=Ga X.prog X.w s.heap.objs.size (ddS ss).length) ⟨⟨_,hS'⟩,he,?_⟩,rfl,q _ (I.hok.fresh (L5 _))⟩
  rintro h1 h2 ⟨S,o,es,ep,t,ho,rest⟩ k
  exact⟨S,o,es,ep,t,k _ ho,rest⟩
def oC:jr X (.builtin "len") (D9 X.prog X.w):=by intro pins s σ H xs us Q I r h;obtain⟨a,n,rfl,ha,q⟩:=h;obtain⟨u,rfl,rx⟩:=vals1 r;cases rx;obtain⟨⟨S,o,es,ep,t,ho,hex,hd,hel,hmem,hb,hf,hn⟩,_⟩:=I.hok a _ ha;subst hn;exact call_len_set ho hex hd hf (Int.lt_trans (show(es.size:Int)<4096 by exact_mod_cast hb) (by decide)) ⟨.int es.size,H,I.tok _,⟨_,rfl⟩,q⟩
def iM:List PV->Out PV
 |[.l xs]=>match dD xs with
  |some ss=>if ss.length+1<4096 then .ok (.i (ddS ss).length)else .wall
  |none=>.wall
 |_=>.wall
def Bm:LfC W (λvs H Q=>D8 P w W.K vs H λv H1=>D9 P w [v] H1 Q) iM:=λM C B H xs vs Q n h q=>by
 unfold iM at q;split at q
 .split at q
  .rename_i ss hs;split at q
   .rename_i hb;obtain⟨v,r,rfl,⟨p,us,rfl,_,hl,rr⟩,hr⟩:=h;cases(show _=_ from hr);rw[dE rr hs]at hl;exact⟨p,ss,rfl,SqL.of hl,hb,λa ha=>⟨a,_,rfl,zg,q _ _ (zr.upd ha) rfl⟩⟩
   .exact q.elim
  .exact q.elim
 .exact q.elim
def Bn(hc:X.calm=true)(hg:Gl X "len")(hm:X.mg "len"=none)(hg2:Gl X "set")(hm2:X.mg "set"=none)(ha:AM X C S ws [e] ms)(he:starEach [e] X.env=[(false,eval e X.env)]:=by rfl)
  (he2:starEach [.Call (.Name "set" p2) [e] [] pos2] X.env=[(false,eval (.Call (.Name "set" p2) [e] [] pos2) X.env)]:=by rfl):EM X C S false (.Call (.Name "len" p) [.Call (.Name "set" p2) [e] [] pos2] [] pos) (zk iM ms):=λhK=>by
 obtain⟨ta,a1,a2⟩:=ha hK;refine⟨_,Vt oC hg hm PySem.boot_len (J5 (aR (oB hc) hg2 hm2 oA a1 (by decide) (by decide) he rfl) aL he2) (by decide) (by decide) he2 rfl,?_⟩;rw[hK];exact λB P H σ ρ R Q q=>Dp (Bm (P:=X.prog) (w:=X.w)) a2 B P H σ ρ R Q q
section
variable {Z:HC}{A:HQ}{H:Hp}{G:AH}
def YH(h:HH Z A H G):∀(n:Nat)(x:HV)(v:V)(y:PV),YF Z.W (HM Z A G.length) A G.length H x v->YG G n x=some y->Rep Z.W (λa=>Z.M0 a\/Z.H0 a=none) H y v
 |0,_,_,_,_,e=>by cases e
 |n+1,.v x,v,y,r,e=>by cases e;exact Rep.sub r λ_ m _=>m.1
 |n+1,.t xs,v,y,r,e=>by unfold YG at e;obtain⟨ys,e1,rfl⟩:=v4.mp e;unfold YF at r;obtain⟨p,vs,rfl,s,q⟩:=r;exact⟨p,vs,rfl,s,Jg (YH h n) q e1⟩
 |n+1,.g k,v,y,r,e=>by
  obtain⟨hk,rfl⟩:=r;have hn:=h.own k hk;unfold YG at e;split at e
  .rename_i xs hc;obtain⟨ys,e1,rfl⟩:=v4.mp e;obtain⟨vs,h1,q⟩:=h.cell k _ hc;exact⟨A k,vs,rfl,.inr hn,h1,Jg (YH h n) q e1⟩
  .rename_i xs hc;obtain⟨ys,e1,rfl⟩:=v4.mp e;obtain⟨vs,h1,q⟩:=h.cell k _ hc;exact⟨A k,vs,rfl,.inr hn,.inl h1,Jh (YH h n) q e1⟩
  .rename_i xs hc;obtain⟨ys,e1,rfl⟩:=v4.mp e;obtain⟨o,vs,h1,q⟩:=h.cell k _ hc;exact⟨A k,vs,rfl,.inr hn,.inr ⟨o,h1⟩,Jh (YH h n) q e1⟩
  .rename_i c xs hc;obtain⟨ys,e1,rfl⟩:=v4.mp e;obtain⟨dx,vs,h1,q⟩:=h.cell k _ hc;exact⟨A k,dx,vs,rfl,.inr hn,h1,UK (YH h n) q e1⟩
  .cases e
end
def mkV(c:Nat)(g:List HV->AH->HX HV)(xs:Ib):Out PV:=match g (.g 0::xs.map .v) [.o c []]with
 |.ok (.v .n) G=>(match YG G 8 (.g 0)with
  |some z=>.ok z
  |none=>.wall)
 |.exc c fs _=>.exc c fs
 |_=>.wall
def tQ(M:Mk X.K (C.W.cls c) f)(F:yU X.prog X.w X.K X.mg X.base (CXe X.prog X.w) k f fd ps (hsp C.W n g))(hr:jU (k+1) X.A)(hg:Gl X x)(hm:X.mg x=some (.ref (C.W.cls c)))(hb:Binds X.K fd ps [])(hx:Passes (CXe X.prog X.w) X C.E)(ha:AM X C S ws (e::es) ms)(hw:ws.all (!·)=true)(hn:ws.length+1=n)
  (hdb:(x==("__debug__":Str))=false:=by decide) (he:starEach (e::es) X.env=(false,eval e X.env)::starEach es X.env:=by rfl) (hpl:(backTo pos (starEach es X.env)).any (·.1)=false:=by rfl):EM X C S false (.Call (.Name x p) (e::es) [] pos) (zk (mkV c g) ms):=λhK=>by
 obtain⟨ta,a1,a2⟩:=ha hK;refine⟨_,l0 M F hr hg hm hb .nil hx a1 hdb he hpl,λB P H σ ρ R Q q=>a2 B P H σ ρ R _ (yH q λxs vs H1 s1 r1 q1=>?_)⟩;intro x dx hx hd hne;rw[P0];have R1:=R.keep s1;have sm:zr H1 (upd (upd H1 dx (.own x)) x (.ins (C.W.cls c) dx [])):=λb o hb=>by rw[zi (ye hb hx),zi (ye hb hd)];exact hb
 have sM:∀a,(Mof B S P a\/H1 a=none)->Mof B S P a:=λa m=>m.elim id λn=>R1.new a n;have hM:∀a,Mof B S P a->H1 a≠none->HM ⟨C.W,H1,Mof B S P⟩ (λ_=>x) 1 a:=λa m n=>⟨.inl m,λ_ _ z=>n (z▸hx)⟩;have hh:HH ⟨C.W,H1,Mof B S P⟩ (λ_=>x) (upd (upd H1 dx (.own x)) x (.ins (C.W.cls c) dx [])) [.o c []]:=by
  refine⟨sm,λk d e=>?_,λj k hj hk _=>?_,λk _=>hx⟩
  .cases k with
   |zero=>cases e;exact⟨dx,[],zg,rfl⟩
   |succ k=>simp at e
  .have hj:j<1:=hj;have hk:k<1:=hk;omega
 have ar:∀{ws:HW}{xs:Ib}{vs:HN},ws.all (!·)=true->qG C.W (Mof B S P) H1 ws xs vs->v_ C.W (HM ⟨C.W,H1,Mof B S P⟩ (λ_=>x) 1) (λ_=>x) 1 (upd (upd H1 dx (.own x)) x (.ins (C.W.cls c) dx [])) (xs.map .v) vs:=λ{ws}=>by
  induction ws with
  |nil=>intro xs vs _ ⟨e1,e2⟩;subst e1;exact e2
  |cons w ws ih=>
   intro xs vs hw ⟨x',v,xr,vr,e1,e2,h1,h2⟩;subst e1;rw[a08,a0G]at hw;cases w with
   |true=>cases hw.1
   |false=>exact⟨v,vr,e2,Rep.gen (M:=Mof B S P) (sm.fr) (λa m n=>hM a m n) (yF.iff.mp h1),ih hw.2 h2⟩
 have hl:xs.length+1=n:=by rw[r1.args.len.2,hn]
 refine⟨⟨C.W,H1,Mof B S P⟩,λ_=>x,[.o c []],.g 0::xs.map .v,rfl,by rw[I0,t0,hl],hh,⟨.ref x,vs,rfl,⟨Nat.one_pos,rfl⟩,ar hw r1.args⟩,?_⟩;unfold mkV at q1;revert q1;cases g (.g 0::xs.map .v) [.o c []]with
 |wall=>exact id
 |exc c' fs G2=>intro q1 A2 H2 e dx' es h2 g2 he hd' rf;exact q1 e dx' es H2 (R1.same.trans h2.same) he hd' (rf.sub λa m _=>(sM a m.1).1.1)
 |ok y G2=>
  intro q1;cases y with
  |v z=>
   cases z with
   |n=>
    intro A2 H2 h3 g3 v rv;dsimp only at q1;split at q1
    .rename_i z hz;refine⟨rv,q1 (.ref x) H2 h3.same (RV.of ?_)⟩;have:=YH h3 8 (.g 0) (.ref x) z ⟨N5 Nat.one_pos g3.le,by rw[g3.agr 0 Nat.one_pos]⟩ hz;exact this.sub λa m _=>sM a m
    .exact q1.elim
   |_=>exact q1.elim
  |_=>exact q1.elim
def D_(K:Il):List V->Hp->VK->Prop:=λvs H Q=>∃(p:Addr)(ns:Ij),vs=[.ref p]/\SqL K H p (ns.map V.int)/\ns≠[]/\∀M,M∈ns->(∀a∈ns,M<=a)->Q (.int M) H
def oE(hc:X.calm=true):jr X (.builtin "min") (D_ X.K):=by
 intro pins s σ H xs us Q I r h;obtain⟨p,ns,rfl,hS,hne,q⟩:=h;obtain⟨u,rfl,ru⟩:=vals1 r;cases ru;obtain⟨its,rv,pl,_⟩:=I.list hS;obtain⟨ts,rfl,rfl⟩:=c9 rv;have e:(ts.map (λz=>Value.int z.1 z.2)).toArray=intItems ts.toArray:=by unfold intItems;simp
 have hsz:0<ts.toArray.size:=by
  rw[M8];cases ts with
  |nil=>exact absurd rfl hne
  |cons a r=>simp
 refine min_intList (xs:=ts.toArray) (I.ok.hd hc) (by rw[<- e];exact pl.isList) hsz λv h' tk hv hk=>?_;obtain⟨t,rfl⟩:=intItems_at hv;obtain⟨h1,h2⟩:=argBest_lt (numAt ts.toArray) (ts.toArray.size-1);refine⟨.int _,H,I.kept (t':=tk) hk,⟨t,rfl⟩,q _ ?_ λa ha=>?_⟩
 .rw[a22];exact getD_mem (by rw[t0];rw[M8]at *;omega)
 .obtain⟨j,hj,rfl⟩:=mem_getD ha;rw[t0]at hj;have:=h2 j (by rw[M8];omega);rw[a22 (j:=j)]at this;exact this
def iN:List Int->Int
 |[]=>0
 |[a]=>a
 |a::r=>min a (iN r)
def gg:∀{ns:Ij},ns≠[]->iN ns∈ns
 |[],h=>absurd rfl h
 |[a],_=>by simp[iN]
 |a::b::r,_=>by
  have ih:=gg (ns:=b::r) (by simp);show min a (iN (b::r))∈_;rcases a2S a (iN (b::r))with h|h
  .rw[Int.min_eq_left h];exact L4
  .rw[Int.min_eq_right h];exact L8 _ ih
def dJ:∀{ns:Ij}{a:Int},a∈ns->iN ns<=a
 |[],_,h=>by cases h
 |[b],a,h=>by simp at h;subst h;exact a0h _
 |b::c::r,a,h=>by
  show min b (iN (c::r))<=a;rcases N4.mp h with rfl|h
  .exact Int.min_le_left ..
  .exact Int.le_trans (Int.min_le_right ..) (dJ h)
def tR:List PV->Out PV
 |[.l xs]=>kN ((sD xs).bind λns=>if ns=[]then none else some (.i (iN ns)))
 |_=>.wall
def Bo:LfC W (D_ W.K) tR:=λM C B H xs vs Q n h q=>by
 unfold tR at q;split at q
 .obtain⟨z,e,q⟩:=yI q;obtain⟨ns,hn,e⟩:=O1.mp e;by_cases hz:ns=[]
  .rw[if_pos hz]at e;cases e
  .rw[if_neg hz]at e;cases e;obtain⟨v,r,rfl,⟨p,vs,rfl,_,hl,rr⟩,hr⟩:=h;cases(show _=_ from hr);rw[dk rr hn]at hl;refine⟨p,ns,rfl,SqL.of hl,hz,λM hM hM2=>?_⟩;have:M=iN ns:=Int.le_antisymm (hM2 _ (gg hz)) (dJ hM);rw[this];exact q _ H (zr.refl _) rfl
 .exact q.elim
def Bp(hc:X.calm=true)(hg:Gl X "min")(hm:X.mg "min"=none)(ha:AM X C S ws [e] ms)(he:starEach [e] X.env=[(false,eval e X.env)]:=by rfl):EM X C S false (.Call (.Name "min" p) [e] [] pos) (zk tR ms):=
 Q9 (λhK=>hK▸oE hc) Bo hg hm a2y ha (he:=he)
end L2
namespace L2
section
variable {κ α:Type}[DecidableEq κ]
def tS{k:κ}:zB ([]:List (κ×α)) k=none:=rfl
def zV{k j:κ}{v:α}{r:List (κ×α)}:zB ((j,v)::r) k=if j=k then some v else zB r k:=by
 unfold zB;rw[a1a];by_cases h:j=k
 .simp[h]
 .simp[h]
def kW:∀{kvs:List (κ×α)}{k:κ},kvs.any (λkv=>decide (kv.1=k))=(zB kvs k).isSome
 |[],_=>rfl
 | (j,v)::r,k=>by
  rw[T7,zV,kW];by_cases h:j=k
  .simp[h]
  .simp[h]
def gh:∀{a:List (κ×α)}{k j:κ}{v:α},zB (a++[(k,v)]) j=(zB a j).or (if k=j then some v else none)
 |[],k,j,v=>by rw[a0B,zV,tS];rfl
 | (i,u)::a,k,j,v=>by
  rw[List.cons_append,zV,zV,gh];by_cases h:i=j
  .rw[if_pos h,if_pos h];rfl
  .rw[if_neg h,if_neg h]
def UU:∀{a:List (κ×α)}{k j:κ}{v:α},zB (a.map λkv=>if kv.1=k then(kv.1,v)else kv) j=if k=j then(zB a j).map (λ_=>v)else zB a j
 |[],k,j,v=>by split<;>rfl
 | (i,u)::a,k,j,v=>by
  rw[M3];by_cases h:i=k
  .subst h;rw[if_pos rfl,zV,zV,UU];by_cases h:i=j
   .rw[if_pos h,if_pos h,if_pos h];rfl
   .rw[if_neg h,if_neg h,if_neg h,if_neg h]
  .rw[if_neg (show ¬((i,u):κ×α).1=k from h),zV,zV,UU];by_cases hj:i=j
   .rw[if_pos hj,if_pos hj,if_neg (λz=>h (hj.trans z.symm))]
   .rw[if_neg hj,if_neg hj]
def kX{a:List (κ×α)}{k j:κ}{v:α}:zB (dput a k v) j=if k=j then some v else zB a j:=by
 unfold dput;rw[kW];split
 .rename_i h;rw[UU];split
  .rename_i e;subst e;obtain⟨x,hx⟩:=a0e.mp h;rw[hx];rfl
  .rfl
 .rename_i h;rw[gh];by_cases e:k=j
  .subst e;have:zB a k=none:=by cases q:zB a k with|none=>rfl|some x=>rw[q]at h;exact absurd rfl h
   rw[this,if_pos rfl];rfl
  .rw[if_neg e,if_neg e];cases zB a j<;>rfl
def Jn{a:List (κ×α)}{k:κ}{v:α}:(dput a k v).map (·.1)=if(zB a k).isSome=true then a.map (·.1)else a.map (·.1)++[k]:=by
 unfold dput;rw[kW];split
 .rw[S9];refine a0M λkv _=>?_;show(if kv.1=k then(kv.1,v)else kv).1=kv.1;split<;>rfl
 .rw[P9];rfl
def YI:∀{a:List (κ×α)}{k:κ}{v:α},zB a k=some v->(k,v)∈a
 |[],_,_,e=>by cases e
 | (j,u)::a,k,v,e=>by
  rw[zV]at e;split at e
  .rename_i h;subst h;cases e;exact L4
  .exact L8 _ (YI e)
def gi{a:List (κ×α)}{k:κ}:(zB a k).isSome=true↔k∈a.map (·.1):=by
 rw[<- kW,List.any_eq_true];constructor
 .rintro ⟨kv,h,e⟩;exact T1.mpr ⟨kv,h,R4 e⟩
 .intro h;obtain⟨kv,h,e⟩:=T1.mp h;exact⟨kv,h,M6 e⟩
def X2{a:List (κ×α)}{k:κ}{v:α}(h:(a.map (·.1)).Nodup):((dput a k v).map (·.1)).Nodup:=by
 rw[Jn];split
 .exact h
 .rename_i n;refine a0Y.mpr ⟨h,by simp,λx hx y hy z=>?_⟩;obtain rfl:y=k:=by simpa using hy
  subst z;exact n (gi.mpr hx)
end
end L2
namespace K25
open PySem L2
noncomputable section NCS
def top(i:Nat):Stmt:=PySem.Challenge.pw_fleetpath_k25_whole_links_go_on.main.body.getD i (.Pass ⟨0,0,0,0⟩)
abbrev wB:Stmt:=top 45
abbrev Wa:Stmt:=top 46
abbrev QJ:Stmt:=top 47
abbrev Ka:Stmt:=top 48
abbrev Kb:Stmt:=top 50
abbrev QK:Stmt:=top 51
abbrev vy:Stmt:=inClass (top 5) 0
abbrev ZK:Stmt:=top 16
abbrev vz:Stmt:=inClass (top 3) 0
abbrev vA:Stmt:=top 13
abbrev ZL:Stmt:=inClass (top 6) 0
abbrev qH:Stmt:=top 15
abbrev vB:Stmt:=top 39
abbrev vC:Stmt:=inClass (top 7) 0
abbrev wC:Stmt:=top 38
abbrev ju:Stmt:=inClass (top 4) 0
abbrev jv:Stmt:=top 14
abbrev ZM:Stmt:=top 40
abbrev vD:Stmt:=top 41
abbrev ZN:Stmt:=inClass (top 43) 0
abbrev wD:Stmt:=inClass (top 29) 1
abbrev wF:Stmt:=inClass (top 43) 1
abbrev wG:Stmt:=inClass (top 9) 0
abbrev ZO:Stmt:=inClass (top 29) 2
abbrev vE:Stmt:=inClass (top 43) 2
abbrev Bq:Stmt:=top 31
abbrev UW:Stmt:=top 32
abbrev j0:Stmt:=top 34
abbrev dM:Stmt:=top 33
abbrev wH:Stmt:=top 49
abbrev j3:Stmt:=inClass (top 25) 0
abbrev ZP:Stmt:=inClass (top 8) 0
abbrev vF:Stmt:=inClass (top 26) 0
abbrev ZQ:Stmt:=top 27
abbrev jw:Stmt:=top 28
abbrev ZR:Stmt:=inClass (top 29) 0
abbrev j4:Stmt:=inClass (top 43) 4
abbrev QL:Stmt:=top 52
abbrev QM:Stmt:=top 54
abbrev ZS:Stmt:=top 53
abbrev wI:Stmt:=top 42
abbrev QN:Stmt:=inClass (top 43) 3
abbrev ZT:Stmt:=top 55
abbrev Br:Stmt:=top 56
def scB(N P:HA)(sc:Scope):Bool:=(match sc.kind with | .function=>true|_=>false)&&(!sc.isCoroutine&&(!sc.isGenerator&&(decide N.Nodup&&(decide (N.take P.length=P)&&(P.all (λx=>match sc.names.lookup x with|some .local=>true|some .cell=>true|_=>false)&&sc.names.all λy=>match y.2 with | .free=>false|_=>true)))))
def kY(h:scB N P sc=true):zm N P sc:=by
 unfold scB at h;simp only[Bool.and_eq_true,decide_eq_true_eq,List.all_eq_true]at h;obtain⟨h1,h2,h3,h4,h5,h6,h7⟩:=h;refine⟨?_,by simpa using h2,by simpa using h3,h4,h5,λx hx=>?_,λy hy e=>?_⟩
 .revert h1;cases sc.kind<;>simp
 .have:=h6 x hx;split at this<;>simp_all
 .have:=h7 y hy;rw[e]at this;cases this
def Xb:zm ["_law_script","_law_k"] ["_law_script","_law_k"] (zh wB):=kY (by decide +kernel)
def iO:zm ["_law_script","_law_k","_law_prime"] ["_law_script","_law_k","_law_prime"] (zh Wa):=kY (by decide +kernel)
def z6:zm ["_law_script","_law_at","_law_many","_law_some","_law_cell","_law_signs","_law_way","_law_names_here","_law_k","_law_row","_law_spot"] ["_law_script","_law_at","_law_many"] (zh QJ):=kY (by decide +kernel)
def qw:zm ["_law_script","_law_at","_law_names_here","_law_many","_law_far","_law_ways_here","_law_k","_law_cell"] ["_law_script","_law_at","_law_names_here"] (zh Ka):=kY (by decide +kernel)
def z8:zm ["_law_script","_law_at","_law_name","_law_places","_law_lengths_here","_law_ahead","_law_first","_law_second","_law_third","_law_origin","_law_goal","_law_more","_law_took","_law_start"] ["_law_script","_law_at","_law_name","_law_places","_law_lengths_here","_law_ahead"] (zh Kb):=kY (by decide +kernel)
def jn:zm ["_law_script","_law_at","_law_names_here","_law_places","_law_lengths_here","_law_trips_here","_law_k","_law_ahead"] ["_law_script","_law_at","_law_names_here","_law_places","_law_lengths_here"] (zh QK):=kY (by decide +kernel)
def Wb:zm ["self","most"] ["self","most"] (zh vy):=kY (by decide +kernel)
def UX:zm ["things","most"] ["things","most"] (zh ZK):=kY (by decide +kernel)
def Wc:zm ["self","name"] ["self","name"] (zh vz):=kY (by decide +kernel)
def ZU:zm ["name","sign"] ["name"] (zh vA):=kY (by decide +kernel)
def UY:zm ["self","name"] ["self","name"] (zh ZL):=kY (by decide +kernel)
def QO:zm ["name","had"] ["name","had"] (zh qH):=kY (by decide +kernel)
def j5:zm ["places","had","name"] ["places"] (zh vB):=kY (by decide +kernel)
def Wd:zm ["self","name"] ["self","name"] (zh vC):=kY (by decide +kernel)
def Xc:zm ["name","places"] ["name","places"] (zh wC):=kY (by decide +kernel)
def Kc:zm ["self","value"] ["self","value"] (zh ju):=kY (by decide +kernel)
def Ke:zm ["value","least"] ["value","least"] (zh jv):=kY (by decide +kernel)
def jK:zm ["places","ways","origin","goal","minutes"] ["places","ways"] (zh ZM):=kY (by decide +kernel)
def zM:zm ["origin","ways","heights","changed","start","goal","minutes","height"] ["origin","ways"] (zh vD):=kY (by decide +kernel)
def UZ:zm ["self","places","ways"] ["self","places","ways"] (zh ZN):=kY (by decide +kernel)
def Xd:zm ["self"] ["self"] (zh wD):=kY (by decide +kernel)
def Xe:zm ["self"] ["self"] (zh wF):=kY (by decide +kernel)
def Xf:zm ["self","name"] ["self","name"] (zh wG):=kY (by decide +kernel)
def U0:zm ["self","name"] ["self","name"] (zh ZO):=kY (by decide +kernel)
def We:zm ["self","origin","goal"] ["self","origin","goal"] (zh vE):=kY (by decide +kernel)
def gj:zm ["table","one","other","ahead","behind","length"] ["table","one","other"] (zh Bq):=kY (by decide +kernel)
def bJ:zm ["table","one","other","minutes"] ["table","one","other"] (zh UW):=kY (by decide +kernel)
def Vb:zm ["table","one","names"] ["table","one","names"] (zh j0):=kY (by decide +kernel)
def gk:zm ["table","names"] ["table"] (zh dM):=kY (by decide +kernel)
def zL:zm ["_law_names_here","_law_ways_here","_law_found","_law_name","_law_one","_law_other","_law_minutes","_law_mid","_law_by"] ["_law_names_here","_law_ways_here"] (zh wH):=kY (by decide +kernel)
def Vc:zm ["self","name"] ["self","name"] (zh j3):=kY (by decide +kernel)
def U1:zm ["self","origin","goal"] ["self","origin","goal"] (zh ZP):=kY (by decide +kernel)
def Wf:zm ["self","name"] ["self","name"] (zh vF):=kY (by decide +kernel)
def Jo:zm ["roads","trip","had","length"] ["roads","trip","had"] (zh ZQ):=kY (by decide +kernel)
def Kf:zm ["trip"] ["trip"] (zh jw):=kY (by decide +kernel)
def Jp:zm ["self","roads","trips","trip"] ["self","roads","trips"] (zh ZR):=kY (by decide +kernel)
def Vd:zm ["self","origin"] ["self","origin"] (zh j4):=kY (by decide +kernel)
def bK:zm ["_law_found"] ["_law_found"] (zh QL):=kY (by decide +kernel)
def kZ:zm ["_law_heights","_law_origin","_law_ways_here","_law_one","_law_other","_law_minutes"] ["_law_heights","_law_origin","_law_ways_here"] (zh QM):=kY (by decide +kernel)
def qI:zm ["_law_way","_law_one","_law_other","_law_ways_here","_law_minutes","_law_k","_law_steps"] ["_law_way","_law_one","_law_other","_law_ways_here"] (zh ZS):=kY (by decide +kernel)
def jd:zm ["place","heights","ways","start","goal","minutes"] ["place","heights","ways"] (zh wI):=kY (by decide +kernel)
def KD:zm ["self","origin","goal","passed"] ["self","origin","goal"] (zh QN):=kY (by decide +kernel)
def wJ:zm ["_law_one","_law_other","_law_told","_law_roads","_law_ways_here","_law_row","_law_minutes"] ["_law_one","_law_other","_law_told","_law_roads","_law_ways_here"] (zh ZT):=kY (by decide +kernel)
def Zb:zm ["_law_script","_law_places","_law_ways_here","_law_many","_law_names_here","_law_trips_here","_law_roads","_law_told","_law_one","_law_heights","_law_row","_law_other"] ["_law_script"] (zh Br):=kY (by decide +kernel)
abbrev NsN(K:Ir)(x:Str):Prop:=W.nsIn K mainGlobals x=some none
abbrev NsR(K:Ir)(x:Str)(c:Addr):Prop:=W.nsIn K mainGlobals x=some (some (.ref c))
def ev(i:Nat)(hN:X.N[i]?=some x:=by rfl)(hv:Vis X.env.scope x:=by first|exact Or.inl rfl|exact Or.inr (Or.inl rfl)|exact Or.inr (Or.inr rfl))(hd:(x==("__debug__":Str))=false:=by decide)(hcd:(x==("__classdict__":Str))=false:=by decide):EM X C S true (.Name x pos) (zc i):=C8 (pv i hN hv hd hcd)
def ei{j}:EM X C S false (.Constant (.int i) j pos) (mC (.i i)):=yi Ci
def rm(hr:jU k A)(h:j<=k:=by decide):jU j A:=hr.mono h
def Ea(h1:W.findIn K (.ref C) "__init__"=some (some (.ref f)))(h2:K.lookup C=some (excClassObj nm q C N bs bm true sn sub ab col dd k0 k1 k2 k3 k5 "ValueError.__new__"))(h3:ba K bm=true)(h4:W.typeIn K (.ref f)=some (.type "function"))(h5:W.keepIn K (.ref C)=true):XMk K C f:=⟨⟨_,_,_,_,_,_,_,_,_,_,_,_,_,_,_,h2,h3⟩,h1,h4,h5⟩
abbrev fnT(st:IA)(sh q:Str)(kV dc pm:Value)(an:Iw)(cd ct:Value):FuncData:=W.fnOf sh q (VM st) (wx st) (zh st) .none kV dc pm an cd ct
abbrev DfN(K:Ir)(x:Str)(st:IA)(f:Addr)(fd:Ii):Prop:=W.nsIn K mainGlobals x=some (some (.ref f))/\Fun K x x st f fd
structure Def(K:Ir)(mg:HD)(x:Str)(st:IA)(ps:HA)(f:Addr)(fd:Ii):Prop where
 g:mg x=some (.ref f)
 F:Fun K x x st f fd
 b:Binds K fd ps []
def Def.k(D:Def K mg x st ps f fd):W.keepIn K (.ref f)=true:=D.F.kp
abbrev BN(x q:Str)(st:IA)(ps:HA):Prop:=∀(kV dc pm:Value)(an:Iw)(cd ct:Value)(us:HK),us.length=ps.length->bindArgs (fnT st x q kV dc pm an cd ct) ⟨us,[]⟩=pure (ps.zip us)
def yw(X:K.In h)(G:h.Ns mainGlobals mg)(D:DfN K x st f fd)(b:BN x x st ps):Def K mg x st ps f fd:=⟨T5 X G D.1,D.2,D.2.binds b⟩
def fz{P:IL}:∀c∈([]:List Nat),P c:=λ_ h=>nomatch h
def fa{P:IL}{a:Nat}{l:HF}(h:P a)(t:∀c∈l,P c):∀c∈a::l,P c:=λc hc=>(N4.mp hc).elim (λe=>e▸h) (t c)
def al{X:Cx}{W:RC}{fr:Bool}{ws:HW}{mn:Str}{c:Nat}{f:Ia}(h:An X.prog X.w X.K X.mg X.base X.A mn (W.cls c) (lsp W fr (true::ws) f)):∀K sp,Dv W fr ws [(c,f)] K sp->An X.prog X.w X.K X.mg X.base X.A mn K sp:=λK sp ⟨q,hq,e1,e2⟩=>by cases O0.mp hq;subst e1 e2;exact h
def ec{X:Cx}{C:LC}{S:HF}{k j:Nat}{f:Addr}{fd:Ii}{ps:HA}{fr:Bool}{ws:HW}{g:Ia}{x:Str}{st:IA}{e:HY}{es:HL}{ms:MA}{p pos:Pos}(F:yU X.prog X.w X.K X.mg X.base (CXe X.prog X.w) k f fd ps (lsp C.W fr ws g))(hr:jU j X.A)(D:Def X.K X.mg x st ps f fd)(hx:Passes (CXe X.prog X.w) X C.E)(ha:AM X C S ws (e::es) ms)(hj:k<=j:=by decide)(hg:Gl X x:=by rfl)
  (hdb:(x==("__debug__":Str))=false:=by decide) (he:starEach (e::es) X.env=(false,eval e X.env)::starEach es X.env:=by rfl) (hpl:(backTo pos (starEach es X.env)).any (·.1)=false:=by rfl):EM X C S false (.Call (.Name x p) (e::es) [] pos) (zk g ms):=AB F (hr.mono hj) hg D.g D.k D.b hx ha hdb he hpl
def gn(i:Nat)(hN:X.N.Nodup)(hi:X.N[i]?=some x:=by rfl)(hx:Loc X.env.scope x:=by exact .inl rfl)(hf:X.fn x=true\/X.env.scope.names.lookup x=some .local:=by first|exact .inl rfl|exact .inr rfl|assumption):GM X C S (S.set i 0) (.Name x pos) (gNm i):=jt hN hi hx hf
def se(i:Nat)(hN:X.N.Nodup)(h:EM X C S false e m)(hi:X.N[i]?=some x:=by rfl)(hx:Loc X.env.scope x:=by exact .inl rfl)(hs:swapsWith e (some (.Name x pos')) pos.line X.env=pure false:=by rfl)(hf:X.fn x=true\/X.env.scope.names.lookup x=some .local:=by first|exact .inl rfl|exact .inr rfl|assumption):SM X C S (S.set i 0) Sb Sc (.Assign [.Name x pos'] e pos) (yr i m):=bh hN hi hx h hs hf
def ix(hr:jU k X.A)(h1:EM X C S w1 a m1)(h2:EM X C S w2 b m2)(hs:Uo b:=by intro _ _;rfl):EM X C S false (.Subscript a b pos) (mOp pIx m1 m2):=FI (qi hr) h1 h2 hs
def hp(h:EM X ⟨W,E,false⟩ (List.replicate 30 0) false e m):HE X W E e (hP bs m):=Hq bs h (a0H.mpr λ_ h=>by rw[a2g h];rfl)
def hf(h:FM X ⟨W,E,false⟩ (List.replicate 30 0) e m):HE X W E e (hF bs m):=Hs bs h (a0H.mpr λ_ h=>by rw[a2g h];rfl)
def bn1(h:∀kV dc pm an cd ct u0,bindArgs (fnT st x q kV dc pm an cd ct) ⟨[u0],[]⟩=pure (ps.zip [u0]):=by intros;rfl)(hp:ps.length=1:=by rfl):BN x q st ps:=λkV dc pm an cd ct us hl=>FT (P:=λus=>bindArgs (fnT st x q kV dc pm an cd ct) ⟨us,[]⟩=pure (ps.zip us)) (hl.trans hp) λu0=>h kV dc pm an cd ct u0
def bn2(h:∀kV dc pm an cd ct u0 u1,bindArgs (fnT st x q kV dc pm an cd ct) ⟨[u0,u1],[]⟩=pure (ps.zip [u0,u1]):=by intros;rfl)(hp:ps.length=2:=by rfl):BN x q st ps:=λkV dc pm an cd ct us hl=>FU (P:=λus=>bindArgs (fnT st x q kV dc pm an cd ct) ⟨us,[]⟩=pure (ps.zip us)) (hl.trans hp) λu0 u1=>h kV dc pm an cd ct u0 u1
def bn3(h:∀kV dc pm an cd ct u0 u1 u2,bindArgs (fnT st x q kV dc pm an cd ct) ⟨[u0,u1,u2],[]⟩=pure (ps.zip [u0,u1,u2]):=by intros;rfl)(hp:ps.length=3:=by rfl):BN x q st ps:=λkV dc pm an cd ct us hl=>FV (P:=λus=>bindArgs (fnT st x q kV dc pm an cd ct) ⟨us,[]⟩=pure (ps.zip us)) (hl.trans hp) λu0 u1 u2=>h kV dc pm an cd ct u0 u1 u2
def bn4(h:∀kV dc pm an cd ct u0 u1 u2 u3,bindArgs (fnT st x q kV dc pm an cd ct) ⟨[u0,u1,u2,u3],[]⟩=pure (ps.zip [u0,u1,u2,u3]):=by intros;rfl)(hp:ps.length=4:=by rfl):BN x q st ps:=λkV dc pm an cd ct us hl=>FW (P:=λus=>bindArgs (fnT st x q kV dc pm an cd ct) ⟨us,[]⟩=pure (ps.zip us)) (hl.trans hp) λu0 u1 u2 u3=>h kV dc pm an cd ct u0 u1 u2 u3
def bn5(h:∀kV dc pm an cd ct u0 u1 u2 u3 u4,bindArgs (fnT st x q kV dc pm an cd ct) ⟨[u0,u1,u2,u3,u4],[]⟩=pure (ps.zip [u0,u1,u2,u3,u4]):=by intros;rfl)(hp:ps.length=5:=by rfl):BN x q st ps:=λkV dc pm an cd ct us hl=>FX (P:=λus=>bindArgs (fnT st x q kV dc pm an cd ct) ⟨us,[]⟩=pure (ps.zip us)) (hl.trans hp) λu0 u1 u2 u3 u4=>h kV dc pm an cd ct u0 u1 u2 u3 u4
def bn6(h:∀kV dc pm an cd ct u0 u1 u2 u3 u4 u5,bindArgs (fnT st x q kV dc pm an cd ct) ⟨[u0,u1,u2,u3,u4,u5],[]⟩=pure (ps.zip [u0,u1,u2,u3,u4,u5]):=by intros;rfl)(hp:ps.length=6:=by rfl):BN x q st ps:=λkV dc pm an cd ct us hl=>F5 (P:=λus=>bindArgs (fnT st x q kV dc pm an cd ct) ⟨us,[]⟩=pure (ps.zip us)) (hl.trans hp) λu0 u1 u2 u3 u4 u5=>h kV dc pm an cd ct u0 u1 u2 u3 u4 u5
structure Adr where
 (ko qy kr QW ky wR wU qZ kA wV kB zD zO qx jS qW qY vN yq vO yQ Yd zF yR vP z1 jx zC qB yd yZ z0 yo wW zS zw iQ YK yA Kk y9 kC Ye vQ yX zt Yf zI ki qX qA y_ yY qC oQ:Addr)
 (JK cB WR Ub Uc WT vR KW vS Qe Yg vm Qf vT JL jA Zh KY Qg Yh wX wY wZ Yi vU ED g7 Yj pL JM kD Yk vV KZ Zi Yl kE WU WV K0 JN QX K1 EE:Ii)
 (BV cC Xx cD EF uB EG BW uC BX aw eF:Tok)
abbrev GK(K:Ir)(mg:HD)(a:Adr):Prop:=
 (mg "LIMIT"=some (.int 1000000000 a.BV))/\
 (mg "NAME_SIGNS"=some (.str "abcdefghijklmnopqrstuvwxyz0123456789" a.cC))/\
 (mg "LONGEST_NAME"=some (.int 12 a.Xx))/\
 (mg "MOST_TRIPS"=some (.int 40 a.cD))/\
 (mg "NAME"=some (.int 0 a.EF))/\
 (mg "ORIGIN"=some (.int 1 a.uB))/\
 (mg "GOAL"=some (.int 2 a.EG))/\
 (mg "START"=some (.int 3 a.BW))
abbrev GL(K:Ir)(mg:HD)(a:Adr):Prop:=
 (mg "FINISH"=some (.int 4 a.uC))/\
 (mg "SEATS"=some (.int 5 a.BX))/\
 (mg "MOST_PLACES"=some (.int 12 a.aw))/\
 (mg "MOST_WAYS"=some (.int 60 a.eF))/\
 (mg "BadName"=some (.ref a.ko))/\
 (mg "BadNumber"=some (.ref a.qy))/\
 (mg "TooMany"=some (.ref a.kr))/\
 (mg "Twice"=some (.ref a.QW))
abbrev Txt2(K:Ir)(mg:HD)(a:Adr):Prop:=
 (mg "NoPlace"=some (.ref a.ky))/\
 (mg "NoWay"=some (.ref a.wR))/\
 (mg "NoTrip"=some (.ref a.wU))/\
 (mg "Backward"=some (.ref a.qZ))/\
 (mg "TooFast"=some (.ref a.kA))/\
 (mg "Table"=some (.ref a.wV))/\
 (mg "Roads"=some (.ref a.kB))/\
 (mg "all"=none)
abbrev GN(K:Ir)(mg:HD)(a:Adr):Prop:=
 (mg "bool"=none)/\
 (mg "dict"=none)/\
 (mg "int"=none)/\
 (mg "isinstance"=none)/\
 (mg "len"=none)/\
 (mg "list"=none)/\
 (mg "max"=none)/\
 (mg "min"=none)
abbrev GO(K:Ir)(mg:HD)(a:Adr):Prop:=
 (mg "range"=none)/\
 (mg "reversed"=none)/\
 (mg "set"=none)/\
 (mg "sorted"=none)/\
 (Def K mg "_law_cell_at" wB ["_law_script","_law_k"] a.zD a.JK)/\
 (Def K mg "_law_mix" Wa ["_law_script","_law_k","_law_prime"] a.zO a.cB)/\
 (Def K mg "_law_names" QJ ["_law_script","_law_at","_law_many"] a.qx a.WR)/\
 (Def K mg "_law_ways" Ka ["_law_script","_law_at","_law_names_here"] a.jS a.Ub)
abbrev GP(K:Ir)(mg:HD)(a:Adr):Prop:=
 (Def K mg "_law_trip" Kb ["_law_script","_law_at","_law_name","_law_places","_law_lengths_here","_law_ahead"] a.qW a.Uc)/\
 (Def K mg "_law_trips" QK ["_law_script","_law_at","_law_names_here","_law_places","_law_lengths_here"] a.qY a.WT)/\
 (Fun K "__init__" "TooMany.__init__" vy a.vN a.vR)/\
 (Binds K a.vR ["self","most"] [])/\
 (Def K mg "check_most" ZK ["things","most"] a.yq a.KW)/\
 (Fun K "__init__" "BadName.__init__" vz a.vO a.vS)/\
 (Binds K a.vS ["self","name"] [])/\
 (Def K mg "checked_name" vA ["name"] a.yQ a.Qe)
abbrev GQ(K:Ir)(mg:HD)(a:Adr):Prop:=
 (Fun K "__init__" "Twice.__init__" ZL a.Yd a.Yg)/\
 (Binds K a.Yg ["self","name"] [])/\
 (Def K mg "checked_new_name" qH ["name","had"] a.zF a.vm)/\
 (Def K mg "check_places" vB ["places"] a.yR a.Qf)/\
 (Fun K "__init__" "NoPlace.__init__" vC a.vP a.vT)/\
 (Binds K a.vT ["self","name"] [])/\
 (Def K mg "check_place" wC ["name","places"] a.z1 a.JL)/\
 (Fun K "__init__" "BadNumber.__init__" ju a.jx a.jA)
abbrev GR(K:Ir)(mg:HD)(a:Adr):Prop:=
 (Binds K a.jA ["self","value"] [])/\
 (Def K mg "checked_number" jv ["value","least"] a.zC a.Zh)/\
 (Def K mg "check_ways" ZM ["places","ways"] a.qB a.KY)/\
 (Def K mg "heights_from" vD ["origin","ways"] a.yd a.Qg)/\
 (Fun K "__init__" "Roads.__init__" ZN a.yZ a.Yh)/\
 (Binds K a.Yh ["self","places","ways"] [])/\
 (Fun K "names" "Table.names" wD a.z0 a.wX)/\
 (Binds K a.wX ["self"] [])
abbrev GS(K:Ir)(mg:HD)(a:Adr):Prop:=
 (Fun K "names" "Roads.names" wF a.yo a.wY)/\
 (Binds K a.wY ["self"] [])/\
 (Fun K "__init__" "NoTrip.__init__" wG a.wW a.wZ)/\
 (Binds K a.wZ ["self","name"] [])/\
 (Fun K "trip" "Table.trip" ZO a.zS a.Yi)/\
 (Binds K a.Yi ["self","name"] [])/\
 (Fun K "length" "Roads.length" vE a.zw a.vU)/\
 (Binds K a.vU ["self","origin","goal"] [])
abbrev GU(K:Ir)(mg:HD)(a:Adr):Prop:=
 (Def K mg "gap" Bq ["table","one","other"] a.iQ a.ED)/\
 (Def K mg "linked" UW ["table","one","other"] a.YK a.g7)/\
 (Def K mg "linked_behind" j0 ["table","one","names"] a.yA a.Yj)/\
 (Def K mg "links" dM ["table"] a.Kk a.pL)/\
 (Def K mg "_law_lengths" wH ["_law_names_here","_law_ways_here"] a.y9 a.JM)/\
 (Fun K "__init__" "Backward.__init__" j3 a.kC a.kD)/\
 (Binds K a.kD ["self","name"] [])/\
 (Fun K "__init__" "NoWay.__init__" ZP a.Ye a.Yk)
abbrev Eb(K:Ir)(mg:HD)(a:Adr):Prop:=
 (Binds K a.Yk ["self","origin","goal"] [])/\
 (Fun K "__init__" "TooFast.__init__" vF a.vQ a.vV)/\
 (Binds K a.vV ["self","name"] [])/\
 (Def K mg "check_trip" ZQ ["roads","trip","had"] a.yX a.KZ)/\
 (Def K mg "place_in_order" jw ["trip"] a.zt a.Zi)/\
 (Fun K "__init__" "Table.__init__" ZR a.Yf a.Yl)/\
 (Binds K a.Yl ["self","roads","trips"] [])/\
 (Fun K "heights" "Roads.heights" j4 a.zI a.kE)
abbrev Ec(K:Ir)(mg:HD)(a:Adr):Prop:=
 (Binds K a.kE ["self","origin"] [])/\
 (Def K mg "_law_whole" QL ["_law_found"] a.ki a.WU)/\
 (Def K mg "_law_paper" QM ["_law_heights","_law_origin","_law_ways_here"] a.qX a.WV)/\
 (Def K mg "_law_driven" ZS ["_law_way","_law_one","_law_other","_law_ways_here"] a.qA a.K0)/\
 (Def K mg "place_ahead" wI ["place","heights","ways"] a.y_ a.JN)/\
 (Fun K "way" "Roads.way" QN a.yY a.QX)/\
 (Binds K a.QX ["self","origin","goal"] [])/\
 (Def K mg "_law_behind" ZT ["_law_one","_law_other","_law_told","_law_roads","_law_ways_here"] a.qC a.K1)
abbrev Ed(K:Ir)(mg:HD)(a:Adr):Prop:=
 (Def K mg "law" Br ["_law_script"] a.oQ a.EE)/\
 (YS K a.ko)/\
 (XMk K a.ko a.vO)/\
 (W.takerIn K a.ko "name"=some none)/\
 (YS K a.qy)/\
 (XMk K a.qy a.jx)/\
 (W.takerIn K a.qy "value"=some none)/\
 (YS K a.kr)
abbrev Ee(K:Ir)(mg:HD)(a:Adr):Prop:=
 (XMk K a.kr a.vN)/\
 (W.takerIn K a.kr "most"=some none)/\
 (YS K a.QW)/\
 (XMk K a.QW a.Yd)/\
 (W.takerIn K a.QW "name"=some none)/\
 (YS K a.ky)/\
 (XMk K a.ky a.vP)/\
 (W.takerIn K a.ky "name"=some none)
abbrev Ef(K:Ir)(mg:HD)(a:Adr):Prop:=
 (YS K a.wR)/\
 (XMk K a.wR a.Ye)/\
 (W.takerIn K a.wR "origin"=some none)/\
 (W.takerIn K a.wR "goal"=some none)/\
 (YS K a.wU)/\
 (XMk K a.wU a.wW)/\
 (W.takerIn K a.wU "name"=some none)/\
 (YS K a.qZ)
abbrev Eg(K:Ir)(mg:HD)(a:Adr):Prop:=
 (XMk K a.qZ a.kC)/\
 (W.takerIn K a.qZ "name"=some none)/\
 (YS K a.kA)/\
 (XMk K a.kA a.vQ)/\
 (W.takerIn K a.kA "name"=some none)/\
 (Cls K a.wV)/\
 (jF K a.wV "by_name")/\
 (jF K a.wV "order")
abbrev Eh(K:Ir)(mg:HD)(a:Adr):Prop:=
 (jF K a.wV "roads")/\
 (Meth K a.wV "names" a.z0)/\
 (Meth K a.wV "trip" a.zS)/\
 (Mk K a.wV a.Yf)/\
 (Cls K a.kB)/\
 (jF K a.kB "lengths")/\
 (jF K a.kB "places")/\
 (jF K a.kB "ways")
abbrev Ei(K:Ir)(mg:HD)(a:Adr):Prop:=
 (Meth K a.kB "heights" a.zI)/\
 (Meth K a.kB "length" a.zw)/\
 (Meth K a.kB "names" a.yo)/\
 (Meth K a.kB "way" a.yY)/\
 (Mk K a.kB a.yZ)/\
 (W.kitOne K (.type "bool") (.type "bool")=some true)/\
 (W.kitOne K (.type "int") (.type "bool")=some false)/\
 (W.kitOne K (.type "int") (.type "int")=some true)
abbrev Ej(K:Ir)(mg:HD)(a:Adr):Prop:=
 (W.kitOne K (.type "bool") (.type "int")=some true)/\
 (W.kitOne K (.type "list") (.type "list")=some true)/\
 (W.kitOne K (.type "dict") (.type "dict")=some true)
abbrev Txt(K:Ir)(mg:HD)(a:Adr):Prop:=GK K mg a/\GL K mg a/\Txt2 K mg a/\GN K mg a/\GO K mg a/\GP K mg a/\GQ K mg a/\GR K mg a/\GS K mg a/\GU K mg a/\Eb K mg a/\Ec K mg a/\Ed K mg a/\Ee K mg a/\Ef K mg a/\Eg K mg a/\Eh K mg a/\Ei K mg a/\Ej K mg a
section
variable {K:Ir}{mg:HD}{a:Adr}(T:Txt K mg a)
include T
def Txt.cc0:GK K mg a:=T.1
def Txt.dN:=T.cc0.1
def Txt.ZV:=T.cc0.2.1
def Txt.vG:=T.cc0.2.2.1
def Txt.ZW:=T.cc0.2.2.2.1
def Txt.KG:=T.cc0.2.2.2.2.1
def Txt.Jq:=T.cc0.2.2.2.2.2.1
def Txt.bL:=T.cc0.2.2.2.2.2.2.1
def Txt.QP:=T.cc0.2.2.2.2.2.2.2
def Txt.cc1:GL K mg a:=T.2.1
def Txt.wK:=T.cc1.1
def Txt.dP:=T.cc1.2.1
def Txt.wL:=T.cc1.2.2.1
def Txt.QQ:=T.cc1.2.2.2.1
def Txt.Jr:=T.cc1.2.2.2.2.1
def Txt.QR:=T.cc1.2.2.2.2.2.1
def Txt.Wg:=T.cc1.2.2.2.2.2.2.1
def Txt.dQ:=T.cc1.2.2.2.2.2.2.2
def Txt.cc2:Txt2 K mg a:=T.2.2.1
def Txt.Wh:=T.cc2.1
def Txt.dR:=T.cc2.2.1
def Txt.U2:=T.cc2.2.2.1
def Txt.Kg:=T.cc2.2.2.2.1
def Txt.Wi:=T.cc2.2.2.2.2.1
def Txt.dS:=T.cc2.2.2.2.2.2.1
def Txt.dU:=T.cc2.2.2.2.2.2.2.1
def Txt.oF:=T.cc2.2.2.2.2.2.2.2
def Txt.cc3:GN K mg a:=T.2.2.2.1
def Txt.oG:=T.cc3.1
def Txt.Wj:=T.cc3.2.1
def Txt.Bt:=T.cc3.2.2.1
def Txt.yE:=T.cc3.2.2.2.1
def Txt.QS:=T.cc3.2.2.2.2.1
def Txt.wb:=T.cc3.2.2.2.2.2.1
def Txt.tT:=T.cc3.2.2.2.2.2.2.1
def Txt.dW:=T.cc3.2.2.2.2.2.2.2
def Txt.cc4:GO K mg a:=T.2.2.2.2.1
def Txt.ZX:=T.cc4.1
def Txt.Kh:=T.cc4.2.1
def Txt.Bu:=T.cc4.2.2.1
def Txt.Js:=T.cc4.2.2.2.1
def Txt.yc:=T.cc4.2.2.2.2.1
def Txt.yV:=T.cc4.2.2.2.2.2.1
def Txt.yK:=T.cc4.2.2.2.2.2.2.1
def Txt.jR:=T.cc4.2.2.2.2.2.2.2
def Txt.cc5:GP K mg a:=T.2.2.2.2.2.1
def Txt.YJ:=T.cc5.1
def Txt.qV:=T.cc5.2.1
def Txt.Xg:=T.cc5.2.2.1
def Txt.Xh:=T.cc5.2.2.2.1
def Txt.qz:=T.cc5.2.2.2.2.1
def Txt.Xi:=T.cc5.2.2.2.2.2.1
def Txt.YX:=T.cc5.2.2.2.2.2.2.1
def Txt.je:=T.cc5.2.2.2.2.2.2.2
def Txt.cc6:GQ K mg a:=T.2.2.2.2.2.2.1
def Txt.bM:=T.cc6.1
def Txt.bN:=T.cc6.2.1
def Txt.yk:=T.cc6.2.2.1
def Txt.jf:=T.cc6.2.2.2.1
def Txt.Xj:=T.cc6.2.2.2.2.1
def Txt.Xk:=T.cc6.2.2.2.2.2.1
def Txt.ym:=T.cc6.2.2.2.2.2.2.1
def Txt.Ve:=T.cc6.2.2.2.2.2.2.2
def Txt.cc7:GR K mg a:=T.2.2.2.2.2.2.2.1
def Txt.Vf:=T.cc7.1
def Txt.z9:=T.cc7.2.1
def Txt.k7:=T.cc7.2.2.1
def Txt.yP:=T.cc7.2.2.2.1
def Txt.bO:=T.cc7.2.2.2.2.1
def Txt.bP:=T.cc7.2.2.2.2.2.1
def Txt.U3:=T.cc7.2.2.2.2.2.2.1
def Txt.U4:=T.cc7.2.2.2.2.2.2.2
def Txt.cc8:GS K mg a:=T.2.2.2.2.2.2.2.2.1
def Txt.U5:=T.cc8.1
def Txt.U6:=T.cc8.2.1
def Txt.U7:=T.cc8.2.2.1
def Txt.U8:=T.cc8.2.2.2.1
def Txt.bQ:=T.cc8.2.2.2.2.1
def Txt.KH:=T.cc8.2.2.2.2.2.1
def Txt.Xl:=T.cc8.2.2.2.2.2.2.1
def Txt.vH:=T.cc8.2.2.2.2.2.2.2
def Txt.cc9:GU K mg a:=T.2.2.2.2.2.2.2.2.2.1
def Txt.tU:=T.cc9.1
def Txt.VB:=T.cc9.2.1
def Txt.yx:=T.cc9.2.2.1
def Txt.Ki:=T.cc9.2.2.2.1
def Txt.y8:=T.cc9.2.2.2.2.1
def Txt.Wk:=T.cc9.2.2.2.2.2.1
def Txt.Wl:=T.cc9.2.2.2.2.2.2.1
def Txt.bR:=T.cc9.2.2.2.2.2.2.2
def Txt.xE:Eb K mg a:=T.2.2.2.2.2.2.2.2.2.2.1
def Txt.bS:=T.xE.1
def Txt.Xm:=T.xE.2.1
def Txt.Xn:=T.xE.2.2.1
def Txt.k8:=T.xE.2.2.2.1
def Txt.yN:=T.xE.2.2.2.2.1
def Txt.bT:=T.xE.2.2.2.2.2.1
def Txt.bU:=T.xE.2.2.2.2.2.2.1
def Txt.Wm:=T.xE.2.2.2.2.2.2.2
def Txt.xF:Ec K mg a:=T.2.2.2.2.2.2.2.2.2.2.2.1
def Txt.Wn:=T.xF.1
def Txt.wM:=T.xF.2.1
def Txt.wN:=T.xF.2.2.1
def Txt.k9:=T.xF.2.2.2.1
def Txt.jL:=T.xF.2.2.2.2.1
def Txt.dX:=T.xF.2.2.2.2.2.1
def Txt.dY:=T.xF.2.2.2.2.2.2.1
def Txt.k_:=T.xF.2.2.2.2.2.2.2
def Txt.xG:Ed K mg a:=T.2.2.2.2.2.2.2.2.2.2.2.2.1
def Txt.oH:=T.xG.1
def Txt.Wo:=T.xG.2.1
def Txt.bV:=T.xG.2.2.1
def Txt.Wq:=T.xG.2.2.2.1
def Txt.Wr:=T.xG.2.2.2.2.1
def Txt.dZ:=T.xG.2.2.2.2.2.1
def Txt.Jt:=T.xG.2.2.2.2.2.2.1
def Txt.bW:=T.xG.2.2.2.2.2.2.2
def Txt.xH:Ee K mg a:=T.2.2.2.2.2.2.2.2.2.2.2.2.2.1
def Txt.oI:=T.xH.1
def Txt.Ws:=T.xH.2.1
def Txt.oJ:=T.xH.2.2.1
def Txt.Bv:=T.xH.2.2.2.1
def Txt.U9:=T.xH.2.2.2.2.1
def Txt.bX:=T.xH.2.2.2.2.2.1
def Txt.oK:=T.xH.2.2.2.2.2.2.1
def Txt.Wt:=T.xH.2.2.2.2.2.2.2
def Txt.xI:Ef K mg a:=T.2.2.2.2.2.2.2.2.2.2.2.2.2.2.1
def Txt.d0:=T.xI.1
def Txt.Bw:=T.xI.2.1
def Txt.Wu:=T.xI.2.2.1
def Txt.U_:=T.xI.2.2.2.1
def Txt.gm:=T.xI.2.2.2.2.1
def Txt.tV:=T.xI.2.2.2.2.2.1
def Txt.Xo:=T.xI.2.2.2.2.2.2.1
def Txt.X3:=T.xI.2.2.2.2.2.2.2
def Txt.xJ:Eg K mg a:=T.2.2.2.2.2.2.2.2.2.2.2.2.2.2.2.1
def Txt.iP:=T.xJ.1
def Txt.Vg:=T.xJ.2.1
def Txt.bY:=T.xJ.2.2.1
def Txt.oM:=T.xJ.2.2.2.1
def Txt.Wv:=T.xJ.2.2.2.2.1
def Txt.qj:=T.xJ.2.2.2.2.2.1
def Txt.yO:=T.xJ.2.2.2.2.2.2.1
def Txt.YY:=T.xJ.2.2.2.2.2.2.2
def Txt.xK:Eh K mg a:=T.2.2.2.2.2.2.2.2.2.2.2.2.2.2.2.2.1
def Txt.YZ:=T.xK.1
def Txt.Xp:=T.xK.2.1
def Txt.Ju:=T.xK.2.2.1
def Txt.tW:=T.xK.2.2.2.1
def Txt.yn:=T.xK.2.2.2.2.1
def Txt.qk:=T.xK.2.2.2.2.2.1
def Txt.yW:=T.xK.2.2.2.2.2.2.1
def Txt.Jv:=T.xK.2.2.2.2.2.2.2
def Txt.xM:Ei K mg a:=T.2.2.2.2.2.2.2.2.2.2.2.2.2.2.2.2.2.1
def Txt.Vh:=T.xM.1
def Txt.j6:=T.xM.2.1
def Txt.Xq:=T.xM.2.2.1
def Txt.bZ:=T.xM.2.2.2.1
def Txt.tX:=T.xM.2.2.2.2.1
def Txt.ZY:=T.xM.2.2.2.2.2.1
def Txt.QT:=T.xM.2.2.2.2.2.2.1
def Txt.Kj:=T.xM.2.2.2.2.2.2.2
def Txt.Gb:Ej K mg a:=T.2.2.2.2.2.2.2.2.2.2.2.2.2.2.2.2.2.2
def Txt.QU:=T.Gb.1
def Txt.vc:=T.Gb.2.1
def Txt.vd:=T.Gb.2.2
end
def cls(a:Adr):Nat->Addr
 |1=>a.ko
 |2=>a.qy
 |3=>a.kr
 |4=>a.QW
 |5=>a.ky
 |6=>a.wR
 |7=>a.wU
 |8=>a.qZ
 |9=>a.kA
 |10=>a.wV
 |11=>a.kB
 |_=>0
abbrev WW(K:Ir)(a:Adr):RC:=⟨K,cls a⟩
abbrev wO:MS:=
  (zQ (sIf (zX (mOp pLt (zc 1) (zk W6 (zb (zc 0) zq)))) (ja (mOp pIx (zc 0) (zc 1))) z5)
  (ja (mC (.i 0))))
def zD:List PV->Out PV:=wA false 2 wO
abbrev Zc:MG:=
  (gTp 3 (jG (gNm 4) (jG (gNm 5) (jG (gNm 6) iz))))
abbrev ql:MS:=
  (sIf (zX (mOp (pIn false) (zc 4) (zc 2))) (zQ (yr 7 (mOp zZ (mOp pIx (zc 2) (zc 4)) (zc 6)))
  (sIf (mOr (zX (mOp (pIn true) (zc 5) (zc 2))) (zX (mOp pLt (zc 7) (mOp pIx (zc 2) (zc 5))))) (zQ (AL 2 (zc 5) (zc 7))
  (yr 3 (mC (.b true)))) z5)) z5)
abbrev qo:MT:=
  (zX (zc 3))
abbrev yh:MS:=
  (zQ (yr 3 (mC (.b false)))
  (Kx (yj (zc 1)) Zc ql))
abbrev Y0:MS:=
  (zQ (yr 2 (mD1 (zc 0) (mC (.i 0))))
  (zQ (yr 3 (mC (.b true)))
  (zQ (VX qo yh)
  (ja (zc 2)))))
def yd:List PV->Out PV:=wA true 8 Y0
abbrev Jw:MS:=
  (ja (zk Za (zb (Q_ [10] "order" (zc 0)) zq)))
def z0:List PV->Out PV:=wA true 1 Jw
abbrev Jx:MS:=
  (ja (zk Za (zb (Q_ [11] "places" (zc 0)) zq)))
def yo:List PV->Out PV:=wA true 1 Jx
abbrev j7:MG:=
  (gNm 3)
abbrev j8:MS:=
  (bC 2 (zb (zc 3) (zb (zc 3) zq)) (mC (.i 0)))
abbrev j9:MG:=
  (gTp 3 (jG (gNm 4) (jG (gNm 5) (jG (gNm 6) iz))))
abbrev j_:MS:=
  (bC 2 (zb (zc 4) (zb (zc 5) zq)) (zk Uz (zb (zc 6) (zb (iJ (zc 2) (zb (zc 4) (zb (zc 5) zq)) (zc 6)) zq))))
abbrev kc:MG:=
  (gNm 5)
abbrev qJ:MS:=
  (sIf (XR (zX (nW false (zb (zc 4) (zb (zc 7) zq)) (zc 2))) (zX (nW false (zb (zc 7) (zb (zc 5) zq)) (zc 2)))) (zQ (yr 8 (mOp zZ (rj (zc 2) (zb (zc 4) (zb (zc 7) zq))) (rj (zc 2) (zb (zc 7) (zb (zc 5) zq)))))
  (bC 2 (zb (zc 4) (zb (zc 5) zq)) (zk Uz (zb (zc 8) (zb (iJ (zc 2) (zb (zc 4) (zb (zc 5) zq)) (zc 8)) zq))))) z5)
abbrev ke:MG:=
  (gNm 4)
abbrev kf:MS:=
  (Kx (yj (zc 0)) kc qJ)
abbrev kg:MG:=
  (gNm 7)
abbrev kh:MS:=
  (Kx (yj (zc 0)) ke kf)
abbrev Jy:MS:=
  (zQ (yr 2 xp)
  (zQ (Kx (yj (zc 0)) j7 j8)
  (zQ (Kx (yj (zc 1)) j9 j_)
  (zQ (Kx (yj (zc 0)) kg kh)
  (ja (zc 2))))))
def y9:List PV->Out PV:=wA true 9 Jy
abbrev Zd:MS:=
  (ja (sx (zb (mOp pIx (zc 0) (mC (.i 3))) (zb (mOp pIx (zc 0) (mC (.i 4))) (zb (mOp pIx (zc 0) (mC (.i 0))) zq)))))
def zt:List PV->Out PV:=wA false 1 Zd
abbrev Ww:MS:=
  (ja (mP (mUn (AF [(.int,true),(.bool,true)]) (zc 0)) (Dh (mUn (AF [(.bool,true),(.int,false)]) (zc 0)))))
def ki:List PV->Out PV:=wA false 1 Ww
abbrev ZZ:MG:=
  (gNm 0)
abbrev Z0:MT:=
  (XR (zX (mOp (Zx false) (mOp pIx (zc 0) (mC (.i 0))) (mOp pIx (zc 1) (zc 2)))) (zX (mOp (Zx false) (mOp pIx (zc 0) (mC (.i 1))) (mOp pIx (zc 1) (mOp zZ (zc 2) (mC (.i 1)))))))
abbrev Z1:ME:=
  (mOp pIx (zc 0) (mC (.i 2)))
abbrev Y1:MG:=
  (gNm 5)
abbrev Y2:MS:=
  (zQ (yr 6 (mLC (yj (zc 3)) [none,some 0,some 5] ZZ Z0 Z1))
  (zQ (sIf (zX (mOp (Zx false) (zc 6) (fC zq))) (ja (mC .n)) z5)
  (yr 4 (mOp zZ (zc 4) (zk tR (zb (zc 6) zq))))))
abbrev KI:MS:=
  (zQ (sIf (mOr (p7 (zX (mUn (AF [(.list,true)]) (zc 0)))) (mOr (zX (mOp (Zx false) (zc 0) (fC zq))) (mOr (zX (mOp (Zx true) (mOp pIx (zc 0) (mC (.i 0))) (zc 1))) (zX (mOp (Zx true) (mOp pIx (zc 0) (mUn ER (mC (.i 1)))) (zc 2)))))) (ja (mC .n)) z5)
  (zQ (yr 4 (mC (.i 0)))
  (zQ (Kx (Jc (zb (mOp lg (zk W6 (zb (zc 0) zq)) (mC (.i 1))) zq)) Y1 Y2)
  (ja (zc 4)))))
def qA:List PV->Out PV:=wA false 7 KI
abbrev yy:MG:=
  (gTp 3 (jG (gNm 3) (jG (gNm 4) (jG (gNm 5) iz))))
abbrev zN:MS:=
  (sIf (XR (zX (mOp (Zx false) (zc 4) (zc 0))) (XR (zX (mOp (pIn false) (zc 3) (zc 1))) (zX (mOp (Zx false) (mOp zZ (mOp pIx (zc 1) (zc 3)) (zc 5)) (mOp pIx (zc 1) (zc 0)))))) (ja (zc 3)) z5)
abbrev Jz:MS:=
  (Kx (yj (zc 2)) yy zN)
def y_:List PV->Out PV:=wA false 6 Jz
abbrev b4:MS:=
  (ja (mOp zU (mOp YO (mOp zU (zk zD (zb (zc 0) (zb (zc 1) zq))) (mC (.i 1000000007))) (mC (.i 48271))) (zc 2)))
def zO:List PV->Out PV:=wA false 3 b4
abbrev X4:MS:=
  (zQ (yr 6 (zk zD (zb (zc 0) (zb (zc 1) zq))))
  (zQ (yr 7 (zk zD (zb (zc 0) (zb (mOp zZ (zc 1) (mC (.i 1))) zq))))
  (zQ (yr 8 (zk zD (zb (zc 0) (zb (mOp zZ (zc 1) (mC (.i 2))) zq))))
  (zQ (yr 9 (mOp pIx (zc 3) (mOp zU (zc 6) (zk W6 (zb (zc 3) zq)))))
  (zQ (yr 10 (mOp pIx (zc 3) (mOp zU (mOp ZF (zc 6) (mC (.i 5))) (zk W6 (zb (zc 3) zq)))))
  (zQ (sIf (zX (nW true (zb (zc 9) (zb (zc 10) zq)) (zc 4))) (yr 10 (zc 9)) z5)
  (zQ (yr 11 (mOp pIx (fC (zb (mC (.i 0)) (zb (mOp zU (zc 8) (mC (.i 60))) (zb (mOp zU (zc 7) (mC (.i 7))) (zb (mOp zU (zc 8) (mOp de (mC (.i 10)) (mC (.i 8)))) zq))))) (mOp zU (mOp ZF (zc 6) (mC (.i 25))) (mC (.i 4)))))
  (zQ (yr 12 (zk B6 (zb (mC (.i 1)) (zb (mOp zZ (rj (zc 4) (zb (zc 9) (zb (zc 10) zq))) (zc 11)) zq))))
  (zQ (yr 13 (mOp pIx (fC (zb (mOp zU (zc 7) (mC (.i 1440))) (zb (mOp zU (zc 7) (mC (.i 200))) (zb (mOp zU (zc 7) (mOp de (mC (.i 10)) (mC (.i 9)))) zq)))) (mOp zU (mOp ZF (zc 6) (mC (.i 100))) (mC (.i 3)))))
  (zQ (sIf (XR (zX (mOp (Zx false) (mOp zU (mOp ZF (zc 6) (mC (.i 300))) (mC (.i 2))) (mC (.i 1)))) (XR (zX (mOp (lh true) (zc 5) (mC .n))) (zX (nW false (zb (mOp pIx (zc 5) (mC (.i 2))) (zb (zc 9) zq)) (zc 4))))) (yr 13 (mOp lg (mOp zZ (mOp zZ (mOp pIx (zc 5) (mC (.i 4))) (rj (zc 4) (zb (mOp pIx (zc 5) (mC (.i 2))) (zb (zc 9) zq)))) (mOp zU (zc 7) (mC (.i 3)))) (mC (.i 1)))) z5)
  (zQ (yr 13 (zk Uz (zb (zc 13) (zb (mOp lg (mOp de (mC (.i 10)) (mC (.i 9))) (zc 12)) zq))))
  (ja (sx (zb (zc 2) (zb (zc 9) (zb (zc 10) (zb (zc 13) (zb (mOp zZ (zc 13) (zc 12)) (zb (mOp zU (mOp ZF (zc 8) (mC (.i 7))) (mOp zZ (mOp de (mC (.i 10)) (mC (.i 9))) (mC (.i 1)))) zq)))))))))))))))))))
def qW:List PV->Out PV:=wA false 14 X4
abbrev Y3:MG:=
  (gNm 0)
abbrev Y4:MT:=
  nj
abbrev Y5:ME:=
  (zk ki (zb (zc 0) zq))
abbrev JA:MG:=
  (gTp 3 (jG (gNm 3) (jG (gNm 4) (jG (gNm 5) iz))))
abbrev jM:MS:=
  (sIf (zX (mOp (pIn false) (zc 3) (zc 0))) (sIf (mOr (zX (mOp (pIn true) (zc 4) (zc 0))) (zX (mOp pGt (mOp pIx (zc 0) (zc 4)) (mOp zZ (mOp pIx (zc 0) (zc 3)) (zc 5))))) (ja (mC (.b false))) z5) z5)
abbrev Wx:MS:=
  (zQ (sIf (mOr (p7 (zX (mUn (AF [(.dict,true)]) (zc 0)))) (zX (mOp (Zx true) (B9 (zc 0) (zc 1)) (mC (.i 0))))) (ja (mC (.b false))) z5)
  (zQ (sIf (p7 (zX (zk Az (zb (mLC (Va 0) [none] Y3 Y4 Y5) zq)))) (ja (mC (.b false))) z5)
  (zQ (Kx (yj (zc 2)) JA jM)
  (ja (mC (.b true))))))
def qX:List PV->Out PV:=wA false 6 Wx
abbrev Y6:MG:=
  (gNm 0)
abbrev Y7:MT:=
  nj
abbrev Y8:ME:=
  (mOp zU (mOp zU (mOp zZ (mOp YO (zc 1) (mC (.i 16807))) (mOp YO (mOp YO (mC (.i 7919)) (zc 0)) (zc 0))) (mC (.i 65521))) (mC (.i 36)))
abbrev vI:MG:=
  (gNm 0)
abbrev vJ:MT:=
  nj
abbrev vL:ME:=
  (mOp pIx (zc 1) (zc 0))
abbrev JB:MG:=
  (gNm 8)
abbrev wQ:MS:=
  (zQ (yr 9 (mOp sQ (zk Za (zb (mSl pSl (zc 5) lj (Ja (mOp zZ (mC (.i 1)) (mOp zU (zc 4) (mC (.i 11)))))) zq)) (mOp YO (mSl pSl (zc 5) (Ja (mC (.i 11))) lj) (mOp zU (zc 8) (mC (.i 2))))))
  (zQ (yr 10 (mOp zU (mOp ZF (zc 6) (mC (.i 4))) (zk W6 (zb (zc 9) zq))))
  (zQ (m8 9 (zc 10) (mOp zU (mOp zZ (mOp pIx (zc 9) (zc 10)) (zc 8)) (mC (.i 36))))
  (zQ (sIf (XR (zX (mOp (Zx false) (mOp zU (zc 6) (mC (.i 4))) (mC (.i 1)))) (zX (mOp pLe (zc 2) (mC (.i 12))))) (yr 9 (mSl AG (zc 5) lj (Ja (mOp zZ (mC (.i 1)) (zc 8))))) z5)
  (zQ (sIf (XR (zX (mOp (Zx false) (mOp zU (zc 6) (mC (.i 4))) (mC (.i 2)))) (zX (mOp pLe (zc 2) (mC (.i 12))))) (yr 9 (mSl AG (zc 5) lj (Ja (mOp lg (zc 2) (zc 8))))) z5)
  (m7 7 (F3 bB (mC (.s "")) (mLC (yj (zc 9)) [none,some 3] vI vJ vL))))))))
abbrev Wz:MS:=
  (zQ (yr 3 (mC (.s "abcdefghijklmnopqrstuvwxyz0123456789")))
  (zQ (yr 4 (mOp zU (zk zD (zb (zc 0) (zb (zc 1) zq))) (mC (.i 1000000007))))
  (zQ (yr 5 (mLC (Jc (zb (mC (.i 12)) zq)) [none,some 4] Y6 Y7 Y8))
  (zQ (yr 6 (zk zO (zb (zc 0) (zb (mOp zZ (zc 1) (mC (.i 1))) (zb (mC (.i 65537)) zq)))))
  (zQ (yr 7 (fC zq))
  (zQ (Kx (Jc (zb (zc 2) zq)) JB wQ)
  (ja (zc 7))))))))
def qx:List PV->Out PV:=wA true 11 Wz
abbrev ve:MG:=
  (gNm 6)
abbrev vf:MS:=
  (m7 5 (sx (zb (mOp pIx (zc 2) (zc 6)) (zb (mOp pIx (zc 2) (mOp zU (mOp zZ (zc 6) (mC (.i 1))) (zc 3))) (zb (mOp zZ (mC (.i 1)) (mOp zU (zk zO (zb (zc 0) (zb (mOp zZ (zc 1) (zc 6)) (zb (mC (.i 65497)) zq)))) (zc 4))) zq)))))
abbrev KJ:MG:=
  (gNm 6)
abbrev KN:MS:=
  (zQ (yr 7 (zk zD (zb (zc 0) (zb (mOp zZ (zc 1) (zc 6)) zq))))
  (m7 5 (sx (zb (mOp pIx (zc 2) (mOp zU (zc 7) (zc 3))) (zb (mOp pIx (zc 2) (mOp zU (mOp ZF (zc 7) (zc 3)) (zc 3))) (zb (mOp zZ (mC (.i 1)) (mOp zU (mOp ZF (zc 7) (mC (.i 25))) (zc 4))) zq))))))
abbrev X5:MS:=
  (zQ (yr 3 (zk W6 (zb (zc 2) zq)))
  (zQ (yr 4 (mOp pIx (fC (zb (mC (.i 60)) (zb (mC (.i 60)) (zb (mC (.i 3)) (zb (mOp YO (mC (.i 2)) (mOp de (mC (.i 10)) (mC (.i 8)))) zq))))) (mOp zU (zk zO (zb (zc 0) (zb (zc 1) (zb (mC (.i 65521)) zq)))) (mC (.i 4)))))
  (zQ (yr 5 (fC zq))
  (zQ (sIf (zX (mOp pGt (mOp zU (zk zO (zb (zc 0) (zb (mOp zZ (zc 1) (mC (.i 1))) (zb (mC (.i 65519)) zq)))) (mC (.i 3))) (mC (.i 0)))) (Kx (Jc (zb (zc 3) zq)) ve vf) z5)
  (zQ (Kx (Jc (zb (mOp zU (zk zO (zb (zc 0) (zb (mOp zZ (zc 1) (mC (.i 2))) (zb (mC (.i 65479)) zq)))) (mC (.i 9))) zq)) KJ KN)
  (ja (zc 5)))))))
def jS:List PV->Out PV:=wA true 8 X5
abbrev JC:MG:=
  (gNm 6)
abbrev JD:MS:=
  (zQ (yr 7 (mC .n))
  (zQ (sIf (zX (mOp pGt (zc 6) (mC (.i 0)))) (yr 7 (mOp pIx (zc 5) (mOp zU (zk zO (zb (zc 0) (zb (mOp zZ (mOp zZ (zc 1) (mOp YO (mC (.i 3)) (zc 6))) (mC (.i 1))) (zb (mC (.i 65479)) zq)))) (zc 6)))) z5)
  (m7 5 (zk qW (zb (zc 0) (zb (mOp zZ (zc 1) (mOp YO (mC (.i 3)) (zc 6))) (zb (mOp pIx (zc 2) (zc 6)) (zb (zc 3) (zb (zc 4) (zb (zc 7) zq))))))))))
abbrev WA:MS:=
  (zQ (yr 5 (fC zq))
  (zQ (Kx (Jc (zb (zk W6 (zb (zc 2) zq)) zq)) JC JD)
  (ja (zc 5))))
def qY:List PV->Out PV:=wA true 8 WA
abbrev KO:MS:=
  (sIf (zX (mOp pGt (zk W6 (zb (zc 0) zq)) (zc 1))) (w_ 3 ["most"] (zb (zc 1) zq)) z5)
def yq:List PV->Out PV:=wA false 2 KO
abbrev Ze:MG:=
  (gNm 1)
abbrev qp:MS:=
  (sIf (zX (mOp (pIn true) (zc 1) (mC (.s "abcdefghijklmnopqrstuvwxyz0123456789")))) (w_ 1 ["name"] (zb (zc 0) zq)) z5)
abbrev Y9:MS:=
  (zQ (sIf (mOr (zX (mOp pLt (zk W6 (zb (zc 0) zq)) (mC (.i 1)))) (zX (mOp pGt (zk W6 (zb (zc 0) zq)) (mC (.i 12))))) (w_ 1 ["name"] (zb (zc 0) zq)) z5)
  (zQ (Kx (bA (zc 0)) Ze qp)
  (ja (zc 0))))
def yQ:List PV->Out PV:=wA false 2 Y9
abbrev JE:MS:=
  (sIf (zX (mOp (pIn true) (zc 0) (zc 1))) (w_ 5 ["name"] (zb (zc 0) zq)) z5)
def z1:List PV->Out PV:=wA false 2 JE
abbrev Zf:MS:=
  (zQ (sIf (mOr (zX (mOp pLt (zc 0) (zc 1))) (zX (mOp pGt (zc 0) (mC (.i 1000000000))))) (w_ 2 ["value"] (zb (zc 0) zq)) z5)
  (ja (zc 0)))
def zC:List PV->Out PV:=wA false 2 Zf
abbrev KP:MS:=
  (zQ (sIf (zX (mOp (pIn true) (zc 1) (Q_ [10] "by_name" (zc 0)))) (w_ 7 ["name"] (zb (zc 1) zq)) z5)
  (ja (mOp pIx (Q_ [10] "by_name" (zc 0)) (zc 1))))
def zS:List PV->Out PV:=wA false 2 KP
abbrev vg:MS:=
  (zQ (v8 (zk yQ (zb (zc 0) zq)))
  (zQ (sIf (zX (mOp (pIn false) (zc 0) (zc 1))) (w_ 4 ["name"] (zb (zc 0) zq)) z5)
  (ja (zc 0))))
def zF:List PV->Out PV:=wA false 2 vg
abbrev Y_:MG:=
  (gTp 3 (jG (gNm 2) (jG (gNm 3) (jG (gNm 4) iz))))
abbrev jg:MS:=
  (zQ (v8 (zk z1 (zb (zc 2) (zb (zc 0) zq))))
  (zQ (v8 (zk z1 (zb (zc 3) (zb (zc 0) zq))))
  (v8 (zk zC (zb (zc 4) (zb (mC (.i 1)) zq))))))
abbrev KQ:MS:=
  (Kx (yj (zc 1)) Y_ jg)
def qB:List PV->Out PV:=wA false 5 KQ
abbrev Qa:MS:=
  (zQ (v8 (zk z1 (zb (zc 1) (zb (Q_ [11] "places" (zc 0)) zq))))
  (zQ (v8 (zk z1 (zb (zc 2) (zb (Q_ [11] "places" (zc 0)) zq))))
  (ja (B9 (mOp pIx (Q_ [11] "lengths" (zc 0)) (zc 1)) (zc 2)))))
def zw:List PV->Out PV:=wA false 3 Qa
abbrev Z2:MS:=
  (zQ (v8 (zk z1 (zb (zc 1) (zb (Q_ [11] "places" (zc 0)) zq))))
  (ja (zk Kz (zb (mOp pIx (Q_ [11] "lengths" (zc 0)) (zc 1)) zq))))
def zI:List PV->Out PV:=wA true 2 Z2
abbrev Zg:MG:=
  (gNm 2)
abbrev qr:MS:=
  (zQ (v8 (zk zF (zb (zc 2) (zb (zc 1) zq))))
  (AL 1 (zc 2) (mC (.b true))))
abbrev Qb:MS:=
  (zQ (yr 1 sR)
  (Kx (yj (zc 0)) Zg qr))
def yR:List PV->Out PV:=wA false 3 Qb
abbrev Ek:MS:=
  (zQ (yr 3 (kO [(10,zS)] "trip" (zc 0) (zb (zc 1) zq)))
  (zQ (yr 4 (kO [(10,zS)] "trip" (zc 0) (zb (zc 2) zq)))
  (zQ (yr 5 (kO [(11,zw)] "length" (Q_ [10] "roads" (zc 0)) (zb (mOp pIx (zc 3) (mC (.i 2))) (zb (mOp pIx (zc 4) (mC (.i 1))) zq))))
  (zQ (sIf (zX (mOp (lh false) (zc 5) (mC .n))) (ja (mC .n)) z5)
  (ja (mOp lg (mOp lg (mOp pIx (zc 4) (mC (.i 3))) (mOp pIx (zc 3) (mC (.i 4)))) (zc 5)))))))
def iQ:List PV->Out PV:=wA false 6 Ek
abbrev KR:MS:=
  (zQ (v8 (zk zF (zb (mOp pIx (zc 1) (mC (.i 0))) (zb (zc 2) zq))))
  (zQ (yr 3 (kO [(11,zw)] "length" (zc 0) (zb (mOp pIx (zc 1) (mC (.i 1))) (zb (mOp pIx (zc 1) (mC (.i 2))) zq))))
  (zQ (v8 (zk zC (zb (mOp pIx (zc 1) (mC (.i 3))) (zb (mC (.i 0)) zq))))
  (zQ (v8 (zk zC (zb (mOp pIx (zc 1) (mC (.i 4))) (zb (mC (.i 0)) zq))))
  (zQ (v8 (zk zC (zb (mOp pIx (zc 1) (mC (.i 5))) (zb (mC (.i 0)) zq))))
  (zQ (sIf (zX (mOp pLe (mOp pIx (zc 1) (mC (.i 4))) (mOp pIx (zc 1) (mC (.i 3))))) (w_ 8 ["name"] (zb (mOp pIx (zc 1) (mC (.i 0))) zq)) z5)
  (zQ (sIf (zX (mOp (lh false) (zc 3) (mC .n))) (w_ 6 ["origin","goal"] (zb (mOp pIx (zc 1) (mC (.i 1))) (zb (mOp pIx (zc 1) (mC (.i 2))) zq))) z5)
  (sIf (zX (mOp pLt (mOp lg (mOp pIx (zc 1) (mC (.i 4))) (mOp pIx (zc 1) (mC (.i 3)))) (zc 3))) (w_ 9 ["name"] (zb (mOp pIx (zc 1) (mC (.i 0))) zq)) z5))))))))
def yX:List PV->Out PV:=wA false 4 KR
abbrev jN:MT:=
  (zX (mOp (Zx true) (mOp pIx (zc 3) (mUn ER (mC (.i 1)))) (zc 1)))
abbrev qK:MS:=
  (m7 3 (zk y_ (zb (mOp pIx (zc 3) (mUn ER (mC (.i 1)))) (zb (mOp pIx (Q_ [11] "lengths" (zc 0)) (zc 1)) (zb (Q_ [11] "ways" (zc 0)) zq)))))
abbrev WB:MS:=
  (zQ (sIf (zX (mOp (lh false) (kO [(11,zw)] "length" (zc 0) (zb (zc 1) (zb (zc 2) zq))) (mC .n))) (ja (mC .n)) z5)
  (zQ (yr 3 (fC (zb (zc 2) zq)))
  (zQ (VX jN qK)
  (ja (zk YE (zb (zc 3) zq))))))
def yY:List PV->Out PV:=wA false 4 WB
abbrev Z3:MG:=
  (gNm 0)
abbrev Z4:MT:=
  nj
abbrev Z5:ME:=
  (sx (zb (zc 0) (zb (zk yd (zb (zc 0) (zb (zc 1) zq))) zq)))
abbrev vh:MS:=
  (zQ (v8 (zk yq (zb (zc 1) (zb (mC (.i 12)) zq))))
  (zQ (v8 (zk yq (zb (zc 2) (zb (mC (.i 60)) zq))))
  (zQ (v8 (zk yR (zb (zc 1) zq)))
  (zQ (v8 (zk qB (zb (zc 1) (zb (zc 2) zq))))
  (zQ (dr 0 [11] "places" (zk Za (zb (zc 1) zq)))
  (zQ (dr 0 [11] "ways" (zk Za (zb (zc 2) zq)))
  (dr 0 [11] "lengths" (zk Kz (zb (mLC (yj (zc 1)) [none,some 2] Z3 Z4 Z5) zq)))))))))
def yZ:List PV->Out PV:=FN 11 2 vh
abbrev gp:MS:=
  (zQ (yr 3 (zk iQ (zb (zc 0) (zb (zc 1) (zb (zc 2) zq)))))
  (ja (mP (mOp (lh true) (zc 3) (mC .n)) (mOp pGe (zc 3) (mC (.i 0))))))
def YK:List PV->Out PV:=wA false 4 gp
abbrev qL:HMG:=
  (hgN 3)
abbrev yz:HMS:=
  (rh (iG (hP [true,true,false,true] (zk yX (zb (zc 1) (zb (zc 3) (zb (Q_ [10] "by_name" (zc 0)) zq))))))
  (DY (DV [10] "by_name" (fX 0)) (hP [false,false,false,true] (mOp pIx (zc 3) (mC (.i 0)))) (fX 3)))
abbrev kj:MG:=
  (gNm 0)
abbrev kl:MT:=
  nj
abbrev km:ME:=
  (mOp pIx (zc 0) (mC (.i 0)))
abbrev jO:HMS:=
  (rh (iG (hP [false,false,true] (zk yq (zb (zc 2) (zb (mC (.i 40)) zq)))))
  (rh (UP [10] "roads" (fX 0) (fX 1))
  (rh (UP [10] "by_name" (fX 0) (hF [] sR))
  (rh (Bc [false,false,true] (yj (zc 2)) qL yz)
  (UP [10] "order" (fX 0) (hP [false,false,true] (mLC (yj (f7 zt (zb (zc 2) zq))) [none] kj kl km)))))))
def qa:List HV->AH->HX HV:=FZ 4 jO
abbrev Z6:MG:=
  (gNm 0)
abbrev Z7:MT:=
  nj
abbrev Z8:ME:=
  (mOp (pIn false) (zc 0) (zc 1))
abbrev KS:MS:=
  (zQ (yr 5 (mOp pIx (zc 2) (mOp pIx (zc 0) (mC (.i 0)))))
  (zQ (sIf (mOr (zX (mOp (Zx false) (mOp pIx (zc 0) (mC (.i 0))) (mOp pIx (zc 1) (mC (.i 0))))) (mOr (zX (mOp (pIn false) (mOp pIx (zc 0) (mC (.i 0))) (mOp pIx (zc 2) (mOp pIx (zc 1) (mC (.i 0)))))) (zX (mOp pGe (mOp pIx (zc 0) (mC (.i 3))) (mOp pIx (zc 1) (mC (.i 3))))))) (ja (mC (.b false))) z5)
  (zQ (yr 6 (zk qA (zb (kO [(11,yY)] "way" (zc 3) (zb (mOp pIx (zc 0) (mC (.i 2))) (zb (mOp pIx (zc 1) (mC (.i 1))) zq))) (zb (mOp pIx (zc 0) (mC (.i 2))) (zb (mOp pIx (zc 1) (mC (.i 1))) (zb (zc 4) zq))))))
  (zQ (sIf (mOr (zX (mOp (lh false) (zc 6) (mC .n))) (zX (mOp pGt (mOp zZ (mOp pIx (zc 0) (mC (.i 4))) (zc 6)) (mOp pIx (zc 1) (mC (.i 3)))))) (ja (mC (.b false))) z5)
  (ja (zk Az (zb (mLC (yj (mOp pIx (zc 2) (mOp pIx (zc 1) (mC (.i 0))))) [none,some 5] Z6 Z7 Z8) zq)))))))
def qC:List PV->Out PV:=wA false 7 KS
abbrev JF:MG:=
  (gNm 0)
abbrev JG:MT:=
  (zX (zk YK (zb (zc 1) (zb (zc 2) (zb (zc 0) zq)))))
abbrev JH:ME:=
  (zc 0)
abbrev Z9:MS:=
  (ja (mLC (yj (zc 2)) [none,some 0,some 1] JF JG JH))
def yA:List PV->Out PV:=wA true 3 Z9
abbrev X6:MG:=
  (gNm 0)
abbrev iR:MT:=
  nj
abbrev X7:ME:=
  (sx (zb (zc 0) (zb (zk yA (zb (zc 1) (zb (zc 0) (zb (zc 2) zq)))) zq)))
abbrev oN:MS:=
  (zQ (yr 1 (kO [(10,z0),(11,yo)] "names" (zc 0) zq))
  (ja (zk Kz (zb (mLC (yj (zc 1)) [none,some 0,some 1] X6 iR X7) zq))))
def Kk:List PV->Out PV:=wA true 2 oN
abbrev gq:MG:=
  (gNm 0)
abbrev gr:MT:=
  nj
abbrev gu:ME:=
  (mUn (AF [(.list,true)]) (zc 0))
abbrev oO:MG:=
  (gNm 11)
abbrev d3:MS:=
  (sIf (zX (mOp (pIn false) (mOp pIx (zc 11) (mC (.i 0))) (zc 10))) (sIf (p7 (zX (zk qC (zb (zc 8) (zb (zc 11) (zb (zc 7) (zb (zc 6) (zb (zc 2) zq)))))))) (ja (mC (.b false))) z5) (sIf (XR (zX (mOp (pIn false) (mOp pIx (zc 11) (mC (.i 1))) (zc 9))) (zX (mOp pLe (mOp zZ (mOp pIx (zc 8) (mC (.i 4))) (mOp pIx (zc 9) (mOp pIx (zc 11) (mC (.i 1))))) (mOp pIx (zc 11) (mC (.i 3)))))) (ja (mC (.b false))) z5))
abbrev oP:MG:=
  (gNm 8)
abbrev d4:MS:=
  (zQ (yr 9 (kO [(11,zI)] "heights" (zc 6) (zb (mOp pIx (zc 8) (mC (.i 2))) zq)))
  (zQ (yr 10 (mOp pIx (zc 7) (mOp pIx (zc 8) (mC (.i 0)))))
  (zQ (sIf (mOr (p7 (zX (zk qX (zb (zc 9) (zb (mOp pIx (zc 8) (mC (.i 2))) (zb (zc 2) zq)))))) (zX (mOp (Zx true) (zk iM (zb (zc 10) zq)) (zk W6 (zb (zc 10) zq))))) (ja (mC (.b false))) z5)
  (Kx (yj (zc 5)) oO d3))))
abbrev El:MS:=
  (zQ (yr 1 (zk qx (zb (zc 0) (zb (mC (.i 0)) (zb (mOp zZ (mC (.i 2)) (mOp zU (zk zO (zb (zc 0) (zb (mC (.i 2)) (zb (mC (.i 65449)) zq)))) (mC (.i 4)))) zq)))))
  (zQ (yr 2 (zk jS (zb (zc 0) (zb (mC (.i 3)) (zb (zc 1) zq)))))
  (zQ (yr 3 (zk B6 (zb (mOp zZ (mC (.i 2)) (mOp zU (zk zO (zb (zc 0) (zb (mC (.i 11)) (zb (mC (.i 65521)) zq)))) (mC (.i 4)))) (zb (mOp ZF (mOp lg (zk Uz (zb (zk W6 (zb (zc 0) zq)) (zb (mC (.i 61)) zq))) (mC (.i 11))) (mC (.i 3))) zq))))
  (zQ (yr 4 (zk qx (zb (zc 0) (zb (mC (.i 11)) (zb (zc 3) zq)))))
  (zQ (yr 5 (zk qY (zb (zc 0) (zb (mC (.i 13)) (zb (zc 4) (zb (zc 1) (zb (zk y9 (zb (zc 1) (zb (zc 2) zq))) zq)))))))
  (zQ (yr 6 (zk yZ (zb (zk Za (zb (zc 1) zq)) (zb (zk Za (zb (zc 2) zq)) zq))))
  (zQ (yr 7 (zk Kk (zb (zk (mkV 10 qa) (zb (zc 6) (zb (zk Za (zb (zc 5) zq)) zq))) zq)))
  (zQ (sIf (mOr (p7 (zX (mUn (AF [(.dict,true)]) (zc 7)))) (zX (mOp (Zx true) (zk Jm (zb (zc 7) zq)) (zk Jm (zb (zc 4) zq))))) (ja (mC (.b false))) z5)
  (zQ (sIf (p7 (zX (zk Az (zb (mLC (Va 7) [none] gq gr gu) zq)))) (ja (mC (.b false))) z5)
  (zQ (Kx (yj (zc 5)) oP d4)
  (ja (mC (.b true)))))))))))))
def oQ:List PV->Out PV:=wA false 12 El
def qb(T:Txt K mg a):yU P w K mg base (CXe P w) 1 a.zD a.JK ["_law_script","_law_k"] (lsp (WW K a) false [true,true] zD):=
 zu (ms:=wO) (S':=[1,1]) (Sb:=[]) (Sc:=[]) T.yc.F Xb rfl rfl rfl (by decide) λcdv A outer s H E hr=>
  (zf (yS (yD lM mN (ev 1) (w8 rfl T.QS (za (ev 0) ze)) (yT _))
    (zj (z_ (ix hr (ev 0) (ev 1))))
    zY)
   (zj (z_ ei)))
def Xr(T:Txt K mg a):yU P w K mg base (CXe P w) 1 a.vN a.vR ["self","most"] (p9 a.kr ["most"]):=by
 refine T.Xg.okX Wb (λvs H Q E h=>by obtain⟨e,us,rfl,hl,_⟩:=h;rw[I0,hl];rfl) λcdv A outer s H vs Q E hr h=>?_;obtain⟨e,us,rfl,hl,he,k⟩:=h
 match us,hl with
 |[v],_=>exact⟨_,jT (vv (pv 0) (pv 1) rfl),_,rfl,_,rfl,e,a.kr,.none,rfl,T.bW,T.Ws,.inl ⟨he,k⟩⟩
def Qc(T:Txt K mg a):yU P w K mg base (CXe P w) 1 a.vO a.vS ["self","name"] (p9 a.ko ["name"]):=by
 refine T.Xi.okX Wc (λvs H Q E h=>by obtain⟨e,us,rfl,hl,_⟩:=h;rw[I0,hl];rfl) λcdv A outer s H vs Q E hr h=>?_;obtain⟨e,us,rfl,hl,he,k⟩:=h
 match us,hl with
 |[v],_=>exact⟨_,jT (vv (pv 0) (pv 1) rfl),_,rfl,_,rfl,e,a.ko,.none,rfl,T.Wo,T.Wq,.inl ⟨he,k⟩⟩
def b5(T:Txt K mg a):yU P w K mg base (CXe P w) 1 a.Yd a.Yg ["self","name"] (p9 a.QW ["name"]):=by
 refine T.bM.okX UY (λvs H Q E h=>by obtain⟨e,us,rfl,hl,_⟩:=h;rw[I0,hl];rfl) λcdv A outer s H vs Q E hr h=>?_;obtain⟨e,us,rfl,hl,he,k⟩:=h
 match us,hl with
 |[v],_=>exact⟨_,jT (vv (pv 0) (pv 1) rfl),_,rfl,_,rfl,e,a.QW,.none,rfl,T.oJ,T.U9,.inl ⟨he,k⟩⟩
def Xs(T:Txt K mg a):yU P w K mg base (CXe P w) 1 a.vP a.vT ["self","name"] (p9 a.ky ["name"]):=by
 refine T.Xj.okX Wd (λvs H Q E h=>by obtain⟨e,us,rfl,hl,_⟩:=h;rw[I0,hl];rfl) λcdv A outer s H vs Q E hr h=>?_;obtain⟨e,us,rfl,hl,he,k⟩:=h
 match us,hl with
 |[v],_=>exact⟨_,jT (vv (pv 0) (pv 1) rfl),_,rfl,_,rfl,e,a.ky,.none,rfl,T.bX,T.Wt,.inl ⟨he,k⟩⟩
def Vi(T:Txt K mg a):yU P w K mg base (CXe P w) 1 a.jx a.jA ["self","value"] (p9 a.qy ["value"]):=by
 refine T.Ve.okX Kc (λvs H Q E h=>by obtain⟨e,us,rfl,hl,_⟩:=h;rw[I0,hl];rfl) λcdv A outer s H vs Q E hr h=>?_;obtain⟨e,us,rfl,hl,he,k⟩:=h
 match us,hl with
 |[v],_=>exact⟨_,jT (vv (pv 0) (pv 1) rfl),_,rfl,_,rfl,e,a.qy,.none,rfl,T.Wr,T.Jt,.inl ⟨he,k⟩⟩
def Xt(T:Txt K mg a):yU P w K mg base (CXe P w) 1 a.yd a.Qg ["origin","ways"] (lsp (WW K a) true [true,true] yd):=
 zu (ms:=Y0) (S':=[1,1,0,0,0,0,0,0]) (Sb:=[]) (Sc:=[]) T.yP.F zM rfl rfl rfl (by decide) λcdv A outer s H E hr=>
  (zf (vx (i:=2) zM.nd rfl (.inl rfl) (F2 (ev 0) ei))
   (zf (se 3 zM.nd (YN YM))
   (zf (fQ (zx ⟨rfl,rfl⟩) (Q6 (ev 3))
    (zf (se 3 zM.nd (YN YM))
   (zj (qT (zx ⟨rfl,rfl⟩) rfl (v9 (YV (pv 1))) (bo (n:=3) rfl (qv (gn 4 zM.nd) (qv (gn 5 zM.nd) (qv (gn 6 zM.nd) bj jY) jY) jY))
    (zj (yS (dj (qi hr) (ev 4) (ev 2))
    (zf (se 7 zM.nd (zp zG zH (ix hr (ev 2) (ev 4)) (ev 6)))
   (zj (yS (TWM.tm (J6 (Q8 (qi hr) (ev 5) (ev 2)) (YT (yD lM mN (ev 7) (ix hr (ev 2) (ev 5)) (yT _)))))
    (zf (u7 (qi hr) (pv 2) (ev 5) (zo (pv 7)))
   (zj (se 3 zM.nd (YN YM))))
    zY)))
    zY))))))
   (zj (VT (pv 2))))))
def aa(T:Txt K mg a):yU P w K mg base (CXe P w) 1 a.z0 a.wX ["self"] (lsp (WW K a) true [true] z0):=
 zu (ms:=Jw) (S':=[1]) (Sb:=[]) (Sc:=[]) T.U3 Xd rfl rfl rfl (by decide) λcdv A outer s H E hr=>
  (zj (VS (kT rfl rfl T.wb (za (v7 (ev 0) (fa ⟨T.qj,T.YY⟩ fz)) ze))))
def ae(T:Txt K mg a):yU P w K mg base (CXe P w) 1 a.yo a.wY ["self"] (lsp (WW K a) true [true] yo):=
 zu (ms:=Jx) (S':=[1]) (Sb:=[]) (Sc:=[]) T.U5 Xe rfl rfl rfl (by decide) λcdv A outer s H E hr=>
  (zj (VS (kT rfl rfl T.wb (za (v7 (ev 0) (fa ⟨T.yn,T.yW⟩ fz)) ze))))
def af(T:Txt K mg a):yU P w K mg base (CXe P w) 1 a.wW a.wZ ["self","name"] (p9 a.wU ["name"]):=by
 refine T.U7.okX Xf (λvs H Q E h=>by obtain⟨e,us,rfl,hl,_⟩:=h;rw[I0,hl];rfl) λcdv A outer s H vs Q E hr h=>?_;obtain⟨e,us,rfl,hl,he,k⟩:=h
 match us,hl with
 |[v],_=>exact⟨_,jT (vv (pv 0) (pv 1) rfl),_,rfl,_,rfl,e,a.wU,.none,rfl,T.gm,T.Xo,.inl ⟨he,k⟩⟩
def ag(T:Txt K mg a):yU P w K mg base (CXe P w) 1 a.y9 a.JM ["_law_names_here","_law_ways_here"] (lsp (WW K a) true [true,true] y9):=
 zu (ms:=Jy) (S':=[1,1,0,0,0,0,0,0,0]) (Sb:=[]) (Sc:=[]) T.y8.F zL rfl rfl rfl (by decide) λcdv A outer s H E hr=>
  (zf (vx (i:=2) zL.nd rfl (.inl rfl) tq)
   (zf (qT (zx ⟨rfl,rfl⟩) rfl (v9 (YV (pv 0))) (gn 3 zL.nd)
    (zj (dF (qi hr) (pv 2) (za (zo (pv 3)) (za (zo (pv 3)) ze)) ei)))
   (zf (qT (zx ⟨rfl,rfl⟩) rfl (v9 (YV (pv 1))) (bo (n:=3) rfl (qv (gn 4 zL.nd) (qv (gn 5 zL.nd) (qv (gn 6 zL.nd) bj jY) jY) jY))
    (zj (dF (qi hr) (pv 2) (za (zo (pv 4)) (za (zo (pv 5)) ze)) (fJ rfl rfl T.dW (za (ev 6) (za (og (qi hr) (ev 2) (za (zo (pv 4)) (za (zo (pv 5)) ze)) (ev 6) ⟨rfl,rfl,rfl,rfl⟩) ze))))))
   (zf (qT (zx ⟨rfl,rfl⟩) rfl (v9 (YV (pv 0))) (gn 7 zL.nd)
    (zj (qT (zx ⟨rfl,rfl⟩) rfl (v9 (YV (pv 0))) (gn 4 zL.nd)
    (zj (qT (zx ⟨rfl,rfl⟩) rfl (v9 (YV (pv 0))) (gn 5 zL.nd)
    (zj (yS (TWM.tm (Q5 (nX (qi hr) (za (zo (pv 4)) (za (zo (pv 7)) ze)) (ev 2)) (QG (nX (qi hr) (za (zo (pv 7)) (za (zo (pv 5)) ze)) (ev 2)))))
    (zf (se 8 zL.nd (zp zG zH (fY (qi hr) (ev 2) (za (zo (pv 4)) (za (zo (pv 7)) ze))) (fY (qi hr) (ev 2) (za (zo (pv 7)) (za (zo (pv 5)) ze)))))
   (zj (dF (qi hr) (pv 2) (za (zo (pv 4)) (za (zo (pv 5)) ze)) (fJ rfl rfl T.dW (za (ev 8) (za (og (qi hr) (ev 2) (za (zo (pv 4)) (za (zo (pv 5)) ze)) (ev 8) ⟨rfl,rfl,rfl,rfl⟩) ze))))))
    zY)))))))
   (zj (VT (pv 2)))))))
def WC(T:Txt K mg a):yU P w K mg base (CXe P w) 1 a.kC a.kD ["self","name"] (p9 a.qZ ["name"]):=by
 refine T.Wk.okX Vc (λvs H Q E h=>by obtain⟨e,us,rfl,hl,_⟩:=h;rw[I0,hl];rfl) λcdv A outer s H vs Q E hr h=>?_;obtain⟨e,us,rfl,hl,he,k⟩:=h
 match us,hl with
 |[v],_=>exact⟨_,jT (vv (pv 0) (pv 1) rfl),_,rfl,_,rfl,e,a.qZ,.none,rfl,T.X3,T.Vg,.inl ⟨he,k⟩⟩
def b6(T:Txt K mg a):yU P w K mg base (CXe P w) 1 a.Ye a.Yk ["self","origin","goal"] (p9 a.wR ["origin","goal"]):=by
 refine T.bR.okX U1 (λvs H Q E h=>by obtain⟨e,us,rfl,hl,_⟩:=h;rw[I0,hl];rfl) λcdv A outer s H vs Q E hr h=>?_;obtain⟨e,us,rfl,hl,he,k⟩:=h
 match us,hl with
 |[v,u],_=>
  have ne:∀{dx},H dx=none->dx≠e:=λh z=>by rw[z,he]at h;cases h
  exact⟨_,Ul (vv (pv 0) (pv 1) rfl) (jT (vv (pv 0) (pv 2) rfl)),_,rfl,_,rfl,e,a.wR,.none,rfl,T.d0,T.Wu,.inl ⟨he,λdx hd=>⟨_,rfl,_,rfl,e,a.wR,.none,rfl,T.d0,T.U_,.inr ⟨dx,[(("origin":Str),v)],by rw[zg],by rw[zi (ne hd),zg],ne hd,(show 1<1000 by decide),by
   have q:=k dx hd;have e1:JZ ("goal":Str) u [(("origin":Str),v)]=[(("origin":Str),v),(("goal":Str),u)]:=rfl;rw[e1];have e2:∀{A B C:HO},upd (upd (upd H dx A) e B) dx C=upd (upd H dx C) e B:=λ{A B C}=>funext λb=>by
    by_cases hb:b=dx
    .subst hb;rw[zg,zi (ne hd),zg]
    .rw[zi hb];by_cases hb2:b=e
     .subst hb2;rw[zg,zg]
     .rw[zi hb2,zi hb2,zi hb,zi hb]
   rw[e2];exact q⟩⟩⟩⟩
def Xu(T:Txt K mg a):yU P w K mg base (CXe P w) 1 a.vQ a.vV ["self","name"] (p9 a.kA ["name"]):=by
 refine T.Xm.okX Wf (λvs H Q E h=>by obtain⟨e,us,rfl,hl,_⟩:=h;rw[I0,hl];rfl) λcdv A outer s H vs Q E hr h=>?_;obtain⟨e,us,rfl,hl,he,k⟩:=h
 match us,hl with
 |[v],_=>exact⟨_,jT (vv (pv 0) (pv 1) rfl),_,rfl,_,rfl,e,a.kA,.none,rfl,T.bY,T.Wv,.inl ⟨he,k⟩⟩
def Vj(T:Txt K mg a):yU P w K mg base (CXe P w) 1 a.zt a.Zi ["trip"] (lsp (WW K a) false [true] zt):=
 zu (ms:=Zd) (S':=[1]) (Sb:=[]) (Sc:=[]) T.yN.F Kf rfl rfl rfl (by decide) λcdv A outer s H E hr=>
  (zj (z_ (XQ (za (ix hr (ev 0) (yi (zK (v:=.int 3) rfl T.QP ⟨_,rfl⟩))) (za (ix hr (ev 0) (yi (zK (v:=.int 4) rfl T.wK ⟨_,rfl⟩))) (za (ix hr (ev 0) (yi (zK (v:=.int 0) rfl T.KG ⟨_,rfl⟩))) ze))))))
def d5(T:Txt K mg a):yU P w K mg base (CXe P w) 1 a.ki a.WU ["_law_found"] (lsp (WW K a) false [true] ki):=
 zu (ms:=Ww) (S':=[1]) (Sb:=[]) (Sc:=[]) T.wM.F bK rfl rfl rfl (by decide) λcdv A outer s H E hr=>
  (zj (z_ (uU (XS rfl T.yE (ev 0) (J3 rfl T.Bt PyProof.Rows.Boot.«int» (v:=.ty "int") rfl) rfl ⟨⟨trivial,T.Kj⟩,⟨⟨trivial,T.QU⟩,trivial⟩⟩) (uT (Di (XS rfl T.yE (ev 0) (J3 rfl T.oG PyProof.Rows.Boot.«bool» (v:=.ty "bool") rfl) rfl ⟨⟨trivial,T.ZY⟩,⟨⟨trivial,T.QT⟩,trivial⟩⟩))))))
def b7(T:Txt K mg a):yU P w K mg base (CXe P w) 1 a.qA a.K0 ["_law_way","_law_one","_law_other","_law_ways_here"] (lsp (WW K a) false [true,true,true,true] qA):=
 zu (ms:=KI) (S':=[1,1,1,1,0,0,0]) (Sb:=[]) (Sc:=[]) T.k9.F qI rfl rfl rfl (by decide) λcdv A outer s H E hr=>
  (zf (yS (TWM.tm (J6 (VQ (Q6 (XS rfl T.yE (ev 0) (J3 rfl T.wb PyProof.Rows.Boot.«list» (v:=.ty "list") rfl) rfl ⟨⟨trivial,T.vc⟩,trivial⟩))) (J6 (W8 hr.units (ev 0) (FM.em (Q4 ze))) (J6 (iy hr.units (ix hr (ev 0) ei) (ev 1)) (YT (iy hr.units (ix hr (ev 0) (Ao lK mK ei)) (ev 2)))))))
    (zj (z_ (ZC Zy)))
    zY)
   (zf (se 4 qI.nd ei)
   (zf (qT (zx ⟨rfl,rfl⟩) rfl (J8 rfl T.ZX (za (zp Kt Kw (w8 rfl T.QS (za (ev 0) ze)) ei) ze)) (jt (i:=5) qI.nd rfl (by first|exact .inl rfl|exact .inr rfl))
    (zf (DC (i:=6) ["_law_step","_law_way","_law_k"] [none,some 0,some 5] [0,1,0] qI.nd rfl rfl rfl (by kernel_rfl) (QH (ev 3)) (λ_=>(jt (i:=0) (show List.Nodup (["_law_step","_law_way","_law_k"]:List Str)from by decide +kernel) rfl (.inl rfl))) (λ_=>(xa (TWM.tm (Q5 (W8 hr.units (ix hr (ev 0) ei) (ix hr (ev 1) (ev 2))) (QG (W8 hr.units (ix hr (ev 0) ei) (ix hr (ev 1) (zp zG zH (ev 2) ei)))))))) (λ_=>(ix hr (ev 0) ei)))
   (zf (yS (W8 hr.units (ev 6) (FM.em (Q4 ze)))
    (zj (z_ (ZC Zy)))
    zY)
   (zj (se 4 qI.nd (zp zG zH (ev 4) (Bp rfl rfl T.dW (za (ev 6) ze))))))))
   (zj (z_ (zo (pv 4)))))))
def ai(T:Txt K mg a):yU P w K mg base (CXe P w) 1 a.y_ a.JN ["place","heights","ways"] (lsp (WW K a) false [true,true,true] y_):=
 zu (ms:=Jz) (S':=[1,1,1,0,0,0]) (Sb:=[]) (Sc:=[]) T.jL.F jd rfl rfl rfl (by decide) λcdv A outer s H E hr=>
  (zj (qT (zx ⟨rfl,rfl⟩) rfl (v9 (YV (pv 2))) (bo (n:=3) rfl (qv (gn 3 jd.nd) (qv (gn 4 jd.nd) (qv (gn 5 jd.nd) bj jY) jY) jY))
    (zj (yS (TWM.tm (Q5 (W8 hr.units (ev 4) (ev 0)) (Q5 (dj (qi hr) (ev 3) (ev 1)) (QG (W8 hr.units (zp zG zH (ix hr (ev 1) (ev 3)) (ev 5)) (ix hr (ev 1) (ev 0)))))))
    (zj (z_ (zo (pv 3))))
    zY))))
def jo(T:Txt K mg a):yU P w K mg base (CXe P w) 2 a.zO a.cB ["_law_script","_law_k","_law_prime"] (lsp (WW K a) false [true,true,true] zO):=
 zu (ms:=b4) (S':=[1,1,1]) (Sb:=[]) (Sc:=[]) T.yV.F iO rfl rfl rfl (by decide) λcdv A outer s H E hr=>
  (zj (z_ (zp zz zA (zp ZD ZE (zp zz zA (ec (qb T) hr T.yc zW (za (ev 0) (za (ev 1) ze))) ei) ei) (ev 2))))
def iS(T:Txt K mg a):yU P w K mg base (CXe P w) 2 a.qW a.Uc ["_law_script","_law_at","_law_name","_law_places","_law_lengths_here","_law_ahead"] (lsp (WW K a) false [true,true,false,true,true,true] qW):=
 zu (ms:=X4) (S':=[1,1,0,1,1,1,0,0,0,0,0,0,0,0]) (Sb:=[]) (Sc:=[]) T.YJ.F z8 rfl rfl rfl (by decide) λcdv A outer s H E hr=>
  (zf (se 6 z8.nd (ec (qb T) hr T.yc zW (za (ev 0) (za (ev 1) ze))))
   (zf (se 7 z8.nd (ec (qb T) hr T.yc zW (za (ev 0) (za (EM.weak (zp zG zH (ev 1) ei)) ze))))
   (zf (se 8 z8.nd (ec (qb T) hr T.yc zW (za (ev 0) (za (EM.weak (zp zG zH (ev 1) ei)) ze))))
   (zf (se 9 z8.nd (ix hr (ev 3) (zp zz zA (ev 6) (w8 rfl T.QS (za (ev 3) ze)))))
   (zf (se 10 z8.nd (ix hr (ev 3) (zp zz zA (zp wy wz (ev 6) ei) (w8 rfl T.QS (za (ev 3) ze)))))
   (zf (yS (nY (qi hr) (za (zo (pv 9)) (za (zo (pv 10)) ze)) (ev 4))
    (zj (se 10 z8.nd (zo (pv 9))))
    zY)
   (zf (se 11 z8.nd (ix hr (FM.em (Q4 (za ei (za (zp zz zA (ev 8) ei) (za (zp zz zA (ev 7) ei) (za (zp zz zA (ev 8) (zp aI VP ei ei)) ze)))))) (zp zz zA (zp wy wz (ev 6) ei) ei)))
   (zf (se 12 z8.nd (uY rfl rfl T.tT (za ei (za (zp zG zH (fY (qi hr) (ev 4) (za (zo (pv 9)) (za (zo (pv 10)) ze))) (ev 11)) ze))))
   (zf (se 13 z8.nd (ix hr (FM.em (Q4 (za (zp zz zA (ev 7) ei) (za (zp zz zA (ev 7) ei) (za (zp zz zA (ev 7) (zp aI VP ei ei)) ze))))) (zp zz zA (zp wy wz (ev 6) ei) ei)))
   (zf (yS (TWM.tm (Q5 (W8 hr.units (zp zz zA (zp wy wz (ev 6) ei) ei) ei) (Q5 (yD lO mO (ev 5) (ZC Zy) (yT _)) (QG (nX (qi hr) (za (ix hr (ev 5) ei) (za (zo (pv 9)) ze)) (ev 4))))))
    (zj (se 13 z8.nd (zp Kt Kw (zp zG zH (zp zG zH (ix hr (ev 5) ei) (fY (qi hr) (ev 4) (za (ix hr (ev 5) ei) (za (zo (pv 9)) ze)))) (zp zz zA (ev 7) ei)) ei)))
    zY)
   (zf (se 13 z8.nd (fJ rfl rfl T.dW (za (ev 13) (za (zp Kt Kw (zp aI VP ei ei) (ev 12)) ze))))
   (zj (z_ (XQ (za (zo (pv 2)) (za (zo (pv 9)) (za (zo (pv 10)) (za (zo (pv 13)) (za (zp zG zH (ev 13) (ev 12)) (za (zp zz zA (zp wy wz (ev 8) ei) (zp zG zH (zp aI VP ei ei) ei)) ze))))))))))))))))))))
def d6(T:Txt K mg a):yU P w K mg base (CXe P w) 2 a.qX a.WV ["_law_heights","_law_origin","_law_ways_here"] (lsp (WW K a) false [true,true,true] qX):=
 zu (ms:=Wx) (S':=[1,1,1,0,0,0]) (Sb:=[]) (Sc:=[]) T.wN.F kZ rfl rfl rfl (by decide) λcdv A outer s H E hr=>
  (zf (yS (TWM.tm (J6 (VQ (Q6 (XS rfl T.yE (ev 0) (J3 rfl T.Wj PyProof.Rows.Boot.«dict» (v:=.ty "dict") rfl) rfl ⟨⟨trivial,T.vd⟩,trivial⟩))) (YT (iy hr.units (xo (qi hr) (ev 0) (ev 1) ⟨rfl,rfl,rfl,rfl⟩) ei))))
    (zj (z_ (YN YM)))
    zY)
   (zf (yS (VQ (Q6 (mY rfl rfl T.oF (za (FM.em (xB ["_law_height"] [none] [0] rfl (by kernel_rfl) (pv 0) (λ_=>(jt (i:=0) (show List.Nodup (["_law_height"]:List Str)from by decide +kernel) rfl (.inl rfl))) (λ_=>Ky) (λ_=>(ec (d5 T) hr T.wM fk (za (ev 0) ze))))) ze))))
    (zj (z_ (YN YM)))
    zY)
   (zf (qT (zx ⟨rfl,rfl⟩) rfl (v9 (YV (pv 2))) (bo (n:=3) rfl (qv (gn 3 kZ.nd) (qv (gn 4 kZ.nd) (qv (gn 5 kZ.nd) bj jY) jY) jY))
    (zj (yS (dj (qi hr) (ev 3) (ev 0))
    (zj (yS (TWM.tm (J6 (Q8 (qi hr) (ev 4) (ev 0)) (YT (yD cT df (ix hr (ev 0) (ev 4)) (zp zG zH (ix hr (ev 0) (ev 3)) (ev 5)) (yT _)))))
    (zj (z_ (YN YM)))
    zY))
    zY)))
   (zj (z_ (YN YM))))))
def WD(T:Txt K mg a):yU P w K mg base (CXe P w) 3 a.qx a.WR ["_law_script","_law_at","_law_many"] (lsp (WW K a) true [true,true,true] qx):=
 zu (ms:=Wz) (S':=[1,1,1,0,0,0,0,0,0,0,0]) (Sb:=[]) (Sc:=[]) T.yK.F z6 rfl rfl rfl (by decide) λcdv A outer s H E hr=>
  (zf (bh (i:=3) z6.nd rfl (by first|exact .inl rfl|exact .inr rfl) (mI uF))
   (zf (bh (i:=4) z6.nd rfl (by first|exact .inl rfl|exact .inr rfl) (zp zz zA (ec (qb T) hr T.yc zW (za (ev 0) (za (ev 1) ze))) ei))
   (zf (DC (i:=5) ["_law_j","_law_cell"] [none,some 4] [0,0] z6.nd rfl rfl rfl (by kernel_rfl) (J8 rfl T.ZX (za ei ze)) (λ_=>(jt (i:=0) (show List.Nodup (["_law_j","_law_cell"]:List Str)from by decide +kernel) rfl (.inl rfl))) (λ_=>Ky) (λ_=>(zp zz zA (zp zz zA (zp zG zH (zp ZD ZE (ev 1) ei) (zp ZD ZE (zp ZD ZE ei (ev 0)) (ev 0))) ei) ei)))
   (zf (se 6 z6.nd (ec (jo T) hr T.yV zW (za (ev 0) (za (EM.weak (zp zG zH (ev 1) ei)) (za (EM.weak ei) ze)))))
   (zf (vx (i:=7) z6.nd rfl (.inl rfl) (Q4 ze))
   (zf (qT (zx ⟨rfl,rfl⟩) rfl (J8 rfl T.ZX (za (ev 2) ze)) (gn 8 z6.nd)
    (AJ (S1:=[1,1,1,0,0,0,0,2,0,2,0]) 9 (zf (vx (i:=9) z6.nd rfl (.inl rfl) (DD (by exact(FM.em (kT rfl rfl T.wb (za (fP (ev 5) UA (UB (zp zG zH ei (zp zz zA (ev 4) ei)))) ze)))) (by exact(zp ZD ZE (fP (ev 5) (UB ei) UA) (zp zz zA (ev 8) ei)))))
   (zf (se 10 z6.nd (zp zz zA (zp wy wz (ev 6) ei) (w8 rfl T.QS (za (ev 9) ze))))
   (zf (AN (pv 9) (ev 10) (zp zz zA (zp zG zH (ix hr (ev 9) (ev 10)) (ev 8)) ei))
   (zf (yS (TWM.tm (Q5 (W8 hr.units (zp zz zA (ev 6) ei) ei) (QG (yD rJ sv (ev 2) ei (yT _)))))
    (zj (vx (i:=9) z6.nd rfl (.inl rfl) (fO (ev 5) UA (UB (zp zG zH ei (ev 8))))))
    zY)
   (zf (yS (TWM.tm (Q5 (W8 hr.units (zp zz zA (ev 6) ei) ei) (QG (yD rJ sv (ev 2) ei (yT _)))))
    (zj (vx (i:=9) z6.nd rfl (.inl rfl) (fO (ev 5) UA (UB (zp Kt Kw (ev 2) (ev 8))))))
    zY)
   (zj (ZH (pv 7) (Be (mI uF) (FM.em (iA ["_law_x","_law_some"] [none,some 3] [0,0] rfl (by kernel_rfl) (QH (ev 9)) (λ_=>(jt (i:=0) (show List.Nodup (["_law_x","_law_some"]:List Str)from by decide +kernel) rfl (.inl rfl))) (λ_=>Ky) (λ_=>(ix hr (ev 1) (ev 0)))))))))))))))
   (zj (VT (pv 7)))))))))
def iT(T:Txt K mg a):yU P w K mg base (CXe P w) 3 a.jS a.Ub ["_law_script","_law_at","_law_names_here"] (lsp (WW K a) true [true,true,true] jS):=
 zu (ms:=X5) (S':=[1,1,1,0,0,0,0,0]) (Sb:=[]) (Sc:=[]) T.jR.F qw rfl rfl rfl (by decide) λcdv A outer s H E hr=>
  (zf (se 3 qw.nd (w8 rfl T.QS (za (ev 2) ze)))
   (zf (se 4 qw.nd (ix hr (FM.em (Q4 (za ei (za ei (za ei (za (zp ZD ZE ei (zp aI VP ei ei)) ze)))))) (zp zz zA (ec (jo T) hr T.yV zW (za (ev 0) (za (ev 1) (za (EM.weak ei) ze)))) ei)))
   (zf (vx (i:=5) qw.nd rfl (.inl rfl) (Q4 ze))
   (zf (yS (yD cT df (zp zz zA (ec (jo T) hr T.yV zW (za (ev 0) (za (EM.weak (zp zG zH (ev 1) ei)) (za (EM.weak ei) ze)))) ei) ei (yT _))
    (zj (qT (zx ⟨rfl,rfl⟩) rfl (J8 rfl T.ZX (za (ev 3) ze)) (gn 6 qw.nd)
    (zj (ZH (pv 5) (XQ (za (ix hr (ev 2) (ev 6)) (za (ix hr (ev 2) (zp zz zA (zp zG zH (ev 6) ei) (ev 3))) (za (zp zG zH ei (zp zz zA (ec (jo T) hr T.yV zW (za (ev 0) (za (EM.weak (zp zG zH (ev 1) (ev 6))) (za (EM.weak ei) ze)))) (ev 4))) ze))))))))
    zY)
   (zf (qT (zx ⟨rfl,rfl⟩) rfl (J8 rfl T.ZX (za (zp zz zA (ec (jo T) hr T.yV zW (za (ev 0) (za (EM.weak (zp zG zH (ev 1) ei)) (za (EM.weak ei) ze)))) ei) ze)) (gn 6 qw.nd)
    (zf (se 7 qw.nd (ec (qb T) hr T.yc zW (za (ev 0) (za (EM.weak (zp zG zH (ev 1) (ev 6))) ze))))
   (zj (ZH (pv 5) (XQ (za (ix hr (ev 2) (zp zz zA (ev 7) (ev 3))) (za (ix hr (ev 2) (zp zz zA (zp wy wz (ev 7) (ev 3)) (ev 3))) (za (zp zG zH ei (zp zz zA (zp wy wz (ev 7) ei) (ev 4))) ze))))))))
   (zj (VT (pv 5))))))))
def d7(T:Txt K mg a):yU P w K mg base (CXe P w) 3 a.qY a.WT ["_law_script","_law_at","_law_names_here","_law_places","_law_lengths_here"] (lsp (WW K a) true [true,true,true,true,true] qY):=
 zu (ms:=WA) (S':=[1,1,1,1,1,0,0,0]) (Sb:=[]) (Sc:=[]) T.qV.F jn rfl rfl rfl (by decide) λcdv A outer s H E hr=>
  (zf (vx (i:=5) jn.nd rfl (.inl rfl) (Q4 ze))
   (zf (qT (zx ⟨rfl,rfl⟩) rfl (J8 rfl T.ZX (za (w8 rfl T.QS (za (ev 2) ze)) ze)) (gn 6 jn.nd)
    (zf (se 7 jn.nd (ZC Zy))
   (zf (yS (yD cT df (ev 6) ei (yT _))
    (zj (se 7 jn.nd (ix hr (ev 5) (zp zz zA (ec (jo T) hr T.yV zW (za (ev 0) (za (EM.weak (zp zG zH (zp zG zH (ev 1) (zp ZD ZE ei (ev 6))) ei)) (za (EM.weak ei) ze)))) (ev 6)))))
    zY)
   (zj (ZH (pv 5) (ec (iS T) hr T.YJ zW (za (ev 0) (za (EM.weak (zp zG zH (ev 1) (zp ZD ZE ei (ev 6)))) (za (ix hr (ev 2) (ev 6)) (za (ev 3) (za (ev 4) (za (ev 7) ze))))))))))))
   (zj (VT (pv 5)))))
def Z_(T:Txt K mg a):yU P w K mg base (CXe P w) 3 a.yq a.KW ["things","most"] (lsp (WW K a) false [true,false] yq):=
 zu (ms:=KO) (S':=[1,0]) (Sb:=[]) (Sc:=[]) T.qz.F UX rfl rfl rfl (by decide) λcdv A outer s H E hr=>
  (zj (yS (yD cT df (w8 rfl T.QS (za (ev 0) ze)) (ev 1) (yT _))
    (zj (jb (c:=3) rfl T.oI T.bW (Xr T) (rm hr) rfl T.Wg T.Xh (za (zo (pv 1)) ze)))
    zY))
def Xv(T:Txt K mg a):yU P w K mg base (CXe P w) 3 a.yQ a.Qe ["name"] (lsp (WW K a) false [false] yQ):=
 zu (ms:=Y9) (S':=[0,0]) (Sb:=[]) (Sc:=[]) T.je.F ZU rfl rfl rfl (by decide) λcdv A outer s H E hr=>
  (zf (yS (TWM.tm (J6 (yD lM mN (w8 rfl T.QS (za (ev 0) ze)) ei (yT _)) (YT (yD cT df (w8 rfl T.QS (za (ev 0) ze)) (yi (zK (v:=.int 12) rfl T.vG ⟨_,rfl⟩)) (yT _)))))
    (zj (jb (c:=1) rfl T.bV T.Wo (Qc T) (rm hr) rfl T.Jr T.YX (za (zo (pv 0)) ze)))
    zY)
   (zf (qT (zx ⟨rfl,rfl⟩) rfl (D3 (ev 0)) (gn 1 ZU.nd)
    (zj (yS (Q8 (qi hr) (ev 1) (mI (zK (v:=.str "abcdefghijklmnopqrstuvwxyz0123456789") rfl T.ZV ⟨_,rfl⟩)))
    (zj (jb (c:=1) rfl T.bV T.Wo (Qc T) (rm hr) rfl T.Jr T.YX (za (zo (pv 0)) ze)))
    zY)))
   (zj (z_ (zo (pv 0))))))
def qM(T:Txt K mg a):yU P w K mg base (CXe P w) 3 a.z1 a.JL ["name","places"] (lsp (WW K a) false [false,true] z1):=
 zu (ms:=JE) (S':=[0,1]) (Sb:=[]) (Sc:=[]) T.ym.F Xc rfl rfl rfl (by decide) λcdv A outer s H E hr=>
  (zj (yS (Q8 (qi hr) (ev 0) (ev 1))
    (zj (jb (c:=5) rfl T.oK T.bX (Xs T) (rm hr) rfl T.Wh T.Xk (za (zo (pv 0)) ze)))
    zY))
def qt(T:Txt K mg a):yU P w K mg base (CXe P w) 3 a.zC a.Zh ["value","least"] (lsp (WW K a) false [false,true] zC):=
 zu (ms:=Zf) (S':=[0,1]) (Sb:=[]) (Sc:=[]) T.z9.F Ke rfl rfl rfl (by decide) λcdv A outer s H E hr=>
  (zf (yS (TWM.tm (J6 (yD lM mN (ev 0) (ev 1) (yT _)) (YT (yD cT df (ev 0) (yi (zK (v:=.int 1000000000) rfl T.dN ⟨_,rfl⟩)) (yT _)))))
    (zj (jb (c:=2) rfl T.dZ T.Wr (Vi T) (rm hr) rfl T.QR T.Vf (za (zo (pv 0)) ze)))
    zY)
   (zj (z_ (zo (pv 0)))))
def KU(T:Txt K mg a):yU P w K mg base (CXe P w) 3 a.zS a.Yi ["self","name"] (lsp (WW K a) false [true,false] zS):=
 zu (ms:=KP) (S':=[1,0]) (Sb:=[]) (Sc:=[]) T.bQ U0 rfl rfl rfl (by decide) λcdv A outer s H E hr=>
  (zf (yS (Q8 (qi hr) (ev 1) (v7 (ev 0) (fa ⟨T.qj,T.yO⟩ fz)))
    (zj (jb (c:=7) rfl T.tV T.gm (af T) (rm hr) rfl T.U2 T.U8 (za (zo (pv 1)) ze)))
    zY)
   (zj (z_ (ix hr (v7 (ev 0) (fa ⟨T.qj,T.yO⟩ fz)) (ev 1)))))
def vi(T:Txt K mg a):yU P w K mg base (CXe P w) 4 a.zF a.vm ["name","had"] (lsp (WW K a) false [false,true] zF):=
 zu (ms:=vg) (S':=[0,1]) (Sb:=[]) (Sc:=[]) T.yk.F QO rfl rfl rfl (by decide) λcdv A outer s H E hr=>
  (zf (qh (ec (Xv T) hr T.je zW (za (zo (pv 0)) ze)))
   (zf (yS (dj (qi hr) (ev 0) (ev 1))
    (zj (jb (c:=4) rfl T.Bv T.oJ (b5 T) (rm hr) rfl T.dQ T.bN (za (zo (pv 0)) ze)))
    zY)
   (zj (z_ (zo (pv 0))))))
def b8(T:Txt K mg a):yU P w K mg base (CXe P w) 4 a.qB a.KY ["places","ways"] (lsp (WW K a) false [true,true] qB):=
 zu (ms:=KQ) (S':=[1,1,0,0,0]) (Sb:=[]) (Sc:=[]) T.k7.F jK rfl rfl rfl (by decide) λcdv A outer s H E hr=>
  (zj (qT (zx ⟨rfl,rfl⟩) rfl (v9 (YV (pv 1))) (bo (n:=3) rfl (qv (gn 2 jK.nd) (qv (gn 3 jK.nd) (qv (gn 4 jK.nd) bj jY) jY) jY))
    (zf (qh (ec (qM T) hr T.ym zW (za (zo (pv 2)) (za (ev 0) ze))))
   (zf (qh (ec (qM T) hr T.ym zW (za (zo (pv 3)) (za (ev 0) ze))))
   (zj (qh (ec (qt T) hr T.z9 zW (za (zo (pv 4)) (za (EM.weak ei) ze)))))))))
def vM(T:Txt K mg a):yU P w K mg base (CXe P w) 4 a.zw a.vU ["self","origin","goal"] (lsp (WW K a) false [true,false,false] zw):=
 zu (ms:=Qa) (S':=[1,0,0]) (Sb:=[]) (Sc:=[]) T.Xl We rfl rfl rfl (by decide) λcdv A outer s H E hr=>
  (zf (qh (ec (qM T) hr T.ym zW (za (zo (pv 1)) (za (EM.weak (v7 (ev 0) (fa ⟨T.yn,T.yW⟩ fz))) ze))))
   (zf (qh (ec (qM T) hr T.ym zW (za (zo (pv 2)) (za (EM.weak (v7 (ev 0) (fa ⟨T.yn,T.yW⟩ fz))) ze))))
   (zj (z_ (xo (qi hr) (ix hr (v7 (ev 0) (fa ⟨T.yn,T.qk⟩ fz)) (ev 1)) (ev 2) ⟨rfl,rfl,rfl,rfl⟩)))))
def WE(T:Txt K mg a):yU P w K mg base (CXe P w) 4 a.zI a.kE ["self","origin"] (lsp (WW K a) true [true,false] zI):=
 zu (ms:=Z2) (S':=[1,0]) (Sb:=[]) (Sc:=[]) T.Wm Vd rfl rfl rfl (by decide) λcdv A outer s H E hr=>
  (zf (qh (ec (qM T) hr T.ym zW (za (zo (pv 1)) (za (EM.weak (v7 (ev 0) (fa ⟨T.yn,T.yW⟩ fz))) ze))))
   (zj (VS (UH rfl rfl T.Wj (za (ix hr (v7 (ev 0) (fa ⟨T.yn,T.qk⟩ fz)) (ev 1)) ze)))))
def Xw(T:Txt K mg a):yU P w K mg base (CXe P w) 5 a.yR a.Qf ["places"] (lsp (WW K a) false [true] yR):=
 zu (ms:=Qb) (S':=[1,2,0]) (Sb:=[]) (Sc:=[]) T.jf.F j5 rfl rfl rfl (by decide) λcdv A outer s H E hr=>
  (zf (vx (i:=1) j5.nd rfl (.inl rfl) nv)
   (zj (qT (zx ⟨rfl,rfl⟩) rfl (v9 (YV (pv 0))) (gn 2 j5.nd)
    (zf (qh (ec (vi T) hr T.yk zW (za (zo (pv 2)) (za (ev 1) ze))))
   (zj (u7 (qi hr) (pv 1) (ev 2) (YN YM)))))))
def Gd(T:Txt K mg a):yU P w K mg base (CXe P w) 5 a.iQ a.ED ["table","one","other"] (lsp (WW K a) false [true,false,false] iQ):=
 zu (ms:=Ek) (S':=[1,0,0,0,0,0]) (Sb:=[]) (Sc:=[]) T.tU.F gj rfl rfl rfl (by decide) λcdv A outer s H E hr=>
  (zf (se 3 gj.nd (J7 (fr:=false) (ws:=[false]) (tab:=[(10,zS)]) (ev 0) (al ⟨_,_,_,_,T.qj,T.Ju,KU T,(rm hr),T.KH⟩) zW (za (zo (pv 1)) ze)))
   (zf (se 4 gj.nd (J7 (fr:=false) (ws:=[false]) (tab:=[(10,zS)]) (ev 0) (al ⟨_,_,_,_,T.qj,T.Ju,KU T,(rm hr),T.KH⟩) zW (za (zo (pv 2)) ze)))
   (zf (se 5 gj.nd (J7 (fr:=false) (ws:=[false,false]) (tab:=[(11,zw)]) (v7 (ev 0) (fa ⟨T.qj,T.YZ⟩ fz)) (al ⟨_,_,_,_,T.yn,T.j6,vM T,(rm hr),T.vH⟩) zW (za (ix hr (ev 3) (yi (zK (v:=.int 2) rfl T.bL ⟨_,rfl⟩))) (za (ix hr (ev 4) (yi (zK (v:=.int 1) rfl T.Jq ⟨_,rfl⟩))) ze))))
   (zf (yS (yD eY fB (ev 5) (ZC Zy) (yT _))
    (zj (z_ (ZC Zy)))
    zY)
   (zj (z_ (zp Kt Kw (zp Kt Kw (ix hr (ev 4) (yi (zK (v:=.int 3) rfl T.QP ⟨_,rfl⟩))) (ix hr (ev 3) (yi (zK (v:=.int 4) rfl T.wK ⟨_,rfl⟩)))) (ev 5))))))))
def b9(T:Txt K mg a):yU P w K mg base (CXe P w) 5 a.yX a.KZ ["roads","trip","had"] (lsp (WW K a) false [true,true,true] yX):=
 zu (ms:=KR) (S':=[1,1,1,0]) (Sb:=[]) (Sc:=[]) T.k8.F Jo rfl rfl rfl (by decide) λcdv A outer s H E hr=>
  (zf (qh (ec (vi T) hr T.yk zW (za (ix hr (ev 1) (yi (zK (v:=.int 0) rfl T.KG ⟨_,rfl⟩))) (za (ev 2) ze))))
   (zf (se 3 Jo.nd (J7 (fr:=false) (ws:=[false,false]) (tab:=[(11,zw)]) (ev 0) (al ⟨_,_,_,_,T.yn,T.j6,vM T,(rm hr),T.vH⟩) zW (za (ix hr (ev 1) (yi (zK (v:=.int 1) rfl T.Jq ⟨_,rfl⟩))) (za (ix hr (ev 1) (yi (zK (v:=.int 2) rfl T.bL ⟨_,rfl⟩))) ze))))
   (zf (qh (ec (qt T) hr T.z9 zW (za (ix hr (ev 1) (yi (zK (v:=.int 3) rfl T.QP ⟨_,rfl⟩))) (za (EM.weak ei) ze))))
   (zf (qh (ec (qt T) hr T.z9 zW (za (ix hr (ev 1) (yi (zK (v:=.int 4) rfl T.wK ⟨_,rfl⟩))) (za (EM.weak ei) ze))))
   (zf (qh (ec (qt T) hr T.z9 zW (za (ix hr (ev 1) (yi (zK (v:=.int 5) rfl T.dP ⟨_,rfl⟩))) (za (EM.weak ei) ze))))
   (zf (yS (yD rJ sv (ix hr (ev 1) (yi (zK (v:=.int 4) rfl T.wK ⟨_,rfl⟩))) (ix hr (ev 1) (yi (zK (v:=.int 3) rfl T.QP ⟨_,rfl⟩))) (yT _))
    (zj (jb (c:=8) rfl T.iP T.X3 (WC T) (rm hr) rfl T.Kg T.Wl (za (ix hr (ev 1) (yi (zK (v:=.int 0) rfl T.KG ⟨_,rfl⟩))) ze)))
    zY)
   (zf (yS (yD eY fB (ev 3) (ZC Zy) (yT _))
    (zj (jb (c:=6) rfl T.Bw T.d0 (b6 T) (rm hr) rfl T.dR T.bS (za (ix hr (ev 1) (yi (zK (v:=.int 1) rfl T.Jq ⟨_,rfl⟩))) (za (ix hr (ev 1) (yi (zK (v:=.int 2) rfl T.bL ⟨_,rfl⟩))) ze))))
    zY)
   (zj (yS (yD lM mN (zp Kt Kw (ix hr (ev 1) (yi (zK (v:=.int 4) rfl T.wK ⟨_,rfl⟩))) (ix hr (ev 1) (yi (zK (v:=.int 3) rfl T.QP ⟨_,rfl⟩)))) (ev 3) (yT _))
    (zj (jb (c:=9) rfl T.oM T.bY (Xu T) (rm hr) rfl T.Wi T.Xn (za (ix hr (ev 1) (yi (zK (v:=.int 0) rfl T.KG ⟨_,rfl⟩))) ze)))
    zY)))))))))
def d8(T:Txt K mg a):yU P w K mg base (CXe P w) 5 a.yY a.QX ["self","origin","goal"] (lsp (WW K a) false [true,false,false] yY):=
 zu (ms:=WB) (S':=[1,0,0,0]) (Sb:=[]) (Sc:=[]) T.dX KD rfl rfl rfl (by decide) λcdv A outer s H E hr=>
  (zf (yS (yD eY fB (J7 (fr:=false) (ws:=[false,false]) (tab:=[(11,zw)]) (ev 0) (al ⟨_,_,_,_,T.yn,T.j6,vM T,(rm hr),T.vH⟩) zW (za (zo (pv 1)) (za (zo (pv 2)) ze))) (ZC Zy) (yT _))
    (zj (z_ (ZC Zy)))
    zY)
   (zf (vx (i:=3) KD.nd rfl (.inl rfl) (Q4 (za (zo (pv 2)) ze)))
   (zf (fQ (zx ⟨rfl,rfl⟩) (iy hr.units (ix hr (ev 3) (Ao lK mK ei)) (ev 1))
    (zj (ZH (pv 3) (ec (ai T) hr T.jL zW (za (EM.weak (ix hr (ev 3) (Ao lK mK ei))) (za (EM.weak (ix hr (v7 (ev 0) (fa ⟨T.yn,T.qk⟩ fz)) (ev 1))) (za (EM.weak (v7 (ev 0) (fa ⟨T.yn,T.Jv⟩ fz))) ze)))))))
   (zj (z_ (FM.em (dA rfl rfl T.wb rfl T.Kh (za (ev 3) ze))))))))
def b_(T:Txt K mg a):yU P w K mg base (CXe P w) 6 a.yZ a.Yh ["self","places","ways"] (EX (WW K a) 11 [true,true] yZ):=
 nu (ms:=vh) (S':=[2,1,1]) (Sb:=[]) (Sc:=[]) (n:=2) T.bO UZ rfl rfl rfl (by decide) rfl λcdv A outer s H E hr=>
  (zf (qh (ec (Z_ T) hr T.qz zW (za (ev 1) (za (yi (zK (v:=.int 12) rfl T.wL ⟨_,rfl⟩)) ze))))
   (zf (qh (ec (Z_ T) hr T.qz zW (za (ev 2) (za (yi (zK (v:=.int 60) rfl T.QQ ⟨_,rfl⟩)) ze))))
   (zf (qh (ec (Xw T) hr T.jf zW (za (ev 1) ze)))
   (zf (qh (ec (b8 T) hr T.k7 zW (za (ev 1) (za (ev 2) ze))))
   (zf (m9 (i:=0) (pv 0) (FM.em (kT rfl rfl T.wb (za (ev 1) ze))) (fa ⟨T.yn,T.yW⟩ fz))
   (zf (m9 (i:=0) (pv 0) (FM.em (kT rfl rfl T.wb (za (ev 2) ze))) (fa ⟨T.yn,T.Jv⟩ fz))
   (zj (m9 (i:=0) (pv 0) (FM.em (UH rfl rfl T.Wj (za (FM.em (iA ["place","ways"] [none,some 2] [0,1] rfl (by kernel_rfl) (QH (ev 1)) (λ_=>(jt (i:=0) (show List.Nodup (["place","ways"]:List Str)from by decide +kernel) rfl (.inl rfl))) (λ_=>Ky) (λ_=>(XQ (za (zo (pv 0)) (za (FM.em (ZG (Xt T) (rm hr) rfl T.yP.g T.yP.k T.yP.b fk (za (ev 0) (za (ev 1) ze)))) ze)))))) ze))) (fa ⟨T.yn,T.qk⟩ fz)))))))))
def tY(T:Txt K mg a):yU P w K mg base (CXe P w) 6 a.YK a.g7 ["table","one","other"] (lsp (WW K a) false [true,false,false] YK):=
 zu (ms:=gp) (S':=[1,0,0,0]) (Sb:=[]) (Sc:=[]) T.VB.F bJ rfl rfl rfl (by decide) λcdv A outer s H E hr=>
  (zf (se 3 bJ.nd (ec (Gd T) hr T.tU zW (za (ev 0) (za (zo (pv 1)) (za (zo (pv 2)) ze)))))
   (zj (z_ (uU (mJ lO mO (ev 3) (ZC Zy) (yT _)) (uT (mJ Cz Df (ev 3) ei (yT _)))))))
def aj(T:Txt K mg a):yU P w K mg base (CXe P w) 6 a.Yf a.Yl ["self","roads","trips"] (hsp (WW K a) 3 qa):=
 D0 (ms:=jO) T.bT Jp rfl rfl rfl λcdv A outer s H E hr=>
  (Jk (nV (hp (ec (Z_ T) hr T.qz zW (za (ev 2) (za (yi (zK (v:=.int 40) rfl T.ZW ⟨_,rfl⟩)) ze)))))
   (Jk (oa (XX (pv 0)) (XX (pv 1)) (fa ⟨T.qj,T.YZ⟩ fz))
   (Jk (oa (XX (pv 0)) (hf nv) (fa ⟨T.qj,T.yO⟩ fz))
   (Jk (Bd (S:=[0,0,0,0]) (fr:=false) [false,false,true] (zx ⟨rfl,rfl⟩) rfl (v9 (EM.en (zo (pv 2)))) (Bb (i:=3) Jp.nd rfl (.inl rfl))
    (Jk (nV (hp (ec (b9 T) hr T.k8 zW (za (ev 1) (za (ev 3) (za (EM.weak (v7 (ev 0) (fa ⟨T.qj,T.yO⟩ fz))) ze))))))
   (nU (DZ (qi hr) (DW (XX (pv 0)) (fa ⟨T.qj,T.yO⟩ fz)) (hp (ix hr (ev 3) (yi (zK (v:=.int 0) rfl T.KG ⟨_,rfl⟩)))) (XX (pv 3))))))
   (nU (oa (XX (pv 0)) (hp (FM.em (iA ["trip"] [none] [0] rfl (by kernel_rfl) (QH (FM.em (tJ (wk:=true) (Vj T) (rm hr) T.yN.b rfl T.Js rfl T.yN.g (za (ev 2) ze)))) (λ_=>(jt (i:=0) (show List.Nodup (["trip"]:List Str)from by decide +kernel) rfl (.inl rfl))) (λ_=>Ky) (λ_=>(ix hr (ev 0) (yi (zK (v:=.int 0) rfl T.KG ⟨_,rfl⟩))))))) (fa ⟨T.qj,T.YY⟩ fz)))))))
def cb(T:Txt K mg a):yU P w K mg base (CXe P w) 6 a.qC a.K1 ["_law_one","_law_other","_law_told","_law_roads","_law_ways_here"] (lsp (WW K a) false [true,true,true,true,true] qC):=
 zu (ms:=KS) (S':=[1,1,1,1,1,0,0]) (Sb:=[]) (Sc:=[]) T.k_.F wJ rfl rfl rfl (by decide) λcdv A outer s H E hr=>
  (zf (bh (i:=5) wJ.nd rfl (by first|exact .inl rfl|exact .inr rfl) (ix hr (ev 2) (ix hr (ev 0) ei)))
   (zf (yS (TWM.tm (J6 (W8 hr.units (ix hr (ev 0) ei) (ix hr (ev 1) ei)) (J6 (dj (qi hr) (ix hr (ev 0) ei) (ix hr (ev 2) (ix hr (ev 1) ei))) (YT (yD Cz Df (ix hr (ev 0) ei) (ix hr (ev 1) ei) (yT _))))))
    (zj (z_ (YN YM)))
    zY)
   (zf (se 6 wJ.nd (ec (b7 T) hr T.k9 zW (za (EM.weak (J7 (fr:=false) (ws:=[false,false]) (tab:=[(11,yY)]) (ev 3) (al ⟨_,_,_,_,T.yn,T.bZ,d8 T,(rm hr),T.dY⟩) zW (za (ix hr (ev 0) ei) (za (ix hr (ev 1) ei) ze)))) (za (EM.weak (ix hr (ev 0) ei)) (za (EM.weak (ix hr (ev 1) ei)) (za (ev 4) ze))))))
   (zf (yS (TWM.tm (J6 (yD eY fB (ev 6) (ZC Zy) (yT _)) (YT (yD cT df (zp zG zH (ix hr (ev 0) ei) (ev 6)) (ix hr (ev 1) ei) (yT _)))))
    (zj (z_ (YN YM)))
    zY)
   (zj (z_ (mY rfl rfl T.oF (za (FM.em (iA ["_law_name","_law_row"] [none,some 5] [0,0] rfl (by kernel_rfl) (QH (ix hr (ev 2) (ix hr (ev 1) ei))) (λ_=>(jt (i:=0) (show List.Nodup (["_law_name","_law_row"]:List Str)from by decide +kernel) rfl (.inl rfl))) (λ_=>Ky) (λ_=>(FK (qi hr) (ev 0) (ev 1))))) ze))))))))
def WG(T:Txt K mg a):yU P w K mg base (CXe P w) 7 a.yA a.Yj ["table","one","names"] (lsp (WW K a) true [true,false,true] yA):=
 zu (ms:=Z9) (S':=[1,0,1]) (Sb:=[]) (Sc:=[]) T.yx.F Vb rfl rfl rfl (by decide) λcdv A outer s H E hr=>
  (zj (VS (iA ["other","table","one"] [none,some 0,some 1] [0,1,0] rfl (by kernel_rfl) (QH (ev 2)) (λ_=>(jt (i:=0) (show List.Nodup (["other","table","one"]:List Str)from by decide +kernel) rfl (.inl rfl))) (λ_=>(xa (Q6 (ec (tY T) hr T.VB fk (za (ev 1) (za (zo (pv 2)) (za (zo (pv 0)) ze))))))) (λ_=>(zo (pv 0))))))
def Bx(T:Txt K mg a):yU P w K mg base (CXe P w) 8 a.Kk a.pL ["table"] (lsp (WW K a) true [true] Kk):=
 zu (ms:=oN) (S':=[1,0]) (Sb:=[]) (Sc:=[]) T.Ki.F gk rfl rfl rfl (by decide) λcdv A outer s H E hr=>
  (zf (bh (i:=1) gk.nd rfl (by first|exact .inl rfl|exact .inr rfl) (FM.em (sF (tab:=[(10,z0),(11,yo)]) (ev 0) (λK sp ⟨q,hq,e1,e2⟩=>by
    simp only[List.mem_cons,List.not_mem_nil,or_false]at hq;rcases hq with rfl|rfl<;>subst e1 e2
    .exact⟨_,_,_,_,T.qj,T.Xp,aa T,(rm hr),T.U4⟩
    .exact⟨_,_,_,_,T.yn,T.Xq,ae T,(rm hr),T.U6⟩) zW)))
   (zj (VS (UH rfl rfl T.Wj (za (FM.em (iA ["one","table","names"] [none,some 0,some 1] [0,1,0] rfl (by kernel_rfl) (QH (ev 1)) (λ_=>(jt (i:=0) (show List.Nodup (["one","table","names"]:List Str)from by decide +kernel) rfl (.inl rfl))) (λ_=>Ky) (λ_=>(XQ (za (zo (pv 0)) (za (FM.em (ZG (WG T) (rm hr) rfl T.yx.g T.yx.k T.yx.b fk (za (ev 1) (za (zo (pv 0)) (za (ev 2) ze))))) ze)))))) ze)))))
def Ge(T:Txt K mg a):yU P w K mg base (CXe P w) 9 a.oQ a.EE ["_law_script"] (lsp (WW K a) false [true] oQ):=
 zu (ms:=El) (S':=[1,0,0,0,0,0,0,0,0,0,0,0]) (Sb:=[]) (Sc:=[]) T.oH.F Zb rfl rfl rfl (by decide) λcdv A outer s H E hr=>
  (zf (se 1 Zb.nd (FM.em (ZG (WD T) (rm hr) rfl T.yK.g T.yK.k T.yK.b zW (za (ev 0) (za (EM.weak ei) (za (EM.weak (zp zG zH ei (zp zz zA (ec (jo T) hr T.yV zW (za (ev 0) (za (EM.weak ei) (za (EM.weak ei) ze)))) ei))) ze))))))
   (zf (se 2 Zb.nd (FM.em (ZG (iT T) (rm hr) rfl T.jR.g T.jR.k T.jR.b zW (za (ev 0) (za (EM.weak ei) (za (ev 1) ze))))))
   (zf (se 3 Zb.nd (uY rfl rfl T.tT (za (zp zG zH ei (zp zz zA (ec (jo T) hr T.yV zW (za (ev 0) (za (EM.weak ei) (za (EM.weak ei) ze)))) ei)) (za (zp wy wz (zp Kt Kw (fJ rfl rfl T.dW (za (w8 rfl T.QS (za (ev 0) ze)) (za ei ze))) ei) ei) ze))))
   (zf (se 4 Zb.nd (FM.em (ZG (WD T) (rm hr) rfl T.yK.g T.yK.k T.yK.b zW (za (ev 0) (za (EM.weak ei) (za (ev 3) ze))))))
   (zf (se 5 Zb.nd (FM.em (ZG (d7 T) (rm hr) rfl T.qV.g T.qV.k T.qV.b zW (za (ev 0) (za (EM.weak ei) (za (ev 4) (za (ev 1) (za (EM.weak (FM.em (ZG (ag T) (rm hr) rfl T.y8.g T.y8.k T.y8.b zW (za (ev 1) (za (ev 2) ze))))) ze))))))))
   (zf (se 6 Zb.nd (FM.em (AE (c:=11) T.tX (b_ T) (rm hr) rfl T.dU T.bP zW (za (EM.weak (FM.em (kT rfl rfl T.wb (za (ev 1) ze)))) (za (EM.weak (FM.em (kT rfl rfl T.wb (za (ev 2) ze)))) ze)))))
   (zf (se 7 Zb.nd (FM.em (ZG (Bx T) (rm hr) rfl T.Ki.g T.Ki.k T.Ki.b zW (za (EM.weak (tQ (c:=10) T.tW (aj T) (rm hr) rfl T.dS T.bU zW (za (zo (pv 6)) (za (FM.em (kT rfl rfl T.wb (za (ev 5) ze))) ze)) rfl rfl)) ze))))
   (zf (yS (TWM.tm (J6 (VQ (Q6 (XS rfl T.yE (ev 7) (J3 rfl T.Wj PyProof.Rows.Boot.«dict» (v:=.ty "dict") rfl) rfl ⟨⟨trivial,T.vd⟩,trivial⟩))) (YT (iy hr.units (FM.em (gf rfl rfl T.Js (za (ev 7) ze))) (FM.em (gf rfl rfl T.Js (za (ev 4) ze)))))))
    (zj (z_ (YN YM)))
    zY)
   (zf (yS (VQ (Q6 (mY rfl rfl T.oF (za (FM.em (xB ["_law_row"] [none] [0] rfl (by kernel_rfl) (pv 7) (λ_=>(jt (i:=0) (show List.Nodup (["_law_row"]:List Str)from by decide +kernel) rfl (.inl rfl))) (λ_=>Ky) (λ_=>(XS rfl T.yE (ev 0) (J3 rfl T.wb PyProof.Rows.Boot.«list» (v:=.ty "list") rfl) rfl ⟨⟨trivial,T.vc⟩,trivial⟩)))) ze))))
    (zj (z_ (YN YM)))
    zY)
   (zf (qT (zx ⟨rfl,rfl⟩) rfl (v9 (EM.en (zo (pv 5)))) (gn 8 Zb.nd)
    (zf (se 9 Zb.nd (FM.em (AD (ws:=[false]) (tab:=[(11,zI)]) (ev 6) (al ⟨_,_,_,_,T.yn,T.Vh,WE T,(rm hr),T.Wn⟩) zW (za (ix hr (ev 8) ei) ze))))
   (zf (se 10 Zb.nd (ix hr (ev 7) (ix hr (ev 8) ei)))
   (zf (yS (TWM.tm (J6 (VQ (Q6 (ec (d6 T) hr T.wN zW (za (ev 9) (za (EM.weak (ix hr (ev 8) ei)) (za (ev 2) ze)))))) (YT (iy hr.units (Bn rfl rfl T.QS rfl T.Bu (za (ev 10) ze)) (w8 rfl T.QS (za (ev 10) ze))))))
    (zj (z_ (YN YM)))
    zY)
   (zj (qT (zx ⟨rfl,rfl⟩) rfl (v9 (EM.en (zo (pv 5)))) (gn 11 Zb.nd)
    (zj (yS (dj (qi hr) (ix hr (ev 11) ei) (ev 10))
    (zj (yS (VQ (Q6 (ec (cb T) hr T.k_ zW (za (ev 8) (za (ev 11) (za (ev 7) (za (ev 6) (za (ev 2) ze))))))))
    (zj (z_ (YN YM)))
    zY))
    (zj (yS (TWM.tm (Q5 (dj (qi hr) (ix hr (ev 11) ei) (ev 9)) (QG (yD rJ sv (zp zG zH (ix hr (ev 8) ei) (ix hr (ev 9) (ix hr (ev 11) ei))) (ix hr (ev 11) ei) (yT _)))))
    (zj (z_ (YN YM)))
    zY))))))))))
   (zj (z_ (YN YM)))))))))))))
def zl(ha:a ρ=.ok x)(hb:b ρ=.ok y)(h:f x y=.ok z):mOp f a b ρ=.ok z:=by unfold mOp;rw[ha,okb,hb,okb,h]
def zv(h:ms ρ=.ok xs)(h2:f xs=.ok x):zk f ms ρ=.ok x:=by unfold zk;rw[h,okb,h2]
def zy(ha:a ρ=.ok x)(h:ms ρ=.ok xs):zb a ms ρ=.ok (x::xs):=by unfold zb;rw[ha,okb,h,okb]
def oR(h:ms ρ=.ok xs)(hl:xs.length<=sizeLine):fC ms ρ=.ok (.l xs):=by unfold fC;rw[h,okb,if_pos hl]
def wc(ha:a ρ=.ok (.i x))(hn:0<n):mOp zU a (mC (.i n)) ρ=.ok (.i (x % n)):=zl ha rfl (kR hn)
def iU(ha:a ρ=.ok (.i x))(hn:0<n)(h2:n<1073741824):mOp ZF a (mC (.i n)) ρ=.ok (.i (x / n)):=zl ha rfl (xf hn h2)
def By(h:ρ[i]?=some (some (.i x)))(hd:0<d)(d2:d<1073741824)(hn:0<n):mOp zU (mOp ZF (zc i) (mC (.i d))) (mC (.i n)) ρ=.ok (.i (x / d % n)):=
 wc (iU (by unfold zc;rw[h]) hd d2) hn
def oS(ha:a ρ=.ok (.i x)):zX (mOp (Zx false) a (mC (.i n))) ρ=.ok (decide (x=n)):=by unfold zX;rw[zl (z:=.b (decide (x=n))) ha rfl (AX.trans (by rw[a0s]))];rfl
def cf(ha:a ρ=.ok (.i x)):zX (mOp pGt a (mC (.i n))) ρ=.ok (decide (x>n)):=by unfold zX;rw[zl (z:=.b (decide (x>n))) ha rfl rfl];rfl
def wd(ha:a ρ=.ok x)(hb:b ρ=.ok y):XR a b ρ=.ok (x&&y):=by
 unfold XR;rw[ha,okb];cases x
 .rfl
 .rw[if_pos rfl,hb];rfl
def yg(h:c ρ=.ok x):sIf c a b ρ=if x=true then a ρ else b ρ:=by unfold sIf;rw[h,okb]
def YQ(h:m ρ=.ok x):ja m ρ=.ok (.rt x):=by unfold ja;rw[h,okb]
def Em(ha:a ρ=.ok (.i x)):zX (mOp pLt a (mC (.i n))) ρ=.ok (decide (x<n)):=by unfold zX;rw[zl (z:=.b (decide (x<n))) ha rfl rfl];rfl
def z7(h:m ρ=.ok (.b b)):zX m ρ=.ok b:=by unfold zX;rw[h];rfl
def JI(ha:a ρ=.ok x)(hb:b ρ=.ok y):mOr a b ρ=.ok (x||y):=by
 unfold mOr;rw[ha,okb];cases x
 .rw[if_neg N6,hb];rfl
 .rfl
def gw(ha:a ρ=.ok x):p7 a ρ=.ok (!x):=by unfold p7;rw[ha,okb]
def oU(ha:a ρ=.ok (.b x))(hb:b ρ=.ok (.b y)):mP a b ρ=.ok (.b (x&&y)):=by
 unfold mP;rw[ha,okb];show(Out.ok x).bind _=_;rw[okb];cases x
 .rfl
 .rw[if_pos rfl,hb];rfl
def sz5{z:Str}(h:z.length<=100000):z.length<=sizeLine:=O5 h (by decide)
def signs_at(h:m ρ=.ok (.s z)):bA m ρ=.ok (z.cps.toList.map λc=>PV.s ⟨#[c]⟩):=by unfold bA;rw[h,okb];rfl
def iV(h:ms ρ=.ok xs)(hl:xs.length<=sizeLine):sx ms ρ=.ok (.t xs):=by unfold sx;rw[h,okb,if_pos hl]
def WH(ha:a ρ=.ok false):XR a b ρ=.ok false:=by unfold XR;rw[ha,okb];rfl
def WI(h:p ρ G=.nx ρ' G')(h2:q ρ' G'=o):rh p q ρ G=o:=by unfold rh;rw[h];exact h2
def Gf(h0:XW bs ρ=some r)(h2:m r=.ok x):hP bs m ρ G=.ok (.v x) G:=by unfold hP;rw[h0];dsimp only;rw[h2]
def Hu:V6 G bs []=some []:=by cases bs<;>rfl
def Hv(h:V6 G bs ρ=some r):V6 G (false::bs) (a::ρ)=some (none::r):=by show(V6 G bs ρ).map _=_;rw[h];rfl
def Gg(hx:YG G 8 x=some y)(h:V6 G bs ρ=some r):V6 G (true::bs) (some x::ρ)=some (some y::r):=by show(YG G 8 x).bind _=_;rw[hx,h];rfl
def oV(h0:0<=i)(h1:i<xs.length):pIx (.l xs) (.i i)=.ok (xs[i.toNat]'(by omega)):=by rw[AW,ny h0,M5 (by omega)];rfl
def fb{xs:HA}{i:Int}(h0:0<=i)(h1:i<xs.length):∃y∈xs,pIx (.l (xs.map .s)) (.i i)=.ok (.s y):=
 ⟨xs[i.toNat]'(by omega),a0f _,by rw[oV h0 (by rw[t0];exact h1),a0u]⟩
def oW{xs:Ij}{i:Int}(h0:0<=i)(h1:i<xs.length):∃y∈xs,pIx (.l (xs.map .i)) (.i i)=.ok (.i y):=
 ⟨xs[i.toNat]'(by omega),a0f _,by rw[oV h0 (by rw[t0];exact h1),a0u]⟩
def any_map{κ α β:Type}[DecidableEq κ]{f:α->β}{kvs:List (κ×α)}{k:κ}:(kvs.map λp=>(p.1,f p.2)).any (λkv=>decide (kv.1=k))=kvs.any (λkv=>decide (kv.1=k)):=by rw[List.any_map];rfl
def gx{κ α β:Type}[DecidableEq κ]{f:α->β}{kvs:List (κ×α)}{k:κ}{x:α}:dput (kvs.map λp=>(p.1,f p.2)) k (f x)=(dput kvs k x).map λp=>(p.1,f p.2):=by
 unfold dput;rw[any_map];split
 .rw[S9,S9];refine a0M λp _=>?_;show(if p.1=k then(p.1,f x)else(p.1,f p.2))=((if p.1=k then(p.1,x)else p).1,f (if p.1=k then(p.1,x)else p).2);split<;>rfl
 .rw[P9];rfl
def cg{κ α β:Type}[DecidableEq κ]{f:α->β}:∀{kvs:List (κ×α)}{k:κ},zB (kvs.map λp=>(p.1,f p.2)) k=(zB kvs k).map f
 |[],_=>rfl
 | (j,u)::kvs,k=>by rw[M3,zV,zV,cg];split<;>rfl
abbrev Wy:=Str×Str×Int
abbrev Ht:=List (Key×Int)
abbrev sk(z:Str):Key:=Sum.inr z
def wP(w:Wy):PV:=.t [.s w.1,.s w.2.1,.i w.2.2]
def hD(h:Ht):List (Key×PV):=h.map λp=>(p.1,.i p.2)
def oX:zB (hD h) k=(zB h k).map .i:=cg
def En:dput (hD h) k (.i v)=hD (dput h k v):=gx
def Eo:(hD h).length=h.length:=t0 _
def rlx(u:Ht×Bool)(w:Wy):Ht×Bool:=
 match zB u.1 (sk w.1)with
 |none=>u
 |some x=>match zB u.1 (sk w.2.1)with
  |none=>(dput u.1 (sk w.2.1) (x+w.2.2),true)
  |some y=>if x+w.2.2<y then(dput u.1 (sk w.2.1) (x+w.2.2),true)else u
def Bz(h:Ht):Nat:=(h.map λp=>p.2.toNat).sum
def Sup(V:List Wy)(o:Str)(h:Ht):Prop:=∀g y,zB h g=some y->g=sk o\/∃w∈V,sk w.2.1=g/\∃x,zB h (sk w.1)=some x/\x+w.2.2<=y
structure iW(V:List Wy)(K:IB)(o:Str)(h:Ht):Prop where
 sup:Sup V o h
 nd:(h.map (·.1)).Nodup
 sub:∀k∈h.map (·.1),k∈K
 pos:∀k x,zB h k=some x->0<=x
 own:zB h (sk o)=some 0
def VC(h:Ht)(w:Wy):Prop:=∀x,zB h (sk w.1)=some x->∃y,zB h (sk w.2.1)=some y/\y<=x+w.2.2
def BA(K:IB)(h' h:Ht):Prop:=Prod.Lex (·<·) (·<·) (K.length-h'.length,Bz h') (K.length-h.length,Bz h)
def Ya{κ:Type}[DecidableEq κ]:∀{a b:List κ},a.Nodup->(∀x∈a,x∈b)->a.length<=b.length
 |[],b,_,_=>P1 _
 |x::a,b,nd,h=>by have hx:=h x L4;obtain⟨h1,h2⟩:=S8.mp nd;have:=Ya (a:=a) (b:=b.erase x) h2 λy hy=>(List.mem_erase_of_ne (show y≠x from λe=>h1 (e▸hy))).mpr (h y (L8 _ hy));rw[List.length_erase_of_mem hx]at this;have hb:0<b.length:=List.length_pos_of_mem hx;rw[I0];omega
def iW.len{V:List Wy}{K:IB}{o:Str}{h:Ht}(i:iW V K o h):h.length<=K.length:=by
 have:=Ya i.nd i.sub
 rwa [t0]at this
def oY{k:Key}{v:Int}:∀{h:Ht}{y:Int},(h.map (·.1)).Nodup->zB h k=some y->v.toNat<y.toNat->Bz (h.map λkv=>if kv.1=k then(kv.1,v)else kv)<Bz h
 |[],y,_,e,_=>by cases e
 | (j,x)::h,y,nd,e,hv=>by
  rw[zV]at e;obtain⟨n1,n2⟩:=S8.mp nd;by_cases c:j=k
  .subst c;rw[if_pos rfl]at e;cases e;have:(h.map λkv=>if kv.1=j then(kv.1,v)else kv)=h:=by
    conv=>rhs;rw[<- List.map_id h]
    refine a0M λp hp=>?_;rw[if_neg (show ¬p.1=j from λz=>n1 (T1.mpr ⟨p,hp,z⟩))];rfl
   unfold Bz;rw[M3,this,if_pos rfl,M3,M3,a1r,a1r];exact Nat.add_lt_add_right hv _
  .rw[if_neg c]at e;have:=oY n2 e hv;unfold Bz at this ⊢;rw[M3,if_neg c,M3,M3,a1r,a1r];exact Nat.add_lt_add_left this _
def Sup.put{V:List Wy}{o:Str}{h:Ht}{w:Wy}{x:Int}(i:Sup V o h)(hw:w∈V)(hm:1<=w.2.2)(e1:zB h (sk w.1)=some x)(e2:∀y,zB h (sk w.2.1)=some y->x+w.2.2<y):Sup V o (dput h (sk w.2.1) (x+w.2.2)):=by
 have ne:¬sk w.2.1=sk w.1:=λc=>by rw[<- c]at e1;have:=e2 x e1;omega
 intro g y e;rw[kX]at e;split at e
 .rename_i c;cases e;refine .inr ⟨w,hw,c,x,?_,a0h _⟩;rw[kX,if_neg ne];exact e1
 .rcases i g y e with r|⟨w',hw',eg,x',ex,le⟩
  .exact .inl r
  .refine .inr ⟨w',hw',eg,?_⟩;rw[kX];split
   .rename_i c;rw[<- c]at ex;have:=e2 x' ex;exact⟨_,rfl,by omega⟩
   .exact⟨x',ex,le⟩
def xN{V:List Wy}{K:IB}{o:Str}{u:Ht×Bool}{w:Wy}(i:iW V K o u.1)(hv:w∈V)(hg:sk w.2.1∈K)(hm:1<=w.2.2):iW V K o (rlx u w).1/\((rlx u w=u/\VC u.1 w)\/((rlx u w).2=true/\BA K (rlx u w).1 u.1)):=by
 unfold rlx;cases e1:zB u.1 (sk w.1)with
 |none=>exact⟨i,.inl ⟨rfl,λx e=>by rw[e1]at e;cases e⟩⟩
 |some x=>
  have x0:=i.pos _ _ e1;dsimp only;cases e2:zB u.1 (sk w.2.1)with
  |none=>
   have i2:iW V K o (dput u.1 (sk w.2.1) (x+w.2.2)):=by
    refine⟨i.sup.put hv hm e1 (λy e=>by rw[e2]at e;cases e),X2 i.nd,λk hk=>?_,λk y e=>?_,?_⟩
    .rw[Jn,e2]at hk;rcases S4.mp hk with hk|hk
     .exact i.sub k hk
     .rw[O0.mp hk];exact hg
    .rw[kX]at e;split at e
     .cases e;omega
     .exact i.pos k y e
    .rw[kX];split
     .rename_i z;rw[z]at e2;rw[i.own]at e2;cases e2
     .exact i.own
   refine⟨i2,.inr ⟨rfl,.left _ _ ?_⟩⟩;have hl:=i2.len;have:(dput u.1 (sk w.2.1) (x+w.2.2)).length=u.1.length+1:=by have:=R8 List.length (Jn (a:=u.1) (k:=sk w.2.1) (v:=x+w.2.2));rw[e2,t0]at this;rw[this];simp
   dsimp only at hl ⊢;omega
  |some y=>
   dsimp only;by_cases c:x+w.2.2<y
   .rw[if_pos c];have hk:(zB u.1 (sk w.2.1)).isSome=true:=by rw[e2];rfl
    have i2:iW V K o (dput u.1 (sk w.2.1) (x+w.2.2)):=by
     refine⟨i.sup.put hv hm e1 (λz e=>by rw[e2]at e;cases e;exact c),X2 i.nd,λk hk2=>?_,λk z e=>?_,?_⟩
     .rw[Jn,if_pos hk]at hk2;exact i.sub k hk2
     .rw[kX]at e;split at e
      .cases e;omega
      .exact i.pos k z e
     .rw[kX];split
      .rename_i z;rw[z,i.own]at e2;cases e2;omega
      .exact i.own
    refine⟨i2,.inr ⟨rfl,?_⟩⟩;have e3:dput u.1 (sk w.2.1) (x+w.2.2)=u.1.map λkv=>if kv.1=sk w.2.1 then(kv.1,x+w.2.2)else kv:=by unfold dput;rw[kW,if_pos hk]
    have hs:=oY (v:=x+w.2.2) i.nd e2 (by omega);unfold BA;dsimp only;rw[e3,t0];exact .right _ hs
   .rw[if_neg c];exact⟨i,.inl ⟨rfl,λz e=>by rw[e1]at e;cases e;exact⟨y,e2,by omega⟩⟩⟩
def iX(h1:BA K a b)(h2:BA K b c):BA K a c:=by unfold BA at *;rw[Prod.lex_def]at *;dsimp only at *;omega
def gz{V:List Wy}{K:IB}{o:Str}:∀{W:List Wy}{u:Ht×Bool},iW V K o u.1->(∀w∈W,w∈V/\sk w.2.1∈K/\1<=w.2.2)->iW V K o (W.foldl rlx u).1/\((W.foldl rlx u=u/\∀w∈W,VC u.1 w)\/((W.foldl rlx u).2=true/\BA K (W.foldl rlx u).1 u.1))
 |[],u,i,_=>⟨i,.inl ⟨rfl,λw h=>by cases h⟩⟩
 |w::W,u,i,hW=>by
  obtain⟨v,g,m⟩:=hW w L4;obtain⟨i1,h1⟩:=xN (u:=u) (w:=w) i v g m;obtain⟨i2,h2⟩:=gz (W:=W) (u:=rlx u w) i1 λw' h=>hW w' (L8 _ h);refine⟨i2,?_⟩;rw[a0o];rcases h1 with⟨e1,c1⟩|⟨t1,l1⟩
  .rw[e1]at h2 ⊢;rcases h2 with⟨e2,c2⟩|h2
   .refine .inl ⟨e2,λw' h=>?_⟩;rcases N4.mp h with rfl|h
    .exact c1
    .exact c2 w' h
   .exact .inr h2
  .rcases h2 with⟨e2,c2⟩|⟨t2,l2⟩
   .rw[e2];exact .inr ⟨t1,l1⟩
   .exact .inr ⟨t2,iX l2 l1⟩
def BB(r:IK):Prop:=∃a b c d,r=[a,b,c,d]
abbrev hSt(o:Str)(W:List Wy)(h:Ht)(b:Bool)(r:IK):Sto:=[some (.s o),some (.l (W.map wP)),some (.d (hD h)),some (.b b)]++r
def WJ(ha:a ρ=.ok (.s z))(hi:zc i ρ=.ok (.d (hD h))):zX (mOp (pIn n) a (zc i)) ρ=.ok (xor n (zB h (sk z)).isSome):=by refine z7 (zl ha hi ?_);show Out.ok (PV.b (xor n (zB (hD h) (sk z)).isSome))=_;rw[oX,a0W]
def WK(ha:a ρ=.ok (.s z))(hi:zc i ρ=.ok (.d (hD h)))(hx:zB h (sk z)=some x):mOp pIx (zc i) a ρ=.ok (.i x):=by refine zl hi ha ?_;show kN (zB (hD h) (sk z))=_;rw[oX,hx];rfl
def Ep(ha:a ρ=.ok true):mOr a b ρ=.ok true:=by unfold mOr;rw[ha,okb];rfl
def BC{o:Str}{W:List Wy}{h:Ht}{b:Bool}{w:Wy}{a7:Iu}(hl:h.length<100000):∃a7',ql [some (.s o),some (.l (W.map wP)),some (.d (hD h)),some (.b b),some (.s w.1),some (.s w.2.1),some (.i w.2.2),a7]=.ok (.nx [some (.s o),some (.l (W.map wP)),some (.d (hD (rlx (h,b) w).1)),some (.b (rlx (h,b) w).2),some (.s w.1),some (.s w.2.1),some (.i w.2.2),a7']):=by
 have e1:=yg (ρ:=[some (.s o),some (.l (W.map wP)),some (.d (hD h)),some (.b b),some (.s w.1),some (.s w.2.1),some (.i w.2.2),a7]) (a:=zQ (yr 7 (mOp zZ (mOp pIx (zc 2) (zc 4)) (zc 6))) (sIf (mOr (zX (mOp (pIn true) (zc 5) (zc 2))) (zX (mOp pLt (zc 7) (mOp pIx (zc 2) (zc 5))))) (zQ (AL 2 (zc 5) (zc 7)) (yr 3 (mC (.b true)))) z5)) (b:=z5) (WJ (n:=false) (a:=zc 4) (i:=2) rfl rfl);unfold rlx;dsimp only;cases c1:zB h (sk w.1)with
 |none=>rw[c1]at e1;exact⟨a7,e1⟩
 |some x=>
  rw[c1]at e1;have put:∀{ρ:Sto},ρ=[some (.s o),some (.l (W.map wP)),some (.d (hD h)),some (.b b),some (.s w.1),some (.s w.2.1),some (.i w.2.2),some (.i (x+w.2.2))]->zQ (AL 2 (zc 5) (zc 7)) (yr 3 (mC (.b true))) ρ=.ok (.nx [some (.s o),some (.l (W.map wP)),some (.d (hD (dput h (sk w.2.1) (x+w.2.2)))),some (.b true),some (.s w.1),some (.s w.2.1),some (.i w.2.2),some (.i (x+w.2.2))]):=λ{ρ} hρ=>by subst hρ;refine zd ⟨[some (.s o),some (.l (W.map wP)),some (.d (hD (dput h (sk w.2.1) (x+w.2.2)))),some (.b true),some (.s w.1),some (.s w.2.1),some (.i w.2.2),some (.i (x+w.2.2))].set 3 (some (.b b)),?_,rfl⟩;show(if(hD h).length<sizeLine then Out.ok (Fw.nx [some (.s o),some (.l (W.map wP)),some (.d (dput (hD h) (sk w.2.1) (.i (x+w.2.2)))),some (.b b),some (.s w.1),some (.s w.2.1),some (.i w.2.2),some (.i (x+w.2.2))])else .wall)=_;rw[if_pos (by rw[Eo];exact N5 hl (by decide)),En];rfl
  have s7:yr 7 (mOp zZ (mOp pIx (zc 2) (zc 4)) (zc 6)) [some (.s o),some (.l (W.map wP)),some (.d (hD h)),some (.b b),some (.s w.1),some (.s w.2.1),some (.i w.2.2),a7]=.ok (.nx [some (.s o),some (.l (W.map wP)),some (.d (hD h)),some (.b b),some (.s w.1),some (.s w.2.1),some (.i w.2.2),some (.i (x+w.2.2))]):=zE (zl (WK rfl rfl c1) rfl rfl);refine⟨some (.i (x+w.2.2)),e1.trans ?_⟩;show zQ _ _ _=_;refine zd ⟨_,s7,?_⟩;cases c2:zB h (sk w.2.1)with
  |none=>refine(yg (Ep ((WJ (n:=true) (a:=zc 5) (i:=2) rfl rfl).trans (by rw[c2];rfl)))).trans ?_;exact put rfl
  |some y=>
   dsimp only;have t:=yg (ρ:=[some (.s o),some (.l (W.map wP)),some (.d (hD h)),some (.b b),some (.s w.1),some (.s w.2.1),some (.i w.2.2),some (.i (x+w.2.2))]) (a:=zQ (AL 2 (zc 5) (zc 7)) (yr 3 (mC (.b true)))) (b:=z5) (JI (x:=false) ((WJ (n:=true) (a:=zc 5) (i:=2) rfl rfl).trans (by rw[c2];rfl)) (z7 (m:=mOp pLt (zc 7) (mOp pIx (zc 2) (zc 5))) (b:=decide (x+w.2.2<y)) (zl rfl (WK rfl rfl c2) rfl)));refine t.trans ?_;by_cases c:x+w.2.2<y
   .rw[if_pos c,M6 c];exact put rfl
   .rw[if_neg c,M4 c];rfl
def gA{K:IB}{o:Str}{W:List Wy}(hK:K.length<=1000)(hW:∀w∈W,sk w.2.1∈K/\1<=w.2.2):∀{V:List Wy}{u:Ht×Bool}{r:IK},(∀w∈V,w∈W)->iW W K o u.1->BB r->∃r',BB r'/\YU Zc ql (V.map wP) (hSt o W u.1 u.2 r)=.ok (.nx (hSt o W (V.foldl rlx u).1 (V.foldl rlx u).2 r'))
 |[],u,r,_,_,hr=>⟨r,hr,rfl⟩
 |w::V,u,r,hV,i,hr=>by obtain⟨a4,a5,a6,a7,rfl⟩:=hr;obtain⟨a7',e⟩:=BC (o:=o) (W:=W) (h:=u.1) (b:=u.2) (w:=w) (a7:=a7) (a0S (O5 i.len hK) (by decide));obtain⟨g,m⟩:=hW w (hV w L4);obtain⟨i1,_⟩:=xN (u:=u) (w:=w) i (hV w L4) g m;obtain⟨r',hr',e2⟩:=gA hK hW (V:=V) (u:=rlx u w) (r:=[some (.s w.1),some (.s w.2.1),some (.i w.2.2),a7']) (λw' h=>hV w' (L8 _ h)) i1 ⟨_,_,_,_,rfl⟩;refine⟨r',hr',?_⟩;rw[a0o,<- e2];show(ql [some (.s o),some (.l (W.map wP)),some (.d (hD u.1)),some (.b u.2),some (.s w.1),some (.s w.2.1),some (.i w.2.2),a7]).bind _=_;rw[e];rfl
def xO(hK:K.length<=1000)(hW:∀w∈W,sk w.2.1∈K/\1<=w.2.2)(h:Ht)(i:iW W K o h)(r:IK)(hr:BB r):∃n h' r',iW W K o h'/\(∀w∈W,VC h' w)/\qg qo yh n (hSt o W h true r)=.ok (.nx (hSt o W h' false r')):=by
 obtain⟨r1,hr1,e1⟩:=gA (o:=o) hK hW (V:=W) (u:=(h,false)) (λw h=>h) i hr;obtain⟨i1,c1⟩:=gz (W:=W) (u:=(h,false)) i λw h=>⟨h,hW w h⟩;have eb:yh (hSt o W h true r)=.ok (.nx (hSt o W (W.foldl rlx (h,false)).1 (W.foldl rlx (h,false)).2 r1)):=zd ⟨hSt o W h false r,rfl,qU (ya rfl) e1⟩;have one:∀{n o'},qg qo yh n (hSt o W (W.foldl rlx (h,false)).1 (W.foldl rlx (h,false)).2 r1)=o'->qg qo yh (n+1) (hSt o W h true r)=o':=λ{n o'} e=>by show(yh (hSt o W h true r)).bind _=_;rw[eb];exact e
 rcases c1 with⟨e2,cl⟩|⟨t2,less⟩
 .refine⟨2,h,r1,i,cl,one ?_⟩;rw[e2];rfl
 .obtain⟨n,h',r',i',cl,e⟩:=xO hK hW (W.foldl rlx (h,false)).1 i1 r1 hr1;refine⟨n+1,h',r',i',cl,one ?_⟩;rw[t2];exact e
termination_by (K.length-h.length,Bz h)
decreasing_by exact less
def kn(o:Str)(W:List Wy)(h:Ht):Prop:=iW W (sk o::W.map λw=>sk w.2.1) o h/\∀w∈W,VC h w
def X8(hl:W.length<=100)(hm:∀w∈W,1<=w.2.2):∃h,kn o W h/\yd [.s o,.l (W.map wP)]=.ok (.d (hD h)):=by
 have i0:iW W (sk o::W.map λw=>sk w.2.1) o [(sk o,0)]:=by
  refine⟨λg y e=>?_,S8.mpr ⟨by simp,a2u⟩,λk hk=>?_,λk x e=>?_,?_⟩
  .rw[zV]at e;split at e
   .rename_i c;exact .inl c.symm
   .cases e
  .rw[O0.mp hk];exact L4
  .rw[zV]at e;split at e
   .cases e;exact a0h _
   .cases e
  .rw[zV,if_pos rfl]
 obtain⟨n,h',r',i',cl,e⟩:=xO (o:=o) (W:=W) (K:=sk o::W.map λw=>sk w.2.1) (by rw[I0,t0];omega) (λw hw=>⟨L8 _ (T1.mpr ⟨w,hw,rfl⟩),hm w hw⟩) [(sk o,0)] i0 [none,none,none,none] ⟨_,_,_,_,rfl⟩;refine⟨h',⟨i',cl⟩,zJ ?_⟩;exact zd ⟨_,rfl,zd ⟨hSt o W [(sk o,0)] true [none,none,none,none],rfl,zd ⟨_,bt e (by intro z;cases z),rfl⟩⟩⟩
abbrev signs:Str:="abcdefghijklmnopqrstuvwxyz0123456789"
def WL:signs.length=36:=by decide +kernel
def sgn(r:Int):Str:=⟨#[(signs.cps.toList[r.toNat]?).getD 0]⟩
def Er(h0:0<=r)(h1:r<36):pIx (.s signs) (.i r)=.ok (.s (sgn r)):=by
 unfold pIx;have hs:signs.length<=sizeLine:=by rw[WL];decide
 simp only[hs,if_true];have hl:r.toNat<signs.cps.toList.length:=by have:=WL;unfold Str.length at this;simp;omega
 rw[ny h0];unfold sgn;rw[M5 hl];rfl
def BD:∀a:Fin 36,∀b:Fin 36,sgn (a.val:Int)=sgn (b.val:Int)->a=b:=by decide +kernel
def BE(r0:0<=r)(r1:r<36)(s0:0<=s)(s1:s<36)(h:sgn r=sgn s):r=s:=by
 have:=BD ⟨r.toNat,by omega⟩ ⟨s.toNat,by omega⟩ (by
  show sgn (r.toNat:Int)=sgn (s.toNat:Int);rw[a1K r0,a1K s0];exact h)
 have:=R8 Fin.val this;simp only at this;omega
def str_inj{a b a' b':Str}(hl:a.length=a'.length)(h:a++b=a'++b'):a=a'/\b=b':=by have h1:a.cps++b.cps=a'.cps++b'.cps:=R8 Str.cps h;have:=Array.append_inj h1 hl;obtain⟨x⟩:=a;obtain⟨y⟩:=b;obtain⟨x'⟩:=a';obtain⟨y'⟩:=b';obtain⟨h1,h2⟩:=this;exact⟨R8 Str.mk h1,R8 Str.mk h2⟩
def Sgs(z:Str):Prop:=∀c∈z.cps.toList,c∈signs.cps.toList
def Sgs.app(ha:Sgs a)(hb:Sgs b):Sgs (a++b):=λc hc=>by have e:(a++b).cps.toList=a.cps.toList++b.cps.toList:=Array.toList_append;rw[e]at hc;exact(S4.mp hc).elim (ha c) (hb c)
def Sgs.sgn{r:Int}(h0:0<=r)(h1:r<36):Sgs (sgn r):=λc hc=>by
 have hl:r.toNat<signs.cps.toList.length:=by have:=WL;unfold Str.length at this;simp;omega
 have e:(K25.sgn r).cps.toList=[signs.cps.toList[r.toNat]'hl]:=by show[(signs.cps.toList[r.toNat]?).getD 0]=_;rw[M5 hl];rfl
 rw[e]at hc;rw[O0.mp hc];exact a0f hl
def Nm(z:Str):Prop:=(1<=z.length/\z.length<=12)/\Sgs z
def nodup_range{α:Type}{f:Nat->α}(h:∀j k,j<n->k<n->f j=f k->j=k):((List.range n).map f).Nodup:=by rw[a1U,List.pairwise_map];refine List.Pairwise.imp_of_mem ?_ (a1U.mp List.nodup_range);intro a b ha hb hne e;exact hne (h a b (a0l.mp ha) (a0l.mp hb) e)
def Gh(ha:a ρ=.ok (.i n)):Ja a ρ=.ok (some n):=by unfold Ja;rw[ha];rfl
def WOk(N:HA)(W:List Wy):Prop:=∀w∈W,w.1∈N/\w.2.1∈N/\1<=w.2.2/\w.2.2<=1000000000
def Qd{α:Type}{f:α->PV}{xs:List α}:W6 [.l (xs.map f)]=.ok (.i (xs.length:Int)):=by show Out.ok (PV.i ((xs.map f).length:Int))=_;rw[t0]
def WM{N:HA}{s:Int}(h:0<N.length):∃z∈N,pIx (.l (N.map .s)) (.i (s % (N.length:Int)))=.ok (.s z):=
 fb (O8 _ (by omega)) (O3 _ (by omega))
def oZ{fr:Bool}{n:Nat}{ms:MS}{xs:Ib}{ρ:Sto}(hf:fr=false)(h:ms (xs.map some++List.replicate (n-xs.length) none)=.ok (.nx ρ)):wA fr n ms xs=.ok .n:=by subst hf;unfold wA;rw[h];rfl
def y4(h:m ρ=.ok x):v8 m ρ=.ok (.nx ρ):=by unfold v8;rw[h];rfl
def d9{x:PV}{n:Int}{k:Nat}(h:W6 [x]=.ok (.i (k:Int)))(hk:(k:Int)<=n):yq [x,.i n]=.ok .n:=by refine oZ rfl ((yg (x:=false) (z7 (zl (zv (xs:=[x]) rfl h) rfl ?_))).trans (show _=Out.ok (Fw.nx [some x,some (.i n)])from rfl));show Out.ok (PV.b (decide ((k:Int)>n)))=_;rw[M4 (by omega)]
def o6(h:Nm z):yQ [.s z]=.ok (.s z):=by
 obtain⟨⟨l1,l2⟩,hs⟩:=h;have hl:W6 [.s z]=.ok (.i z.length):=DE (sz5 (by omega));have loop:∀{cs:HF}{o:Iu},(∀c∈cs,c∈signs.cps.toList)->∃o',YU Ze qp (cs.map λc=>PV.s ⟨#[c]⟩) [some (.s z),o]=.ok (.nx [some (.s z),o']):=by
  intro cs
  induction cs with
  |nil=>intro o _;exact⟨o,rfl⟩
  |cons c cs ih=>
   intro o hc;obtain⟨o',e⟩:=ih (o:=some (.s ⟨#[c]⟩)) λx hx=>hc x (L8 _ hx);refine⟨o',?_⟩;have eb:qp [some (.s z),some (.s ⟨#[c]⟩)]=.ok (.nx [some (.s z),some (.s ⟨#[c]⟩)]):=by refine(yg (x:=false) (z7 (zl (x:=.s ⟨#[c]⟩) (y:=.s signs) rfl rfl ?_))).trans rfl;show Out.ok (PV.b (xor true (!(Builtin.Str.occurrences signs ⟨#[c]⟩ 0 signs.length 1).isEmpty)))=_;rw[StrLaws.found_one,M6 (hc c L4)];rfl
   show(qp [some (.s z),some (.s ⟨#[c]⟩)]).bind _=_;rw[eb];exact e
 obtain⟨o',e⟩:=loop (cs:=z.cps.toList) (o:=none) hs;refine zJ (zd ⟨_,(yg (JI (x:=false) (y:=false) ((Em (x:=(z.length:Int)) (zv (xs:=[.s z]) rfl hl)).trans (by rw[M4 (by omega)])) ((cf (x:=(z.length:Int)) (zv (xs:=[.s z]) rfl hl)).trans (by rw[M4 (by omega)])))).trans (show _=Out.ok (Fw.nx [some (.s z),none])from rfl),zd ⟨_,qU (signs_at rfl) e,rfl⟩⟩)
def X9(P:HA):List (Key×PV):=P.map λz=>(sk z,.b true)
def gB(h:z∉P):zB (X9 P) (sk z)=none:=by
 cases e:zB (X9 P) (sk z)with
 |none=>rfl
 |some x=>have:=YI e;obtain⟨y,hy,e2⟩:=T1.mp this;cases e2;exact absurd hy h
def o7{N:HA}(nd:N.Nodup)(hN:∀z∈N,Nm z)(hl:N.length<=12):yR [.l (N.map .s)]=.ok .n:=by
 have loop:∀{R P:HA}{o:Iu},P++R=N->∃P' o',YU Zg qr (R.map .s) [some (.l (N.map .s)),some (.d (X9 P)),o]=.ok (.nx [some (.l (N.map .s)),some (.d (X9 P')),o']):=by
  intro R
  induction R with
  |nil=>intro P o _;exact⟨P,o,rfl⟩
  |cons z R ih=>
   intro P o e;obtain⟨P',o',e'⟩:=ih (P:=P++[z]) (o:=some (.s z)) (by rw[T6];exact e);refine⟨P',o',?_⟩;have hz:z∉P:=λh=>by rw[<- e]at nd;exact(a0Y.mp nd).2.2 z h z L4 rfl
   have hm:z∈N:=by rw[<- e];exact O2 _ L4
   have hp:(X9 P).length<=12:=by have:=R8 List.length e;rw[N8]at this;unfold X9;rw[t0];omega
   have en:zF [.s z,.d (X9 P)]=.ok (.s z):=by refine zJ (zd ⟨_,y4 (zv (xs:=[.s z]) rfl (o6 (hN z hm))),zd ⟨_,(yg (x:=false) (z7 (zl (x:=.s z) (y:=.d (X9 P)) rfl rfl ?_))).trans (show _=Out.ok (Fw.nx [some (.s z),some (.d (X9 P))])from rfl),rfl⟩⟩);show Out.ok (PV.b (xor false (zB (X9 P) (sk z)).isSome))=_;rw[gB hz];rfl
   have ed:dput (X9 P) (sk z) (.b true)=X9 (P++[z]):=by unfold dput;rw[kW,gB hz];unfold X9;rw[P9];rfl
   have eb:qr [some (.l (N.map .s)),some (.d (X9 P)),some (.s z)]=.ok (.nx [some (.l (N.map .s)),some (.d (X9 (P++[z]))),some (.s z)]):=by refine zd ⟨_,y4 (zv (xs:=[.s z,.d (X9 P)]) rfl en),?_⟩;show(if(X9 P).length<sizeLine then Out.ok (Fw.nx [some (.l (N.map .s)),some (.d (dput (X9 P) (sk z) (.b true))),some (.s z)])else .wall)=_;rw[if_pos (a0S hp (by decide)),ed]
   show(qr [some (.l (N.map .s)),some (.d (X9 P)),some (.s z)]).bind _=_;rw[eb];exact e'
 obtain⟨P',o',e⟩:=loop (R:=N) (P:=[]) (o:=none) rfl;exact oZ rfl (zd ⟨[some (.l (N.map .s)),some (.d (X9 [])),none],rfl,qU (ya rfl) e⟩)
def Es{z:Str}:∀{N:HA},inP (.str z) (N.map .s)=some (decide (z∈N))
 |[]=>by rw[M4 (by simp)];rfl
 |y::N=>by
  show(match some (V.str y),inP (.str z) (N.map .s)with|some u,some b=>some (eqV u (.str z)||b)|_,_=>none)=_;rw[Es (N:=N)];show some ((y==z)||decide (z∈N))=_;congr 1;by_cases c:y=z
  .subst c;rw[a0I,M6 L4];rfl
  .rw[P8.mpr c,Bool.false_or];by_cases h:z∈N
   .rw[M6 h,M6 (L8 _ h)]
   .rw[M4 h,M4 λq=>(N4.mp q).elim (λe=>c e.symm) h]
def tZ{z:Str}{N:HA}{n:Bool}:pIn n (.s z) (.l (N.map .s))=.ok (.b (xor n (decide (z∈N)))):=by show kN ((inP (.str z) (N.map .s)).map λb=>PV.b (xor n b))=_;rw[Es];rfl
def jJ{z:Str}{N:HA}(h:z∈N):z1 [.s z,.l (N.map .s)]=.ok .n:=
 oZ rfl ((yg (x:=false) (z7 (zl (x:=.s z) (y:=.l (N.map .s)) rfl rfl (tZ.trans (by rw[M6 h];rfl))))).trans (show _=Out.ok (Fw.nx [some (.s z),some (.l (N.map .s))])from rfl))
def o8(h1:1<=m)(h2:m<=1000000000):zC [.i m,.i 1]=.ok (.i m):=by refine zJ (zd ⟨_,(yg (JI (x:=false) (y:=false) (z7 (zl (x:=.i m) (y:=.i 1) rfl rfl ?_)) ((cf (x:=m) rfl).trans (by rw[M4 (by omega)])))).trans (show _=Out.ok (Fw.nx [some (.i m),some (.i 1)])from rfl),rfl⟩);show Out.ok (PV.b (decide (m<1)))=_;rw[M4 (by omega)]
def t4(h:WOk N W):qB [.l (N.map .s),.l (W.map wP)]=.ok .n:=by
 have loop:∀{V:List Wy}{a b c:Iu},(∀w∈V,w∈W)->∃a' b' c',YU Y_ jg (V.map wP) [some (.l (N.map .s)),some (.l (W.map wP)),a,b,c]=.ok (.nx [some (.l (N.map .s)),some (.l (W.map wP)),a',b',c']):=by
  intro V
  induction V with
  |nil=>intro a b c _;exact⟨a,b,c,rfl⟩
  |cons w V ih=>
   intro a b c hV;obtain⟨h1,h2,h3,h4⟩:=h w (hV w L4);obtain⟨a',b',c',e⟩:=ih (a:=some (.s w.1)) (b:=some (.s w.2.1)) (c:=some (.i w.2.2)) λx hx=>hV x (L8 _ hx);refine⟨a',b',c',?_⟩;have eb:jg [some (.l (N.map .s)),some (.l (W.map wP)),some (.s w.1),some (.s w.2.1),some (.i w.2.2)]=.ok (.nx [some (.l (N.map .s)),some (.l (W.map wP)),some (.s w.1),some (.s w.2.1),some (.i w.2.2)]):=
    zd ⟨_,y4 (zv (xs:=[.s w.1,.l (N.map .s)]) rfl (jJ h1)),zd ⟨_,y4 (zv (xs:=[.s w.2.1,.l (N.map .s)]) rfl (jJ h2)),y4 (zv (xs:=[.i w.2.2,.i 1]) rfl (o8 h3 h4))⟩⟩
   show(jg [some (.l (N.map .s)),some (.l (W.map wP)),some (.s w.1),some (.s w.2.1),some (.i w.2.2)]).bind _=_;rw[eb];exact e
 obtain⟨a',b',c',e⟩:=loop (V:=W) (a:=none) (b:=none) (c:=none) λw h=>h;exact oZ rfl (qU (ya rfl) e)
def ak(N:HA)(F:Str->Ht):List (Key×PV):=N.map λz=>(sk z,.d (hD (F z)))
def roP(N:HA)(W:List Wy)(F:Str->Ht):PV:=.o 11 [("places",.l (N.map .s)),("ways",.l (W.map wP)),("lengths",.d (ak N F))]
def gC:∀{acc:Ic},((acc++es).map (·.1)).Nodup->es.foldl (λacc kv=>dput acc kv.1 kv.2) acc=acc++es:=by
 induction es with
 |nil=>intro acc _;rw[P0];rfl
 |cons e es ih=>
  intro acc nd;have hn:zB acc e.1=none:=by
   cases h:zB acc e.1 with
   |none=>rfl
   |some x=>have hm:e.1∈acc.map (·.1):=T1.mpr ⟨_,YI h,rfl⟩;rw[P9,M3]at nd;exact absurd rfl ((a0Y.mp nd).2.2 e.1 hm e.1 L4)
  have ed:dput acc e.1 e.2=acc++[e]:=by unfold dput;rw[kW,hn];rfl
  rw[a0o,ed,ih (by rw[T6];exact nd),T6];rfl
def t5(nd:N.Nodup):((ak N F).map (·.1)).Nodup:=by unfold ak;rw[S9];exact a1X _ (λa b h e=>h (a0n e)) nd
def o9(h:o∈N):zB (ak N F) (sk o)=some (.d (hD (F o))):=by
 induction N with
 |nil=>cases h
 |cons z N ih=>
  unfold ak;rw[M3,zV];by_cases c:sk z=sk o
  .rw[if_pos c];rw[a0n c]
  .rw[if_neg c];exact ih ((N4.mp h).resolve_left λe=>c (by rw[e]))
def gD{F:Str->Ht}:∀{N:HA},rg (N.map λz=>.t [.s z,.d (hD (F z))])=some (ak N F)
 |[]=>rfl
 |z::N=>by show(rg (N.map λz=>.t [.s z,.d (hD (F z))])).map ((sk z,PV.d (hD (F z)))::·)=_;rw[gD (N:=N)];rfl
def o_(h:m (some (.o 11 fs)::r)=.ok v)(hl:fs.length<1000):dr 0 [11] f m (some (.o 11 fs)::r)=.ok (.nx (some (.o 11 (p8 fs f v))::r)):=by unfold dr;rw[h];show(if 11∈[11]/\fs.length<1000 then Out.ok (Fw.nx (some (PV.o 11 (p8 fs f v))::r))else .wall)=_;rw[if_pos ⟨L4,hl⟩]
structure ROk(N:HA)(W:List Wy):Prop where
 len:N.length<=12
 nd:N.Nodup
 nm:∀z∈N,Nm z
 wl:W.length<=60
 ok:WOk N W
def d_(R:ROk N W):∃F:Str->Ht,∀z,kn z W (F z)/\yd [.s z,.l (W.map wP)]=.ok (.d (hD (F z))):=
 ⟨λz=>Classical.choose (X8 (o:=z) (W:=W) (by have:=R.wl;omega) λw hw=>(R.ok w hw).2.2.1),λz=>S6 (X8 (o:=z) (W:=W) (by have:=R.wl;omega) λw hw=>(R.ok w hw).2.2.1)⟩
def BF(R:ROk N W)(hF:∀z,yd [.s z,.l (W.map wP)]=.ok (.d (hD (F z)))):yZ [.l (N.map .s),.l (W.map wP)]=.ok (roP N W F):=by
 have hl:=R.len;have hw:=R.wl;have ec:lcP Z3 Z4 Z5 (N.map .s) [none,some (.l (W.map wP))] []=.ok (.l (N.map λz=>.t [.s z,.d (hD (F z))])):=by refine ZI PV.s (λz=>.t [.s z,.d (hD (F z))]) (λρ=>∃o,ρ=[o,some (.l (W.map wP))]) N [none,some (.l (W.map wP))] ⟨none,rfl⟩ (λz hz ρ ⟨o,ho⟩=>?_) (by omega);subst ho;exact⟨_,rfl,⟨_,rfl⟩,iV (zy rfl (zy (zv (xs:=[.s z,.l (W.map wP)]) rfl (hF z)) rfl)) (P4 rfl)⟩
 have ed:Kz [.l (N.map λz=>.t [.s z,.d (hD (F z))])]=.ok (.d (ak N F)):=by show kN ((rg (N.map λz=>.t [.s z,.d (hD (F z))])).map λes=>PV.d (V4 es))=_;rw[gD];show Out.ok (PV.d (V4 (ak N F)))=_;unfold V4;rw[gC (acc:=[]) (by rw[a0B];exact t5 R.nd)];rfl
 have e:vh [some (.o 11 []),some (.l (N.map .s)),some (.l (W.map wP))]=.ok (.nx [some (roP N W F),some (.l (N.map .s)),some (.l (W.map wP))]):=by refine zd ⟨_,y4 (zv (xs:=[.l (N.map .s),.i 12]) rfl (d9 Qd (by omega))),zd ⟨_,y4 (zv (xs:=[.l (W.map wP),.i 60]) rfl (d9 Qd (by omega))),zd ⟨_,y4 (zv (xs:=[.l (N.map .s)]) rfl (o7 R.nd R.nm hl)),zd ⟨_,y4 (zv (xs:=[.l (N.map .s),.l (W.map wP)]) rfl (t4 R.ok)),zd ⟨_,o_ (v:=.l (N.map .s)) rfl (by decide),zd ⟨_,o_ (v:=.l (W.map wP)) rfl (P4 rfl),(o_ (v:=.d (ak N F)) (zv (zy (W_ (ya rfl) ec) rfl) ed) (P4 rfl)).trans ?_⟩⟩⟩⟩⟩⟩;rw[UC,VZ (by decide +kernel),UC,VZ (by decide +kernel),VZ (by decide +kernel),UC];rfl
 show(match vh [some (.o 11 []),some (.l (N.map .s)),some (.l (W.map wP))]with | .ok (.nx ρ)=>(match ρ[0]? with|some (some x)=>Out.ok x|_=>.wall) | .ok (.rt _)=>.wall | .ok (.bk _)=>.wall | .ok (.ct _)=>.wall | .exc c fs=>.exc c fs | .wall=>.wall)=_;rw[e];rfl
def eh(h:m ρ=.ok (roP N W F)):Q_ [11] "places" m ρ=.ok (.l (N.map .s))/\Q_ [11] "lengths" m ρ=.ok (.d (ak N F)):=by
 constructor
 .unfold Q_;rw[h,okb];show(if 11∈[11]then kN (List.lookup ("places":Str) [("places",PV.l (N.map .s)),("ways",.l (W.map wP)),("lengths",.d (ak N F))])else .wall)=_;rw[if_pos L4,VY];rfl
 .unfold Q_;rw[h,okb];show(if 11∈[11]then kN (List.lookup ("lengths":Str) [("places",PV.l (N.map .s)),("ways",.l (W.map wP)),("lengths",.d (ak N F))])else .wall)=_;rw[if_pos L4,yJ (by decide +kernel),yJ (by decide +kernel),VY];rfl
def t6(h:o∈N):zI [roP N W F,.s o]=.ok (.d (hD (F o))):=by
 have g:=eh (m:=zc 0) (ρ:=[some (roP N W F),some (.s o)]) (N:=N) (W:=W) (F:=F) rfl;have ei:pIx (.d (ak N F)) (.s o)=.ok (.d (hD (F o))):=by show kN (zB (ak N F) (sk o))=_;rw[o9 h];rfl
 exact zJ (zd ⟨_,y4 (zv (xs:=[.s o,.l (N.map .s)]) (zy rfl (zy g.1 rfl)) (jJ h)),YQ (zv (zy (zl g.2 rfl ei) rfl) rfl)⟩)
def BG(ha:a ρ=.ok (roP N W F))(hm:ms ρ=.ok [.s o])(h:o∈N):kO [(11,zI)] "heights" a ms ρ=.ok (.d (hD (F o))):=by unfold kO;rw[ha,okb];show(if(List.lookup ("heights":Str) [("places",PV.l (N.map .s)),("ways",.l (W.map wP)),("lengths",.d (ak N F))]).isSome=true then Out.wall else(ms ρ).bind λxs=>zI (roP N W F::xs))=_;rw[yJ (by decide +kernel),yJ (by decide +kernel),yJ (by decide +kernel),if_neg (by decide),hm,okb];exact t6 h
def kn.pb(g:kn o W h)(e:zB h (sk z)=some y)(hz:z≠o):∃w∈W,w.2.1=z/\∃x,zB h (sk w.1)=some x/\x+w.2.2=y:=by
 rcases g.1.sup _ _ e with c|⟨w,hw,eg,x,ex,le⟩
 .exact absurd (a0n c) hz
 .have eg:=a0n eg;obtain⟨y',ey,le'⟩:=g.2 w hw x ex;rw[eg,e]at ey;cases ey;exact⟨w,hw,eg,x,ex,by omega⟩
def WN(ha:a ρ=.ok (.s x))(hb:b ρ=.ok (.s y)):zX (mOp (Zx n) a b) ρ=.ok (xor n (decide (x=y))):=z7 (zl ha hb FO)
def BH(ha:a ρ=.ok (.i x))(hb:b ρ=.ok (.i y)):zX (mOp (Zx false) a b) ρ=.ok (decide (x=y)):=z7 (zl ha hb (AX.trans (by rw[a0s])))
def t7(g:kn o W h)(hm:∀w∈W,1<=w.2.2)(e:zB h (sk z)=some y)(hz:z≠o):∃w∈W,w.2.1=z/\y_ [.s z,.d (hD h),.l (W.map wP)]=.ok (.s w.1)/\∃x,zB h (sk w.1)=some x/\x+w.2.2=y:=by
 have loop:∀{V:List Wy}{a b c:Iu},(∀w∈V,w∈W)->(∃w∈V,w.2.1=z/\∃x,zB h (sk w.1)=some x/\x+w.2.2=y)->∃w∈W,w.2.1=z/\YU yy zN (V.map wP) [some (.s z),some (.d (hD h)),some (.l (W.map wP)),a,b,c]=.ok (.rt (.s w.1))/\∃x,zB h (sk w.1)=some x/\x+w.2.2=y:=by
  intro V
  induction V with
  |nil=>rintro a b c _ ⟨w,hw,_⟩;cases hw
  |cons w V ih=>
   intro a b c hV ex
   let w0:=w
   have w1:=hm w (hV w L4);have t:∀{x:Bool},XR (zX (mOp (Zx false) (zc 4) (zc 0))) (XR (zX (mOp (pIn false) (zc 3) (zc 1))) (zX (mOp (Zx false) (mOp zZ (mOp pIx (zc 1) (zc 3)) (zc 5)) (mOp pIx (zc 1) (zc 0))))) [some (.s z),some (.d (hD h)),some (.l (W.map wP)),some (.s w.1),some (.s w.2.1),some (.i w.2.2)]=.ok x->zN [some (.s z),some (.d (hD h)),some (.l (W.map wP)),some (.s w.1),some (.s w.2.1),some (.i w.2.2)]=if x=true then ja (zc 3) [some (.s z),some (.d (hD h)),some (.l (W.map wP)),some (.s w.1),some (.s w.2.1),some (.i w.2.2)]else z5 [some (.s z),some (.d (hD h)),some (.l (W.map wP)),some (.s w.1),some (.s w.2.1),some (.i w.2.2)]:=λhx=>yg hx
   have step:∀{f:Out Fw},zN [some (.s z),some (.d (hD h)),some (.l (W.map wP)),some (.s w.1),some (.s w.2.1),some (.i w.2.2)]=f->YU yy zN ((w::V).map wP) [some (.s z),some (.d (hD h)),some (.l (W.map wP)),a,b,c]=f.bind λf=>match f with
     |.nx ρ2=>YU yy zN (V.map wP) ρ2
     |.ct ρ2=>YU yy zN (V.map wP) ρ2
     |.bk ρ2=>.ok (.nx ρ2)
     |.rt v=>.ok (.rt v):=λ{f} ef=>by
    rw[<- ef];rfl
   have e4:=WN (ρ:=[some (.s z),some (.d (hD h)),some (.l (W.map wP)),some (.s w.1),some (.s w.2.1),some (.i w.2.2)]) (a:=zc 4) (b:=zc 0) (x:=w.2.1) (y:=z) (n:=false) rfl rfl;have e3:=WJ (ρ:=[some (.s z),some (.d (hD h)),some (.l (W.map wP)),some (.s w.1),some (.s w.2.1),some (.i w.2.2)]) (h:=h) (z:=w.1) (n:=false) (a:=zc 3) (i:=1) rfl rfl;have no:zN [some (.s z),some (.d (hD h)),some (.l (W.map wP)),some (.s w.1),some (.s w.2.1),some (.i w.2.2)]=.ok (.nx [some (.s z),some (.d (hD h)),some (.l (W.map wP)),some (.s w.1),some (.s w.2.1),some (.i w.2.2)])->¬(w.2.1=z/\∃x,zB h (sk w.1)=some x/\x+w.2.2=y)->∃w∈W,w.2.1=z/\YU yy zN ((w0::V).map wP) [some (.s z),some (.d (hD h)),some (.l (W.map wP)),a,b,c]=.ok (.rt (.s w.1))/\∃x,zB h (sk w.1)=some x/\x+w.2.2=y:=λeb hn=>by
    rw[step eb];exact ih (λw' h'=>hV w' (L8 _ h')) (by
     obtain⟨w',hw',r⟩:=ex;rcases N4.mp hw' with rfl|hw'
     .exact absurd r hn
     .exact⟨w',hw',r⟩)
   by_cases c1:w.2.1=z
   .cases c2:zB h (sk w.1)with
    |none=>rw[c2]at e3;exact no ((t (wd (y:=false) e4 (WH e3))).trans (by rw[a1L];rfl)) λ⟨_,x,ex,_⟩=>by rw[c2]at ex;cases ex
    |some x=>
     rw[c2]at e3;have t2:=t (wd e4 (wd e3 (BH (zl (WK (h:=h) (z:=w.1) (x:=x) rfl rfl c2) rfl rfl) (WK rfl rfl e))));rw[M6 c1]at t2;by_cases c3:x+w.2.2=y
     .rw[M6 c3]at t2;refine⟨w,hV w L4,c1,?_,x,c2,c3⟩;rw[step (f:=.ok (.rt (.s w.1))) t2];rfl
     .rw[M4 c3]at t2;refine no t2 λ⟨_,x',ex',r⟩=>?_;rw[c2]at ex';cases ex';exact c3 r
   .rw[M4 c1]at e4;exact no ((t (WH e4)).trans rfl) λr=>c1 r.1
 obtain⟨w,hw,e0,e1,e2⟩:=loop (V:=W) (a:=none) (b:=none) (c:=none) (λw h=>h) (g.pb e hz);exact⟨w,hw,e0,zJ (qU (ya rfl) e1),e2⟩
def ej:pIx (.l ((P++[z]).map .s)) (.i (-1))=.ok (.s z):=by
 have h:ixN ((P++[z]).map PV.s).length (-1)=some P.length:=by rw[t0,N8];unfold ixN;rw[if_neg (by decide),if_pos (by simp;omega)];congr 1;simp;omega
 rw[AW];unfold atI;rw[h];show kN (((P++[z]).map PV.s)[P.length]?)=_;rw[N7,a07 (L5 _),Nat.sub_self];rfl
def Ca:Option Int->PV
 |none=>.n
 |some x=>.i x
def xP(ha:a ρ=.ok (.d (hD h)))(hb:b ρ=.ok (.s z)):B9 a b ρ=.ok (Ca (zB h (sk z))):=by unfold B9;rw[ha,okb];show(b ρ).bind (Bf (hD h))=_;rw[hb,okb];show Out.ok ((zB (hD h) (sk z)).getD .n)=_;rw[oX];cases zB h (sk z)<;>rfl
def GV(ha:a ρ=.ok (.d (ak N F)))(hb:b ρ=.ok (.s o))(ho:o∈N):mOp pIx a b ρ=.ok (.d (hD (F o))):=by refine zl ha hb ?_;show kN (zB (ak N F) (sk o))=_;rw[o9 ho];rfl
def Kl(ho:o∈N)(hg:g∈N):zw [roP N W F,.s o,.s g]=.ok (Ca (zB (F o) (sk g))):=by have q:=eh (m:=zc 0) (ρ:=[some (roP N W F),some (.s o),some (.s g)]) (N:=N) (W:=W) (F:=F) rfl;exact zJ (zd ⟨_,y4 (zv (xs:=[.s o,.l (N.map .s)]) (zy rfl (zy q.1 rfl)) (jJ ho)),zd ⟨_,y4 (zv (xs:=[.s g,.l (N.map .s)]) (zy rfl (zy q.1 rfl)) (jJ hg)),YQ (xP (GV q.2 rfl ho) rfl)⟩⟩)
def VD(ha:a ρ=.ok (roP N W F))(hm:ms ρ=.ok xs)(h1:(nm==("places":Str))=false)(h2:(nm==("ways":Str))=false)(h3:(nm==("lengths":Str))=false)(h:f (roP N W F::xs)=.ok x):kO [(11,f)] nm a ms ρ=.ok x:=by unfold kO;rw[ha,okb];show(if(List.lookup nm [("places",PV.l (N.map .s)),("ways",.l (W.map wP)),("lengths",.d (ak N F))]).isSome=true then Out.wall else(ms ρ).bind λxs=>f (roP N W F::xs))=_;rw[yJ h1,yJ h2,yJ h3,nD,if_neg (by intro z;cases z),hm,okb];exact h
def t8(h:m ρ=.ok (roP N W F)):Q_ [11] "ways" m ρ=.ok (.l (W.map wP)):=by unfold Q_;rw[h,okb];show(if 11∈[11]then kN (List.lookup ("ways":Str) [("places",PV.l (N.map .s)),("ways",.l (W.map wP)),("lengths",.d (ak N F))])else .wall)=_;rw[if_pos L4,yJ (by decide +kernel),VY];rfl
def gE(h1:ms ρ=.ok [.s x,.s y])(h2:m ρ=.ok (.dt L)):zX (nW n ms m) ρ=.ok (xor n (zB L [sk x,sk y]).isSome):=by refine z7 ?_;unfold nW;rw[h1];show(m ρ).bind (inT n [sk x,sk y])=_;rw[h2];rfl
def gG(h2:m ρ=.ok (.dt L))(h1:ms ρ=.ok [.s x,.s y])(e:zB L [sk x,sk y]=some v):rj m ms ρ=.ok (.i v):=by unfold rj;rw[h2,okb,h1,okb];show kN ((zB L [sk x,sk y]).map PV.i)=_;rw[e];rfl
abbrev Lst:=List (List Key×Int)
def YL(h:0<=k):∃x:Int,zD [.sc ns,.i k]=.ok (.i x):=by
 suffices h:∃x:Int,wO [some (.sc ns),some (.i k)]=.ok (.rt (.i x))from h.imp λ_ e=>zJ e
 have t:=yg (ρ:=[some (.sc ns),some (.i k)]) (a:=ja (mOp pIx (zc 0) (zc 1))) (b:=z5) (z7 (m:=mOp pLt (zc 1) (zk W6 (zb (zc 0) zq))) (b:=decide (k<(ns.length:Int))) (zl rfl (zv (xs:=[.sc ns]) rfl rfl) rfl));by_cases c:k<ns.length
 .rw[M6 c]at t;have e:pIx (.sc ns) (.i k)=.ok (.i (ns[k.toNat]'(by omega))):=by show kN ((atI ns k).map PV.i)=_;rw[ny h,M5 (by omega)];rfl
  exact⟨_,nC (t.trans (YQ (zl rfl rfl e)))⟩
 .rw[M4 c]at t;exact⟨0,zd ⟨_,t,rfl⟩⟩
def Yb(h:0<=k)(hp:0<p):∃x:Int,0<=x/\zO [.sc ns,.i k,.i p]=.ok (.i x):=by obtain⟨c,e⟩:=YL (ns:=ns) h;have a0:=O8 c (show(1000000007:Int)≠0 by decide);have a1:=O3 c (show(0:Int)<1000000007 by decide);have e1:mOp zU (zk zD (zb (zc 0) (zb (zc 1) zq))) (mC (.i 1000000007)) [some (.sc ns),some (.i k),some (.i p)]=.ok (.i (c % 1000000007)):=wc (zv (xs:=[.sc ns,.i k]) rfl e) (by decide);exact⟨_,O8 _ (by omega),zJ (YQ (zl (zl e1 rfl (XT (by omega) (by omega))) rfl (kR hp)))⟩
def gH(r:Ij):Str:=⟨(r.map λi=>(signs.cps.toList[i.toNat]?).getD 0).toArray⟩
def JJ:(gH r).length=r.length:=by show((r.map λi=>(signs.cps.toList[i.toNat]?).getD 0).toArray).size=_;rw[M8,t0]
def Yc:gH (i::r)=sgn i++gH r:=by show(⟨((signs.cps.toList[i.toNat]?).getD 0::r.map λi=>(signs.cps.toList[i.toNat]?).getD 0).toArray⟩:Str)=⟨#[(signs.cps.toList[i.toNat]?).getD 0]++(r.map λi=>(signs.cps.toList[i.toNat]?).getD 0).toArray⟩;rw[List.toArray_cons]
def gI:∀{r r':Ij},(∀i∈r,0<=i/\i<36)->(∀i∈r',0<=i/\i<36)->gH r=gH r'->r=r'
 |[],[],_,_,_=>rfl
 |[],_::_,_,_,h=>by have:=R8 Str.length h;rw[JJ,JJ]at this;cases this
 |_::_,[],_,_,h=>by have:=R8 Str.length h;rw[JJ,JJ]at this;cases this
 |i::r,j::r',h1,h2,h=>by rw[Yc,Yc]at h;obtain⟨a,b⟩:=str_inj (a:=sgn i) (a':=sgn j) rfl h;have hi:=h1 i L4;have hj:=h2 j L4;rw[BE hi.1 hi.2 hj.1 hj.2 a,gI (λx hx=>h1 x (L8 _ hx)) (λx hx=>h2 x (L8 _ hx)) b]
def gJ:∀{r:Ij},(∀i∈r,0<=i/\i<36)->Sgs (gH r)
 |[],_=>λc hc=>by have:(gH []).cps.toList=[]:=rfl;rw[this]at hc;cases hc
 |i::r,h=>by rw[Yc];have hi:=h i L4;exact(Sgs.sgn hi.1 hi.2).app (gJ λx hx=>h x (L8 _ hx))
def cj:∀(r:Ij)(a:Iz),(r.map sgn).foldl (λacc p=>acc++(Str.ofString "").cps++p.cps) a=a++(gH r).cps
 |[],a=>by show a=a++#[];rw[a2W]
 |i::r,a=>by rw[M3,a0o,cj r,Yc];show a++#[]++(sgn i).cps++(gH r).cps=a++((sgn i).cps++(gH r).cps);rw[a2W,a2L]
def t9:Txt.join "" (r.map sgn)=gH r:=by
 cases r with
 |nil=>rfl
 |cons i r=>show(⟨(r.map sgn).foldl (λacc p=>acc++(Str.ofString "").cps++p.cps) (sgn i).cps⟩:Str)=_;rw[cj,Yc];rfl
def gK:∀{r:Ij},((r.map sgn).map (λt:Str=>t.length)).sum=r.length
 |[]=>rfl
 |i::r=>by rw[M3,M3,a1r,gK,I0];show 1+_=_;omega
def BI(h:m ρ=.ok (.l ((r.map sgn).map .s)))(hl:r.length<=1000):F3 bB (mC (.s "")) m ρ=.ok (.s (gH r)):=by
 show(m ρ).bind (bB "")=_;rw[h,okb];show(match dD ((r.map sgn).map .s)with
  |some (ys:HA)=>if(ys.map (λt:Str=>t.length)).sum+ys.length*("":Str).length<=16777216 then Out.ok (PV.s (Txt.join "" ys))else .wall
  |none=>.wall)=_
 rw[Vy];show(if _ then _ else _)=_;have z:("":Str).length=0:=rfl;rw[if_pos (by rw[gK,z];omega),t9]
def pd{α:Type}{xs:List α}(h:0<=i):fK xs none (some i)=xs.take i.toNat:=by
 unfold fK;show List.take ((if i<0 then(i+(xs.length:Int)).toNat else min i.toNat xs.length)-0) (xs.drop 0)=_;rw[if_neg (by omega),Nat.sub_zero,List.drop_zero];by_cases c:i.toNat<=xs.length
 .rw[Nat.min_eq_left c]
 .rw[Nat.min_eq_right (by omega),a1p (L5 _),a1p (by omega)]
def t_{α:Type}{xs:List α}{i:Int}(h:0<=i)(h2:i<=xs.length):fK xs (some i) none=xs.drop i.toNat:=by unfold fK;show List.take (xs.length-(if i<0 then(i+(xs.length:Int)).toNat else min i.toNat xs.length)) (xs.drop (if i<0 then(i+(xs.length:Int)).toNat else min i.toNat xs.length))=_;rw[if_neg (by omega),Nat.min_eq_left (by omega),a1p (by rw[a01];omega)]
def vj(sg:Ij)(c:Int)(k:Nat):List Int:=sg.take (1+c % 11).toNat++if k % 2=1 then sg.drop 11 else[]
def BJ(sg:Ij)(c w:Int)(k:Nat):List Int:=(vj sg c k).set (w / 4 % ((vj sg c k).length:Int)).toNat ((((vj sg c k)[(w / 4 % ((vj sg c k).length:Int)).toNat]?).getD 0+k) % 36)
def rowOf(sg:Ij)(c w:Int)(n k:Nat):List Int:=
 if w % 4=1/\n<=12 then sg.take (1+k)else if w % 4=2/\n<=12 then sg.take (n-k)else BJ sg c w k
def VE(h:sg.length=12):((vj sg c k).length:Int)=1+c % 11+(k % 2:Nat):=by
 have a0:=O8 c (show(11:Int)≠0 by decide);have a1:=O3 c (show(0:Int)<11 by decide);unfold vj;rw[N8,T2,h];have:k % 2=0\/k % 2=1:=by omega
 rcases this with e|e
 .rw[if_neg (by omega)];show((min _ 12+0:Nat):Int)=_;omega
 .rw[if_pos e,a01,h];omega
def ua(h:i∈vj sg c k):i∈sg:=by
 unfold vj at h;rcases S4.mp h with h|h
 .exact a1E h
 .split at h
  .exact List.mem_of_mem_drop h
  .cases h
def ub(h:j % 2=k % 2):vj sg c j=vj sg c k:=by unfold vj;rw[h]
def gL(h:∀i∈sg,0<=i/\i<36):∀i∈rowOf sg c w n k,0<=i/\i<36:=λi hi=>by
 unfold rowOf at hi;split at hi
 .exact h i (a1E hi)
 .split at hi
  .exact h i (a1E hi)
  .rcases List.mem_or_eq_of_mem_set hi with q|q
   .exact h i (ua q)
   .rw[q];exact⟨O8 _ (by decide),O3 _ (by decide)⟩
def pe(h:sg.length=12)(hk:k<n):1<=(rowOf sg c w n k).length/\(rowOf sg c w n k).length<=12:=by
 have a0:=O8 c (show(11:Int)≠0 by decide);have a1:=O3 c (show(0:Int)<11 by decide);have:=VE (c:=c) (k:=k) h;unfold rowOf;split
 .rw[T2,h];omega
 .split
  .rw[T2,h];omega
  .unfold BJ;rw[P6];omega
def BK(h:sg.length=12)(hn:n<=16)(hj:j<n)(hk:k<n)(e:rowOf sg c w n j=rowOf sg c w n k):j=k:=by
 have a0:=O8 c (show(11:Int)≠0 by decide);have a1:=O3 c (show(0:Int)<11 by decide);have l1:=VE (c:=c) (k:=j) h;have l2:=VE (c:=c) (k:=k) h;unfold rowOf at e;have el:=R8 List.length e;by_cases c1:w % 4=1/\n<=12
 .rw[if_pos c1,if_pos c1,T2,T2,h]at el;omega
 .rw[if_neg c1,if_neg c1]at el e;by_cases c2:w % 4=2/\n<=12
  .rw[if_pos c2,if_pos c2,T2,T2,h]at el;omega
  .rw[if_neg c2,if_neg c2]at el e;unfold BJ at el e;rw[P6,P6]at el;have p:j % 2=k % 2:=by omega
   rw[ub (sg:=sg) (c:=c) p]at e l1;have s0:=O8 (w / 4) (show((vj sg c k).length:Int)≠0 by omega);have s1:=O3 (w / 4) (show(0:Int)<((vj sg c k).length:Int) by omega);have hs:(w / 4 % ((vj sg c k).length:Int)).toNat<(vj sg c k).length:=by omega
   generalize(w / 4 % ((vj sg c k).length:Int)).toNat=s at e hs;have e2:=R8 (λl:List Int=>l[s]?) e;replace e2:((vj sg c k).set s ((((vj sg c k)[s]?).getD 0+(j:Int)) % 36))[s]?=((vj sg c k).set s ((((vj sg c k)[s]?).getD 0+(k:Int)) % 36))[s]?:=e2;rw[O4 hs,O4 hs]at e2;have e3:=P5 e2;omega
def eA(sg:Ij)(c w:Int)(n k:Nat):List Str:=(List.range k).map λk=>gH (rowOf sg c w n k)
def mulL(h0:0<=b)(h1:b<=1)(hl:xs.length<=100):YO (.l xs) (.i b)=.ok (.l (List.replicate b.toNat xs).flatten):=by
 have:b.toNat=0\/b.toNat=1:=by omega
 exact if_pos ⟨by omega,by omega,O5 (m:=100) (by rcases this with e|e<;>rw[e]<;>omega) (by decide)⟩
def gM(h:ρ[i]?=some (some (.l xs)))(hm:m ρ=.ok y)(hl:xs.length<100000):m7 i m ρ=.ok (.nx (ρ.set i (some (.l (xs++[y]))))):=by unfold m7;rw[h];show(m ρ).bind _=_;rw[hm,okb,if_pos (N5 hl (by decide))]
abbrev nSt(ns:Ij)(a:Int)(n:Nat)(c w:Int)(sg:Ij)(k:Nat)(x y z:Iu):Sto:=[some (.sc ns),some (.i a),some (.i (n:Int)),some (.s signs),some (.i c),some (.l (sg.map .i)),some (.i w),some (.l ((eA sg c w n k).map .s)),x,y,z]
def uc(h:sg.length=12)(hs:∀i∈sg,0<=i/\i<36)(hk:k<n)(hn:n<=16):∃x' y' z',wQ (nSt ns a n c w sg k (some (.i (k:Int))) y z)=.ok (.nx (nSt ns a n c w sg (k+1) x' y' z')):=by
 have a0:=O8 c (show(11:Int)≠0 by decide);have a1:=O3 c (show(0:Int)<11 by decide);have lB:=VE (c:=c) (k:=k) h
 -- the row
 have e1:yr 9 (mOp sQ (zk Za (zb (mSl pSl (zc 5) lj (Ja (mOp zZ (mC (.i 1)) (mOp zU (zc 4) (mC (.i 11)))))) zq)) (mOp YO (mSl pSl (zc 5) (Ja (mC (.i 11))) lj) (mOp zU (zc 8) (mC (.i 2))))) (nSt ns a n c w sg k (some (.i (k:Int))) y z)=.ok (.nx (nSt ns a n c w sg k (some (.i (k:Int))) (some (.l ((vj sg c k).map .i))) z)):=by
  have x1:mSl pSl (zc 5) lj (Ja (mOp zZ (mC (.i 1)) (mOp zU (zc 4) (mC (.i 11))))) (nSt ns a n c w sg k (some (.i (k:Int))) y z)=.ok (.l ((sg.take (1+c % 11).toNat).map .i)):=by unfold mSl;rw[show zc 5 (nSt ns a n c w sg k (some (.i (k:Int))) y z)=.ok (.l (sg.map .i))from rfl,okb,show lj (nSt ns a n c w sg k (some (.i (k:Int))) y z)=.ok none from rfl,okb,Gh (zl rfl (wc rfl (by decide)) rfl),okb];show Out.ok (PV.l (fK (sg.map PV.i) none (some (1+c % 11))))=_;rw[pd (by omega),a1Q]
  have x2:mSl pSl (zc 5) (Ja (mC (.i 11))) lj (nSt ns a n c w sg k (some (.i (k:Int))) y z)=.ok (.l ((sg.drop 11).map .i)):=by show Out.ok (PV.l (fK (sg.map PV.i) (some 11) none))=_;rw[t_ (by decide) (by rw[t0];omega),List.map_drop];rfl
  refine zE (zl (zv (zy x1 rfl) rfl) (zl x2 (wc rfl (by decide)) (z:=.l ((if k % 2=1 then sg.drop 11 else[]).map .i)) ?_) ?_)
  .have:k % 2=0\/k % 2=1:=by omega
   rw[mulL (by omega) (by omega) (by rw[t0,a01];omega)];rcases this with e|e
   .rw[if_neg (by omega),show((k:Int) % 2).toNat=0 by omega];rfl
   .rw[if_pos e,show((k:Int) % 2).toNat=1 by omega];show Out.ok (PV.l ((sg.drop 11).map PV.i++[]))=_;rw[P0]
  .show(if _ then _ else _)=_;have l2:(if k % 2=1 then sg.drop 11 else[]).length<=1:=by
    split
    .rw[a01];omega
    .exact P1 _
   rw[if_pos (O5 (m:=100) (by rw[t0,t0,T2];omega) (by decide)),<- P9];rfl
 have s0:=O8 (w / 4) (show((vj sg c k).length:Int)≠0 by omega);have s1:=O3 (w / 4) (show(0:Int)<((vj sg c k).length:Int) by omega);have hs':(w / 4 % ((vj sg c k).length:Int)).toNat<(vj sg c k).length:=by omega
 have e3:m8 9 (zc 10) (mOp zU (mOp zZ (mOp pIx (zc 9) (zc 10)) (zc 8)) (mC (.i 36))) (nSt ns a n c w sg k (some (.i (k:Int))) (some (.l ((vj sg c k).map .i))) (some (.i (w / 4 % ((vj sg c k).length:Int)))))=.ok (.nx (nSt ns a n c w sg k (some (.i (k:Int))) (some (.l ((BJ sg c w k).map .i))) (some (.i (w / 4 % ((vj sg c k).length:Int)))))):=by
  have x1:mOp pIx (zc 9) (zc 10) (nSt ns a n c w sg k (some (.i (k:Int))) (some (.l ((vj sg c k).map .i))) (some (.i (w / 4 % ((vj sg c k).length:Int)))))=.ok (.i (((vj sg c k)[(w / 4 % ((vj sg c k).length:Int)).toNat]?).getD 0)):=by refine zl rfl rfl ((oV s0 (by rw[t0];exact s1)).trans ?_);rw[a0u,M5 hs'];rfl
  unfold m8;rw[wc (zl x1 rfl rfl) (by decide),okb];show(match ixN ((vj sg c k).map PV.i).length (w / 4 % ((vj sg c k).length:Int))with
   |some j=>Out.ok (Fw.nx _)
   |none=>.wall)=_
  rw[show ixN ((vj sg c k).map PV.i).length (w / 4 % ((vj sg c k).length:Int))=some (w / 4 % ((vj sg c k).length:Int)).toNat by unfold ixN;rw[t0,if_pos s0,if_pos s1]];show Out.ok (Fw.nx (nSt ns a n c w sg k (some (.i (k:Int))) (some (.l (((vj sg c k).map PV.i).set _ (PV.i _)))) _))=_;rw[<- List.map_set];rfl
 have t1:sIf (XR (zX (mOp (Zx false) (mOp zU (zc 6) (mC (.i 4))) (mC (.i 1)))) (zX (mOp pLe (zc 2) (mC (.i 12))))) (yr 9 (mSl AG (zc 5) lj (Ja (mOp zZ (mC (.i 1)) (zc 8))))) z5 (nSt ns a n c w sg k (some (.i (k:Int))) (some (.l ((BJ sg c w k).map .i))) (some (.i (w / 4 % ((vj sg c k).length:Int)))))=.ok (.nx (nSt ns a n c w sg k (some (.i (k:Int))) (some (.l ((if w % 4=1/\n<=12 then sg.take (1+k)else BJ sg c w k).map .i))) (some (.i (w / 4 % ((vj sg c k).length:Int)))))):=by
  refine(yg (x:=decide (w % 4=1)&&decide ((n:Int)<=12)) (wd (oS (wc rfl (by decide))) (z7 (zl rfl rfl rfl)))).trans ?_;by_cases c1:w % 4=1/\n<=12
  .rw[if_pos (by rw[M6 c1.1,M6 (show(n:Int)<=12 by omega)];rfl),if_pos c1];refine(zE (x:=.l ((sg.take (1+k)).map .i)) ?_);show Out.ok (PV.l (fK (sg.map PV.i) none (some (1+(k:Int)))))=_;rw[pd (by omega),a1Q,show(1+(k:Int)).toNat=1+k by omega]
  .rw[if_neg (λq=>c1 (by obtain⟨x,y⟩:=(a0G _ _).mp q;exact⟨R4 x,by have:=R4 y;omega⟩)),if_neg c1];rfl
 have t2:sIf (XR (zX (mOp (Zx false) (mOp zU (zc 6) (mC (.i 4))) (mC (.i 2)))) (zX (mOp pLe (zc 2) (mC (.i 12))))) (yr 9 (mSl AG (zc 5) lj (Ja (mOp lg (zc 2) (zc 8))))) z5 (nSt ns a n c w sg k (some (.i (k:Int))) (some (.l ((if w % 4=1/\n<=12 then sg.take (1+k)else BJ sg c w k).map .i))) (some (.i (w / 4 % ((vj sg c k).length:Int)))))=.ok (.nx (nSt ns a n c w sg k (some (.i (k:Int))) (some (.l ((rowOf sg c w n k).map .i))) (some (.i (w / 4 % ((vj sg c k).length:Int)))))):=by
  refine(yg (x:=decide (w % 4=2)&&decide ((n:Int)<=12)) (wd (oS (wc rfl (by decide))) (z7 (zl rfl rfl rfl)))).trans ?_;unfold rowOf;by_cases c1:w % 4=2/\n<=12
  .rw[if_pos (by rw[M6 c1.1,M6 (show(n:Int)<=12 by omega)];rfl),if_neg (show ¬(w % 4=1/\n<=12) by omega),if_neg (show ¬(w % 4=1/\n<=12) by omega),if_pos c1];refine(zE (x:=.l ((sg.take (n-k)).map .i)) ?_);show Out.ok (PV.l (fK (sg.map PV.i) none (some ((n:Int)-(k:Int)))))=_;rw[pd (by omega),a1Q,show((n:Int)-(k:Int)).toNat=n-k by omega]
  .rw[if_neg (λq=>c1 (by obtain⟨x,y⟩:=(a0G _ _).mp q;exact⟨R4 x,by have:=R4 y;omega⟩)),if_neg c1];rfl
 have rl:=pe (c:=c) (w:=w) h hk;have ri:=gL (c:=c) (w:=w) (n:=n) (k:=k) hs;have e6:lcP vI vJ vL ((rowOf sg c w n k).map .i) [none,some (.s signs)] []=.ok (.l (((rowOf sg c w n k).map sgn).map .s)):=by rw[S9];refine ZI (λi:Int=>PV.i i) (λi:Int=>PV.s (sgn i)) (λρ=>∃o,ρ=[o,some (.s signs)]) _ _ ⟨none,rfl⟩ (λi hi ρ ⟨o,ho⟩=>?_) (by omega);subst ho;exact⟨_,rfl,⟨_,rfl⟩,zl rfl rfl (Er (ri i hi).1 (ri i hi).2)⟩
 have e7:(eA sg c w n k).map PV.s++[PV.s (gH (rowOf sg c w n k))]=(eA sg c w n (k+1)).map .s:=by unfold eA;rw[List.range_succ,P9,P9];rfl
 have e8:=gM (i:=7) (ρ:=nSt ns a n c w sg k (some (.i (k:Int))) (some (.l ((rowOf sg c w n k).map .i))) (some (.i (w / 4 % ((vj sg c k).length:Int))))) rfl (BI (r:=rowOf sg c w n k) (W_ (mi:=yj (zc 9)) (fr:=[none,some 3]) (g:=vI) (c:=vJ) (e:=vL) (ya rfl) e6) (by omega)) (by rw[t0,eA,t0,R9];omega);rw[e7]at e8;exact⟨_,_,_,zd ⟨_,e1,zd ⟨_,zE (zl (iU rfl (by decide) (by decide)) (zv (xs:=[.l ((vj sg c k).map .i)]) rfl Qd) (kR (by omega))),zd ⟨_,e3,zd ⟨_,t1,zd ⟨_,t2,e8⟩⟩⟩⟩⟩⟩
def ck(ha:0<=a)(hn:n<=16):∃N:List Str,N.length=n/\N.Nodup/\(∀z∈N,Nm z)/\qx [.sc ns,.i a,.i (n:Int)]=.ok (.l (N.map .s)):=by
 obtain⟨cl,ec⟩:=YL (ns:=ns) ha;obtain⟨w,w0,ew⟩:=Yb (ns:=ns) (k:=a+1) (p:=65537) (by omega) (by decide);have c0:=O8 cl (show(1000000007:Int)≠0 by decide);have c1:=O3 cl (show(0:Int)<1000000007 by decide);have e4:yr 4 (mOp zU (zk zD (zb (zc 0) (zb (zc 1) zq))) (mC (.i 1000000007))) [some (.sc ns),some (.i a),some (.i (n:Int)),some (.s signs),none,none,none,none,none,none,none]=.ok (.nx [some (.sc ns),some (.i a),some (.i (n:Int)),some (.s signs),some (.i (cl % 1000000007)),none,none,none,none,none,none]):=zE (wc (zv (xs:=[.sc ns,.i a]) rfl ec) (by decide));generalize cl % 1000000007=c at c0 c1 e4;have hsg:∀i∈(List.range 12).map (λj:Nat=>(c*16807+7919*(j:Int)*j) % 65521 % 36),0<=i/\i<36:=λi hi=>by obtain⟨j,_,rfl⟩:=T1.mp hi;exact⟨O8 _ (by decide),O3 _ (by decide)⟩
 have e5:yr 5 (mLC (Jc (zb (mC (.i 12)) zq)) [none,some 4] Y6 Y7 Y8) [some (.sc ns),some (.i a),some (.i (n:Int)),some (.s signs),some (.i c),none,none,none,none,none,none]=.ok (.nx [some (.sc ns),some (.i a),some (.i (n:Int)),some (.s signs),some (.i c),some (.l (((List.range 12).map (λj:Nat=>(c*16807+7919*(j:Int)*j) % 65521 % 36)).map .i)),none,none,none,none,none]):=by refine zE (W_ (bx (n:=12) rfl (by decide)) ?_);rw[fS,S9];refine ZI (λk:Nat=>PV.i (k:Int)) (λj:Nat=>PV.i ((c*16807+7919*(j:Int)*j) % 65521 % 36)) (λρ=>∃o,ρ=[o,some (.i c)]) _ _ ⟨none,rfl⟩ (λj hj ρ ⟨o,ho⟩=>?_) (by decide);subst ho;have hj:=a0l.mp hj;exact⟨_,rfl,⟨_,rfl⟩,wc (wc (zl (zl rfl rfl (XT (by omega) (by omega))) (zl (zl rfl rfl (XT (by decide) (by decide))) rfl (XT (by omega) (by omega))) rfl) (by decide)) (by decide)⟩
 have l12:((List.range 12).map (λj:Nat=>(c*16807+7919*(j:Int)*j) % 65521 % 36)).length=12:=by rw[t0,R9]
 generalize(List.range 12).map (λj:Nat=>(c*16807+7919*(j:Int)*j) % 65521 % 36)=sg at e5 hsg l12;obtain⟨ρ',⟨x,y,z,hρ⟩,ef⟩:=Jf (g:=JB) (b:=wQ) (λk ρ=>∃x y z,ρ=nSt ns a n c w sg k x y z) n (nSt ns a n c w sg 0 none none none) ⟨_,_,_,rfl⟩ (λk hk ρ ⟨x,y,z,hρ⟩=>by
  subst hρ;obtain⟨x',y',z',e⟩:=uc (ns:=ns) (a:=a) (c:=c) (w:=w) (y:=y) (z:=z) l12 hsg hk hn;exact⟨_,rfl,_,⟨_,_,_,rfl⟩,.inl e⟩)
 subst hρ;refine⟨eA sg c w n n,by unfold eA;rw[t0,R9],nodup_range λj k hj hk e=>BK l12 hn hj hk (gI (gL hsg) (gL hsg) e),λs hs=>?_,zJ (zd ⟨_,rfl,zd ⟨_,e4,zd ⟨_,e5,zd ⟨_,zE (zv (xs:=[.sc ns,.i (a+1),.i 65537]) rfl ew),zd ⟨_,rfl,zd ⟨_,qU (bx (n:=n) rfl (by omega)) ef,rfl⟩⟩⟩⟩⟩⟩)⟩;obtain⟨k,hk,rfl⟩:=T1.mp hs;have hk:=a0l.mp hk;have:=pe (c:=c) (w:=w) l12 hk;exact⟨by rw[JJ];exact this,gJ (gL hsg)⟩
def WS(N:HA)(W:List Wy):Prop:=∀w∈W,w.1∈N/\w.2.1∈N/\1<=w.2.2/\w.2.2<=200000000
def WS.ok(h:WS N W):WOk N W:=λw hw=>by obtain⟨a,b,c,d⟩:=h w hw;exact⟨a,b,c,by omega⟩
def WS.app(h:WS N W)(ha:a∈N)(hg:g∈N)(h1:1<=m)(h2:m<=200000000):WS N (W++[(a,g,m)]):=λw hw=>by
 rcases S4.mp hw with hw|hw
 .exact h w hw
 .rw[O0.mp hw];exact⟨ha,hg,h1,h2⟩
abbrev wSt(ns:Ij)(a:Int)(N:HA)(f:Int)(W:List Wy)(x y:Iu):Sto:=[some (.sc ns),some (.i a),some (.l (N.map .s)),some (.i (N.length:Int)),some (.i f),some (.l (W.map wP)),x,y]
def pf(h:m (wSt ns a N f W x y)=.ok (.t [.s o,.s g,.i n]))(hl:W.length<1000):m7 5 m (wSt ns a N f W x y)=.ok (.nx (wSt ns a N f (W++[(o,g,n)]) x y)):=by refine(gM rfl h (by rw[t0];omega)).trans ?_;show Out.ok (Fw.nx [some (.sc ns),some (.i a),some (.l (N.map .s)),some (.i (N.length:Int)),some (.i f),some (.l (W.map wP++[wP (o,g,n)])),x,y])=_;rw[show W.map wP++[wP (o,g,n)]=(W++[(o,g,n)]).map wP by rw[P9];rfl]
def ud(ha:0<=a)(h0:0<N.length)(h1:N.length<=12):∃W:List Wy,W.length<=N.length+8/\WS N W/\jS [.sc ns,.i a,.l (N.map .s)]=.ok (.l (W.map wP)):=by
 obtain⟨u,u0,eu⟩:=Yb (ns:=ns) (k:=a) (p:=65521) ha (by decide);obtain⟨v,v0,ev⟩:=Yb (ns:=ns) (k:=a+1) (p:=65519) (by omega) (by decide);obtain⟨r,r0,er⟩:=Yb (ns:=ns) (k:=a+2) (p:=65479) (by omega) (by decide);obtain⟨f,hf,ef⟩:=oW (xs:=[60,60,3,200000000]) (i:=u % 4) (O8 _ (by decide)) (O3 _ (by decide));have hf:1<=f/\f<=200000000:=by simp only[List.mem_cons,List.not_mem_nil,or_false]at hf;omega
 have F0:=λx:Int=>O8 x (show f≠0 by omega);have F1:=λx:Int=>O3 x (show(0:Int)<f by omega);obtain⟨W1,x1,y1,l1,g1,q1⟩:∃(W:List Wy)(x y:Iu),W.length<=N.length/\WS N W/\sIf (zX (mOp pGt (mOp zU (zk zO (zb (zc 0) (zb (mOp zZ (zc 1) (mC (.i 1))) (zb (mC (.i 65519)) zq)))) (mC (.i 3))) (mC (.i 0)))) (Kx (Jc (zb (zc 3) zq)) ve vf) z5 (wSt ns a N f [] none none)=.ok (.nx (wSt ns a N f W x y)):=by
  have t:=yg (ρ:=wSt ns a N f [] none none) (a:=Kx (Jc (zb (zc 3) zq)) ve vf) (b:=z5) (cf (a:=mOp zU (zk zO (zb (zc 0) (zb (mOp zZ (zc 1) (mC (.i 1))) (zb (mC (.i 65519)) zq)))) (mC (.i 3))) (n:=0) (wc (zv (xs:=[.sc ns,.i (a+1),.i 65519]) rfl ev) (by decide)));generalize decide (v % 3>0)=d at t;cases d with
  |false=>exact⟨[],none,none,P1 _,λw hw=>(nomatch hw),t⟩
  |true=>
   obtain⟨ρ',⟨W,x,y,lW,gW,hρ⟩,e⟩:=Jf (g:=ve) (b:=vf) (λk ρ=>∃W x y,W.length=k/\WS N W/\ρ=wSt ns a N f W x y) N.length (wSt ns a N f [] none none) ⟨[],none,none,rfl,λw hw=>(nomatch hw),rfl⟩ (λk hk ρ ⟨W,x,y,lW,gW,hρ⟩=>by
    subst hρ;obtain⟨o,ho,eo⟩:=fb (xs:=N) (i:=(k:Int)) (by omega) (by omega);obtain⟨g,hg,eg⟩:=WM (N:=N) (s:=(k:Int)+1) h0;obtain⟨s,_,es⟩:=Yb (ns:=ns) (k:=a+k) (p:=65497) (by omega) (by decide);have:=F0 s;have:=F1 s;refine⟨_,rfl,_,⟨W++[(o,g,1+s % f)],some (.i (k:Int)),y,by rw[N8,lW];rfl,gW.app ho hg (by omega) (by omega),rfl⟩,.inl (pf (iV (zy (zl rfl rfl eo) (zy (zl rfl (zl (zl rfl rfl rfl) rfl (kR (by omega))) eg) (zy (zl rfl (zl (zv (xs:=[.sc ns,.i (a+k),.i 65497]) rfl es) rfl (kR (by omega))) rfl) rfl))) (P4 rfl)) (by omega))⟩)
   subst hρ;exact⟨W,x,y,by omega,gW,t.trans (qU (bx (n:=N.length) rfl (by omega)) e)⟩
 have R0:=O8 r (show(9:Int)≠0 by decide);have R1:=O3 r (show(0:Int)<9 by decide);have er2:zb (mOp zU (zk zO (zb (zc 0) (zb (mOp zZ (zc 1) (mC (.i 2))) (zb (mC (.i 65479)) zq)))) (mC (.i 9))) zq (wSt ns a N f W1 x1 y1)=.ok [.i (r % 9)]:=zy (wc (zv (xs:=[.sc ns,.i (a+2),.i 65479]) rfl er) (by decide)) rfl;generalize r % 9=m at R0 R1 er2;obtain⟨ρ',⟨W,x,y,lW,gW,hρ⟩,e⟩:=Jf (g:=KJ) (b:=KN) (λk ρ=>∃W x y,W.length<=W1.length+k/\WS N W/\ρ=wSt ns a N f W x y) m.toNat (wSt ns a N f W1 x1 y1) ⟨W1,x1,y1,L5 _,g1,rfl⟩ (λk hk ρ ⟨W,x,y,lW,gW,hρ⟩=>by
  subst hρ;obtain⟨s,es⟩:=YL (ns:=ns) (k:=a+k) (by omega);obtain⟨o,ho,eo⟩:=WM (N:=N) (s:=s) h0;obtain⟨g,hg,eg⟩:=WM (N:=N) (s:=s / (N.length:Int)) h0;have:=F0 (s / 25);have:=F1 (s / 25);refine⟨_,rfl,_,⟨W++[(o,g,1+s / 25 % f)],some (.i (k:Int)),some (.i s),by rw[N8];show W.length+1<=_;omega,gW.app ho hg (by omega) (by omega),rfl⟩,.inl (zd ⟨wSt ns a N f W (some (.i (k:Int))) (some (.i s)),zE (zv (xs:=[.sc ns,.i (a+k)]) rfl es),pf (iV (zy (zl rfl (zl rfl rfl (kR (by omega))) eo) (zy (zl rfl (zl (zl rfl rfl (xf (by omega) (by omega))) rfl (kR (by omega))) eg) (zy (zl rfl (zl (iU rfl (by decide) (by decide)) rfl (kR (by omega))) rfl) rfl))) (P4 rfl)) (by omega)⟩)⟩)
 subst hρ;exact⟨W,by omega,gW,zJ (zd ⟨_,zE (zv (xs:=[.l (N.map .s)]) rfl Qd),zd ⟨_,zE (zl (oR (xs:=[.i 60,.i 60,.i 3,.i 200000000]) rfl (P4 rfl)) (wc (zv (xs:=[.sc ns,.i a,.i 65521]) rfl eu) (by decide)) ef),zd ⟨_,rfl,zd ⟨_,q1,zd ⟨_,qU (nK er2 R0 (by omega)) e,rfl⟩⟩⟩⟩⟩)⟩
def ph(h:m ρ=.ok (.dt L))(h1:ms ρ=.ok [.s x,.s y])(h2:md ρ=.ok (.i n)):iJ m ms md ρ=.ok (.i ((zB L [sk x,sk y]).getD n)):=by unfold iJ;rw[h,okb];show(ms ρ).bind _=_;rw[h1,okb];show(md ρ).bind (F_ L [sk x,sk y])=_;rw[h2,okb];rfl
def eB(h:ρ[i]?=some (some (.dt L)))(h1:ms ρ=.ok [.s x,.s y])(h2:mv ρ=.ok (.i n))(hl:L.length<100000):bC i ms mv ρ=.ok (.nx (ρ.set i (some (.dt (dput L [sk x,sk y] n))))):=by unfold bC;rw[h2,okb,h,h1];show(if _ then _ else _)=_;exact if_pos (N5 hl (by decide))
def gN{κ α:Type}[DecidableEq κ]{L:List (κ×α)}{k:κ}{v:α}:(dput L k v).length<=L.length+1:=by
 unfold dput;split
 .rw[t0];omega
 .rw[N8];exact L5 _
def Et:([sk a,sk b]=[sk c,sk d])↔(a=c/\b=d):=by
 constructor
 .intro h;injection h with h1 h2
  injection h2 with h2 _
  exact⟨a0n h1,a0n h2⟩
 .rintro ⟨rfl,rfl⟩;rfl
inductive WkM(N:HA)(W:List Wy)(M:HA):Str->Str->Int->Prop
 |nil {a}:a∈N->WkM N W M a a 0
 |edge {w:Wy}:w∈W->WkM N W M w.1 w.2.1 w.2.2
 |via {a m b u v}:m∈M->WkM N W M a m u->WkM N W M m b v->WkM N W M a b (u+v)
section
variable {N M:HA}{W:List Wy}{L L' L0:Lst}{a b m:Str}{u v:Int}
def WkM.nn(hW:WS N W)(h:WkM N W M a b v):0<=v:=by
 induction h with
 |nil _=>exact a0h _
 |edge hw=>have:=(hW _ hw).2.2.1;omega
 |via _ _ _ i j=>omega
def WkM.ends(hW:WS N W)(h:WkM N W M a b v):a∈N/\b∈N:=by
 induction h with
 |nil h=>exact⟨h,h⟩
 |edge hw=>exact⟨(hW _ hw).1,(hW _ hw).2.1⟩
 |via _ _ _ i j=>exact⟨i.1,j.2⟩
def WkM.split(hM:∀z∈M',z∈M\/z=x)(hW:WS N W)(h:WkM N W M' a b v):(∃u,u<=v/\WkM N W M a b u)\/∃s t,s+t<=v/\WkM N W M a x s/\WkM N W M x b t:=by
 induction h with
 |nil h=>exact .inl ⟨_,a0h _,.nil h⟩
 |edge hw=>exact .inl ⟨_,a0h _,.edge hw⟩
 |via hm _ _ i j=>
  rcases hM _ hm with hm|rfl
  .rcases i with⟨u1,l1,w1⟩|⟨s1,t1,l1,p1,q1⟩<;>rcases j with⟨u2,l2,w2⟩|⟨s2,t2,l2,p2,q2⟩
   .exact .inl ⟨_,by omega,.via hm w1 w2⟩
   .exact .inr ⟨_,_,by omega,.via hm w1 p2,q2⟩
   .exact .inr ⟨_,_,by omega,p1,.via hm q1 w2⟩
   .have:=q1.nn hW;have:=p2.nn hW;exact .inr ⟨_,_,by omega,p1,q2⟩
  .rcases i with⟨u1,l1,w1⟩|⟨s1,t1,l1,p1,q1⟩<;>rcases j with⟨u2,l2,w2⟩|⟨s2,t2,l2,p2,q2⟩
   .exact .inr ⟨_,_,by omega,w1,w2⟩
   .have:=p2.nn hW;exact .inr ⟨_,_,by omega,w1,q2⟩
   .have:=q1.nn hW;exact .inr ⟨_,_,by omega,p1,w2⟩
   .have:=q1.nn hW;have:=p2.nn hW;exact .inr ⟨_,_,by omega,p1,q2⟩
def at2(L:Lst)(a b:Str):Option Int:=zB L [sk a,sk b]
def Snd(N:HA)(W:List Wy)(L:Lst):Prop:=∀a b v,at2 L a b=some v->WkM N W N a b v
def yt(L:Lst)(a b:Str)(v:Int):Prop:=∃u,u<=v/\at2 L a b=some u
def Dwn(L L':Lst):Prop:=∀a b v,at2 L a b=some v->yt L' a b v
def Cmp(N:HA)(W:List Wy)(M:HA)(L:Lst):Prop:=∀a b v,WkM N W M a b v->yt L a b v
def Dwn.refl:Dwn L L:=λ_ _ v h=>⟨v,a0h _,h⟩
def yt.dwn(h:yt L a b v)(d:Dwn L L'):yt L' a b v:=by obtain⟨u,l,e⟩:=h;obtain⟨w,l',e'⟩:=d _ _ _ e;exact⟨w,by omega,e'⟩
def Dwn.trans(d:Dwn L L')(d':Dwn L' L''):Dwn L L'':=λa b v h=>(d a b v h).dwn d'
def ue(L:Lst)(a b:Str)(v:Int):Lst:=dput L [sk a,sk b] (min v ((zB L [sk a,sk b]).getD v))
def WO:at2 (dput L [sk a,sk b] v) c d=if a=c/\b=d then some v else at2 L c d:=by
 unfold at2;rw[kX];by_cases h:a=c/\b=d
 .rw[if_pos h,if_pos (Et.mpr h)]
 .rw[if_neg h,if_neg λe=>h (Et.mp e)]
def ao:Dwn L (ue L a b v):=λc d w h=>by
 unfold ue yt;rw[WO];by_cases q:a=c/\b=d
 .obtain⟨rfl,rfl⟩:=q;rw[if_pos ⟨rfl,rfl⟩];unfold at2 at h;rw[h];exact⟨_,Int.min_le_right _ _,rfl⟩
 .rw[if_neg q];exact⟨w,a0h _,h⟩
def pq:yt (ue L a b v) a b v:=by unfold ue yt;rw[WO,if_pos ⟨rfl,rfl⟩];exact⟨_,Int.min_le_left _ _,rfl⟩
def gO(h:Snd N W L)(hw:WkM N W N a b v):Snd N W (ue L a b v):=λc d w e=>by
 unfold ue at e;rw[WO]at e;split at e
 .rename_i q;obtain⟨rfl,rfl⟩:=q;cases e;cases hq:zB L [sk a,sk b]with
  |none=>rw[Option.getD_none,Int.min_self];exact hw
  |some x=>
   rw[Option.getD_some];rcases a2S v x with l|l
   .rw[Int.min_eq_left l];exact hw
   .rw[Int.min_eq_right l];exact h _ _ _ hq
 .exact h _ _ _ e
def gP:(ue L a b v).length<=L.length+1:=gN
abbrev lSt(N:HA)(W:List Wy)(L:Lst)(p q r s t z:Iu):Sto:=[some (.l (N.map .s)),some (.l (W.map wP)),some (.dt L),p,q,r,s,t,z]
variable {p q r s t z:Iu}
def Gi(hl:N.length<=12):∃L p,L.length<=N.length/\Snd N W L/\(∀x∈N,yt L x x 0)/\YU j7 j8 (N.map .s) (lSt N W [] none q r s t z)=.ok (.nx (lSt N W L p q r s t z)):=by
 obtain⟨ρ',⟨L,p,l,hs,hc,rfl⟩,e⟩:=ZJ (g:=j7) (b:=j8) PV.s (λk ρ=>∃L p,L.length<=k/\Snd N W L/\(∀x∈N.take k,yt L x x 0)/\ρ=lSt N W L p q r s t z) N (lSt N W [] none q r s t z) ⟨[],none,L5 _,λ_ _ _ e=>(nomatch(show(none:IF)=some _ from e)),λx hx=>(nomatch hx),rfl⟩ (λk hk ρ ⟨L,p,l,hs,hc,hρ⟩=>by
  subst hρ;refine⟨_,rfl,_,⟨dput L [sk N[k],sk N[k]] 0,some (.s N[k]),O5 gN (by omega),λc d w e=>?_,λx hx=>?_,rfl⟩,.inl (eB rfl rfl rfl (by omega))⟩
  .rw[WO]at e;split at e
   .rename_i h;obtain⟨rfl,rfl⟩:=h;cases e;exact .nil (a0f _)
   .exact hs _ _ _ e
  .unfold yt;rw[WO];by_cases h:N[k]=x/\N[k]=x
   .rw[if_pos h];exact⟨0,a0h _,rfl⟩
   .rw[if_neg h];rw[S5 hk]at hx;rcases S4.mp hx with hx|hx
    .exact hc x hx
    .have:=O0.mp hx;exact absurd ⟨this.symm,this.symm⟩ h)
 exact⟨L,p,l,hs,λx hx=>hc x (by rw[a0t];exact hx),e⟩
def Gj(hl:L0.length<=12)(hW:W.length<=60)(h0:Snd N W L0):∃L q r s,L.length<=L0.length+W.length/\Snd N W L/\Dwn L0 L/\(∀w∈W,yt L w.1 w.2.1 w.2.2)/\YU j9 j_ (W.map wP) (lSt N W L0 p none none none t z)=.ok (.nx (lSt N W L p q r s t z)):=by
 obtain⟨ρ',⟨L,q,r,s,l,hs,hd,hc,rfl⟩,e⟩:=ZJ (g:=j9) (b:=j_) wP (λk ρ=>∃L q r s,L.length<=L0.length+k/\Snd N W L/\Dwn L0 L/\(∀w∈W.take k,yt L w.1 w.2.1 w.2.2)/\ρ=lSt N W L p q r s t z) W (lSt N W L0 p none none none t z) ⟨L0,none,none,none,L5 _,h0,Dwn.refl,λx hx=>(nomatch hx),rfl⟩ (λk hk ρ ⟨L,q,r,s,l,hs,hd,hc,hρ⟩=>by
  subst hρ;refine⟨_,rfl,_,⟨ue L W[k].1 W[k].2.1 W[k].2.2,some (.s W[k].1),some (.s W[k].2.1),some (.i W[k].2.2),O5 gP (by omega),gO hs (.edge (a0f _)),hd.trans ao,λx hx=>?_,rfl⟩,.inl (eB rfl rfl (zv (zy rfl (zy (ph rfl rfl rfl) rfl)) rfl) (by omega))⟩;rw[S5 hk]at hx;rcases S4.mp hx with hx|hx
  .exact(hc x hx).dwn ao
  .rw[O0.mp hx];exact pq)
 exact⟨L,q,r,s,l,hs,hd,λx hx=>hc x (by rw[a0t];exact hx),e⟩
end
section
variable {N M:HA}{W:List Wy}{L L' L0:Lst}{a b m:Str}{u v:Int}{p q r s t z:Iu}
def BL(h:Snd N W L)(hm:m∈N)(hl:L.length<100000):∃L' z',L'.length<=L.length+1/\Snd N W L'/\Dwn L L'/\(∀x y,yt L a m x->yt L m b y->yt L' a b (x+y))/\qJ (lSt N W L p (some (.s a)) (some (.s b)) s (some (.s m)) z)=.ok (.nx (lSt N W L' p (some (.s a)) (some (.s b)) s (some (.s m)) z')):=by
 have e:=yg (ρ:=lSt N W L p (some (.s a)) (some (.s b)) s (some (.s m)) z) (a:=zQ (yr 8 (mOp zZ (rj (zc 2) (zb (zc 4) (zb (zc 7) zq))) (rj (zc 2) (zb (zc 7) (zb (zc 5) zq))))) (bC 2 (zb (zc 4) (zb (zc 5) zq)) (zk Uz (zb (zc 8) (zb (iJ (zc 2) (zb (zc 4) (zb (zc 5) zq)) (zc 8)) zq))))) (b:=z5) (wd (gE (n:=false) (ms:=zb (zc 4) (zb (zc 7) zq)) (m:=zc 2) (x:=a) (y:=m) (L:=L) rfl rfl) (gE (n:=false) (ms:=zb (zc 7) (zb (zc 5) zq)) (m:=zc 2) (x:=m) (y:=b) (L:=L) rfl rfl));cases e1:zB L [sk a,sk m]with
 |none=>rw[e1]at e;exact⟨L,z,T8 _,h,Dwn.refl,λx y ⟨_,_,q⟩ _=>(nomatch(e1.symm.trans q)),e⟩
 |some x=>
  cases e2:zB L [sk m,sk b]with
  |none=>rw[e1,e2]at e;exact⟨L,z,T8 _,h,Dwn.refl,λx y _ ⟨_,_,q⟩=>(nomatch(e2.symm.trans q)),e⟩
  |some y=>rw[e1,e2]at e;refine⟨ue L a b (x+y),some (.i (x+y)),gP,gO h (.via hm (h _ _ _ e1) (h _ _ _ e2)),ao,λx' y' ⟨x1,l1,q1⟩ ⟨y1,l2,q2⟩=>?_,e.trans (zd ⟨lSt N W L p (some (.s a)) (some (.s b)) s (some (.s m)) (some (.i (x+y))),zE (zl (gG rfl rfl e1) (gG rfl rfl e2) rfl),eB rfl rfl (zv (zy rfl (zy (ph rfl rfl rfl) rfl)) rfl) hl⟩)⟩;obtain⟨w,lw,ew⟩:=pq (L:=L) (a:=a) (b:=b) (v:=x+y);cases(e1.symm.trans q1:some x=some x1);cases(e2.symm.trans q2:some y=some y1);exact⟨w,by omega,ew⟩
def Gk(h0:Snd N W L0)(hm:m∈N)(hn:N.length<=12)(hl:L0.length<=10000):∃L r' z',L.length<=L0.length+N.length/\Snd N W L/\Dwn L0 L/\(∀b∈N,∀x y,yt L0 a m x->yt L0 m b y->yt L a b (x+y))/\YU kc qJ (N.map .s) (lSt N W L0 p (some (.s a)) r s (some (.s m)) z)=.ok (.nx (lSt N W L p (some (.s a)) r' s (some (.s m)) z')):=by
 obtain⟨ρ',⟨L,r',z',l,hs,hd,hc,rfl⟩,e⟩:=ZJ (g:=kc) (b:=qJ) PV.s (λk ρ=>∃L r' z',L.length<=L0.length+k/\Snd N W L/\Dwn L0 L/\(∀b∈N.take k,∀x y,yt L0 a m x->yt L0 m b y->yt L a b (x+y))/\ρ=lSt N W L p (some (.s a)) r' s (some (.s m)) z') N (lSt N W L0 p (some (.s a)) r s (some (.s m)) z) ⟨L0,r,z,L5 _,h0,Dwn.refl,λx hx=>(nomatch hx),rfl⟩ (λk hk ρ ⟨L,r',z',l,hs,hd,hc,hρ⟩=>by
  subst hρ;obtain⟨L2,z2,l2,s2,d2,c2,e2⟩:=BL (a:=a) (b:=N[k]) (p:=p) (s:=s) (z:=z') hs hm (by omega);refine⟨_,rfl,_,⟨L2,some (.s N[k]),z2,by omega,s2,hd.trans d2,λb hb x y hx hy=>?_,rfl⟩,.inl e2⟩;rw[S5 hk]at hb;rcases S4.mp hb with hb|hb
  .exact(hc b hb x y hx hy).dwn d2
  .rw[O0.mp hb]at hy ⊢;exact c2 x y (hx.dwn hd) (hy.dwn hd))
 exact⟨L,r',z',l,hs,hd,λx hx=>hc x (by rw[a0t];exact hx),e⟩
def Gm(h0:Snd N W L0)(hm:m∈N)(hn:N.length<=12)(hl:L0.length<=5000):∃L q' r' z',L.length<=L0.length+N.length*12/\Snd N W L/\Dwn L0 L/\(∀a∈N,∀b∈N,∀x y,yt L0 a m x->yt L0 m b y->yt L a b (x+y))/\YU ke kf (N.map .s) (lSt N W L0 p q r s (some (.s m)) z)=.ok (.nx (lSt N W L p q' r' s (some (.s m)) z')):=by
 obtain⟨ρ',⟨L,q',r',z',l,hs,hd,hc,rfl⟩,e⟩:=ZJ (g:=ke) (b:=kf) PV.s (λk ρ=>∃L q' r' z',L.length<=L0.length+k*12/\Snd N W L/\Dwn L0 L/\(∀a∈N.take k,∀b∈N,∀x y,yt L0 a m x->yt L0 m b y->yt L a b (x+y))/\ρ=lSt N W L p q' r' s (some (.s m)) z') N (lSt N W L0 p q r s (some (.s m)) z) ⟨L0,q,r,z,L5 _,h0,Dwn.refl,λx hx=>(nomatch hx),rfl⟩ (λk hk ρ ⟨L,q',r',z',l,hs,hd,hc,hρ⟩=>by
  subst hρ;obtain⟨L2,r2,z2,l2,s2,d2,c2,e2⟩:=Gk (a:=N[k]) (p:=p) (r:=r') (s:=s) (z:=z') hs hm hn (by omega);refine⟨_,rfl,_,⟨L2,some (.s N[k]),r2,z2,by omega,s2,hd.trans d2,λa ha b hb x y hx hy=>?_,rfl⟩,.inl (qU (ya rfl) e2)⟩;rw[S5 hk]at ha;rcases S4.mp ha with ha|ha
  .exact(hc a ha b hb x y hx hy).dwn d2
  .rw[O0.mp ha]at hx ⊢;exact c2 b hb x y (hx.dwn hd) (hy.dwn hd))
 exact⟨L,q',r',z',l,hs,hd,λx hx=>hc x (by rw[a0t];exact hx),e⟩
def Gn(h0:Snd N W L0)(hW:WS N W)(hn:N.length<=12)(hl:L0.length<=100)(h1:Cmp N W [] L0):∃L q' r' t' z',L.length<=5000/\Snd N W L/\Cmp N W N L/\YU kg kh (N.map .s) (lSt N W L0 p q r s t z)=.ok (.nx (lSt N W L p q' r' s t' z')):=by
 obtain⟨ρ',⟨L,q',r',t',z',l,hs,hc,rfl⟩,e⟩:=ZJ (g:=kg) (b:=kh) PV.s (λk ρ=>∃L q' r' t' z',L.length<=100+k*144/\Snd N W L/\Cmp N W (N.take k) L/\ρ=lSt N W L p q' r' s t' z') N (lSt N W L0 p q r s t z) ⟨L0,q,r,t,z,by omega,h0,h1,rfl⟩ (λk hk ρ ⟨L,q',r',t',z',l,hs,hc,hρ⟩=>by
  subst hρ;obtain⟨L2,q2,r2,z2,l2,s2,d2,c2,e2⟩:=Gm (m:=N[k]) (p:=p) (q:=q') (r:=r') (s:=s) (z:=z') hs (a0f _) hn (by omega);refine⟨_,rfl,_,⟨L2,q2,r2,some (.s N[k]),z2,by omega,s2,λa b v h=>?_,rfl⟩,.inl (qU (ya rfl) e2)⟩;obtain⟨ha,hb⟩:=h.ends hW;rw[S5 hk]at h;rcases h.split (M:=N.take k) (x:=N[k]) (λz hz=>(S4.mp hz).imp id O0.mp) hW with⟨u,lu,w⟩|⟨s',t',le,w1,w2⟩
  .obtain⟨u',lu',e'⟩:=(hc _ _ _ w).dwn d2;exact⟨u',by omega,e'⟩
  .obtain⟨u',lu',e'⟩:=c2 a ha b hb s' t' (hc _ _ _ w1) (hc _ _ _ w2);exact⟨u',by omega,e'⟩)
 rw[a0t]at hc;exact⟨L,q',r',t',z',by omega,hs,hc,e⟩
def LOk(N:HA)(L:Lst)(F:Str->Ht):Prop:=(∀a∈N,∀b∈N,zB L [sk a,sk b]=zB (F a) (sk b))
def cn(hW:WS N W)(g:kn o W F)(h:WkM N W N a b v):∀x,zB F (sk a)=some x->∃y,y<=x+v/\zB F (sk b)=some y:=by
 induction h with
 |nil _=>intro x e;exact⟨x,by omega,e⟩
 |edge hw=>intro x e;obtain⟨y,e',l⟩:=g.2 _ hw x e;exact⟨y,l,e'⟩
 |via _ _ _ i j=>intro x e;obtain⟨y,l,e'⟩:=i x e;obtain⟨y',l',e''⟩:=j y e';exact⟨y',by omega,e''⟩
def WQ(hW:WS N W)(g:kn o W F)(ho:o∈N):∀(n:Nat){z:Str}{y:Int},y.toNat<=n->zB F (sk z)=some y->WkM N W N o z y:=by
 intro n
 induction n with
 |zero=>
  intro z y hn e;by_cases hz:z=o
  .subst hz;cases(g.1.own.symm.trans e);exact .nil ho
  .obtain⟨w,hw,_,x,ex,exy⟩:=g.pb e hz;have:=(hW w hw).2.2.1;have:=g.1.pos _ _ ex;omega
 |succ n ih=>
  intro z y hn e;by_cases hz:z=o
  .subst hz;cases(g.1.own.symm.trans e);exact .nil ho
  .obtain⟨w,hw,rfl,x,ex,exy⟩:=g.pb e hz;have h1:=hW w hw;have:=g.1.pos _ _ ex;rw[<- exy];exact .via h1.1 (ih (by omega) ex) (.edge hw)
def eC(hW:WS N W)(hn:N.length<=12)(hl:W.length<=60)(gF:∀z,kn z W (F z)):∃L,LOk N L F/\y9 [.l (N.map .s),.l (W.map wP)]=.ok (.dt L):=by
 obtain⟨L1,p1,a1,s1,n1,e1⟩:=Gi (N:=N) (W:=W) (q:=none) (r:=none) (s:=none) (t:=none) (z:=none) hn;obtain⟨L2,q2,r2,s2',a2,s2,d2,n2,e2⟩:=Gj (N:=N) (W:=W) (L0:=L1) (p:=p1) (t:=none) (z:=none) (by omega) hl s1;have c0:Cmp N W [] L2:=λa b v h=>by
  cases h with
  |nil h=>exact(n1 _ h).dwn d2
  |edge hw=>exact n2 _ hw
  |via h _ _=>cases h
 obtain⟨L,q3,r3,t3,z3,_,s3,c3,e3⟩:=Gn (p:=p1) (q:=q2) (r:=r2) (s:=s2') (t:=none) (z:=none) s2 hW hn (by omega) c0;refine⟨L,λa ha b hb=>?_,zJ (zd ⟨_,rfl,zd ⟨_,qU (ya rfl) e1,zd ⟨_,qU (ya rfl) e2,zd ⟨_,qU (ya rfl) e3,rfl⟩⟩⟩⟩)⟩;cases e:zB L [sk a,sk b]with
 |none=>
  cases e':zB (F a) (sk b)with
  |none=>rfl
  |some y=>obtain⟨u,_,q⟩:=c3 _ _ _ (WQ hW (gF a) ha _ (L5 _) e');cases(e.symm.trans q)
 |some v=>obtain⟨y,l,e'⟩:=cn hW (gF a) (s3 _ _ _ e) 0 (gF a).1.own;obtain⟨u,l',q⟩:=c3 _ _ _ (WQ hW (gF a) ha _ (L5 _) e');cases(e.symm.trans q);rw[e',show y=v by omega]
def below(h:Ht)(y:Int):Nat:=(h.filter λp=>decide (p.2<y)).length
def gQ{x y:Int}(l:x<=y):∀{h:Ht},below h x<=below h y
 |[]=>L5 _
 |p::h=>by
  have i:=gQ l (h:=h);unfold below at i ⊢;rw[a04,a04];by_cases c:p.2<x
  .rw[if_pos (M6 c),if_pos (M6 (show p.2<y by omega))];exact a05 i
  .rw[if_neg (by rw[M4 c];decide)];split
   .exact a1n i
   .exact i
def gR{x y:Int}(l:x<y):∀{h:Ht}{k:Key},(k,x)∈h->below h x+1<=below h y
 |[],_,e=>by cases e
 |p::h,k,e=>by
  unfold below;rw[a04,a04];rcases N4.mp e with e|e
  .subst e;rw[if_neg (by rw[M4 (show ¬x<x by omega)];decide),if_pos (M6 l)];exact a05 (gQ (Int.le_of_lt l))
  .have i:=gR l e;unfold below at i;by_cases c:p.2<x
   .rw[if_pos (M6 c),if_pos (M6 (show p.2<y by omega))];exact a05 i
   .rw[if_neg (by rw[M4 c];decide)];split
    .exact a1n i
    .exact i
def cq{y:Int}:∀{h:Ht}{k:Key},(k,y)∈h->below h y+1<=h.length
 |[],_,e=>by cases e
 |p::h,k,e=>by
  unfold below;rw[a04];rcases N4.mp e with e|e
  .subst e;rw[if_neg (by rw[M4 (show ¬y<y by omega)];decide),I0];exact a05 (a2B _ _)
  .have i:=cq e;unfold below at i;split
   .exact a05 i
   .exact a1n i
def cu(hW:WS N W)(g:kn o W F):∀(n:Nat){z:Str}{y:Int},y.toNat<=n->zB F (sk z)=some y->y<=200000000*(below F y:Int):=by
 intro n
 induction n with
 |zero=>intro z y hn e;have:=g.1.pos _ _ e;omega
 |succ n ih=>
  intro z y hn e;by_cases hz:z=o
  .subst hz;cases(g.1.own.symm.trans e);omega
  .obtain⟨w,hw,rfl,x,ex,exy⟩:=g.pb e hz;have h1:=hW w hw;have:=g.1.pos _ _ ex;have i:=ih (y:=x) (by omega) ex;have j:=gR (x:=x) (y:=y) (by omega) (YI ex);omega
def iY{F:Ht}{o:Str}(hW:WS N W)(g:kn o W F)(ho:o∈N){z:Str}{y:Int}(e:zB F (sk z)=some y):0<=y/\y+200000000<=200000000*(N.length:Int):=by
 have a:=cu hW g _ (L5 _) e;have b:=cq (YI e);have c:F.length<=N.length:=by
  have:=Ya (a:=F.map (·.1)) (b:=N.map sk) g.1.nd (λk hk=>by
   rcases N4.mp (g.1.sub k hk)with rfl|hk
   .exact a0c ho
   .obtain⟨w,hw,rfl⟩:=T1.mp hk;exact a0c (hW w hw).2.1)
  rw[t0,t0]at this;exact this
 have:=g.1.pos _ _ e;omega
end
abbrev Tp:=Str×Str×Str×Int×Int×Int
def tP(t:Tp):PV:=.t [.s t.1,.s t.2.1,.s t.2.2.1,.i t.2.2.2.1,.i t.2.2.2.2.1,.i t.2.2.2.2.2]
structure TOk(N:HA)(F:Str->Ht)(t:Tp):Prop where
 org:t.2.1∈N
 goal:t.2.2.1∈N
 len:∃y,zB (F t.2.1) (sk t.2.2.1)=some y/\y<=t.2.2.2.2.1-t.2.2.2.1
 st:0<=t.2.2.2.1
 fw:t.2.2.2.1<t.2.2.2.2.1
 fin:t.2.2.2.2.1<=1000000000
 Hx:0<=t.2.2.2.2.2/\t.2.2.2.2.2<=1000000000
def aP:Option Tp->PV
 |none=>.n
 |some t=>tP t
abbrev tSt(ns:Ij)(a:Int)(nm:Str)(P:HA)(L:Lst)(ah:Option Tp)(r:Sto):Sto:=[some (.sc ns),some (.i a),some (.s nm),some (.l (P.map .s)),some (.dt L),some (aP ah)]++r
def BM(ha:0<=a)(h0:0<P.length)(hL:LOk P L F)(hF:∀o∈P,∀z y,zB (F o) (sk z)=some y->0<=y/\y<=800000000)(hO:∀o∈P,zB (F o) (sk o)=some 0)(hA:∀t,ah=some t->TOk P F t):∃t,t.1=nm/\TOk P F t/\qW [.sc ns,.i a,.s nm,.l (P.map .s),.dt L,aP ah]=.ok (tP t):=by
 obtain⟨c1,e1⟩:=YL (ns:=ns) (k:=a) ha;obtain⟨c2,e2⟩:=YL (ns:=ns) (k:=a+1) (by omega);obtain⟨c3,e3⟩:=YL (ns:=ns) (k:=a+2) (by omega);obtain⟨o,ho,eo⟩:=WM (N:=P) (s:=c1) h0;obtain⟨g0,hg0,eg0⟩:=WM (N:=P) (s:=c1 / 5) h0;obtain⟨g,y,hg,ey,q10⟩:∃g y,g∈P/\zB L [sk o,sk g]=some y/\sIf (zX (nW true (zb (zc 9) (zb (zc 10) zq)) (zc 4))) (yr 10 (zc 9)) z5 (tSt ns a nm P L ah [some (.i c1),some (.i c2),some (.i c3),some (.s o),some (.s g0),none,none,none])=.ok (.nx (tSt ns a nm P L ah [some (.i c1),some (.i c2),some (.i c3),some (.s o),some (.s g),none,none,none])):=by
  have t:=yg (ρ:=tSt ns a nm P L ah [some (.i c1),some (.i c2),some (.i c3),some (.s o),some (.s g0),none,none,none]) (a:=yr 10 (zc 9)) (b:=z5) (gE (n:=true) (ms:=zb (zc 9) (zb (zc 10) zq)) (m:=zc 4) (x:=o) (y:=g0) (L:=L) rfl rfl);cases e:zB L [sk o,sk g0]with
  |none=>rw[e]at t;exact⟨o,0,ho,(hL o ho o ho).trans (hO o ho),t⟩
  |some y=>rw[e]at t;exact⟨g0,y,hg0,e,t⟩
 have ey':=(hL o ho g hg).symm.trans ey;have yb:=hF o ho g y ey';obtain⟨mo,hmo,emo⟩:=oW (xs:=[0,c3 % 60,c2 % 7,c3 % 100000000]) (i:=c1 / 25 % 4) (O8 _ (by decide)) (O3 _ (by decide));have mb:0<=mo/\mo<100000000:=by simp only[List.mem_cons,List.not_mem_nil,or_false]at hmo;omega
 have kb:1<=max 1 (y+mo)/\y<=max 1 (y+mo)/\max 1 (y+mo)<=900000000:=by omega
 obtain⟨s0,hs0,es0⟩:=oW (xs:=[c2 % 1440,c2 % 200,c2 % 1000000000]) (i:=c1 / 100 % 3) (O8 _ (by decide)) (O3 _ (by decide));have sb:0<=s0:=by simp only[List.mem_cons,List.not_mem_nil,or_false]at hs0;omega
 obtain⟨s1,s1b,q14⟩:∃s1:Int,0<=s1/\sIf (XR (zX (mOp (Zx false) (mOp zU (mOp ZF (zc 6) (mC (.i 300))) (mC (.i 2))) (mC (.i 1)))) (XR (zX (mOp (lh true) (zc 5) (mC .n))) (zX (nW false (zb (mOp pIx (zc 5) (mC (.i 2))) (zb (zc 9) zq)) (zc 4))))) (yr 13 (mOp lg (mOp zZ (mOp zZ (mOp pIx (zc 5) (mC (.i 4))) (rj (zc 4) (zb (mOp pIx (zc 5) (mC (.i 2))) (zb (zc 9) zq)))) (mOp zU (zc 7) (mC (.i 3)))) (mC (.i 1)))) z5 (tSt ns a nm P L ah [some (.i c1),some (.i c2),some (.i c3),some (.s o),some (.s g),some (.i mo),some (.i (max 1 (y+mo))),some (.i s0)])=.ok (.nx (tSt ns a nm P L ah [some (.i c1),some (.i c2),some (.i c3),some (.s o),some (.s g),some (.i mo),some (.i (max 1 (y+mo))),some (.i s1)])):=by
  have d1:=oS (ρ:=tSt ns a nm P L ah [some (.i c1),some (.i c2),some (.i c3),some (.s o),some (.s g),some (.i mo),some (.i (max 1 (y+mo))),some (.i s0)]) (a:=mOp zU (mOp ZF (zc 6) (mC (.i 300))) (mC (.i 2))) (n:=1) (By rfl (by decide) (by decide) (by decide));generalize decide (c1 / 300 % 2=1)=d at d1;cases d with
  |false=>exact⟨s0,sb,yg (WH d1)⟩
  |true=>
   cases ah with
   |none=>exact⟨s0,sb,yg (wd d1 (WH rfl))⟩
   |some t=>
    have T:=hA t rfl;have i1:=gE (n:=false) (ms:=zb (mOp pIx (zc 5) (mC (.i 2))) (zb (zc 9) zq)) (m:=zc 4) (x:=t.2.2.1) (y:=o) (L:=L) (ρ:=tSt ns a nm P L (some t) [some (.i c1),some (.i c2),some (.i c3),some (.s o),some (.s g),some (.i mo),some (.i (max 1 (y+mo))),some (.i s0)]) rfl rfl;cases e:zB L [sk t.2.2.1,sk o]with
    |none=>rw[e]at i1;exact⟨s0,sb,yg (wd d1 (wd (x:=true) rfl i1))⟩
    |some v=>rw[e]at i1;have vb:=hF _ T.goal o v ((hL _ T.goal o ho).symm.trans e);have:=T.fw;have:=T.st;exact⟨t.2.2.2.2.1+v+c2 % 3-1,by omega,(yg (wd d1 (wd (x:=true) rfl i1))).trans (zE (zl (zl (zl (x:=.i t.2.2.2.2.1) rfl (gG rfl rfl e) rfl) (wc rfl (by decide)) rfl) rfl rfl))⟩
 have s2b:0<=min s1 (1000000000-(max 1 (y+mo)))/\min s1 (1000000000-(max 1 (y+mo)))+(max 1 (y+mo))<=1000000000:=by omega
 refine⟨(nm,o,g,(min s1 (1000000000-(max 1 (y+mo)))),(min s1 (1000000000-(max 1 (y+mo))))+(max 1 (y+mo)),c3 / 7 % 1000000001),rfl,⟨ho,hg,⟨y,ey',by show y<=(min s1 (1000000000-(max 1 (y+mo))))+(max 1 (y+mo))-(min s1 (1000000000-(max 1 (y+mo))));omega⟩,s2b.1,by show(min s1 (1000000000-(max 1 (y+mo))))<(min s1 (1000000000-(max 1 (y+mo))))+(max 1 (y+mo));omega,s2b.2,⟨O8 _ (by decide),by have:=O3 (c3 / 7) (show(0:Int)<1000000001 by decide);show c3 / 7 % 1000000001<=1000000000;omega⟩⟩,zJ (zd ⟨_,zE (zv (xs:=[.sc ns,.i a]) rfl e1),zd ⟨_,zE (zv (xs:=[.sc ns,.i (a+1)]) rfl e2),zd ⟨_,zE (zv (xs:=[.sc ns,.i (a+2)]) rfl e3),zd ⟨_,zE (zl rfl (zl rfl (zv (xs:=[.l (P.map .s)]) rfl Qd) (kR (by omega))) eo),zd ⟨_,zE (zl rfl (zl (iU rfl (by decide) (by decide)) (zv (xs:=[.l (P.map .s)]) rfl Qd) (kR (by omega))) eg0),zd ⟨_,q10,zd ⟨_,zE (zl (oR (zy rfl (zy (wc rfl (by decide)) (zy (wc rfl (by decide)) (zy (zl (y:=.i 100000000) rfl rfl (kR (by decide))) rfl)))) (P4 rfl)) (By rfl (by decide) (by decide) (by decide)) emo),zd ⟨_,zE (zv (zy rfl (zy (zl (gG rfl rfl ey) rfl rfl) rfl)) rfl),zd ⟨_,zE (zl (oR (zy (wc rfl (by decide)) (zy (wc rfl (by decide)) (zy (zl (y:=.i 1000000000) rfl rfl (kR (by decide))) rfl))) (P4 rfl)) (By rfl (by decide) (by decide) (by decide)) es0),zd ⟨_,q14,zd ⟨_,zE (zv (zy rfl (zy (zl (x:=.i 1000000000) rfl rfl rfl) rfl)) rfl),YQ (iV (zy rfl (zy rfl (zy rfl (zy rfl (zy (zl rfl rfl rfl) (zy (zl (iU rfl (by decide) (by decide)) (y:=.i 1000000001) rfl (kR (by decide))) rfl)))))) (P4 rfl))⟩⟩⟩⟩⟩⟩⟩⟩⟩⟩⟩)⟩
def uf(ha:0<=a)(hQ:Q.length<=100)(h0:0<P.length)(hL:LOk P L F)(hF:∀o∈P,∀z y,zB (F o) (sk z)=some y->0<=y/\y<=800000000)(hO:∀o∈P,zB (F o) (sk o)=some 0):∃T:List Tp,T.map (·.1)=Q/\(∀t∈T,TOk P F t)/\qY [.sc ns,.i a,.l (Q.map .s),.l (P.map .s),.dt L]=.ok (.l (T.map tP)):=by
 obtain⟨ρ',⟨T,x,y,hT,gT,hρ⟩,e⟩:=Jf (g:=JC) (b:=JD) (λk ρ=>∃(T:List Tp)(x y:Iu),T.map (·.1)=Q.take k/\(∀t∈T,TOk P F t)/\ρ=[some (.sc ns),some (.i a),some (.l (Q.map .s)),some (.l (P.map .s)),some (.dt L),some (.l (T.map tP)),x,y]) Q.length [some (.sc ns),some (.i a),some (.l (Q.map .s)),some (.l (P.map .s)),some (.dt L),some (.l []),none,none] ⟨[],none,none,rfl,λx hx=>(nomatch hx),rfl⟩ (λk hk ρ ⟨T,x,y,hT,gT,hρ⟩=>by
  subst hρ;have lT:T.length=k:=by have:=R8 List.length hT;rw[t0,T2]at this;omega
  obtain⟨ah,hA,q⟩:∃ah:Option Tp,(∀t,ah=some t->TOk P F t)/\sIf (zX (mOp pGt (zc 6) (mC (.i 0)))) (yr 7 (mOp pIx (zc 5) (mOp zU (zk zO (zb (zc 0) (zb (mOp zZ (mOp zZ (zc 1) (mOp YO (mC (.i 3)) (zc 6))) (mC (.i 1))) (zb (mC (.i 65479)) zq)))) (zc 6)))) z5 [some (.sc ns),some (.i a),some (.l (Q.map .s)),some (.l (P.map .s)),some (.dt L),some (.l (T.map tP)),some (.i (k:Int)),some .n]=.ok (.nx [some (.sc ns),some (.i a),some (.l (Q.map .s)),some (.l (P.map .s)),some (.dt L),some (.l (T.map tP)),some (.i (k:Int)),some (aP ah)]):=by
   have t:=yg (ρ:=[some (.sc ns),some (.i a),some (.l (Q.map .s)),some (.l (P.map .s)),some (.dt L),some (.l (T.map tP)),some (.i (k:Int)),some .n]) (a:=yr 7 (mOp pIx (zc 5) (mOp zU (zk zO (zb (zc 0) (zb (mOp zZ (mOp zZ (zc 1) (mOp YO (mC (.i 3)) (zc 6))) (mC (.i 1))) (zb (mC (.i 65479)) zq)))) (zc 6)))) (b:=z5) (cf (a:=zc 6) (x:=(k:Int)) (n:=0) rfl);by_cases c:(k:Int)>0
   .rw[M6 c]at t;obtain⟨s,_,es⟩:=Yb (ns:=ns) (k:=a+3*(k:Int)+1) (p:=65479) (by omega) (by decide);have s0:=O8 s (show(k:Int)≠0 by omega);have s1:=O3 s c;refine⟨some (T[(s % (k:Int)).toNat]'(by omega)),λt ht=>by cases ht;exact gT _ (a0f _),t.trans (zE (zl rfl (zl (zv (xs:=[.sc ns,.i (a+3*(k:Int)+1),.i 65479]) (zy rfl (zy (zl (zl rfl (zl rfl rfl (XT (by decide) (by decide))) rfl) rfl rfl) rfl)) es) rfl (kR c)) ?_))⟩;rw[oV s0 (by rw[t0];omega),a0u];rfl
   .rw[M4 c]at t;exact⟨none,λt ht=>(nomatch ht),t⟩
  obtain⟨t,t1,gt,et⟩:=BM (ns:=ns) (a:=a+3*(k:Int)) (nm:=Q[k]) (ah:=ah) (by omega) h0 hL hF hO hA;have e2:m7 5 (zk qW (zb (zc 0) (zb (mOp zZ (zc 1) (mOp YO (mC (.i 3)) (zc 6))) (zb (mOp pIx (zc 2) (zc 6)) (zb (zc 3) (zb (zc 4) (zb (zc 7) zq))))))) [some (.sc ns),some (.i a),some (.l (Q.map .s)),some (.l (P.map .s)),some (.dt L),some (.l (T.map tP)),some (.i (k:Int)),some (aP ah)]=.ok (.nx [some (.sc ns),some (.i a),some (.l (Q.map .s)),some (.l (P.map .s)),some (.dt L),some (.l ((T++[t]).map tP)),some (.i (k:Int)),some (aP ah)]):=by
   have ix:pIx (.l (Q.map .s)) (.i (k:Int))=.ok (.s Q[k]):=by rw[oV (by omega) (by rw[t0];omega),a0u];rfl
   refine(gM (xs:=T.map tP) rfl (zv (zy rfl (zy (zl rfl (zl rfl rfl (XT (by decide) (by decide))) rfl) (zy (zl rfl rfl ix) rfl))) et) (by rw[t0];omega)).trans ?_;rw[show T.map tP++[tP t]=(T++[t]).map tP by rw[P9];rfl];rfl
  refine⟨_,rfl,_,⟨T++[t],some (.i (k:Int)),some (aP ah),?_,λt' ht=>?_,rfl⟩,.inl (zd ⟨_,rfl,zd ⟨_,q,e2⟩⟩)⟩
  .rw[P9,hT,S5 hk];show _++[t.1]=_;rw[t1]
  .rcases S4.mp ht with h|h
   .exact gT _ h
   .rw[O0.mp h];exact gt)
 subst hρ;rw[a0t]at hT;exact⟨T,hT,gT,zJ (zd ⟨_,rfl,zd ⟨_,qU (nK (zy (zv (xs:=[.l (Q.map .s)]) rfl Qd) rfl) (by omega) (by omega)) (by rw[Int.toNat_natCast];exact e),rfl⟩⟩)⟩
def Km(T:List Tp):List (Key×PV):=T.map λt=>(sk t.1,tP t)
def cw(h:z∉T.map (·.1)):zB (Km T) (sk z)=none:=by
 cases e:zB (Km T) (sk z)with
 |none=>rfl
 |some x=>obtain⟨t,ht,e2⟩:=T1.mp (YI e);cases e2;exact absurd (a0c ht) h
def pw(nd:(T.map (·.1)).Nodup)(h:t∈T):zB (Km T) (sk t.1)=some (tP t):=by
 induction T with
 |nil=>cases h
 |cons u T ih=>
  rw[M3]at nd;obtain⟨n1,n2⟩:=S8.mp nd;show zB ((sk u.1,tP u)::Km T) (sk t.1)=_;rw[zV];rcases N4.mp h with rfl|h
  .rw[if_pos rfl]
  .rw[if_neg λe=>n1 (by rw[a0n e];exact a0c h)];exact ih n2 h
def iZ(hz:Nm z)(hB:zB B (sk z)=none):zF [.s z,.d B]=.ok (.s z):=by refine zJ (zd ⟨_,y4 (zv (xs:=[.s z]) rfl (o6 hz)),zd ⟨_,(yg (x:=false) (z7 (zl (x:=.s z) (y:=.d B) rfl rfl ?_))).trans (show _=Out.ok (Fw.nx [some (.s z),some (.d B)])from rfl),rfl⟩⟩);show Out.ok (PV.b (xor false (zB B (sk z)).isSome))=_;rw[hB];rfl
def Kn(h1:0<=m)(h2:m<=1000000000):zC [.i m,.i 0]=.ok (.i m):=by refine zJ (zd ⟨_,(yg (JI (x:=false) (y:=false) (z7 (zl (x:=.i m) (y:=.i 0) rfl rfl ?_)) ((cf (x:=m) rfl).trans (by rw[M4 (by omega)])))).trans (show _=Out.ok (Fw.nx [some (.i m),some (.i 0)])from rfl),rfl⟩);show Out.ok (PV.b (decide (m<0)))=_;rw[M4 (by omega)]
section
variable {N:HA}{W:List Wy}{F:Str->Ht}{t:Tp}{T:List Tp}
def ug(h:TOk N F t)(hn:Nm t.1)(hB:zB B (sk t.1)=none):yX [roP N W F,tP t,.d B]=.ok .n:=by
 obtain⟨ho,hg,⟨y,ey,ly⟩,s0,fw,f1,q0,q1⟩:=h;refine oZ rfl (zd ⟨_,y4 (zv (xs:=[.s t.1,.d B]) rfl (iZ hn hB)),zd ⟨_,zE (VD (N:=N) (W:=W) (F:=F) rfl (xs:=[.s t.2.1,.s t.2.2.1]) rfl (by decide +kernel) (by decide +kernel) (by decide +kernel) ((Kl ho hg).trans (by rw[ey];rfl))),zd ⟨_,y4 (zv (xs:=[.i t.2.2.2.1,.i 0]) rfl (Kn s0 (by omega))),zd ⟨_,y4 (zv (xs:=[.i t.2.2.2.2.1,.i 0]) rfl (Kn (by omega) f1)),zd ⟨_,y4 (zv (xs:=[.i t.2.2.2.2.2,.i 0]) rfl (Kn q0 q1)),zd ⟨[some (roP N W F),some (tP t),some (.d B),some (.i y)],(yg (x:=false) (z7 (zl (x:=.i t.2.2.2.2.1) (y:=.i t.2.2.2.1) rfl rfl ?_))).trans rfl,zd ⟨[some (roP N W F),some (tP t),some (.d B),some (.i y)],(yg (x:=false) rfl).trans rfl,(yg (x:=false) (z7 (zl (x:=.i (t.2.2.2.2.1-t.2.2.2.1)) (y:=.i y) rfl rfl ?_))).trans rfl⟩⟩⟩⟩⟩⟩⟩)
 .show Out.ok (PV.b (decide (t.2.2.2.2.1<=t.2.2.2.1)))=_;rw[M4 (by omega)]
 .show Out.ok (PV.b (decide (t.2.2.2.2.1-t.2.2.2.1<y)))=_;rw[M4 (by omega)]
def xQ(t:Tp):XZ:=(t.2.2.2.1,t.2.2.2.2.1,t.1)
def gS:∀{T:List Tp},UO zt (T.map tP)=some (T.map xQ)
 |[]=>rfl
 |t::T=>by
  have e:zt [tP t]=.ok (.t [.i t.2.2.2.1,.i t.2.2.2.2.1,.s t.1]):=zJ (YQ (iV rfl (P4 rfl)));show(match zt [tP t]with
   |.ok (.t [.i a,.i b,.s c])=>(UO zt (T.map tP)).map ((a,b,c)::·)
   |_=>none)=_
  rw[e];show(UO zt (T.map tP)).map _=_;rw[gS];rfl
def cx(T:List Tp):List Tp:=(Bj (T.map xQ)).map λi=>T.getD i ("","","",0,0,0)
def uh(nd:(T.map (·.1)).Nodup)(hl:T.length<64):tH zt (T.map tP)=.ok (.l ((cx T).map tP)):=by
 unfold tH;rw[if_pos (by rw[t0];exact hl),gS];have nk:(T.map xQ).Nodup:=by
  have:((T.map xQ).map λk=>k.2.2)=T.map (·.1):=by rw[S9];rfl
  rw[<- this]at nd;exact List.Pairwise.of_map (S:=(·≠·)) (λk:XZ=>k.2.2) (λa b h e=>h (by rw[e])) nd
 show(if(T.map xQ).Nodup then _ else _)=_;rw[if_pos nk];unfold cx;rw[S9];congr 2;refine a0M λi hi=>?_;have:=a0l.mp ((VA (T.map xQ)).1.mem_iff.mp hi);rw[t0]at this;show(T.map tP).getD i .n=tP (T.getD i _);rw[a0k,a0k,N7,M5 this];rfl
end
def ga0{α:Type}{A:List α}{x y:α}:(A++[x,y])[A.length]?=some x:=by simp
def ga1{α:Type}{A:List α}{x y:α}:(A++[x,y])[A.length+1]?=some y:=by simp
def sa0{α:Type}{A:List α}{x y z:α}:(A++[x,y]).set A.length z=A++[z,y]:=by simp
def sa1{α:Type}{A:List α}{x y z:α}:(A++[x,y]).set (A.length+1) z=A++[x,z]:=by simp
def xR{G:AH}{n:Nat}:∀{kvs:Ic},lq (YG G (n+1)) (vK kvs)=some kvs
 |[]=>rfl
 | (k,x)::kvs=>by show((YG G (n+1) (.v x)).bind λy=>(lq (YG G (n+1)) (vK kvs)).map ((k,y)::·))=_;rw[xR];rfl
def Hw(h0:XW bs ρ=none)(h1:V6 G bs ρ=some r)(h2:m r=.ok x)(hi:imm x=true):hP bs m ρ G=.ok (.v x) G:=by unfold hP;rw[h0,h1];dsimp only;rw[h2];dsimp only;rw[if_pos hi]
def gU(h:m ρ G=.ok x G'):iG m ρ G=.nx ρ G':=by unfold iG;rw[h];rfl
def aq(hv:mv ρ G=.ok y G1)(ho:mo ρ G1=.ok (.g k) G2)(hk:G2[k]?=some (.o c fs))(hc:c∈cs)(hl:fs.length<1000):UP cs f mo mv ρ G=.nx ρ (G2.set k (.o c (V9 f y fs))):=by
 unfold UP;rw[hv];show((mo ρ G1).fw _)=_;rw[ho];show(match G2[k]? with
  |some (.o c fs)=>if c∈cs/\fs.length<1000 then HFw.nx ρ (G2.set k (.o c (V9 f y fs)))else .wall
  |_=>.wall)=_
 rw[hk];dsimp only;rw[if_pos ⟨hc,hl⟩]
def BO(hv:mv ρ G=.ok y G)(ho:mo ρ G=.ok (.g k) G)(hz:mk ρ G=.ok (.v z) G)(hk:G[k]?=some (.d kvs))(hq:pk z=some q)(hl:kvs.length<100000):DY mo mk mv ρ G=.nx ρ (G.set k (.d (dput kvs q y))):=by
 unfold DY;rw[hv];show((mo ρ G).fw _)=_;rw[ho];show((mk ρ G).fw _)=_;rw[hz];show(match G[k]?,pk z with
  |some (.d kvs),some q=>if kvs.length<sizeLine then HFw.nx ρ (G.set k (.d (dput kvs q y)))else .wall
  |_,_=>.wall)=_
 rw[hk,hq];dsimp only;rw[if_pos (N5 hl (by decide))]
def BP(h:m ρ G=.ok (.g k) G)(hk:G[k]?=some (.o c fs))(hc:c∈cs)(hf:fs.lookup f=some z):DV cs f m ρ G=.ok z G:=by
 unfold DV;rw[h];show(match G[k]? with
  |some (.o c fs)=>if c∈cs then match fs.lookup f with
   |some z=>HX.ok z G
   |none=>.wall else .wall
  |_=>.wall)=_
 rw[hk];dsimp only;rw[if_pos hc,hf]
def BQ{α:Type}{x:α}{fs:List (Str×α)}:((f,x)::fs).lookup f=some x:=by simp
def ui{α:Type}{x:α}{fs:List (Str×α)}(h:(f==g)=false):((g,x)::fs).lookup f=fs.lookup f:=by simp[List.lookup,h]
section
variable {N:HA}{W:List Wy}{F:Str->Ht}{A:AH}{T P:List Tp}{ro:PV}
def tFs(ro:PV)(j:Nat):List (Str×HV):=[("roads",.v ro),("by_name",.g j)]
def tG(A:AH)(ro:PV)(T:List Tp):AH:=A++[.o 10 (tFs ro (A.length+1)),.d (vK (Km T))]
def gX(h:G[j]?=some (.d (vK (Km T)))):YG G (n+2) (.g j)=some (.d (Km T)):=by unfold YG;rw[h];show(lq (YG G (n+1)) (vK (Km T))).map PV.d=_;rw[xR];rfl
def Eu:YG (tG A ro T) 8 (.g A.length)=some (.o 10 [("roads",ro),("by_name",.d (Km T))]):=by unfold YG tG;rw[ga0];show(lq (YG _ 7) (tFs ro (A.length+1))).map (PV.o 10)=_;show(Option.map (PV.o 10) ((YG _ 7 (.v ro)).bind λy=>(((YG _ 7 (.g (A.length+1))).bind λy=>((some []).map ((("by_name":Str),y)::·))).map ((("roads":Str),y)::·))))=_;rw[gX (T:=T) ga1];rfl
def uj(h:t.1∉P.map (·.1)):dput (vK (Km P)) (sk t.1) (.v (tP t))=vK (Km (P++[t])):=by unfold vK;rw[gx];congr 1;unfold dput;rw[kW,cw h];unfold Km;rw[P9];rfl
def uk:∀{R P:List Tp}{o:Option HV},(∀t∈R,TOk N F t/\Nm t.1)->((P++R).map (·.1)).Nodup->(P++R).length<=40->∃o',lx qL yz ((R.map tP).map .v) [some (.g A.length),some (.v (roP N W F)),some (.v T0),o] (tG A (roP N W F) P)=.nx [some (.g A.length),some (.v (roP N W F)),some (.v T0),o'] (tG A (roP N W F) (P++R)):=by
 intro R
 induction R with
 |nil=>intro P o _ _ _;rw[P0];exact⟨o,rfl⟩
 |cons t R ih=>
  intro P o hR nd hl;have ea:P++[t]++R=P++t::R:=by rw[T6];rfl
  obtain⟨o',e'⟩:=ih (P:=P++[t]) (o:=some (.v (tP t))) (λu hu=>hR u (L8 _ hu)) (by rw[ea];exact nd) (by rw[ea];exact hl);rw[ea]at e';refine⟨o',?_⟩;have hz:t.1∉P.map (·.1):=λh=>by rw[P9,M3]at nd;exact(a0Y.mp nd).2.2 _ h _ L4 rfl
  have hp:P.length<=40:=by rw[N8]at hl;omega
  obtain⟨h1,h2⟩:=hR t L4;have ef:Q_ [10] "by_name" (zc 0) [some (.o 10 [("roads",roP N W F),("by_name",.d (Km P))]),some (roP N W F),none,some (tP t)]=.ok (.d (Km P)):=by show(if 10∈[10]then kN (List.lookup ("by_name":Str) [("roads",roP N W F),("by_name",PV.d (Km P))])else .wall)=_;rw[if_pos L4,yJ (by decide +kernel),VY];rfl
  have e1:hP [true,true,false,true] (zk yX (zb (zc 1) (zb (zc 3) (zb (Q_ [10] "by_name" (zc 0)) zq)))) [some (.g A.length),some (.v (roP N W F)),some (.v T0),some (.v (tP t))] (tG A (roP N W F) P)=.ok (.v .n) (tG A (roP N W F) P):=
   Hw rfl (Gg Eu (Gg rfl (Hv (Gg rfl Hu)))) (zv (zy rfl (zy rfl (zy ef rfl))) (ug (W:=W) h1 h2 (cw hz))) rfl
  have e2:DY (DV [10] "by_name" (fX 0)) (hP [false,false,false,true] (mOp pIx (zc 3) (mC (.i 0)))) (fX 3) [some (.g A.length),some (.v (roP N W F)),some (.v T0),some (.v (tP t))] (tG A (roP N W F) P)=.nx [some (.g A.length),some (.v (roP N W F)),some (.v T0),some (.v (tP t))] (tG A (roP N W F) (P++[t])):=by refine(BO (y:=.v (tP t)) (k:=A.length+1) (z:=.s t.1) (q:=sk t.1) rfl (BP rfl ga0 L4 (by unfold tFs;rw[ui (by decide +kernel),BQ])) (Gf rfl rfl) ga1 rfl (by unfold vK Km;rw[t0,t0];omega)).trans ?_;unfold tG;rw[sa1,uj hz]
  have eb:yz [some (.g A.length),some (.v (roP N W F)),some (.v T0),some (.v (tP t))] (tG A (roP N W F) P)=.nx [some (.g A.length),some (.v (roP N W F)),some (.v T0),some (.v (tP t))] (tG A (roP N W F) (P++[t])):=WI (gU e1) e2;show(match yz [some (.g A.length),some (.v (roP N W F)),some (.v T0),some (.v (tP t))] (tG A (roP N W F) P)with
   |.nx ρ2 G2=>lx qL yz ((R.map tP).map .v) ρ2 G2
   |.ct ρ2 G2=>lx qL yz ((R.map tP).map .v) ρ2 G2
   |.bk ρ2 G2=>.nx ρ2 G2
   |.rt v G2=>.rt v G2
   |.exc c fs G2=>.exc c fs G2
   |.wall=>.wall)=_
  rw[eb];exact e'
def X_(T:List Tp):PV:=.l ((cx T).map λt=>.s t.1)
def E3(A:AH)(ro:PV)(T:List Tp):AH:=A++[.o 10 [("roads",.v ro),("by_name",.g (A.length+1)),("order",.v (X_ T))],.d (vK (Km T))]
def QV(ro:PV)(T:List Tp):PV:=.o 10 [("roads",ro),("by_name",.d (Km T)),("order",X_ T)]
def Ko:(cx T).length=T.length:=by unfold cx;rw[t0,(VA (T.map xQ)).1.length_eq,R9,t0]
def um(hT:∀t∈T,TOk N F t/\Nm t.1)(nd:(T.map (·.1)).Nodup)(hl:T.length<=40):qa [.g A.length,.v (roP N W F),.v (.l (T.map tP))] (A++[.o 10 []])=.ok (.v .n) (E3 A (roP N W F) T):=by
 obtain⟨o',e4⟩:=uk (N:=N) (W:=W) (F:=F) (A:=A) (T0:=.l (T.map tP)) (R:=T) (P:=[]) (o:=none) hT nd hl;rw[a0B]at e4;have g0:(A++[Cell.o 10 []])[A.length]?=some (.o 10 []):=by simp
 have e1:iG (hP [false,false,true] (zk yq (zb (zc 2) (zb (mC (.i 40)) zq)))) [some (.g A.length),some (.v (roP N W F)),some (.v (.l (T.map tP))),none] (A++[.o 10 []])=.nx [some (.g A.length),some (.v (roP N W F)),some (.v (.l (T.map tP))),none] (A++[.o 10 []]):=gU (Gf rfl (zv (xs:=[.l (T.map tP),.i 40]) rfl (d9 Qd (by omega))));have e2:UP [10] "roads" (fX 0) (fX 1) [some (.g A.length),some (.v (roP N W F)),some (.v (.l (T.map tP))),none] (A++[.o 10 []])=.nx [some (.g A.length),some (.v (roP N W F)),some (.v (.l (T.map tP))),none] (A++[.o 10 [("roads",.v (roP N W F))]]):=by refine(aq rfl rfl g0 L4 (by decide)).trans ?_;rw[show(A++[Cell.o 10 []]).set A.length (.o 10 (V9 "roads" (.v (roP N W F)) []))=A++[.o 10 [("roads",.v (roP N W F))]] by simp[V9]]
 have g1:(A++[Cell.o 10 [("roads",.v (roP N W F))]]++[.d []])[A.length]?=some (.o 10 [("roads",.v (roP N W F))]):=by simp
 have e3:UP [10] "by_name" (fX 0) (hF [] sR) [some (.g A.length),some (.v (roP N W F)),some (.v (.l (T.map tP))),none] (A++[.o 10 [("roads",.v (roP N W F))]])=.nx [some (.g A.length),some (.v (roP N W F)),some (.v (.l (T.map tP))),none] (tG A (roP N W F) []):=by
  refine(aq (y:=.g (A++[Cell.o 10 [("roads",.v (roP N W F))]]).length) (G1:=A++[Cell.o 10 [("roads",.v (roP N W F))]]++[.d []]) rfl rfl g1 L4 (by show 1<1000;decide)).trans ?_;have e:V9 "by_name" (.g (A++[Cell.o 10 [("roads",.v (roP N W F))]]).length) [("roads",.v (roP N W F))]=tFs (roP N W F) (A.length+1):=by rw[N8];show(if(("roads":Str)="by_name")then _ else _)=_;rw[if_neg (by decide +kernel)];rfl
  rw[e,show A++[Cell.o 10 [("roads",.v (roP N W F))]]++[.d []]=A++[.o 10 [("roads",.v (roP N W F))],.d []] by rw[T6];rfl,sa0];rfl
 have ls:lcP kj kl km ((cx T).map tP) [none] []=.ok (X_ T):=
  ZI tP (λt=>PV.s t.1) (λρ=>∃o,ρ=[o]) _ _ ⟨none,rfl⟩ (λt _ ρ ⟨o,ho⟩=>by subst ho;exact⟨_,rfl,⟨_,rfl⟩,zl rfl rfl rfl⟩) (by rw[Ko];omega)
 have e5:UP [10] "order" (fX 0) (hP [false,false,true] (mLC (yj (f7 zt (zb (zc 2) zq))) [none] kj kl km)) [some (.g A.length),some (.v (roP N W F)),some (.v (.l (T.map tP))),o'] (tG A (roP N W F) T)=.nx [some (.g A.length),some (.v (roP N W F)),some (.v (.l (T.map tP))),o'] (E3 A (roP N W F) T):=by
  refine(aq (y:=.v (X_ T)) (Gf rfl (W_ (ya (show f7 zt (zb (zc 2) zq) [none,none,some (.l (T.map tP)),none]=_ from uh nd (by omega))) ls)) rfl ga0 L4 (by show 2<1000;decide)).trans ?_;have e:V9 "order" (.v (X_ T)) (tFs (roP N W F) (A.length+1))=([("roads",.v (roP N W F)),("by_name",.g (A.length+1)),("order",.v (X_ T))]:List (Str×HV)):=by show(if(("roads":Str)="order")then _ else _::(if(("by_name":Str)="order")then _ else _))=_;rw[if_neg (by decide +kernel),if_neg (by decide +kernel)];rfl
  unfold E3;rw[e,sa0]
 have ev:jO [some (.g A.length),some (.v (roP N W F)),some (.v (.l (T.map tP))),none] (A++[.o 10 []])=.nx [some (.g A.length),some (.v (roP N W F)),some (.v (.l (T.map tP))),o'] (E3 A (roP N W F) T):=
  WI e1 (WI e2 (WI e3 (WI e4 e5)))
 show(match jO [some (.g A.length),some (.v (roP N W F)),some (.v (.l (T.map tP))),none] (A++[.o 10 []])with
  |.nx _ G'=>HX.ok (HV.v .n) G'
  |.rt x G'=>.ok x G'
  |.exc c fs G'=>.exc c fs G'
  |_=>.wall)=_
 rw[ev]
def BR(h:G[k]?=some (.o 10 [("roads",.v ro),("by_name",.g j),("order",.v (X_ T))]))(h2:G[j]?=some (.d (vK (Km T)))):YG G (n+3) (.g k)=some (QV ro T):=by unfold YG;rw[h];show(Option.map (PV.o 10) ((YG _ (n+2) (.v ro)).bind λy=>(((YG _ (n+2) (.g j)).bind λy=>((((YG _ (n+2) (.v (X_ T))).bind λy=>((some []).map ((("order":Str),y)::·)))).map ((("by_name":Str),y)::·))).map ((("roads":Str),y)::·))))=_;rw[gX (T:=T) h2];rfl
end
section
variable {N:HA}{W:List Wy}{F:Str->Ht}{T:List Tp}{t u:Tp}{ro:PV}{L:Lst}{z:Str}
def px(h:m ρ=.ok (QV ro T)):Q_ [10] "by_name" m ρ=.ok (.d (Km T)):=by unfold Q_;rw[h,okb];show(if 10∈[10]then kN (List.lookup ("by_name":Str) [("roads",ro),("by_name",PV.d (Km T)),("order",X_ T)])else .wall)=_;rw[if_pos L4,yJ (by decide +kernel),VY];rfl
def uo(h:m ρ=.ok (QV ro T)):Q_ [10] "roads" m ρ=.ok ro:=by unfold Q_;rw[h,okb];show(if 10∈[10]then kN (List.lookup ("roads":Str) [("roads",ro),("by_name",PV.d (Km T)),("order",X_ T)])else .wall)=_;rw[if_pos L4,VY];rfl
def cy(nd:(T.map (·.1)).Nodup)(ht:t∈T):zS [QV ro T,.s t.1]=.ok (tP t):=by
 have b:=px (m:=zc 0) (ρ:=[some (QV ro T),some (.s t.1)]) (ro:=ro) (T:=T) rfl;have e:=pw nd ht;refine zJ (zd ⟨_,(yg (x:=false) (z7 (zl (x:=.s t.1) rfl b ?_))).trans (show _=Out.ok (Fw.nx [some (QV ro T),some (.s t.1)])from rfl),YQ (zl b (y:=.s t.1) rfl ?_)⟩)
 .show Out.ok (PV.b (xor true (zB (Km T) (sk t.1)).isSome))=_;rw[e];rfl
 .show kN (zB (Km T) (sk t.1))=_;rw[e];rfl
def gY(ha:a ρ=.ok (QV ro T))(hm:ms ρ=.ok xs):kO [(10,f)] "trip" a ms ρ=f (QV ro T::xs):=by unfold kO;rw[ha,okb];show(if(List.lookup ("trip":Str) [("roads",ro),("by_name",PV.d (Km T)),("order",X_ T)]).isSome=true then Out.wall else(ms ρ).bind λxs=>f (QV ro T::xs))=_;rw[yJ (by decide +kernel),yJ (by decide +kernel),yJ (by decide +kernel),nD,if_neg (by intro z;cases z),hm,okb]
def Gp(F:Str->Ht)(t u:Tp):PV:=Ca ((zB (F t.2.2.1) (sk u.2.1)).map λy=>u.2.2.2.1-t.2.2.2.2.1-y)
def Ew(nd:(T.map (·.1)).Nodup)(hT:∀t∈T,TOk N F t)(ht:t∈T)(hu:u∈T):iQ [QV (roP N W F) T,.s t.1,.s u.1]=.ok (Gp F t u):=by
 have e3:yr 3 (kO [(10,zS)] "trip" (zc 0) (zb (zc 1) zq)) [some (QV (roP N W F) T),some (.s t.1),some (.s u.1),none,none,none]=.ok (.nx [some (QV (roP N W F) T),some (.s t.1),some (.s u.1),some (tP t),none,none]):=zE ((gY (xs:=[.s t.1]) rfl rfl).trans (cy nd ht));have e4:yr 4 (kO [(10,zS)] "trip" (zc 0) (zb (zc 2) zq)) [some (QV (roP N W F) T),some (.s t.1),some (.s u.1),some (tP t),none,none]=.ok (.nx [some (QV (roP N W F) T),some (.s t.1),some (.s u.1),some (tP t),some (tP u),none]):=zE ((gY (xs:=[.s u.1]) rfl rfl).trans (cy nd hu));have e5:yr 5 (kO [(11,zw)] "length" (Q_ [10] "roads" (zc 0)) (zb (mOp pIx (zc 3) (mC (.i 2))) (zb (mOp pIx (zc 4) (mC (.i 1))) zq))) [some (QV (roP N W F) T),some (.s t.1),some (.s u.1),some (tP t),some (tP u),none]=.ok (.nx [some (QV (roP N W F) T),some (.s t.1),some (.s u.1),some (tP t),some (tP u),some (Ca (zB (F t.2.2.1) (sk u.2.1)))]):=
  zE (VD (N:=N) (W:=W) (F:=F) (uo rfl) (xs:=[.s t.2.2.1,.s u.2.1]) rfl (by decide +kernel) (by decide +kernel) (by decide +kernel) (Kl (hT t ht).goal (hT u hu).org))
 unfold Gp;cases e:zB (F t.2.2.1) (sk u.2.1)with
 |none=>rw[e]at e5;exact zJ (zd ⟨_,e3,zd ⟨_,e4,zd ⟨_,e5,nC ((yg (x:=true) rfl).trans rfl)⟩⟩⟩)
 |some y=>rw[e]at e5;exact zJ (zd ⟨_,e3,zd ⟨_,e4,zd ⟨_,e5,zd ⟨_,(yg (x:=false) rfl).trans rfl,YQ (zl (zl (x:=.i u.2.2.2.1) (y:=.i t.2.2.2.2.1) rfl rfl rfl) (y:=.i y) rfl rfl)⟩⟩⟩⟩)
end
section
variable {N:HA}{W:List Wy}{F:Str->Ht}{T:List Tp}{t u:Tp}{ro:PV}
def vk:(cx T).Perm T:=by have h:=(VA (T.map xQ)).1.map λi=>T.getD i ("","","",0,0,0);refine h.trans (.of_eq ?_);rw[t0];refine a2d (by rw[t0,R9]) λi h1 h2=>?_;rw[a0u,a1g];simp[h2]
def lnk(F:Str->Ht)(t u:Tp):Bool:=match zB (F t.2.2.1) (sk u.2.1)with
 |some y=>decide (t.2.2.2.2.1+y<=u.2.2.2.1)
 |none=>false
def pA(nd:(T.map (·.1)).Nodup)(hT:∀t∈T,TOk N F t)(ht:t∈T)(hu:u∈T):YK [QV (roP N W F) T,.s t.1,.s u.1]=.ok (.b (lnk F t u)):=by
 have g:=Ew (W:=W) nd hT ht hu;unfold Gp at g;unfold lnk;cases e:zB (F t.2.2.1) (sk u.2.1)with
 |none=>rw[e]at g;exact zJ (zd ⟨_,zE (zv (xs:=[QV (roP N W F) T,.s t.1,.s u.1]) rfl g),YQ rfl⟩)
 |some y=>rw[e]at g;refine zJ (zd ⟨_,zE (zv (xs:=[QV (roP N W F) T,.s t.1,.s u.1]) rfl g),YQ ((oU (x:=true) (y:=decide (u.2.2.2.1-t.2.2.2.2.1-y ≥ 0)) rfl rfl).trans ?_)⟩);rw[a2G];congr 3;exact propext ⟨λh=>by omega,λh=>by omega⟩
def we(F:Str->Ht)(T:List Tp)(t:Tp):List Str:=((cx T).filter (lnk F t)).map (·.1)
def pB(nd:(T.map (·.1)).Nodup)(hT:∀t∈T,TOk N F t)(hl:T.length<=40)(ht:t∈T):yA [QV (roP N W F) T,.s t.1,X_ T]=.ok (.l ((we F T t).map .s)):=by
 refine zJ (YQ (W_ (ya (xs:=(cx T).map λt=>.s t.1) rfl) ((V0 (λu:Tp=>PV.s u.1) (lnk F t) (λu=>.s u.1) (λρ=>∃o,ρ=[o,some (QV (roP N W F) T),some (.s t.1)]) _ _ [] ⟨none,rfl⟩ (λu hu ρ ⟨o,ho⟩=>?_) (by rw[Ko];show 0+_<=_;omega)).trans ?_)))
 .subst ho;exact⟨_,rfl,⟨_,rfl⟩,z7 (zv (xs:=[QV (roP N W F) T,.s t.1,.s u.1]) rfl (pA nd hT ht (vk.mem_iff.mp hu))),λ_=>rfl⟩
 .unfold we;rw[S9];rfl
def jP(F:Str->Ht)(T:List Tp):List (Key×PV):=(cx T).map λt=>(sk t.1,.l ((we F T t).map .s))
def i4:(jP F T).map (·.1)=(cx T).map λt=>sk t.1:=by unfold jP;rw[S9];rfl
def cz{g:Tp->PV}:∀{U:List Tp},rg (U.map λt=>.t [.s t.1,g t])=some (U.map λt=>(sk t.1,g t))
 |[]=>rfl
 |t::U=>by show(rg (U.map λt=>.t [.s t.1,g t])).map ((sk t.1,g t)::·)=_;rw[cz (U:=U)];rfl
def pC(nd:(T.map (·.1)).Nodup):((cx T).map (·.1)).Nodup:=((vk (T:=T)).map (·.1)).nodup_iff.mpr nd
def BS(nd:(T.map (·.1)).Nodup):((jP F T).map (·.1)).Nodup:=by rw[i4];have:=a1X (S:=(·≠·)) sk (λa b h e=>h (a0n e)) (pC nd);rw[S9]at this;exact this
def uq(h:m ρ=.ok (QV ro T)):Q_ [10] "order" m ρ=.ok (X_ T):=by unfold Q_;rw[h,okb];show(if 10∈[10]then kN (List.lookup ("order":Str) [("roads",ro),("by_name",PV.d (Km T)),("order",X_ T)])else .wall)=_;rw[if_pos L4,yJ (by decide +kernel),yJ (by decide +kernel),VY];rfl
def pD:z0 [QV ro T]=.ok (X_ T):=zJ (YQ (zv (zy (uq rfl) rfl) rfl))
def ur(nd:(T.map (·.1)).Nodup)(hT:∀t∈T,TOk N F t)(hl:T.length<=40):Kk [QV (roP N W F) T]=.ok (.d (jP F T)):=by
 have e1:kO [(10,z0),(11,yo)] "names" (zc 0) zq [some (QV (roP N W F) T),none]=.ok (X_ T):=by show(if(List.lookup ("names":Str) [("roads",roP N W F),("by_name",PV.d (Km T)),("order",X_ T)]).isSome=true then Out.wall else z0 [QV (roP N W F) T])=_;rw[yJ (by decide +kernel),yJ (by decide +kernel),yJ (by decide +kernel),nD,if_neg (by intro z;cases z)];exact pD
 have e2:=ZI (g:=X6) (e:=X7) (λt:Tp=>PV.s t.1) (λt=>.t [.s t.1,.l ((we F T t).map .s)]) (λρ=>∃o,ρ=[o,some (QV (roP N W F) T),some (X_ T)]) (cx T) [none,some (QV (roP N W F) T),some (X_ T)] ⟨none,rfl⟩ (λt ht ρ ⟨o,ho⟩=>by
  subst ho;exact⟨_,rfl,⟨_,rfl⟩,iV (zy rfl (zy (zv (xs:=[QV (roP N W F) T,.s t.1,X_ T]) rfl (pB nd hT hl (vk.mem_iff.mp ht))) rfl)) (P4 rfl)⟩) (by rw[Ko];omega)
 have ed:Kz [.l ((cx T).map λt=>.t [.s t.1,.l ((we F T t).map .s)])]=.ok (.d (jP F T)):=by show kN ((rg ((cx T).map λt=>.t [.s t.1,.l ((we F T t).map .s)])).map λes=>PV.d (V4 es))=_;rw[cz];show Out.ok (PV.d (V4 (jP F T)))=_;unfold V4;rw[gC (acc:=[]) (by rw[a0B];exact BS nd)];rfl
 exact zJ (zd ⟨_,zE e1,YQ (zv (zy (W_ (ya rfl) e2) rfl) ed)⟩)
def uu{U:List Tp}{g:Tp->PV}(nd:(U.map (·.1)).Nodup)(h:t∈U):zB (U.map λt=>(sk t.1,g t)) (sk t.1)=some (g t):=by
 induction U with
 |nil=>cases h
 |cons u U ih=>
  rw[M3]at nd ⊢;obtain⟨n1,n2⟩:=S8.mp nd;rw[zV];rcases N4.mp h with rfl|h
  .rw[if_pos rfl]
  .rw[if_neg λe=>n1 (by rw[a0n e];exact a0c h)];exact ih n2 h
def au(nd:(T.map (·.1)).Nodup)(h:t∈T)(ha:a ρ=.ok (.d (jP F T)))(hb:b ρ=.ok (.s t.1)):mOp pIx a b ρ=.ok (.l ((we F T t).map .s)):=by refine zl ha hb ?_;show kN (zB (jP F T) (sk t.1))=_;unfold jP;rw[uu (pC nd) (vk.mem_iff.mpr h)];rfl
def xS{U:List Tp}(nd:(U.map (·.1)).Nodup)(ht:t∈U)(hu:u∈U)(e:t.1=u.1):t=u:=by
 induction U with
 |nil=>cases ht
 |cons x U ih=>
  rw[M3]at nd;obtain⟨n1,n2⟩:=S8.mp nd;rcases N4.mp ht with e1|h1<;>rcases N4.mp hu with e2|h2
  .rw[e1,e2]
  .exact absurd (by rw[<- e1,e];exact a0c h2) n1
  .exact absurd (by rw[<- e2,<- e];exact a0c h1) n1
  .exact ih n2 h1 h2
def eD(nd:(T.map (·.1)).Nodup)(hu:u∈T):u.1∈we F T t↔lnk F t u=true:=by
 unfold we;constructor
 .intro h;obtain⟨v,hv,e⟩:=T1.mp h;obtain⟨h1,h2⟩:=a0P.mp hv;exact xS nd (vk.mem_iff.mp h1) hu e▸h2
 .intro h;exact T1.mpr ⟨u,a0P.mpr ⟨vk.mem_iff.mpr hu,h⟩,rfl⟩
def Ex(nd:(T.map (·.1)).Nodup):(we F T t).Nodup:=by unfold we;exact(List.Sublist.map _ List.filter_sublist).nodup (pC nd)
def gZ(hl:T.length<=40):(we F T t).length<=40:=by unfold we;rw[t0];exact O5 (a2B _ _) (by rw[Ko];exact hl)
end
def Path(h:Ht)(W:List Wy):List Str->Prop
 |s::z::r=>(∃w∈W,w.1=s/\w.2.1=z/\∃x y,zB h (sk s)=some x/\zB h (sk z)=some y/\x+w.2.2=y)/\Path h W (z::r)
 |_=>True
section
variable {N:HA}{W:List Wy}{F:Str->Ht}{o g:Str}
abbrev wyS(N:HA)(W:List Wy)(F:Str->Ht)(o g:Str)(Q:HA):Sto:=[some (roP N W F),some (.s o),some (.s g),some (.l (Q.map .s))]
def BU(R:ROk N W)(gd:kn o W (F o))(ho:o∈N):∀(n:Nat){r:HA}{z:Str}{y:Int},y.toNat<=n->zB (F o) (sk z)=some y->(z::r).Nodup->(∀p∈z::r,∃yp,zB (F o) (sk p)=some yp/\y<=yp)->Path (F o) W (z::r)->(z::r).getLast?=some g->
  ∃(m:Nat)(q:HA),(o::q).length<=1000/\Path (F o) W (o::q)/\(o::q).getLast?=some g/\qg jN qK m (wyS N W F o g (z::r).reverse)=.ok (.nx (wyS N W F o g (o::q).reverse)):=by
 intro n;have wm:∀w∈W,1<=w.2.2:=λw hw=>(R.ok w hw).2.2.1;have test:∀{r:HA}{z:Str},jN (wyS N W F o g (z::r).reverse)=.ok (xor true (decide (z=o))):=λ{r z}=>
  WN (n:=true) (zl rfl rfl (by rw[a1Y];exact ej)) rfl
 have stop:∀{r:HA},qg jN qK 1 (wyS N W F o g (o::r).reverse)=.ok (.nx (wyS N W F o g (o::r).reverse)):=λ{r}=>by unfold qg;rw[test,M6 rfl];rfl
 have hl2:∀{r:HA}{z:Str}{y:Int},(z::r).Nodup->(∀p∈z::r,∃yp,zB (F o) (sk p)=some yp/\y<=yp)->(z::r).length<=1000:=λ{r z y} nd hp=>by
  have h1:((z::r).map sk).Nodup:=a1X _ (λa b h e=>h (a0n e)) nd;have h2:∀k∈(z::r).map sk,k∈sk o::W.map λw=>sk w.2.1:=λk hk=>by obtain⟨p,hp',rfl⟩:=T1.mp hk;obtain⟨yp,e1,_⟩:=hp p hp';exact gd.1.sub _ (gi.mp (by rw[e1];rfl))
  have:=Ya h1 h2;have wl:=R.wl;simp only[List.length_map,List.length_cons]at this ⊢;omega
 induction n with
 |zero=>
  intro r z y hn e nd hp pt hl;have y0:=gd.1.pos _ _ e;have hz:z=o:=by
   by_cases c:z=o
   .exact c
   .obtain⟨w,hw,_,x,ex,exy⟩:=gd.pb e c;have:=gd.1.pos _ _ ex;have:=wm w hw;omega
  subst hz;exact⟨1,r,hl2 nd hp,pt,hl,stop⟩
 |succ n ih=>
  intro r z y hn e nd hp pt hl;by_cases c:z=o
  .subst c;exact⟨1,r,hl2 nd hp,pt,hl,stop⟩
  .obtain⟨w,hw,ez,es,x,ex,exy⟩:=t7 gd wm e c;have x0:=gd.1.pos _ _ ex;have w1:=wm w hw;have hs:w.1∉z::r:=λh=>by obtain⟨yp,e1,le⟩:=hp _ h;rw[ex]at e1;cases e1;omega
   obtain⟨m,q,p0,p1,p3,eq⟩:=ih (r:=z::r) (z:=w.1) (y:=x) (by omega) ex (S8.mpr ⟨hs,nd⟩) (λp hp'=>by
    rcases N4.mp hp' with rfl|h
    .exact⟨x,ex,a0h _⟩
    .obtain⟨yp,e1,le⟩:=hp p h;exact⟨yp,e1,by omega⟩) ⟨⟨w,hw,rfl,ez,x,y,ex,e,exy⟩,pt⟩ (by rw[List.getLast?_cons_cons];exact hl)
   refine⟨m+1,q,p0,p1,p3,?_⟩;have qf:=eh (m:=zc 0) (ρ:=wyS N W F o g (z::r).reverse) (N:=N) (W:=W) (F:=F) rfl;have eb:qK (wyS N W F o g (z::r).reverse)=.ok (.nx (wyS N W F o g (w.1::z::r).reverse)):=by refine(gM (xs:=(z::r).reverse.map .s) rfl (zv (zy (zl rfl rfl (by rw[a1Y];exact ej)) (zy (GV qf.2 rfl ho) (zy (t8 rfl) rfl))) es) (by rw[t0,a1I];exact a0S (hl2 nd hp) (by decide))).trans ?_;rw[a1Y (as:=z::r)];show Out.ok (Fw.nx [some (roP N W F),some (.s o),some (.s g),some (.l ((z::r).reverse.map .s++[.s w.1]))])=Out.ok (Fw.nx [some (roP N W F),some (.s o),some (.s g),some (.l (((z::r).reverse++[w.1]).map .s))]);rw[P9];rfl
   unfold qg;rw[test,M4 c];show(qK (wyS N W F o g (z::r).reverse)).bind _=_;rw[eb];exact eq
def Ey(R:ROk N W)(gd:kn o W (F o))(ho:o∈N)(hg:g∈N)(e:zB (F o) (sk g)=some y):∃q:List Str,(o::q).length<=1000/\Path (F o) W (o::q)/\(o::q).getLast?=some g/\yY [roP N W F,.s o,.s g]=.ok (.l ((o::q).map .s)):=by
 obtain⟨m,q,p0,p1,p3,eq⟩:=BU (g:=g) R gd ho y.toNat (r:=[]) (z:=g) (y:=y) (L5 _) e (S8.mpr ⟨by simp,a2u⟩) (λp hp=>by
  rw[O0.mp hp];exact⟨y,e,a0h _⟩) trivial rfl
 have el:zX (mOp (lh false) (kO [(11,zw)] "length" (zc 0) (zb (zc 1) (zb (zc 2) zq))) (mC .n)) [some (roP N W F),some (.s o),some (.s g),none]=.ok false:=z7 (zl (VD rfl rfl (by decide +kernel) (by decide +kernel) (by decide +kernel) (Kl ho hg)) rfl (by rw[e];rfl));refine⟨q,p0,p1,p3,zJ (zd ⟨[some (roP N W F),some (.s o),some (.s g),none],(yg el).trans rfl,zd ⟨_,zE (oR rfl (P4 rfl)),zd ⟨_,bt eq (by intro z;cases z),YQ (zv (xs:=[.l ((o::q).reverse.map .s)]) rfl ?_)⟩⟩⟩)⟩;show Out.ok (PV.l ((o::q).reverse.map .s).reverse)=_;rw[<- List.map_reverse,List.reverse_reverse]
end
def pE{Q:HA}{z:Str}{i:Nat}(e:Q[i]?=some z):pIx (.l (Q.map .s)) (.i i)=.ok (.s z):=by have hi:=(M9.mp e).1;rw[AW];unfold atI;rw[C4 (by omega) (by rw[t0];omega)];show kN ((Q.map PV.s)[i]?)=_;rw[N7,e];rfl
def pF{h:Ht}{W:List Wy}:∀{Q:HA}{i:Nat}{s z:Str},Path h W Q->Q[i]?=some s->Q[i+1]?=some z->∃w∈W,w.1=s/\w.2.1=z/\∃x y,zB h (sk s)=some x/\zB h (sk z)=some y/\x+w.2.2=y
 |a::b::r,0,s,z,p,e1,e2=>by cases e1;cases e2;exact p.1
 |a::b::r,i+1,s,z,p,e1,e2=>pF (Q:=b::r) (i:=i) p.2 e1 e2
 |[a],i,s,z,p,e1,e2=>by cases i<;>cases e2
 |[],i,s,z,p,e1,e2=>by cases e1
def eE(ha:a ρ=.ok (.s x))(hb:b ρ=.ok (.s y)):zX (mOp (Zx false) a b) ρ=.ok (decide (x=y)):=(WN ha hb).trans (by rw[a0s])
def stp(W:List Wy)(s z:Str):List Int:=(W.filter λw=>decide (w.1=s)&&decide (w.2.1=z)).map (·.2.2)
def g5(h:a ρ=.ok (.l (x::xs))):zX (mOp (Zx false) a (fC zq)) ρ=.ok false:=z7 (zl h (oR rfl (P1 _)) rfl)
section
variable {N:HA}{W:List Wy}{F:Str->Ht}{o g:Str}
abbrev drS(Q:HA)(o g:Str)(W:List Wy)(m:Int)(k r:Iu):Sto:=[some (.l (Q.map .s)),some (.s o),some (.s g),some (.l (W.map wP)),some (.i m),k,r]
def pG(gd:kn o W (F o))(hW:W.length<=60)(p1:Path (F o) W (o::q))(p3:(o::q).getLast?=some g)(hl:(o::q).length<=1000)(ey:zB (F o) (sk g)=some y):∃m:Int,m<=y/\qA [.l ((o::q).map .s),.s o,.s g,.l (W.map wP)]=.ok (.i m):=by
 obtain⟨ρ',⟨m,k,r,hm,rfl⟩,e⟩:=Jf (g:=Y1) (b:=Y2) (λi ρ=>∃m k r,(∀s x,(o::q)[i]?=some s->zB (F o) (sk s)=some x->m<=x)/\ρ=drS (o::q) o g W m k r) q.length (drS (o::q) o g W 0 none none) ⟨0,none,none,λs x e ex=>by cases e;rw[gd.1.own]at ex;cases ex;exact a0h _,rfl⟩ (λi hi ρ ⟨m,k,r,hm,hρ⟩=>by
  subst hρ;obtain⟨z,hz⟩:∃z,(o::q)[i+1]?=some z:=⟨_,M5 (by rw[I0];omega)⟩;obtain⟨s,hs⟩:∃s,(o::q)[i]?=some s:=⟨_,M5 (by rw[I0];omega)⟩;obtain⟨w,hw,ew1,ew2,x',y',ex',ey',exy⟩:=pF p1 hs hz;have lm:=hm s x' hs ex';have mem:w.2.2∈stp W s z:=T1.mpr ⟨w,a0P.mpr ⟨hw,by rw[M6 ew1,M6 ew2];rfl⟩,rfl⟩;have q1:yr 6 (mLC (yj (zc 3)) [none,some 0,some 5] ZZ Z0 Z1) (drS (o::q) o g W m (some (.i (i:Int))) r)=.ok (.nx (drS (o::q) o g W m (some (.i (i:Int))) (some (.l ((stp W s z).map .i))))):=by
   refine zE (W_ (ya rfl) ((V0 wP (λw=>decide (w.1=s)&&decide (w.2.1=z)) (λw=>.i w.2.2) (λρ=>∃a,ρ=[a,some (.l ((o::q).map .s)),some (.i (i:Int))]) W _ [] ⟨none,rfl⟩ (λv hv ρ ⟨a,ha⟩=>?_) (by show 0+_<=_;omega)).trans ?_))
   .subst ha;exact⟨_,rfl,⟨_,rfl⟩,wd (eE (x:=v.1) rfl (zl rfl rfl (pE hs))) (eE (x:=v.2.1) rfl (zl rfl (zl (z:=.i ((i+1:Nat):Int)) rfl rfl rfl) (pE hz))),λ_=>rfl⟩
   .unfold stp;rw[S9];rfl
  have q2:sIf (zX (mOp (Zx false) (zc 6) (fC zq))) (ja (mC .n)) z5 (drS (o::q) o g W m (some (.i (i:Int))) (some (.l ((stp W s z).map .i))))=.ok (.nx (drS (o::q) o g W m (some (.i (i:Int))) (some (.l ((stp W s z).map .i))))):=by
   refine(yg (x:=false) ?_).trans rfl;cases e:stp W s z with
   |nil=>rw[e]at mem;cases mem
   |cons a b=>exact g5 (x:=.i a) (xs:=b.map .i) rfl
  refine⟨_,rfl,_,⟨m+iN (stp W s z),some (.i (i:Int)),some (.l ((stp W s z).map .i)),λs' x e ex=>?_,rfl⟩,.inl (zd ⟨_,q1,zd ⟨_,q2,zE (zl (y:=.i (iN (stp W s z))) rfl (zv (xs:=[.l ((stp W s z).map .i)]) rfl ?_) rfl)⟩⟩)⟩
  .rw[hz]at e;cases e;rw[ey']at ex;cases ex;have:=dJ mem;omega
  .show kN ((sD ((stp W s z).map .i)).bind λns=>if ns=[]then none else some (PV.i (iN ns)))=_;rw[fG];show kN (if stp W s z=[]then none else some (PV.i (iN (stp W s z))))=_;rw[if_neg λe=>by rw[e]at mem;cases mem];rfl)
 have hg:(o::q)[q.length]?=some g:=by rw[List.getLast?_eq_getElem?]at p3;exact p3
 obtain⟨P,eP⟩:∃P,o::q=P++[g]:=List.getLast?_eq_some_iff.mp p3;refine⟨m,hm g y hg ey,zJ (zd ⟨[some (.l ((o::q).map .s)),some (.s o),some (.s g),some (.l (W.map wP)),none,none,none],(yg (x:=false) (JI (x:=false) (y:=false) rfl (JI (x:=false) (y:=false) (g5 (x:=.s o) (xs:=q.map .s) rfl) (JI (x:=false) (y:=false) ((WN (n:=true) (zl rfl rfl (pE (i:=0) (z:=o) rfl)) rfl).trans (by rw[M6 rfl];rfl)) ((WN (n:=true) (zl rfl rfl (by rw[eP];exact ej)) rfl).trans (by rw[M6 rfl];rfl)))))).trans rfl,zd ⟨_,rfl,zd ⟨_,qU (bx (n:=q.length) (zy (zl (zv (xs:=[.l ((o::q).map .s)]) rfl Qd) rfl ?_) rfl) ?_) e,rfl⟩⟩⟩)⟩
 .show Out.ok (PV.i (((o::q).length:Int)-1))=_;rw[I0];congr 2;omega
 .rw[I0]at hl;omega
end
def pH{α:Type}:∀{h:List α},Az [.l (h.map λ_=>.b true)]=.ok (.b true):=λ{h}=>by
 have e:(h.map λ_=>PV.b true)=(h.map λ_=>true).map PV.b:=by rw[S9];rfl
 show kN ((uX (h.map λ_=>PV.b true)).map λns=>PV.b (ns.all id))=_;rw[e,fI];show Out.ok (PV.b ((h.map λ_=>true).all id))=_;congr 2;rw[List.all_map,a0H];exact λ_ _=>rfl
section
variable {W:List Wy}{h:Ht}{o:Str}
def kn.short(g:kn o W h)(hW:W.length<=60):h.length<=100:=by have:=Ya (a:=h.map (·.1)) g.1.nd g.1.sub;rw[t0,I0,t0]at this;omega
abbrev paS(h:Ht)(o:Str)(W:List Wy)(a b c:Iu):Sto:=[some (.d (hD h)),some (.s o),some (.l (W.map wP)),a,b,c]
def uv(g:kn o W h):∀{V:List Wy}{a b c:Iu},(∀w∈V,w∈W)->∃a' b' c',YU JA jM (V.map wP) (paS h o W a b c)=.ok (.nx (paS h o W a' b' c')):=by
 intro V
 induction V with
 |nil=>intro a b c _;exact⟨a,b,c,rfl⟩
 |cons w V ih=>
  intro a b c hV;obtain⟨a',b',c',e⟩:=ih (a:=some (.s w.1)) (b:=some (.s w.2.1)) (c:=some (.i w.2.2)) λx hx=>hV x (L8 _ hx);refine⟨a',b',c',?_⟩;have i1:=WJ (ρ:=paS h o W (some (.s w.1)) (some (.s w.2.1)) (some (.i w.2.2))) (h:=h) (z:=w.1) (n:=false) (a:=zc 3) (i:=0) rfl rfl;have eb:jM (paS h o W (some (.s w.1)) (some (.s w.2.1)) (some (.i w.2.2)))=.ok (.nx (paS h o W (some (.s w.1)) (some (.s w.2.1)) (some (.i w.2.2)))):=by
   cases e1:zB h (sk w.1)with
   |none=>rw[e1]at i1;exact(yg i1).trans rfl
   |some x=>rw[e1]at i1;obtain⟨y,e2,l⟩:=g.2 w (hV w L4) x e1;have i2:=WJ (ρ:=paS h o W (some (.s w.1)) (some (.s w.2.1)) (some (.i w.2.2))) (h:=h) (z:=w.2.1) (n:=true) (a:=zc 4) (i:=0) rfl rfl;rw[e2]at i2;refine(yg i1).trans ((yg (x:=false) (JI (x:=false) (y:=false) i2 (z7 (zl (WK (h:=h) (z:=w.2.1) (x:=y) rfl rfl e2) (zl (WK (h:=h) (z:=w.1) (x:=x) rfl rfl e1) rfl rfl) ?_)))).trans rfl);show Out.ok (PV.b (decide (y>x+w.2.2)))=_;rw[M4 (by omega)]
  show(jM (paS h o W (some (.s w.1)) (some (.s w.2.1)) (some (.i w.2.2)))).bind _=_;rw[eb];exact e
def uw(g:kn o W h)(hW:W.length<=60):qX [.d (hD h),.s o,.l (W.map wP)]=.ok (.b true):=by
 obtain⟨a',b',c',e⟩:=uv g (V:=W) (a:=none) (b:=none) (c:=none) λw h=>h;have hs:=g.short hW;have e1:zX (mOp (Zx true) (B9 (zc 0) (zc 1)) (mC (.i 0))) (paS h o W none none none)=.ok false:=z7 (zl (xP rfl rfl) rfl (by rw[g.1.own];rfl));have e2:mLC (Va 0) [none] Y3 Y4 Y5 (paS h o W none none none)=.ok (.l (h.map λ_=>.b true)):=by
  refine W_ (xs:=h.map λp=>.i p.2) ?_ (ZI (λp:Key×Int=>PV.i p.2) (λ_=>.b true) (λρ=>∃o,ρ=[o]) h _ ⟨none,rfl⟩ (λp _ ρ ⟨o,ho⟩=>?_) (by omega))
  .show Out.ok ((hD h).map (·.2))=_;unfold hD;rw[S9];rfl
  .subst ho;exact⟨_,rfl,⟨_,rfl⟩,zv (xs:=[.i p.2]) rfl (zJ (YQ (oU (x:=true) (y:=true) rfl rfl)))⟩
 exact zJ (zd ⟨_,(yg (x:=false) (JI (x:=false) (y:=false) rfl e1)).trans rfl,zd ⟨_,(yg (x:=false) (gw (x:=true) (z7 (zv (zy e2 rfl) pH)))).trans rfl,zd ⟨_,qU (ya rfl) e,rfl⟩⟩⟩)
end
section
variable {N:HA}{W:List Wy}{F:Str->Ht}{T:List Tp}{t u v:Tp}
def tri(hW:WS N W)(gF:∀z,kn z W (F z))(hb:b∈N)(e1:zB (F a) (sk b)=some x)(e2:zB (F b) (sk c)=some y):∃z,z<=x+y/\zB (F a) (sk c)=some z:=
 cn hW (gF a) (WQ hW (gF b) hb _ (L5 _) e2) x e1
def g6(h:lnk F t u=true):∃y,zB (F t.2.2.1) (sk u.2.1)=some y/\t.2.2.2.2.1+y<=u.2.2.2.1:=by
 unfold lnk at h;cases e:zB (F t.2.2.1) (sk u.2.1)with
 |none=>rw[e]at h;cases h
 |some y=>rw[e]at h;exact⟨y,rfl,R4 h⟩
def xT(gF:∀z,kn z W (F z))(ht:TOk N F t)(h:lnk F t u=true):t.2.2.2.1<u.2.2.2.1:=by obtain⟨y,e,l⟩:=g6 h;have:=(gF _).1.pos _ _ e;have:=ht.fw;omega
def Ez(hW:WS N W)(gF:∀z,kn z W (F z))(hu:TOk N F u)(h1:lnk F t u=true)(h2:lnk F u v=true):lnk F t v=true:=by obtain⟨y1,e1,l1⟩:=g6 h1;obtain⟨y3,e3,l3⟩:=g6 h2;obtain⟨y2,e2,l2⟩:=hu.len;obtain⟨z,lz,ez⟩:=tri hW gF hu.org e1 e2;obtain⟨z',lz',ez'⟩:=tri hW gF hu.goal ez e3;unfold lnk;rw[ez'];exact M6 (by omega)
def i5(R:ROk N W)(hW:WS N W)(gF:∀z,kn z W (F z))(nd:(T.map (·.1)).Nodup)(hT:∀t∈T,TOk N F t)(hl:T.length<=40)(ht:t∈T)(hu:u∈T)(h:lnk F t u=true):qC [tP t,tP u,.d (jP F T),roP N W F,.l (W.map wP)]=.ok (.b true):=by
 have lt:=xT gF (hT t ht) h;have ne:t.1≠u.1:=λe=>by have:=xS nd ht hu e;subst this;omega
 have nb:t.1∉we F T u:=λq=>by have:=xT gF (hT u hu) ((eD nd ht).mp q);omega
 obtain⟨y,ey,ly⟩:=g6 h;obtain⟨q,p0,p1,p3,ew⟩:=Ey (N:=N) (F:=F) (o:=t.2.2.1) (g:=u.2.1) R (gF _) (hT t ht).goal (hT u hu).org ey;obtain⟨m,lm,ed⟩:=pG (F:=F) (gF t.2.2.1) R.wl p1 p3 p0 ey;have e5:yr 5 (mOp pIx (zc 2) (mOp pIx (zc 0) (mC (.i 0)))) [some (tP t),some (tP u),some (.d (jP F T)),some (roP N W F),some (.l (W.map wP)),none,none]=.ok (.nx [some (tP t),some (tP u),some (.d (jP F T)),some (roP N W F),some (.l (W.map wP)),some (.l ((we F T t).map .s)),none]):=zE (au nd ht rfl rfl);have o1:=eE (a:=mOp pIx (zc 0) (mC (.i 0))) (b:=mOp pIx (zc 1) (mC (.i 0))) (ρ:=[some (tP t),some (tP u),some (.d (jP F T)),some (roP N W F),some (.l (W.map wP)),some (.l ((we F T t).map .s)),none]) (x:=t.1) (y:=u.1) rfl rfl;rw[M4 ne]at o1;have o2:zX (mOp (pIn false) (mOp pIx (zc 0) (mC (.i 0))) (mOp pIx (zc 2) (mOp pIx (zc 1) (mC (.i 0))))) [some (tP t),some (tP u),some (.d (jP F T)),some (roP N W F),some (.l (W.map wP)),some (.l ((we F T t).map .s)),none]=.ok false:=z7 (zl (x:=.s t.1) rfl (au nd hu rfl rfl) (tZ.trans (by rw[M4 nb];rfl)));have o3:zX (mOp pGe (mOp pIx (zc 0) (mC (.i 3))) (mOp pIx (zc 1) (mC (.i 3)))) [some (tP t),some (tP u),some (.d (jP F T)),some (roP N W F),some (.l (W.map wP)),some (.l ((we F T t).map .s)),none]=.ok false:=by refine z7 (zl (x:=.i t.2.2.2.1) (y:=.i u.2.2.2.1) rfl rfl ?_);show Out.ok (PV.b (decide (t.2.2.2.1 ≥ u.2.2.2.1)))=_;rw[M4 (by omega)]
 have o4:zX (mOp pGt (mOp zZ (mOp pIx (zc 0) (mC (.i 4))) (zc 6)) (mOp pIx (zc 1) (mC (.i 3)))) [some (tP t),some (tP u),some (.d (jP F T)),some (roP N W F),some (.l (W.map wP)),some (.l ((we F T t).map .s)),some (.i m)]=.ok false:=by refine z7 (zl (x:=.i (t.2.2.2.2.1+m)) (y:=.i u.2.2.2.1) rfl rfl ?_);show Out.ok (PV.b (decide (t.2.2.2.2.1+m>u.2.2.2.1)))=_;rw[M4 (by omega)]
 have ls:lcP Z6 Z7 Z8 ((we F T u).map .s) [none,some (.l ((we F T t).map .s))] []=.ok (.l ((we F T u).map λ_=>.b true)):=
  ZI PV.s (λ_=>.b true) (λρ=>∃o,ρ=[o,some (.l ((we F T t).map .s))]) _ _ ⟨none,rfl⟩ (λz hz ρ ⟨o,ho⟩=>by
   subst ho;refine⟨_,rfl,⟨_,rfl⟩,zl (x:=.s z) rfl rfl (tZ.trans ?_)⟩;have:z∈we F T t:=by obtain⟨w,hw,rfl⟩:=T1.mp hz;obtain⟨h1,h2⟩:=a0P.mp hw;exact(eD nd (vk.mem_iff.mp h1)).mpr (Ez hW gF (hT u hu) h h2)
   rw[M6 this];rfl) (by have:=gZ (F:=F) (t:=u) hl;omega)
 exact zJ (zd ⟨_,e5,zd ⟨_,(yg (x:=false) (JI (x:=false) (y:=false) o1 (JI (x:=false) (y:=false) o2 o3))).trans rfl,zd ⟨_,zE (zv (zy (VD (N:=N) (W:=W) (F:=F) rfl (xs:=[.s t.2.2.1,.s u.2.1]) rfl (by decide +kernel) (by decide +kernel) (by decide +kernel) ew) (zy (x:=.s t.2.2.1) rfl (zy (x:=.s u.2.1) rfl (zy rfl rfl)))) ed),zd ⟨_,(yg (x:=false) (JI (x:=false) (y:=false) rfl o4)).trans rfl,YQ (zv (zy (W_ (ya (au nd hu rfl rfl)) ls) rfl) pH)⟩⟩⟩⟩)
end
def cA:∀{a:HA},sA (fD 7) (a.map .s) (a.map .s)=some true
 |[]=>rfl
 |x::a=>by show EU (some (x==x)) (sA (fD 7) (a.map .s) (a.map .s))=_;rw[cA,a0I];rfl
def Ua{g:Tp->PV}:∀{U:List Tp},dI (U.map λt=>(sk t.1,g t))=some (U.map (·.1))
 |[]=>rfl
 |t::U=>by show(dI (U.map λt=>(sk t.1,g t))).map (t.1::·)=_;rw[Ua (U:=U)];rfl
section
variable {N Q:HA}{W:List Wy}{F:Str->Ht}{T:List Tp}{t u:Tp}{ns:Ij}{n:Nat}{A B C D:Iu}
abbrev lS(ns:Ij)(N:HA)(W:List Wy)(n:Nat)(Q:HA)(T:List Tp)(F:Str->Ht)(A B C D:Iu):Sto:=[some (.sc ns),some (.l (N.map .s)),some (.l (W.map wP)),some (.i (n:Int)),some (.l (Q.map .s)),some (.l (T.map tP)),some (roP N W F),some (.d (jP F T)),A,B,C,D]
def ux(R:ROk N W)(hW:WS N W)(gF:∀z,kn z W (F z))(nd:(T.map (·.1)).Nodup)(hT:∀t∈T,TOk N F t)(hl:T.length<=40)(ht:t∈T)(hu:u∈T):d3 (lS ns N W n Q T F (some (tP t)) (some (.d (hD (F t.2.2.1)))) (some (.l ((we F T t).map .s))) (some (tP u)))=.ok (.nx (lS ns N W n Q T F (some (tP t)) (some (.d (hD (F t.2.2.1)))) (some (.l ((we F T t).map .s))) (some (tP u)))):=by
 have i1:zX (mOp (pIn false) (mOp pIx (zc 11) (mC (.i 0))) (zc 10)) (lS ns N W n Q T F (some (tP t)) (some (.d (hD (F t.2.2.1)))) (some (.l ((we F T t).map .s))) (some (tP u)))=.ok (decide (u.1∈we F T t)):=z7 (zl (x:=.s u.1) rfl rfl (tZ.trans (by rw[a0s])));have ri:=eD (F:=F) (t:=t) nd hu;cases h:lnk F t u with
 |true=>rw[M6 (ri.mpr h)]at i1;exact(yg i1).trans ((yg (x:=false) (gw (x:=true) (z7 (zv (xs:=[tP t,tP u,.d (jP F T),roP N W F,.l (W.map wP)]) rfl (i5 R hW gF nd hT hl ht hu h))))).trans rfl)
 |false=>
  rw[M4 (λz=>by rw[ri.mp z]at h;cases h)]at i1;refine(yg i1).trans ((yg (x:=false) ?_).trans rfl);have i2:=WJ (ρ:=lS ns N W n Q T F (some (tP t)) (some (.d (hD (F t.2.2.1)))) (some (.l ((we F T t).map .s))) (some (tP u))) (h:=F t.2.2.1) (z:=u.2.1) (n:=false) (a:=mOp pIx (zc 11) (mC (.i 1))) (i:=9) rfl rfl;cases e:zB (F t.2.2.1) (sk u.2.1)with
  |none=>rw[e]at i2;exact WH i2
  |some y=>rw[e]at i2;refine wd (x:=true) (y:=false) i2 (z7 (zl (x:=.i (t.2.2.2.2.1+y)) (y:=.i u.2.2.2.1) (zl (x:=.i t.2.2.2.2.1) rfl (WK (h:=F t.2.2.1) (z:=u.2.1) rfl rfl e) rfl) rfl ?_));unfold lnk at h;rw[e]at h;show Out.ok (PV.b (decide (t.2.2.2.2.1+y<=u.2.2.2.1)))=_;rw[show decide (t.2.2.2.2.1+y<=u.2.2.2.1)=false from h]
def uy(R:ROk N W)(hW:WS N W)(gF:∀z,kn z W (F z))(nd:(T.map (·.1)).Nodup)(hT:∀t∈T,TOk N F t)(hl:T.length<=40)(ht:t∈T):∃B' C' D',d4 (lS ns N W n Q T F (some (tP t)) B C D)=.ok (.nx (lS ns N W n Q T F (some (tP t)) B' C' D')):=by
 obtain⟨ρ',⟨D',rfl⟩,e⟩:=ZJ (g:=oO) (b:=d3) tP (λ_ ρ=>∃D,ρ=lS ns N W n Q T F (some (tP t)) (some (.d (hD (F t.2.2.1)))) (some (.l ((we F T t).map .s))) D) T (lS ns N W n Q T F (some (tP t)) (some (.d (hD (F t.2.2.1)))) (some (.l ((we F T t).map .s))) D) ⟨D,rfl⟩ (λk hk ρ ⟨D,hρ⟩=>by
  subst hρ;exact⟨_,rfl,_,⟨_,rfl⟩,.inl (ux R hW gF nd hT hl ht (a0f hk))⟩)
 have rn:=Ex (F:=F) (t:=t) nd;have rl:=gZ (F:=F) (t:=t) hl;have e3:zX (mOp (Zx true) (zk iM (zb (zc 10) zq)) (zk W6 (zb (zc 10) zq))) (lS ns N W n Q T F (some (tP t)) (some (.d (hD (F t.2.2.1)))) (some (.l ((we F T t).map .s))) D)=.ok false:=by
  have q:iM [.l ((we F T t).map .s)]=.ok (.i ((we F T t).length:Int)):=by show(match dD ((we F T t).map .s)with|some ss=>if ss.length+1<4096 then Out.ok (PV.i (ddS ss).length)else .wall|none=>.wall)=_;rw[Vy];dsimp only;rw[if_pos (by omega),show ddS (we F T t)=we F T t from D7 (acc:=[]) (by rw[a0B];exact rn)]
  exact z7 (zl (zv (xs:=[.l ((we F T t).map .s)]) rfl q) (zv (xs:=[.l ((we F T t).map .s)]) rfl Qd) (AX.trans (by rw[M6 rfl];rfl)))
 exact⟨_,_,D',zd ⟨_,zE (BG (N:=N) (W:=W) (F:=F) (o:=t.2.2.1) rfl rfl (hT t ht).goal),zd ⟨_,zE (au nd ht rfl rfl),zd ⟨_,(yg (x:=false) (JI (x:=false) (y:=false) (gw (x:=true) (z7 (zv (xs:=[.d (hD (F t.2.2.1)),.s t.2.2.1,.l (W.map wP)]) rfl (uw (gF _) R.wl)))) e3)).trans rfl,qU (ya rfl) e⟩⟩⟩⟩
def rok(hW:WS N W)(nd:N.Nodup)(hP:∀z∈N,Nm z)(h1:N.length<=5)(h2:W.length<=13):ROk N W:=by constructor<;>first|exact nd|exact hP|omega|exact hW.ok
end
def uz(ns:Ij)(_:ns.length<=k):oQ [.sc ns]=.ok (.b true):=by
 obtain⟨m1,p1,e1⟩:=Yb (ns:=ns) (k:=2) (p:=65449) (by decide) (by decide);obtain⟨m2,p2,e2⟩:=Yb (ns:=ns) (k:=11) (p:=65521) (by decide) (by decide);obtain⟨P,lP,ndP,nmP,eP⟩:=ck (ns:=ns) (a:=0) (n:=(2+m1 % 4).toNat) (by decide) (by omega);rw[a1K (by omega)]at eP;obtain⟨W,lW,wsW,eW⟩:=ud (ns:=ns) (a:=3) (N:=P) (by decide) (by omega) (by omega);have R:=rok wsW ndP nmP (by omega) (by omega);obtain⟨F,kF⟩:=d_ R;have gF:=λz=>(kF z).1;obtain⟨L,hL,eL⟩:=eC wsW (by omega) (by omega) gF;obtain⟨n,n1,n2,en⟩:∃n:Nat,2<=n/\n<=16/\max (2+m2 % 4) ((min (ns.length:Int) 61-11) / 3)=(n:Int):=⟨(max (2+m2 % 4) ((min (ns.length:Int) 61-11) / 3)).toNat,by omega,by omega,by omega⟩;obtain⟨Q,lQ,ndQ,hQ,eQ⟩:=ck (ns:=ns) (a:=11) (n:=n) (by decide) n2;have far:∀o∈P,∀z y,zB (F o) (sk z)=some y->0<=y/\y<=800000000:=λo ho z y e=>by have:=iY wsW (gF o) ho e;omega
 obtain⟨T,nT,hT,eT⟩:=uf (ns:=ns) (a:=13) (Q:=Q) (P:=P) (by decide) (by omega) (by omega) hL far (λo _=>(gF o).1.own);have lT:T.length=n:=by rw[<- lQ,<- nT,t0]
 have ndT:(T.map (·.1)).Nodup:=by rw[nT];exact ndQ
 have nmT:∀t∈T,Nm t.1:=λt ht=>hQ _ (by rw[<- nT];exact a0c ht);have i1:=BF R (λz=>(kF z).2);have ti:=um (N:=P) (W:=W) (F:=F) (A:=[]) (λt ht=>⟨hT t ht,nmT t ht⟩) ndT (by omega);have et:mkV 10 qa [roP P W F,.l (T.map tP)]=.ok (QV (roP P W F) T):=by
  show(match qa [.g 0,.v (roP P W F),.v (.l (T.map tP))] [.o 10 []]with
   |.ok (.v .n) G=>(match YG G 8 (.g 0)with
    |some z=>Out.ok z
    |none=>.wall)
   |.exc c fs _=>.exc c fs
   |_=>.wall)=_
  rw[show qa [.g 0,.v (roP P W F),.v (.l (T.map tP))] [.o 10 []]=_ from ti];dsimp only;rw[BR (ro:=roP P W F) (T:=T) (j:=1) rfl rfl]
 have lk:=ur (N:=P) (W:=W) (F:=F) ndT hT (by omega);have q3:yr 3 (zk B6 (zb (mOp zZ (mC (.i 2)) (mOp zU (zk zO (zb (zc 0) (zb (mC (.i 11)) (zb (mC (.i 65521)) zq)))) (mC (.i 4)))) (zb (mOp ZF (mOp lg (zk Uz (zb (zk W6 (zb (zc 0) zq)) (zb (mC (.i 61)) zq))) (mC (.i 11))) (mC (.i 3))) zq))) ([some (.sc ns),some (.l (P.map .s)),some (.l (W.map wP))]++List.replicate 9 none)=.ok (.nx ([some (.sc ns),some (.l (P.map .s)),some (.l (W.map wP)),some (.i (n:Int))]++List.replicate 8 none)):=by rw[<- en];exact zE (zv (zy (zl rfl (wc (zv (xs:=[.sc ns,.i 11,.i 65521]) rfl e2) (by decide)) rfl) (zy (iU (zl (zv (zy (zv (xs:=[.sc ns]) rfl rfl) (zy rfl rfl)) rfl) rfl rfl) (by decide) (by decide)) rfl)) rfl)
 have sd:Jm [.d (jP F T)]=.ok (.l ((kU Q).map .s)):=by
  show(match dI (jP F T)with
   |some ss=>if ss.length<64 then Out.ok (PV.l ((kU ss).map .s))else .wall
   |none=>.wall)=_
  unfold jP;rw[Ua];dsimp only;rw[if_pos (by rw[t0,Ko];omega),oi ((vk (T:=T)).map (·.1)),nT]
 have sq:Jm [.l (Q.map .s)]=.ok (.l ((kU Q).map .s)):=by
  show(match dD (Q.map .s)with
   |some ss=>if ss.length<64 then Out.ok (PV.l ((kU ss).map .s))else .wall
   |none=>.wall)=_
  rw[Vy];dsimp only;rw[if_pos (by omega)]
 have e8:zX (mOp (Zx true) (zk Jm (zb (zc 7) zq)) (zk Jm (zb (zc 4) zq))) (lS ns P W n Q T F none none none none)=.ok false:=z7 (zl (zv (xs:=[.d (jP F T)]) rfl sd) (zv (xs:=[.l (Q.map .s)]) rfl sq) (by rw[FP,cA];rfl));have e9:mLC (Va 7) [none] gq gr gu (lS ns P W n Q T F none none none none)=.ok (.l ((cx T).map λ_=>.b true)):=by
  refine W_ (xs:=(cx T).map λt=>.l ((we F T t).map .s)) ?_ (ZI (λt:Tp=>PV.l ((we F T t).map .s)) (λ_=>.b true) (λρ=>∃o,ρ=[o]) _ _ ⟨none,rfl⟩ (λp _ ρ ⟨o,ho⟩=>?_) (by rw[Ko];omega))
  .show Out.ok ((jP F T).map (·.2))=_;unfold jP;rw[S9];rfl
  .subst ho;exact⟨_,rfl,⟨_,rfl⟩,rfl⟩
 obtain⟨ρ',⟨A,B,C,D,rfl⟩,el⟩:=ZJ (g:=oP) (b:=d4) tP (λ_ ρ=>∃A B C D,ρ=lS ns P W n Q T F A B C D) T (lS ns P W n Q T F none none none none) ⟨_,_,_,_,rfl⟩ (λk hk ρ ⟨A,B,C,D,hρ⟩=>by
  subst hρ;obtain⟨B',C',D',eb⟩:=uy (ns:=ns) (n:=n) (Q:=Q) (B:=B) (C:=C) (D:=D) R wsW gF ndT hT (by omega) (a0f hk);exact⟨_,rfl,_,⟨_,_,_,_,rfl⟩,.inl eb⟩)
 exact zJ (zd ⟨_,zE (zv (zy rfl (zy rfl (zy (zl rfl (wc (zv (xs:=[.sc ns,.i 2,.i 65449]) rfl e1) (by decide)) rfl) rfl))) eP),zd ⟨_,zE (zv (xs:=[.sc ns,.i 3,.l (P.map .s)]) rfl eW),zd ⟨_,q3,zd ⟨_,zE (zv (xs:=[.sc ns,.i 11,.i (n:Int)]) rfl eQ),zd ⟨_,zE (zv (zy rfl (zy rfl (zy rfl (zy rfl (zy (zv (xs:=[.l (P.map .s),.l (W.map wP)]) rfl eL) rfl))))) eT),zd ⟨_,zE (zv (xs:=[.l (P.map .s),.l (W.map wP)]) rfl i1),zd ⟨lS ns P W n Q T F none none none none,zE (zv (zy (zv (xs:=[roP P W F,.l (T.map tP)]) rfl et) rfl) lk),zd ⟨_,(yg (x:=false) (JI (x:=false) (y:=false) rfl e8)).trans rfl,zd ⟨_,(yg (x:=false) (gw (x:=true) (z7 (zv (zy e9 rfl) pH)))).trans rfl,zd ⟨_,qU (ya rfl) el,rfl⟩⟩⟩⟩⟩⟩⟩⟩⟩⟩)
end NCS
def pJ(K:Ir):Sp:=λvs H Q _=>∃(a:Addr)(ns:Ij),vs=[.ref a]/\SqL K H a (ns.map V.int)/\ns.length<=63/\∀H',Q (.bl true) H'
def all_mk{l:W.OpenLaw}{w:Ie}{K:Ir}{h:Heap}{mg:HD}{fa kJ qN kG Yv kI wu wo jq kK y6 yB Yo WY JS K2 K9 JX jD Qu jC Zm vY jH Zv jB Yq qO vp Qz Zj jj qP qQ kH jm qu pM Ud wq cI Yx q_ vW jE QB vq jh qc JP JW QA Yr jQ Qx eM:Addr}{Ym W5 JR K3 K8 JO Zq Qt Zr Zt Qi jI Zp Zo Yz vo vt Qj Zl Qw YA Yt Yy Qo Zs pR Ug wj cL Yn wg Qy Zn Qp vn Qn wt JQ JY Qq Yw JT Qs eJ:Ii}{cF Qv Zk Qr g9 Ue g8 cG Uh cM Yp JV:Tok}(X:K.In h)(G:h.Ns mainGlobals mg)(hfa:mg "law"=some (.ref fa))
  (dN:W.nsIn K mainGlobals "LIMIT"=some (some (.int 1000000000 cF)))
  (ZV:W.nsIn K mainGlobals "NAME_SIGNS"=some (some (.str "abcdefghijklmnopqrstuvwxyz0123456789" Qv)))
  (vG:W.nsIn K mainGlobals "LONGEST_NAME"=some (some (.int 12 Zk)))
  (ZW:W.nsIn K mainGlobals "MOST_TRIPS"=some (some (.int 40 Qr)))
  (KG:W.nsIn K mainGlobals "NAME"=some (some (.int 0 g9)))
  (Jq:W.nsIn K mainGlobals "ORIGIN"=some (some (.int 1 Ue)))
  (bL:W.nsIn K mainGlobals "GOAL"=some (some (.int 2 g8)))
  (QP:W.nsIn K mainGlobals "START"=some (some (.int 3 cG)))
  (wK:W.nsIn K mainGlobals "FINISH"=some (some (.int 4 Uh)))
  (dP:W.nsIn K mainGlobals "SEATS"=some (some (.int 5 cM)))
  (wL:W.nsIn K mainGlobals "MOST_PLACES"=some (some (.int 12 Yp)))
  (QQ:W.nsIn K mainGlobals "MOST_WAYS"=some (some (.int 60 JV)))
  (Jr:NsR K "BadName" kJ)
  (QR:NsR K "BadNumber" qN)
  (Wg:NsR K "TooMany" kG)
  (dQ:NsR K "Twice" Yv)
  (Wh:NsR K "NoPlace" kI)
  (dR:NsR K "NoWay" wu)
  (U2:NsR K "NoTrip" wo)
  (Kg:NsR K "Backward" jq)
  (Wi:NsR K "TooFast" kK)
  (dS:NsR K "Table" y6)
  (dU:NsR K "Roads" yB)
  (oF:NsN K "all")
  (oG:NsN K "bool")
  (Wj:NsN K "dict")
  (Bt:NsN K "int")
  (yE:NsN K "isinstance")
  (QS:NsN K "len")
  (wb:NsN K "list")
  (tT:NsN K "max")
  (dW:NsN K "min")
  (ZX:NsN K "range")
  (Kh:NsN K "reversed")
  (Bu:NsN K "set")
  (Js:NsN K "sorted")
  (yc:DfN K "_law_cell_at" wB Yo Ym)
  (yV:DfN K "_law_mix" Wa WY W5)
  (yK:DfN K "_law_names" QJ JS JR)
  (jR:DfN K "_law_ways" Ka K2 K3)
  (YJ:DfN K "_law_trip" Kb K9 K8)
  (qV:DfN K "_law_trips" QK JX JO)
  (i7:XMk K kG jD)
  (Qk:Fun K "__init__" "TooMany.__init__" vy jD Zq)
  (qz:DfN K "check_most" ZK Qu Qt)
  (i9:XMk K kJ jC)
  (Qm:Fun K "__init__" "BadName.__init__" vz jC Zr)
  (je:DfN K "checked_name" vA Zm Zt)
  (uD:XMk K Yv vY)
  (K5:Fun K "__init__" "Twice.__init__" ZL vY Qi)
  (yk:DfN K "checked_new_name" qH jH jI)
  (jf:DfN K "check_places" vB Zv Zp)
  (i6:XMk K kI jB)
  (Qh:Fun K "__init__" "NoPlace.__init__" vC jB Zo)
  (ym:DfN K "check_place" wC Yq Yz)
  (cN:XMk K qN qO)
  (Zu:Fun K "__init__" "BadNumber.__init__" ju qO vo)
  (z9:DfN K "checked_number" jv vp vt)
  (k7:DfN K "check_ways" ZM Qz Qj)
  (yP:DfN K "heights_from" vD Zj Zl)
  (cE:W.findIn K (.ref yB) "__init__"=some (some (.ref jj)))
  (K6:Fun K "__init__" "Roads.__init__" ZN jj Qw)
  (ax:W.findIn K (.ref y6) "names"=some (some (.ref qP)))
  (w4:Fun K "names" "Table.names" wD qP YA)
  (ay:W.findIn K (.ref yB) "names"=some (some (.ref qQ)))
  (w6:Fun K "names" "Roads.names" wF qQ Yt)
  (pT:XMk K wo kH)
  (JU:Fun K "__init__" "NoTrip.__init__" wG kH Yy)
  (cJ:W.findIn K (.ref y6) "trip"=some (some (.ref jm)))
  (Ys:Fun K "trip" "Table.trip" ZO jm Qo)
  (XG:W.findIn K (.ref yB) "length"=some (some (.ref qu)))
  (vX:Fun K "length" "Roads.length" vE qu Zs)
  (tU:DfN K "gap" Bq pM pR)
  (VB:DfN K "linked" UW Ud Ug)
  (yx:DfN K "linked_behind" j0 wq wj)
  (Ki:DfN K "links" dM cI cL)
  (y8:DfN K "_law_lengths" wH Yx Yn)
  (eK:XMk K jq q_)
  (Yu:Fun K "__init__" "Backward.__init__" j3 q_ wg)
  (uE:XMk K wu vW)
  (K7:Fun K "__init__" "NoWay.__init__" ZP vW Qy)
  (i8:XMk K kK jE)
  (Ql:Fun K "__init__" "TooFast.__init__" vF jE Zn)
  (k8:DfN K "check_trip" ZQ QB Qp)
  (yN:DfN K "place_in_order" jw vq vn)
  (cH:W.findIn K (.ref y6) "__init__"=some (some (.ref jh)))
  (K4:Fun K "__init__" "Table.__init__" ZR jh Qn)
  (WX:W.findIn K (.ref yB) "heights"=some (some (.ref qc)))
  (kL:Fun K "heights" "Roads.heights" j4 qc wt)
  (wM:DfN K "_law_whole" QL JP JQ)
  (wN:DfN K "_law_paper" QM JW JY)
  (k9:DfN K "_law_driven" ZS QA Qq)
  (jL:DfN K "place_ahead" wI Yr Yw)
  (eR:W.findIn K (.ref yB) "way"=some (some (.ref jQ)))
  (QZ:Fun K "way" "Roads.way" QN jQ JT)
  (k_:DfN K "_law_behind" ZT Qx Qs)
  (oH:DfN K "law" Br eM eJ)
  (eN:YS K kJ)
  (Vo:W.takerIn K kJ "name"=some none)
  (az:YS K qN)
  (QY:W.takerIn K qN "value"=some none)
  (eG:YS K kG)
  (Vl:W.takerIn K kG "most"=some none)
  (pO:YS K Yv)
  (XE:W.takerIn K Yv "name"=some none)
  (eO:YS K kI)
  (Vr:W.takerIn K kI "name"=some none)
  (pN:YS K wu)
  (Vp:W.takerIn K wu "origin"=some none)
  (XF:W.takerIn K wu "goal"=some none)
  (i_:YS K wo)
  (W0:W.takerIn K wo "name"=some none)
  (cK:YS K jq)
  (Ks:W.takerIn K jq "name"=some none)
  (eI:YS K kK)
  (Vm:W.takerIn K kK "name"=some none)
  (pQ:Cls K y6)
  (pS:W.makesIn K y6=true)
  (pP:W.keepIn K (.ref y6)=true)
  (Kr:W.findIn K (.ref y6) "by_name"=some none)
  (WZ:W.findIn K (.ref y6) "order"=some none)
  (W4:W.findIn K (.ref y6) "roads"=some none)
  (W2:W.isFn K (.ref qP)=true)
  (XB:W.isFn K (.ref jm)=true)
  (Xz:W.isFn K (.ref jh)=true)
  (pV:Cls K yB)
  (pX:W.makesIn K yB=true)
  (pW:W.keepIn K (.ref yB)=true)
  (Kq:W.findIn K (.ref yB) "lengths"=some none)
  (Vq:W.findIn K (.ref yB) "places"=some none)
  (Xy:W.findIn K (.ref yB) "ways"=some none)
  (Kp:W.isFn K (.ref qc)=true)
  (Vn:W.isFn K (.ref qu)=true)
  (W3:W.isFn K (.ref qQ)=true)
  (aA:W.isFn K (.ref jQ)=true)
  (XA:W.isFn K (.ref jj)=true)
  (ZY:W.kitOne K (.type "bool") (.type "bool")=some true)
  (QT:W.kitOne K (.type "int") (.type "bool")=some false)
  (Kj:W.kitOne K (.type "int") (.type "int")=some true)
  (QU:W.kitOne K (.type "bool") (.type "int")=some true)
  (vc:W.kitOne K (.type "list") (.type "list")=some true)
  (vd:W.kitOne K (.type "dict") (.type "dict")=some true)
  : ∃fd:FuncData,(∀(s:HJ)(v:Value),BindsTo s fd ⟨[v],[]⟩ [("_law_script",v)])/\∀base:Heap,K.In base->base.Ns mainGlobals mg->yU l.prog w K mg base (CXe l.prog w) 9 fa fd ["_law_script"] (pJ K):=by
 have e:eM=fa:=by have e:=hfa.symm.trans (T5 X G oH.1);injection e with e;injection e with e;exact e.symm
 subst e;have T:Txt K mg ⟨kJ,qN,kG,Yv,kI,wu,wo,jq,kK,y6,yB,Yo,WY,JS,K2,K9,JX,jD,Qu,jC,Zm,vY,jH,Zv,jB,Yq,qO,vp,Qz,Zj,jj,qP,qQ,kH,jm,qu,pM,Ud,wq,cI,Yx,q_,vW,jE,QB,vq,jh,qc,JP,JW,QA,Yr,jQ,Qx,eM,Ym,W5,JR,K3,K8,JO,Zq,Qt,Zr,Zt,Qi,jI,Zp,Zo,Yz,vo,vt,Qj,Zl,Qw,YA,Yt,Yy,Qo,Zs,pR,Ug,wj,cL,Yn,wg,Qy,Zn,Qp,vn,Qn,wt,JQ,JY,Qq,Yw,JT,Qs,eJ,cF,Qv,Zk,Qr,g9,Ue,g8,cG,Uh,cM,Yp,JV⟩:=⟨⟨T5 X G dN,T5 X G ZV,T5 X G vG,T5 X G ZW,T5 X G KG,T5 X G Jq,T5 X G bL,T5 X G QP⟩,⟨T5 X G wK,T5 X G dP,T5 X G wL,T5 X G QQ,T5 X G Jr,T5 X G QR,T5 X G Wg,T5 X G dQ⟩,⟨T5 X G Wh,T5 X G dR,T5 X G U2,T5 X G Kg,T5 X G Wi,T5 X G dS,T5 X G dU,a0b X G oF⟩,⟨a0b X G oG,a0b X G Wj,a0b X G Bt,a0b X G yE,a0b X G QS,a0b X G wb,a0b X G tT,a0b X G dW⟩,⟨a0b X G ZX,a0b X G Kh,a0b X G Bu,a0b X G Js,yw X G yc bn2,yw X G yV bn3,yw X G yK bn3,yw X G jR bn3⟩,⟨yw X G YJ bn6,yw X G qV bn5,Qk,Qk.binds bn2,yw X G qz bn2,Qm,Qm.binds bn2,yw X G je bn1⟩,⟨K5,K5.binds bn2,yw X G yk bn2,yw X G jf bn1,Qh,Qh.binds bn2,yw X G ym bn2,Zu⟩,⟨Zu.binds bn2,yw X G z9 bn2,yw X G k7 bn2,yw X G yP bn2,K6,K6.binds bn3,w4,w4.binds bn1⟩,⟨w6,w6.binds bn1,JU,JU.binds bn2,Ys,Ys.binds bn2,vX,vX.binds bn3⟩,⟨yw X G tU bn3,yw X G VB bn3,yw X G yx bn3,yw X G Ki bn1,yw X G y8 bn2,Yu,Yu.binds bn2,K7⟩,⟨K7.binds bn3,Ql,Ql.binds bn2,yw X G k8 bn3,yw X G yN bn1,K4,K4.binds bn3,kL⟩,⟨kL.binds bn2,yw X G wM bn1,yw X G wN bn3,yw X G k9 bn4,yw X G jL bn3,QZ,QZ.binds bn3,yw X G k_ bn5⟩,⟨yw X G oH bn1,eN,i9,Vo,az,cN,QY,eG⟩,⟨i7,Vl,pO,uD,XE,eO,i6,Vr⟩,⟨pN,uE,Vp,XF,i_,pT,W0,cK⟩,⟨eK,Ks,eI,i8,Vm,pQ,Kr,WZ⟩,⟨W4,⟨ax,W2,w4.kp⟩,⟨cJ,XB,Ys.kp⟩,⟨pS,cH,Xz,pP⟩,pV,Kq,Vq,Xy⟩,⟨⟨WX,Kp,kL.kp⟩,⟨XG,Vn,vX.kp⟩,⟨ay,W3,w6.kp⟩,⟨eR,aA,QZ.kp⟩,⟨pX,cE,XA,pW⟩,ZY,QT,Kj⟩,⟨QU,vc,vd⟩⟩;have eb:∀(s:HJ)(v:Value),BindsTo s eJ ⟨[v],[]⟩ [("_law_script",v)]:=by obtain⟨_,_,_,_,_,_,_,_,_,rfl,_,_⟩:=oH.2.ex;exact λs v=>.of_eq rfl
 refine⟨_,eb,λbase _ _=>(Ge T).imp λvs H Q E ⟨p,ns,e,hS,hl,k⟩=>?_⟩;subst e;exact AV hS (uz ns hl) k
def walk{l:W.OpenLaw}{q:HZ}{loose:HA}{XP:(Str->Option Value)->Heap->Prop}{YP:World->Heap->Prop}{d:DefRec}{K:Params->W.Frag}(hn:l.most=some 63)(hdf:d.params.defaults=[])
  (hY:∀(w:Ie)(h:Heap),YP w h->(K w.params).In h)
  (F:∀(w:Ie)(mg:HD)(fa:Addr)(h:Heap),(K w.params).In h->h.Ns mainGlobals mg->mg d.name=some (.ref fa)->
   ∃fd:FuncData,(∀(s:HJ)(u:Value),BindsTo s fd ⟨[u],[]⟩ [("_law_script",u)])/\∀base:Heap,(K w.params).In base->base.Ns mainGlobals mg->yU l.prog w (K w.params) mg base (CXe l.prog w) 9 fa fd ["_law_script"] (pJ (K w.params))):
  W.WalkO q loose XP YP l.row.toRowW d [] (λf vs=>PySem.call f vs):=
 L2.Af (n:=63) (k:=9) (x:="_law_script") (CX:=λw=>CXe l.prog w) (sp:=λw=>pJ (K w.params)) hn (by decide) hdf ⟨rfl,by decide,by decide⟩ hY F (λ_ H a ns hl hO hS=>⟨a,ns,rfl,hS,hl,λ_=>rfl⟩) λ_ _ _ _ _ z=>bw z
end K25
open PySem PySem.W PyProof.Rows
namespace PySem.W.Fast
def tw2783452640637775609:=()
def tw9529447082551818964:=()
def tw2231839503645158732:=()
def tw3696776505131614291:=()
def tw8121501267372183385:=()
def tw13215107844847631312:=()
def tw2061733246048535647:=()
def tw15075529766567670603:=()
def tw13133581498645481806:=()
def tw16161640988902514047:=()
def tw10180425419200463624:=()
def tw17529275335299746923:=()
def tw11459120056972876117:=()
def tw16561512569188469620:=()
def tw9784286737132836503:=()
def tw11059419679754030110:=()
def tw4276012821495712811:=()
def tw14779033854906877460:=()
def tw2984435496742401806:=()
def tw14322634032433819379:=()
def tw8078077504134360713:=()
def tw5259157648175424940:=()
def tw10076113341135033887:=()
def tw17005752928168111780:=()
def tw13933607511100602482:=()
def tw12759538114980717575:=()
def tw4588389659631051195:=()
def tw2317843154048430798:=()
def tw15929829659682881336:=()
def tw12373566111331717000:=()
def tw13233932026434269086:=()
def tw3711126075384633455:=()
def tw10664718253244811411:=()
def tw9522088458414604889:=()
def tw18375404773281017003:=()
def tw11346802510670873056:=()
def tw9981359505657402455:=()
def tw11345768057958290628:=()
def tw3252864431623478812:=()
def tw5902241810368049121:=()
end PySem.W.Fast
set_option maxRecDepth 100000 in
set_option maxHeartbeats 0 in
theorem PySem.Challenge.cw_fleetpath_k25_whole_links_go_on_holds : PySem.Challenge.rw_fleetpath_k25_whole_links_go_on.Holds := by
 w_on;o_law;k_head;(case hw=>w_witness2)
 k_fill
 refine K25.walk (l:=PySem.Challenge.rw_fleetpath_k25_whole_links_go_on) rfl rfl (λw h Y=>PySem.W.kIn_of Y) ?F
 case F=>
  intro w mg fa h KX G hmg;refine' K25.all_mk KX G hmg ?_ ?_ ?_ ?_ ?_ ?_ ?_ ?_ ?_ ?_ ?_ ?_ ?_ ?_ ?_ ?_ ?_ ?_ ?_ ?_ ?_ ?_ ?_ ?_ ?_ ?_ ?_ ?_ ?_ ?_ ?_ ?_ ?_ ?_ ?_ ?_ ?_ ?_ ?_ ?_ ?_ ?_ ?_ ?_ ?_ ?_ ?_ ?_ ?_ ?_ ?_ ?_ ?_ ?_ ?_ ?_ ?_ ?_ ?_ ?_ ?_ ?_ ?_ ?_ ?_ ?_ ?_ ?_ ?_ ?_ ?_ ?_ ?_ ?_ ?_ ?_ ?_ ?_ ?_ ?_ ?_ ?_ ?_ ?_ ?_ ?_ ?_ ?_ ?_ ?_ ?_ ?_ ?_ ?_ ?_ ?_ ?_ ?_ ?_ ?_ ?_ ?_ ?_ ?_ ?_ ?_ ?_ ?_ ?_ ?_ ?_ ?_ ?_ ?_ ?_ ?_ ?_ ?_ ?_ ?_ ?_ ?_ ?_ ?_ ?_ ?_ ?_ ?_ ?_ ?_ ?_ ?_ ?_ ?_ ?_ ?_ ?_ ?_ ?_ ?_ ?_ ?_
  all_goals try(first|((first|refine'⟨?_,L2.uQ ?_ ?_ ?_⟩|refine' L2.uQ ?_ ?_ ?_|refine' K25.Ea ?_ ?_ ?_ ?_ ?_)<;>try first|k_is|kernel_rfl)|(show _=_;first|k_is|kernel_rfl)|(first|refine⟨?_,?_,?_,?_,?_⟩|refine⟨?_,?_,?_,?_⟩|refine⟨?_,?_,?_⟩)<;>first|k_is|kernel_rfl)
#print axioms PySem.Challenge.cw_fleetpath_k25_whole_links_go_on_holds

