import PyProof.Rows.All
import Wide.All
import OpenK.AllK
import Wide.FinOn
import Lean
import PyProof.EqAt
import PyProof.EqKinds
import PyProof.TupleCall
import PyProof.NeKinds
import PyProof.Rows.CountFlat
import PyProof.Rows.SumAny
import PyProof.Rows.Range3
import KE.KEqDict
import KE.KRevIter
import PyProof.DictIter
import PyProof.DictWalks
import PyProof.IsiH_list
import KE.KDictOf
import PyProof.Rows.SetFrom
import PyProof.Conv_int_bool
import PyProof.Rows.StrNews
import PyProof.CallStr
import PyProof.Rows.StrMeet
import PyProof.FitsReplace
import PyProof.MeetsStr3
import PyProof.Rows.StrSplitAre
import PyProof.StrLawsIn
import PyProof.ReprLen
import PyProof.StrLawsChain
import KE.IntTextLaws
import PyProof.Rows.StrClose5
import KE.KSortTup
import PyProof.Rows.SortKey
import PyProof.DictUpdate
import KE.KDictSum
import PyProof.WalksEnum
import PyProof.EnumMake
import PyProof.ZipIter
import PyProof.Rows.EnumRows
import PyProof.Rows.ZipForRows
import PyProof.Rows.FactsT2
import PySem.Challenge.RW_fleetpath_k43_cut
set_option compiler.extract_closed false
set_option bootstrap.genMatcherCode false
set_option genInjectivity false
set_option genSizeOf false
set_option genSizeOfSpec false
set_option Elab.async false
set_option linter.all false
set_option maxRecDepth 100000
noncomputable section
def f8:=@PySem.wpAny_bind
def u8:=@List.length_map
def v0:=@List.length_cons
def v4:=@List.mem_cons_self
def M3:=@Option.map_eq_some_iff
def M6:=@List.length_append
def M7:=@PySem.Heap.get?_push_of_some
def M8:=@List.mem_singleton
def M9:=@List.mem_cons_of_mem
def N1:=@Nat.le_refl
def N2:=@Nat.le_of_ble_eq_true
def N4:=@PySem.Heap.lt_size
def N5:=@PySem.wpAny_pure
def N6:=@decide_eq_false
def N7:=@decide_eq_true
def N8:=@List.getElem?_eq_getElem
def N9:=@List.map_cons
def O0:=@Nat.lt_of_lt_of_le
def O1:=@Nat.ne_of_lt
def O2:=@List.getElem?_eq_some_iff
def O3:=@Bool.false_ne_true
def O4:=@List.size_toArray
def O5:=@List.mem_cons
def O6:=@List.map_append
def O7:=@PySem.Heap.get?_push_size
def O8:=@Option.bind_eq_some_iff
def O9:=@List.append_nil
def P0:=@List.getElem?_map
def P1:=@List.length_singleton
def P2:=@List.append_assoc
def P4:=@List.mem_append_right
def P5:=@PySem.Heap.get?_update_other
def P6:=@Nat.le_trans
def P7:=@beq_iff_eq
def P8:=@List.getElem?_set_ne
def P9:=@List.getElem?_cons_succ
def R4:=@Classical.choose_spec
def R7:=@List.lookup_cons
def R8:=@List.take_succ_eq_append_getElem
def R9:=@List.getElem?_set_self
def S0:=@congrArg
def S4:=@PySem.wpAny_mono
def S5:=@List.mem_append
def S6:=@beq_eq_false_iff_ne
def S7:=@Nat.zero_le
def S8:=@List.getElem?_append_left
def S9:=@PySem.W.mg_of
def T1:=@Option.some.inj
def T2:=@PySem.sizeLine_eq
def T4:=@List.length_range
def T5:=@List.length_set
def T6:=@Nat.lt_irrefl
def T7:=@List.any_cons
def T8:=@PySem.wpAny_holding
def T9:=@PySem.wpAny_Call_Name_kw
def a0a:=@Nat.lt_succ_self
def a0b:=@List.mem_map
def a0c:=@List.flatten_cons
def a0d:=@PySem.Heap.get?_update_self
def a0e:=@List.set_append_right
def a0f:=@Option.isSome_iff_exists
def a0g:=@List.getElem_mem
def a0h:=@Int.le_refl
def a0i:=@List.mem_range
def a0j:=@of_decide_eq_true
def a0k:=@PyProof.Rows.callWith_type1
def a0l:=@List.replicate_succ
def a0m:=@Nat.le_succ
def a0n:=@List.map_map
def a0o:=@List.getD_eq_getElem?_getD
def a0p:=@List.take_length
def a0q:=@PySem.F.slot_dict_get
def a0r:=@Nat.ne_of_gt
def a0s:=@List.nodup_cons
def a0t:=@List.getElem?_replicate
def a0u:=@List.mem_map_of_mem
def a0v:=@PySem.tupleKind_room_in1
def a0w:=@PySem.W.mg_none_of
def a0x:=@PySem.wpAny_passesOwn
def a0y:=@List.length_replicate
def a0z:=@List.nil_append
def a0A:=@PySem.builtinLookup_eq_fast
def a0B:=@List.getElem?_append_right
def a0C:=@PySem.wpAny_call
def a0D:=@PySem.Heap.size_push
def a0E:=@PySem.codeAny_mono
def a0F:=@Nat.succ_le_succ
def a0G:=@PySem.mem_of_lookup
def a0H:=@Array.length_toList
def a0I:=@List.map_congr_left
def a0J:=@Int.eq_ofNat_of_zero_le
def a0K:=@PySem.Paired.length
def a0L:=@PySem.wpAny_execs_nil
def a0M:=@PySem.Calls.spliced_cons
def a0N:=@PySem.W.callWith_K
def a0O:=@List.foldl_cons
def a0P:=@List.length_nil
def a0Q:=@List.find?_cons
def a0R:=@Sum.inr.inj
def a0S:=@PySem.F.entry_dict_get
def a0T:=@Option.isSome_map
def a0U:=@PySem.wpAny_loadPart
def a0V:=@PySem.wpAny_typeOf
def a0W:=@List.length_take
def a0X:=@List.mem_of_getElem?
def a0Y:=@PySem.codeAny_call_builtin
def a0Z:=@beq_self_eq_true
def a00:=@PySem.wpAny_isInstance
def a01:=@List.filter_cons
def a02:=@PySem.wpAny_attempt
def a03:=@Array.getElem?_eq_some_iff
def a04:=@List.drop_eq_getElem_cons
def a05:=@PySem.typeLookup_type
def a06:=@Nat.not_lt_zero
def a07:=@List.pairwise_iff_getElem
def a08:=@List.sublist_append_right
def a09:=@Nat.lt_of_le_of_lt
def a1a:=@PySem.W.looks_findIn
def a1b:=@List.getElem_range
def a1c:=@of_decide_eq_false
def a1d:=@Int.emod_lt_of_pos
def a1e:=@List.pairwise_cons
def a1f:=@List.map_singleton
def a1g:=@List.sublist_append_left
def a1h:=@Bool.false_xor
def a1i:=@List.pairwise_singleton
def a1j:=@PySem.wpAny_truthy_bool
def a1k:=@PySem.Calls.spliced_nil
def a1l:=@PySem.wpAny_newObj_type
def a1m:=@Nat.lt_succ_of_lt
def a1n:=@Nat.le_succ_of_le
def a1o:=@Int.toNat_natCast
def a1p:=@List.nodup_append
def a1q:=@PySem.Calls.callWith_builtin
def a1r:=@PySem.wpAny_standAt
def a1s:=@List.getElem_map
def a1t:=@List.getElem?_reverse
def a1u:=@PySem.plainObj_wpAny_Assign_Attribute
def a1v:=@Nat.le_of_lt
def a1w:=@List.mem_append_left
def a1x:=@Nat.le_of_eq
def a1y:=@PySem.Calls.evalArgs_plain
def a1z:=@Nat.lt_trans
def a1A:=@PySem.wpAny_specialOf
def a1B:=@List.getElem?_append
def a1C:=@PySem.wpAny_updateSeq
def a1D:=@Nat.sub_self
def a1E:=@Int.emod_nonneg
def a1F:=@Nat.min_eq_left
def a1G:=@List.filterMap_cons
def a1H:=@PySem.W.plainGet_of
def a1I:=@PySem.Heap.get?_update_ne
def a1J:=@List.length_reverse
def a1K:=@List.length_pos_iff
def a1L:=@PySem.W.looks_mroIn
def a1M:=@PySem.wpAny_field
def a1N:=@PySem.Calls.Name_function_global
def a1O:=@Bool.true_xor
def a1P:=@PySem.plainId_quiet
def a1Q:=@Array.perm_iff_toList_perm
def a1R:=@PyProof.Rows.listUpdate_at
def a1S:=@List.sum_cons
def a1T:=@List.nodup_iff_pairwise_ne
def a1U:=@PySem.Within.cons
def a1V:=@Nat.le_of_succ_le
def a1W:=@List.getElem?_eq_none_iff
def a1X:=@PySem.F.plain_extend_loop
def a1Y:=@PySem.codeAny_handlers_suite_as
def a1Z:=@PySem.wpAny_eqBool_int
def a13:=@PySem.wpAny_execs_cons
def a14:=@PySem.wpAny_lookBehind
def a15:=@PySem.pastItsLine_dict
def a16:=@List.length_drop
def a17:=@PySem.call_meetsIn
def a18:=@PySem.wpAny_mkText
def a19:=@List.all_eq_true
def a2a:=@PySem.wpAny_comprehension_free
def a2b:=@PySem.F.slot_list_append
def a2c:=@PySem.F.type_list_append
def a2d:=@List.drop_length
def a2e:=@List.cons_append
def a2f:=@PySem.F.args_list_init_2
def a2g:=@Nat.zero_add
def a2h:=@PyProof.Rows.KeyOrd.kle_trans
def a2i:=@PyProof.Rows.KeyOrd.klt_asymm
def a2j:=@PySem.F.args_dict_get_2
def a2k:=@PySem.F.args_dict_get_3
def a2l:=@PySem.F.plainAttrs_dict
def a2m:=@PySem.F.plainAttrs_list
def a2n:=@PySem.F.typeCall_list_1
def a2o:=@PySem.F.entry_list_init
def a2p:=@List.of_mem_zip
def a2q:=@PySem.pushCells_keeps
def a2r:=@List.range_succ
def a2s:=@PySem.W.cellsFrom_some
def a2t:=@PyProof.Rows.subscriptTail_builtinR
def a2u:=@Array.getElem?_eq_none
def a2v:=@PyProof.Rows.boot_list
def a2w:=@PySem.wpAny_of_eq
def a2x:=@PySem.F.type_dict_get
def a2y:=@PySem.wpAny_setField
def a2z:=@PySem.W.methodCall_KW
def a2A:=@Bool.and_false
def a2B:=@PySem.isSubtype_type
def a2C:=@PySem.callType_codes
def a2D:=@List.getElem?_toArray
def a2E:=@PySem.codeAny_handlers_test
def a2F:=@PySem.wpAny_loadName_local
def a2G:=@PySem.wpAny_load
def a2H:=@Array.mem_toList_iff
def a2I:=@Bool.and_eq_true_iff
def a2J:=@PySem.codeAny_extend_loopS
def a2K:=@PySem.wpAny_rule
def a2L:=@PySem.Around.under_plainId
def a2M:=@List.all_cons
def a2N:=@Bool.true_and
def a2O:=@PySem.Moved.eq_with
def a2P:=@PySem.wpAny_loadName_cell
def a2Q:=@PySem.F.called_list
def a2R:=@PySem.wpAny_handleBy_cons
def a2S:=@PySem.SeqAt.EqAt.int_str
def a2T:=@PySem.SeqAt.EqAt.str_int
def a2U:=@List.mem_filterMap
def a2V:=@Array.find?_toList
def a2W:=@PySem.wpAny_nsSet1
def a2X:=@List.map_nil
def a2Y:=@PySem.Code.quiet_builtin
def a2Z:=@Array.forIn_toList
def a20:=@List.set_cons_succ
def a21:=@PySem.W.looks_clsIn
def a22:=@PySem.wpAny_letGo
def a23:=@PySem.wpAny_throw
def a24:=@Int.one_mul
section
open PySem PySem.Spec PyProof.Rows PySem.W
abbrev MR:=(List (Addr × Obj))
abbrev MU:=(Str->Option Value)
abbrev MV:=List Nat
abbrev MW:=(Value->Shared->Prop)
abbrev MX:=List Str
abbrev MY:=(Addr->Prop)
abbrev MZ:=Shared
abbrev M_:=List Value
abbrev Na:=(Nat->Addr)
abbrev Nc:=List Expr
abbrev Nd:=PySem.W.Frag
abbrev Nf:=List Bool
abbrev Nh:=Expr
abbrev Ni:=List (Option Nat)
abbrev Nk:=Program
abbrev Nq:=World
abbrev Nr:=FuncData
abbrev Nt:=Around
abbrev Nv:=(List (Str × Addr))
abbrev Nw:=W.Frag
abbrev Nx:=List Stmt
abbrev Ny:=Frag
abbrev Nz:=List Int
abbrev NB:=(List (Str × NameKind))
abbrev NC:=Array (Option Value)
abbrev ND:=Option Addr
abbrev NF:=Stmt
abbrev NG:=List Addr
abbrev NJ:=(List (Str × Value))
abbrev NL:=Array Nat
abbrev NO:=Option Int
abbrev NQ:=(Str->Option NameKind)
abbrev NR:=Array Value
abbrev NT:=(Nat->Nat->Bool)
abbrev NV:=Option Expr
abbrev NW:=(Value->Option Bool)
abbrev NX:=(Nat->Value)
abbrev NY:=(Nat->Prop)
end
abbrev NZ:List Nat:=[0,0,0,0]
abbrev N_:List Nat:=[0,0,0,0,0,0]
abbrev Oa:List Nat:=[0,0,0,0,0,0,0]
abbrev Ob:List Nat:=[0,0,0,0,0,0,0,0,0,0,0,0,0,0,0,0,0,0,0,0,0,0]
namespace L2
open PySem PySem.Spec PyProof.Rows
abbrev Key:=Sum Int Str
abbrev NI:=List Key
abbrev NK:=(List (Key × Value))
abbrev NM:=(List (List Key × Int))
def fk:Key->Value->Bool
 | .inl k,v=>Value.isInt k v
 | .inr x,v=>Value.isStrOf x v
def Md (w:Nq):Key->Int
 | .inl k=>hashInt k
 | .inr x=>hashStr w x
def yR:∀ {k:Key}{v:Value},fk k v=true->(∃ i t,k=Sum.inl i/\v=Value.int i t)\/(∃ x t,k=Sum.inr x/\v=Value.str x t)
 | .inl i,v,h=>by
  obtain ⟨t,e⟩:=Value.isInt_shape (k:=i) (v:=v) h
  exact .inl ⟨i,t,rfl,e⟩
 | .inr x,v,h=>by
  obtain ⟨t,e⟩:=Value.isStrOf_shape (x:=x) (v:=v) h
  exact .inr ⟨x,t,rfl,e⟩
def nB (i:Int) (t:Tok):fk (.inl i) (.int i t)=true:=by simp [fk,Value.isInt]
def nC (x:Str) (t:Tok):fk (.inr x) (.str x t)=true:=by simp [fk,Value.isStrOf]
def D4 (a b:Int):decide ((Sum.inl a:Key)=Sum.inl b)=(a == b):=by
 by_cases e:a=b
 .subst e;simp
 .have h:¬ (Sum.inl a:Key)=Sum.inl b:=fun q=>e (Sum.inl.inj q)
  rw [N6 h]
  exact (S6.mpr e).symm
def D5 (a b:Str):decide ((Sum.inr a:Key)=Sum.inr b)=decide (a=b):=by
 by_cases e:a=b
 .subst e;simp
 .have h:¬ (Sum.inr a:Key)=Sum.inr b:=fun q=>e (a0R q)
  rw [N6 h,N6 e]
def D6 (a:Int) (b:Str):decide ((Sum.inl a:Key)=Sum.inr b)=false:=N6 (fun q=>nomatch q)
def D7 (a:Str) (b:Int):decide ((Sum.inr a:Key)=Sum.inl b)=false:=N6 (fun q=>nomatch q)
def yG (prog:Nk) (w:Nq):PySem.KeyKind prog w Key where
 is:=fk
 hash:=Md w
 inj:=fun v a b ha hb=>by
  rcases yR ha with ⟨i,t,rfl,rfl⟩ | ⟨x,t,rfl,rfl⟩
  .rcases yR hb with ⟨j,u,rfl,e⟩ | ⟨y,u,rfl,e⟩
   .injection e with e1 _;rw [e1]
   .exact nomatch e
  .rcases yR hb with ⟨j,u,rfl,e⟩ | ⟨y,u,rfl,e⟩
   .exact nomatch e
   .injection e with e1 _;rw [e1]
 byValue:=fun k v h=>by
  rcases yR h with ⟨i,t,rfl,rfl⟩ | ⟨x,t,rfl,rfl⟩ <;> rfl
 pyHash:=fun hv h=>by
  rcases yR hv with ⟨i,t,rfl,rfl⟩ | ⟨x,t,rfl,rfl⟩
  .exact wpAny_pyHash_int h
  .exact wpAny_pyHash_str h
 eqBool:=fun hu hv h=>by
  rcases yR hu with ⟨i,t,rfl,rfl⟩ | ⟨x,t,rfl,rfl⟩
  .rcases yR hv with ⟨j,u,rfl,rfl⟩ | ⟨y,u,rfl,rfl⟩
   .rw [D4] at h;exact a1Z h
   .rw [D6] at h;exact a2S i t y u _ _ _ _ h
  .rcases yR hv with ⟨j,u,rfl,rfl⟩ | ⟨y,u,rfl,rfl⟩
   .rw [D7] at h;exact a2T x t j u _ _ _ _ h
   .rw [D5] at h;exact wpAny_eqBool_str h
 «strs»:=fun k x t v h=>by
  rcases yR h with ⟨i,u,rfl,e⟩ | ⟨y,u,rfl,e⟩
  .exact nomatch e
  .injection e with e1 _
   subst e1
   cases v <;> rfl
def lN (prog:Nk) (w:Nq) (k:Key) (v:Value):(yG prog w).is k v=fk k v:=rfl
def fm (prog:Nk) (w:Nq) (i:Int) (t:Tok):(yG prog w).is (.inl i) (.int i t)=true:=nB i t
def fo (prog:Nk) (w:Nq) (x:Str) (t:Tok):(yG prog w).is (.inr x) (.str x t)=true:=nC x t
inductive V where
 | non | bl (b:Bool) | int (i:Int) | str (x:Str) | byt (b:Array UInt8) | flt (b:UInt64) | ref (a:Addr) | ty (n:String)
 deriving DecidableEq
abbrev Nb:=List V
abbrev Ng:=(List (Key × V))
abbrev Nu:=(List (Str × V))
abbrev NS:=(List (List Key × V))
def RelV:V->Value->Prop
 | .non,u=>u=Value.none
 | .bl b,u=>u=Value.bool b
 | .int i,u=>∃ t,u=Value.int i t
 | .str x,u=>∃ t,u=Value.str x t
 | .byt b,u=>∃ t,u=Value.bytes b t
 | .flt b,u=>∃ t,u=Value.float b t
 | .ref a,u=>u=Value.ref a
 | .ty n,u=>u=Value.type n
abbrev Vals:List V->List Value->Prop:=Paired RelV
def Vals.length (r:Vals xs us):xs.length=us.length:=a0K r
def Vals.get:∀ {xs:Nb}{us:M_}{i:Nat}{x:V},Vals xs us->xs[i]? = some x->∃ u,us[i]? = some u/\RelV x u
 | _,_,_,_,.nil,e=>by simp at e
 | _,_,0,_,.cons r _,e=>by simp at e;subst e;exact ⟨_,rfl,r⟩
 | _,_,i + 1,x,.cons _ t,e=>by
  obtain ⟨u,h1,h2⟩:=Vals.get (i:=i) (x:=x) t (by simpa using e)
  exact ⟨u,by simpa using h1,h2⟩
def Vals.append:∀ {xs ys:Nb}{us ws:M_},Vals xs us->Vals ys ws->Vals (xs++ys) (us++ws)
 | _,_,_,_,.nil,s=>s
 | _,_,_,_,.cons r t,s=>.cons r (Vals.append t s)
def Vals.take:∀ {xs:Nb}{us:M_}(n:Nat),Vals xs us->Vals (xs.take n) (us.take n)
 | _,_,0,_=>.nil
 | _,_,_ + 1,.nil=>.nil
 | _,_,n + 1,.cons r t=>.cons r (Vals.take n t)
def Vals.drop:∀ {xs:Nb}{us:M_}(n:Nat),Vals xs us->Vals (xs.drop n) (us.drop n)
 | _,_,0,r=>r
 | _,_,_ + 1,.nil=>.nil
 | _,_,n + 1,.cons _ t=>Vals.drop n t
def V8:Option V->Option Value->Prop
 | some v,some u=>RelV v u
 | none,none=>True
 | _,_=>False
def KV {κ:Type}:List (κ × V)->List (κ × Value)->Prop:=Paired fun (p:κ × V) (q:κ × Value)=>p.1=q.1/\RelV p.2 q.2
def kV:Key->V
 | .inl i=>.int i
 | .inr x=>.str x
inductive HO where
 | lst (xs:Nb)
 | tup (xs:Nb)
 | dK (kvs:Ng) | dT (kvs:NS)
 | set (S:Int->Bool) (n:Nat)
 | ins (C dx:Addr) (fs:Nu)
 | own (x:Addr)
 | xd (fs:Nu)
 | met (f x:Addr)
 | rng (lo hi:Int)
 | frz (o:Obj) (u:HO)
 | tbl (ps:NR)
 | ext (φ:Heap->Prop)
abbrev Hp:=Addr->Option HO
def upd (H:Hp) (a:Addr) (o:HO):Hp:=fun b=>if b=a then some o else H b
def zh:upd H a o a=some o:=by unfold upd;rw [if_pos rfl]
def zj (h:b≠a):upd H a o b=H b:=by unfold upd;rw [if_neg h]
def vg:upd (upd H a o) a u=upd H a u:=by
 funext b;unfold upd;split <;> rfl
def Hq {H:Hp}{a b:Addr}{o u:HO}(h:H a=some o) (h':H b=some u) (d:o≠u):a≠b:=by
 intro e;subst e;rw [h] at h';exact d (T1 h')
def zX {H:Hp}{a b:Addr}{o:HO}(h:H a=some o) (h':H b=none):a≠b:=by
 intro e;subst e;rw [h] at h';cases h'
section
variable (P:Nk) (w:Nq)
def qp (H:Hp) (h:Heap) (a:Addr):HO->Prop
 | .lst xs=>xs.length<=sizeLine/\∃ (its:M_) (n:Nat),Vals xs its/\h.get? a=some { cls:=.type "list",data:=.seq its.toArray n }
 | .tup xs=>xs.length<=sizeLine/\∃ its:List Value,Vals xs its/\IsTup h a its.toArray
 | .dK kvs=>kvs.length<=sizeLine/\(a == sysModules)=false/\∃ vs,KV kvs vs/\h.DictOf (yG P w) a vs
 | .dT kvs=>kvs.length<=sizeLine/\(a == sysModules)=false/\∃ xs:List (List Key × Addr × Value),
   Paired (fun (p:List Key × V) (q:List Key × Addr × Value)=>p.1=q.1/\H q.2.1=some (.tup (p.1.map kV))/\RelV p.2 q.2.2) kvs xs/\
   ∃ o es ep,h.get? a=some o/\o.ExactDict/\o.data=.dict es ep/\es.toList=xs.map (entryOfKey (tupleKind (yG P w)))/\(xs.map (·.1)).Nodup
 | .set S n=>h.SetOf (intKind P w) a S n
 | .ins C dx fs=>H dx=some (.own a)/\fs.length<=1000/\dx≠a/\h.get? a=some (PySem.W.instObj C dx)/\
   ∃ mA,h.Ns1 dx mA/\(∀ f,V8 (fs.lookup f) (mA f))/\PySem.Within mA (fs.map (·.1))
 | .own _=>∃ o,h.get? a=some o
 | .xd fs=>∃ mA,h.Ns1 a mA/\∀ f,V8 (fs.lookup f) (mA f)
 | .rng lo hi=>∃ t u v,h.get? a=some { cls:=.type "range",data:=.fields #[.int lo t,.int hi u,.int 1 v] }
 | .frz o u=>h.get? a=some o/\qp H h a u
 | .tbl ps=>h.get? a=some { cls:=.none,data:=.fields ps }
 | .met f x=>h.get? a=some (PySem.W.methodObj (.ref f) (.ref x))
 | .ext φ=>φ h/\(∃ o,h.get? a=some o)/\∀ h1 h2:Heap,φ h1->(∀ o,h1.get? a=some o->h2.get? a=some o)->φ h2
def HOk (H:Hp) (h:Heap):Prop:=∀ a o,H a=some o->qp P w H h a o
end
section
variable {P:Nk}{w:Nq}{H H':Hp}{h h':Heap}{a:Addr}{o:HO}
def qp.lt (x:qp P w H h a o):a < h.objs.size:=by
 cases o with
 | lst xs=>obtain ⟨_,_,_,_,e⟩:=x;exact N4 e
 | tup xs=>obtain ⟨_,_,_,p⟩:=x;exact p.lt
 | dK kvs=>obtain ⟨_,_,_,_,o,_,_,e,_⟩:=x;exact N4 e
 | dT kvs=>obtain ⟨_,_,_,_,o,_,_,e,_⟩:=x;exact N4 e
 | set S n=>obtain ⟨o,_,_,_,e,_⟩:=x;exact N4 e
 | ins C dx fs=>obtain ⟨_,_,_,e,_⟩:=x;exact N4 e
 | own y=>obtain ⟨_,e⟩:=x;exact N4 e
 | xd fs=>obtain ⟨_,⟨_,_,_,e,_⟩,_⟩:=x;exact N4 e
 | rng lo hi=>obtain ⟨_,_,_,e⟩:=x;exact N4 e
 | frz ob u=>obtain ⟨e,_⟩:=x;exact N4 e
 | tbl ps=>exact N4 (show h.get? a=some _ from x)
 | met f y=>exact N4 (show h.get? a=some _ from x)
 | ext φ=>obtain ⟨_,⟨_,e⟩,_⟩:=x;exact N4 e
def Paired.Hr {α β:Type}{F G:α->β->Prop}:∀ {l₁:List α}{l₂:List β},Paired F l₁ l₂->(∀ a b,F a b->G a b)->Paired G l₁ l₂
 | _,_,.nil,_=>.nil
 | _,_,.cons r t,f=>.cons (f _ _ r) (Paired.Hr t f)
def qp.m_ (x:qp P w H h a o) (k:∀ b u,(b=a\/H b=some (.own a))->h.get? b=some u->h'.get? b=some u)
  (ho:∀ b,H b=some (.own a)->H' b=some (.own a)) (ht:∀ b xs,H b=some (.tup xs)->H' b=some (.tup xs)):qp P w H' h' a o:=by
 induction o with
 | lst xs=>obtain ⟨z,its,n,r,e⟩:=x;exact ⟨z,its,n,r,k _ _ (.inl rfl) e⟩
 | tup xs=>obtain ⟨z,its,r,ob,e,c⟩:=x;exact ⟨z,its,r,ob,k _ _ (.inl rfl) e,c⟩
 | dK kvs=>obtain ⟨z,y,vs,r,ob,es,ep,e,c⟩:=x;exact ⟨z,y,vs,r,ob,es,ep,k _ _ (.inl rfl) e,c⟩
 | dT kvs=>
  obtain ⟨z,y,xs,r,ob,es,ep,e,c⟩:=x
  exact ⟨z,y,xs,Paired.Hr r fun p q z=>⟨z.1,ht _ _ z.2.1,z.2.2⟩,ob,es,ep,k _ _ (.inl rfl) e,c⟩
 | set S n=>obtain ⟨ob,es,ep,t,e,c⟩:=x;exact ⟨ob,es,ep,t,k _ _ (.inl rfl) e,c⟩
 | ins C dx fs=>
  obtain ⟨d,z,ne,e,mA,⟨od,es,ep,e2,c⟩,r⟩:=x
  exact ⟨ho _ d,z,ne,k _ _ (.inl rfl) e,mA,⟨od,es,ep,k _ _ (.inr d) e2,c⟩,r⟩
 | own y=>obtain ⟨ob,e⟩:=x;exact ⟨ob,k _ _ (.inl rfl) e⟩
 | xd fs=>obtain ⟨mA,⟨od,es,ep,e,c⟩,r⟩:=x;exact ⟨mA,⟨od,es,ep,k _ _ (.inl rfl) e,c⟩,r⟩
 | rng lo hi=>obtain ⟨t,u,v,e⟩:=x;exact ⟨t,u,v,k _ _ (.inl rfl) e⟩
 | frz ob u ih=>obtain ⟨e,q⟩:=x;exact ⟨k _ _ (.inl rfl) e,ih q⟩
 | tbl ps=>
  have e:h.get? a=some { cls:=.none,data:=.fields ps }:=x
  show h'.get? a=some { cls:=.none,data:=.fields ps }
  exact k a _ (.inl rfl) e
 | met f y=>
  have e:h.get? a=some (PySem.W.methodObj (.ref f) (.ref y)):=x
  show h'.get? a=some (PySem.W.methodObj (.ref f) (.ref y))
  exact k a _ (.inl rfl) e
 | ext φ=>obtain ⟨p,⟨o,e⟩,st⟩:=x;exact ⟨st _ _ p fun o q=>k _ _ (.inl rfl) q,⟨o,k _ _ (.inl rfl) e⟩,st⟩
def HOk.lt (x:HOk P w H h) (e:H a=some o):a < h.objs.size:=(x a o e).lt
def HOk.fresh (x:HOk P w H h) (e:h.objs.size<=a):H a=none:=by
 cases q:H a with
 | none=>rfl
 | some u=>exact absurd (O0 (x.lt q) e) (T6 _)
def HOk.kept (x:HOk P w H h) (k:∀ b u,h.get? b=some u->h'.get? b=some u):HOk P w H h':=fun a o e=>
 (x a o e).m_ (fun b u _ q=>k b u q) (fun _ q=>q) fun _ _ q=>q
def HOk.laid (x:HOk P w H h) (k:∀ b u,h.get? b=some u->h'.get? b=some u) (hp:h.objs.size<=a) (new:qp P w (upd H a o) h' a o):HOk P w (upd H a o) h':=fun b u e=>by
 have hn:=x.fresh hp
 by_cases hb:b=a
 .subst hb;rw [zh] at e;cases e;exact new
 .rw [zj hb] at e
  exact (x b u e).m_ (fun c v _ q=>k c v q) (fun c q=>by rw [zj (zX q hn)];exact q) fun c xs q=>by rw [zj (zX q hn)];exact q
end
def Rd (H:Hp) (a:Addr) (u:HO):Prop:=H a=some u\/∃ o,H a=some (.frz o u)
def Rd.ok (r:Rd H a u) (x:HOk P w H h):qp P w H h a u:=by
 rcases r with r | ⟨o,r⟩
 .exact x a u r
 .obtain ⟨_,q⟩:=x a _ r
  exact q
def Mut:Option HO->Prop
 | some (.lst _)=>True
 | some (.dK _)=>True
 | some (.dT _)=>True
 | some (.set _ _)=>True
 | some (.ins _ _ _)=>True
 | some (.ext _)=>True
 | _=>False
def HOk.write (ok:HOk P w H h) (mu:Mut (H x)) (he:e=x\/H e=some (.own x)) (k:∀ b u,b≠e->h.get? b=some u->h'.get? b=some u) (heo:∃ u,h'.get? e=some u)
  (new:qp P w (upd H x o') h' x o'):HOk P w (upd H x o') h':=fun b u q=>by
 have nown:∀ c y,H c=some (.own y)->c≠x:=fun c y r z=>by subst z;rw [r] at mu;exact mu
 have ntup:∀ c xs,H c=some (.tup xs)->c≠x:=fun c xs r z=>by subst z;rw [r] at mu;exact mu
 by_cases hb:b=x
 .subst hb;rw [zh] at q;cases q;exact new
 .rw [zj hb] at q
  by_cases hbe:b=e
  .have q':H b=some (.own x):=by
    rcases he with z | z
    .exact absurd (hbe.trans z) hb
    .rw [hbe];exact z
   rw [q] at q';cases q'
   obtain ⟨v,hv⟩:=heo
   exact ⟨v,by rw [hbe];exact hv⟩
  .refine (ok b u q).m_ (fun c v hc r=>k c v ?_ r) (fun c r=>by rw [zj (nown c b r)];exact r) fun c xs r=>by rw [zj (ntup c xs r)];exact r
   rcases hc with rfl | hc
   .exact hbe
   .rintro rfl
    rcases he with z | z
    .exact nown c b hc z
    .rw [hc] at z;cases z;exact hb rfl
structure Un (fs ex:NG) (H H':Hp) (h h':Heap):Prop where
 keep:∀ b o,h.get? b=some o->H b=none->b∉fs->b∉ex->h'.get? b=some o
 slot:∀ b o,h.get? b=some o->H b=none->b∈fs->b∉ex->∃ sl,h'.get? b=some { o with slots:=sl }
 free:∀ b o,h.get? b=some o->H b=none->b∉ex->H' b=none
 there:∀ b o,h.get? b=some o->b∉ex->∃ o',h'.get? b=some o'
 nA:∀ b xs,H b=some (.tup xs)->H' b=some (.tup xs)
 tU:∀ b o u,H b=some (.frz o u)->H' b=some (.frz o u)
 xW:∀ b ps,H b=some (.tbl ps)->∃ more,H' b=some (.tbl (ps++more))
section
variable {fs fs' ex ex':NG}{H H1 H2:Hp}{h h1 h2 h':Heap}{a x e:Addr}{o:HO}
def Un.any (u:Un fs ex H H1 h h1) (q:h.get? b=some ob) (n:H b=none) (hx:b∉ex):∃ sl,h1.get? b=some { ob with slots:=sl }:=by
 by_cases hb:b∈fs
 .exact u.slot b ob q n hb hx
 .exact ⟨ob.slots,u.keep b ob q n hb hx⟩
def Un.kept (k:∀ b u,h.get? b=some u->h'.get? b=some u):Un fs ex H H h h':=
 ⟨fun b ob q _ _ _=>k b ob q,fun b ob q _ _ _=>⟨ob.slots,k b ob q⟩,fun _ _ _ n _=>n,fun b ob q _=>⟨ob,k b ob q⟩,fun _ _ q=>q,fun _ _ _ q=>q,fun _ ps q=>⟨#[],by rw [q];simp⟩⟩
def Un.refl:Un fs ex H H h h:=Un.kept fun _ _ q=>q
def Un.laid (k:∀ b u,h.get? b=some u->h'.get? b=some u) (hp:h.objs.size<=a) (hn:H a=none):Un fs ex H (upd H a o) h h' where
 keep:=fun b u q _ _ _=>k b u q
 slot:=fun b u q _ _ _=>⟨u.slots,k b u q⟩
 free:=fun b u q n _=>by rw [zj (O1 (O0 (N4 q) hp))];exact n
 there:=fun b u q _=>⟨u,k b u q⟩
 nA:=fun b xs q=>by rw [zj (zX q hn)];exact q
 tU:=fun b u xs q=>by rw [zj (zX q hn)];exact q
 xW:=fun b ps q=>⟨#[],by rw [zj (zX q hn),q];simp⟩
def Un.write (mu:Mut (H x)) (he:e=x\/H e=some (.own x)) (k:∀ b u,b≠e->h.get? b=some u->h'.get? b=some u) (heo:∃ u,h'.get? e=some u):Un fs ex H (upd H x o) h h':=by
 have hx:∀ b,H b=none->b≠x:=fun b n z=>by subst z;rw [n] at mu;exact mu
 have hb:∀ b,H b=none->b≠e:=fun b n z=>by
  subst z
  rcases he with r | r
  .exact hx b n r
  .rw [n] at r;cases r
 have hm:∀ b u,H b=some u->¬ Mut (some u)->b≠x:=fun b u q nm z=>by subst z;rw [q] at mu;exact nm mu
 refine ⟨fun b u q n _ _=>k b u (hb b n) q,fun b u q n _ _=>⟨u.slots,k b u (hb b n) q⟩,fun b u q n _=>by rw [zj (hx b n)];exact n,fun b u q _=>?_,
  fun b xs q=>by rw [zj (hm b _ q fun z=>z)];exact q,fun b u xs q=>by rw [zj (hm b _ q fun z=>z)];exact q,fun b ps q=>⟨#[],by rw [zj (hm b _ q fun z=>z),q];simp⟩⟩
 by_cases hbe:b=e
 .subst hbe;exact heo
 .exact ⟨u,k b u hbe q⟩
end
def trk (h:Heap) (H:Hp):List Addr:=(List.range h.objs.size).filter fun a=>(H a).isSome
def tV (h:Heap) (H:Hp):Heap:=PySem.W.hideAll h (trk h H)
def nD (h:Heap) (H:Hp):(tV h H).objs.size=h.objs.size:=PySem.W.hideAll_size _ _
def tW (e:h.get? b=some o) (n:H b=none):(tV h H).get? b=some o:=
 PySem.W.hideAll_get _ e fun hm=>by
  have q:(H b).isSome=true:=(List.mem_filter.mp hm).2
  rw [n] at q;simp at q
def Bz (e:(tV h H).get? b=some o):h.get? b=some o/\H b=none:=by
 have e':h.get? b=some o:=PySem.W.of_hideAll (trk h H) e
 refine ⟨e', ?_⟩
 cases q:H b with
 | none=>rfl
 | some x=>
  have hm:b∈trk h H:=List.mem_filter.mpr ⟨a0i.mpr (N4 e'),by simp [q]⟩
  have z:(tV h H).get? b=none:=PySem.W.hideAll_none (trk h H) hm
  rw [z] at e;cases e
structure Mod (K:Nd) (mg:MU) (base:Heap):Prop where
 kin:K.In base
 glob:base.Ns mainGlobals mg
 blt:∃ mb,base.Ns builtinsNs mb/\∀ x:Str,x ≠ "__name__" -> mb x=bootBuiltins x
 nolimit:base.NoLimit
structure Cx where
 prog:Program
 w:World
 K:PySem.W.Frag
 mg:Str->Option Value
 base:Heap
 A:Around
 N:List Str
 s₀:Shared
 H₀:Hp
 env:Env
 outer:List Env
 stack:List Env
 ex:List Addr
 fn:Str->Bool
 calm:Bool
 pn:List (Addr × Obj)
 xe:Value->Shared->Prop
abbrev Oc (X:Cx):=model X.prog X.w
def frs (l:List Env):List Addr:=l.filterMap (·.frame)
abbrev Cx.fs (X:Cx):List Addr:=frs X.outer
def Vis (sc:Scope) (x:Str):Prop:=sc.names.lookup x=some .local\/sc.names.lookup x=some .cell\/sc.names.lookup x=some .free
def Loc (sc:Scope) (x:Str):Prop:=sc.names.lookup x=some .local\/sc.names.lookup x=some .cell
def Look (env:Env) (h:Heap) (m:MU) (x:Str) (u:Value):Prop:=
 (env.kindOf x=some .local/\m x=some u)\/((env.kindOf x=some .cell\/env.kindOf x=some .free)/\∃ c,env.cells.lookup x=some c/\h.IsCell c (some u))
structure Cx.Ok (X:Cx):Prop where
 mod:Mod X.K X.mg X.base
 kind:X.env.scope.kind=.function
 glob:X.env.globals=mainGlobals
 blt:X.env.builtins=builtinsNs
 above:X.s₀.heap.objs.size<=X.env.locals
 inj:∀ x y c,X.env.cells.lookup x=some c->X.env.cells.lookup y=some c->x=y
 has:∀ x,(X.env.kindOf x=some .cell\/X.env.kindOf x=some .free)->∃ c,X.env.cells.lookup x=some c
 cab:∀ x c,X.fn x=true->X.env.cells.lookup x=some c->X.s₀.heap.objs.size<=c
 hd:X.calm=true->X.A.handled=none
 frames:X.A.frames=some X.stack
 stk:X.stack=X.outer\/(X.stack=X.env :: X.outer/\X.env.frame=some X.env.locals)
 exf:∀ b∈X.ex,b≠X.env.locals/\∀ x c,X.env.cells.lookup x=some c->c≠b
 bs:∀ b o,X.base.get? b=some o->X.s₀.heap.get? b=some o/\X.H₀ b=none
 bsz:X.base.objs.size<=X.s₀.heap.objs.size
 D2:∀ b o,X.base.get? b=some o->b∉X.ex
 D3:∀ b∈X.ex,b∉X.fs
 fq:X.s₀.heap.FunFrames X.base X.outer
 frf:∀ b∈X.fs,X.H₀ b=none
structure Inv (X:Cx) (pins:MR) (σ:List (Option V)) (H:Hp) (s:MZ):Prop where
 ok:X.Ok
 os:s.os=X.s₀.os
 bare:AllBare s.gens
 base:Un X.fs X.ex X.H₀ H X.s₀.heap s.heap
 loc:∃ m,s.heap.Ns X.env.locals m/\∀ (i:Nat) (x:Str) (v:V),X.N[i]? = some x->σ[i]? = some (some v)->Vis X.env.scope x->∃ u,RelV v u/\Look X.env s.heap m x u
 cell:∀ x c,X.env.cells.lookup x=some c->∃ v,s.heap.IsCell c v
 free:H X.env.locals=none
 Vj:∀ x c,X.env.cells.lookup x=some c->H c=none
 pin:∀ p∈X.pn++pins,s.heap.get? p.1=some p.2/\H p.1=none/\p.1≠X.env.locals/\p.1∉X.fs/\∀ v,p.2.data≠.cell v
 hok:HOk X.prog X.w H s.heap
 len:σ.length=X.N.length
section
variable {X:Cx}{pins:MR}{σ:List (Option V)}{H H':Hp}{s:MZ}{h':Heap}
def Cx.Ok.Me (ok:X.Ok) (e:X.base.get? b=some o):b∉X.fs:=fun hb=>by
 have:=(ok.fq.mem hb).1
 rw [e] at this;cases this
def Inv.bs (I:Inv X pins σ H s):∀ b o,X.base.get? b=some o->s.heap.get? b=some o/\H b=none:=fun b o e=>
 ⟨I.base.keep b o (I.ok.bs b o e).1 (I.ok.bs b o e).2 (I.ok.Me e) (I.ok.D2 b o e),I.base.free b o (I.ok.bs b o e).1 (I.ok.bs b o e).2 (I.ok.D2 b o e)⟩
def Inv.bk (I:Inv X pins σ H s):∀ b o,X.base.get? b=some o->s.heap.get? b=some o:=fun b o e=>(I.bs b o e).1
def Inv.mod (I:Inv X pins σ H s):Mod X.K X.mg X.base:=I.ok.mod
def Inv.kIn (I:Inv X pins σ H s):X.K.In s.heap:=I.ok.mod.kin.keeps I.bk
def Inv.lt (I:Inv X pins σ H s):X.env.locals < s.heap.objs.size:=let ⟨_,hn,_⟩:=I.loc;hn.lt
def Inv.sz (I:Inv X pins σ H s):X.s₀.heap.objs.size<=s.heap.objs.size:=P6 I.ok.above (a1v I.lt)
def Inv.Mf (I:Inv X pins σ H s) (h:s.heap.objs.size<=a):a∉X.fs:=fun hb=>by
 obtain ⟨_,o,ho,_⟩:=I.ok.fq.mem hb
 exact absurd (O0 (N4 ho) (P6 I.sz h)) (T6 _)
def Inv.cne (I:Inv X pins σ H s):∀ x c,X.env.cells.lookup x=some c->c≠X.env.locals:=fun x c e z=>by
 obtain ⟨v,o,ho,hd⟩:=I.cell x c e
 obtain ⟨m,⟨o',es,ep,ho',hd',_⟩,_⟩:=I.loc
 rw [z,ho'] at ho;cases ho;rw [hd'] at hd;cases hd
def Inv.fq (I:Inv X pins σ H s):s.heap.FunFrames X.base X.outer:=by
 have all:∀ (l:List Env),(∀ b∈frs l,b∈X.fs)->X.s₀.heap.FunFrames X.base l->s.heap.FunFrames X.base l:=by
  intro l
  induction l with
  | nil=>intro _ _;trivial
  | cons env r ih=>
   intro hs hl
   obtain ⟨hk,⟨L,o,hf,hn,ho,hd⟩,hr⟩:=hl
   have hL:L∈X.fs:=hs L (by unfold frs;rw [a1G,hf];exact v4)
   obtain ⟨sl,e⟩:=I.base.slot L o ho (I.ok.frf L hL) hL fun z=>I.ok.D3 L z hL
   exact ⟨hk,⟨L,_,hf,hn,e,hd⟩,ih (fun b hb=>hs b (by unfold frs;rw [a1G,hf];exact M9 _ hb)) hr⟩
 exact all X.outer (fun _ hb=>hb) I.ok.fq
def Inv.stack (I:Inv X pins σ H s):s.heap.FunFrames X.base X.stack:=by
 rcases I.ok.stk with e | ⟨e,hf⟩
 .rw [e];exact I.fq
 .rw [e]
  obtain ⟨m,hn,_⟩:=I.loc
  refine .cons (by rw [I.ok.kind];decide) hf hn ?_ I.fq
  exact Heap.get?_none_of_le (P6 I.ok.bsz I.ok.above)
def Inv.ah (I:Inv X pins σ H s):∀ b∈frs X.stack,b∈X.env.locals :: X.fs:=fun b hb=>by
 rcases I.ok.stk with e | ⟨e,hf⟩
 .rw [e] at hb;exact M9 _ hb
 .rw [e] at hb
  unfold frs at hb
  rw [a1G,hf] at hb
  exact hb
def Inv.aW (I:Inv X pins σ H s):∀ b∈frs X.stack,H b=none:=fun b hb=>by
 rcases O5.mp (I.ah b hb) with e | hb
 .rw [e];exact I.free
 .obtain ⟨_,o,ho,_⟩:=I.ok.fq.mem hb
  exact I.base.free b o ho (I.ok.frf b hb) fun z=>I.ok.D3 b z hb
def Inv.step {g':Array GenState}{t':Nat}{d':Drawn}{ch:NG}(I:Inv X pins σ H s)
  (hch:∀ b∈ch,(b∈X.ex\/X.s₀.heap.objs.size<=b)/\b≠X.env.locals/\(∀ x c,X.env.cells.lookup x=some c->c≠b)/\∀ p∈X.pn++pins,p.1≠b)
  (keep:∀ b o,b≠X.env.locals->b∉X.fs->b∉ch->s.heap.get? b=some o->H b=none->h'.get? b=some o)
  (slot:∀ b o,b≠X.env.locals->b∈X.fs->b∉ch->s.heap.get? b=some o->H b=none->∃ sl,h'.get? b=some { o with slots:=sl }) (free:∀ b o,b∉ch->s.heap.get? b=some o->H b=none->H' b=none)
  (there:∀ b o,b∉ch->s.heap.get? b=some o->∃ o',h'.get? b=some o')
  (nA:∀ b xs,H b=some (.tup xs)->H' b=some (.tup xs)) (tU:∀ b o u,H b=some (.frz o u)->H' b=some (.frz o u)) (xW:∀ b ps,H b=some (.tbl ps)->∃ more,H' b=some (.tbl (ps++more)))
  (ns:∀ m,s.heap.Ns X.env.locals m->h'.Ns X.env.locals m) (hok:HOk X.prog X.w H' h') (hg:AllBare g'):
  Inv X pins σ H' { s with heap:=h',gens:=g',drawn:=d',toks:=t' }:=by
 have neL:∀ b o,X.s₀.heap.get? b=some o->b≠X.env.locals:=fun b o e=>O1 (O0 (N4 e) I.ok.above)
 have neC:∀ b o,X.s₀.heap.get? b=some o->b∉X.ex->b∉ch:=fun b o e hx hb=>by
  rcases (hch b hb).1 with z | z
  .exact hx z
  .exact absurd (O0 (N4 e) z) (T6 _)
 have cellK:∀ x c,X.env.cells.lookup x=some c->∀ v,s.heap.IsCell c v->h'.IsCell c v:=fun x c e v ⟨o,ho,hd⟩=>by
  have nch:c∉ch:=fun z=>(hch c z).2.2.1 x c e rfl
  by_cases hc:c∈X.fs
  .obtain ⟨sl,q⟩:=slot c o (I.cne x c e) hc nch ho (I.Vj x c e)
   exact ⟨_,q,hd⟩
  .exact ⟨o,keep c o (I.cne x c e) hc nch ho (I.Vj x c e),hd⟩
 refine ⟨I.ok,I.os,hg,⟨fun b o e n hb hx=>?_,fun b o e n hb hx=>?_,fun b o e n hx=>?_,fun b o e hx=>?_,fun b xs e=>nA b xs (I.base.nA b xs e),fun b o xs e=>tU b o xs (I.base.tU b o xs e),fun b ps e=>?_⟩, ?_,fun x c e=>?_, ?_,fun x c e=>?_,fun p hp=>?_,hok,I.len⟩
 .exact keep b o (neL b o e) hb (neC b o e hx) (I.base.keep b o e n hb hx) (I.base.free b o e n hx)
 .obtain ⟨sl,e1⟩:=I.base.slot b o e n hb hx
  obtain ⟨sl',e2⟩:=slot b _ (neL b o e) hb (neC b o e hx) e1 (I.base.free b o e n hx)
  exact ⟨sl',e2⟩
 .obtain ⟨o',e1⟩:=I.base.there b o e hx
  exact free b o' (neC b o e hx) e1 (I.base.free b o e n hx)
 .obtain ⟨o',e1⟩:=I.base.there b o e hx
  exact there b o' (neC b o e hx) e1
 .obtain ⟨m1,e1⟩:=I.base.xW b ps e
  obtain ⟨m2,e2⟩:=xW b _ e1
  exact ⟨m1++m2,by rw [e2,Array.append_assoc]⟩
 .obtain ⟨m,hn,hl⟩:=I.loc
  refine ⟨m,ns m hn,fun i x v e1 e2 e3=>?_⟩
  obtain ⟨u,r,l⟩:=hl i x v e1 e2 e3
  refine ⟨u,r, ?_⟩
  rcases l with l | ⟨k,c,e,z⟩
  .exact .inl l
  .exact .inr ⟨k,c,e,cellK x c e _ z⟩
 .obtain ⟨v,z⟩:=I.cell x c e
  exact ⟨v,cellK x c e v z⟩
 .obtain ⟨m,⟨o,_,_,ho,_⟩,_⟩:=I.loc
  exact free _ o (fun z=>(hch _ z).2.1 rfl) ho I.free
 .obtain ⟨v,o,ho,hd⟩:=I.cell x c e
  exact free c o (fun z=>(hch c z).2.2.1 x c e rfl) ho (I.Vj x c e)
 .obtain ⟨e,n,ne,nf,d⟩:=I.pin p hp
  have nch:p.1∉ch:=fun z=>(hch p.1 z).2.2.2 p hp rfl
  exact ⟨keep p.1 p.2 ne nf nch e n,free p.1 p.2 nch e n,ne,nf,d⟩
def Inv.un (I:Inv X pins σ H s) (u:Un X.fs [] H H' s.heap h') (hok:HOk X.prog X.w H' h'):Inv X pins σ H' { s with heap:=h',toks:=t' }:=by
 obtain ⟨m,⟨o,es,ep,ho,r⟩,_⟩:=id I.loc
 obtain ⟨sl,hL⟩:=u.any ho I.free (by simp)
 exact I.step (g':=s.gens) (d':=s.drawn) (ch:=[]) (fun _ z=>nomatch z) (fun b o _ hb _ e n=>u.keep b o e n hb (by simp)) (fun b o _ hb _ e n=>u.slot b o e n hb (by simp)) (fun b o _ e n=>u.free b o e n (by simp)) (fun b o _ e=>u.there b o e (by simp)) u.nA u.tU u.xW (fun m' hm=>by
  obtain ⟨o',es',ep',ho',r'⟩:=hm
  rw [ho] at ho';cases ho'
  exact ⟨_,es',ep',hL,r'⟩) hok I.bare
def Inv.call (I:Inv X pins σ H s) (u:Un (frs X.stack) ch H H' s.heap h') (hok:HOk X.prog X.w H' h') (hg:AllBare g')
  (hch:∀ b∈ch,(b∈X.ex\/X.s₀.heap.objs.size<=b)/\b≠X.env.locals/\(∀ x c,X.env.cells.lookup x=some c->c≠b)/\∀ p∈X.pn++pins,p.1≠b):
  Inv X pins σ H' { s with heap:=h',gens:=g',drawn:=d',toks:=t' }:=by
 obtain ⟨m,⟨o,es,ep,ho,r⟩,_⟩:=id I.loc
 obtain ⟨sl,hL⟩:=u.any ho I.free fun z=>(hch _ z).2.1 rfl
 exact I.step (ch:=ch) hch (fun b o hL hb hc e n=>u.keep b o e n (fun z=>(O5.mp (I.ah b z)).elim hL hb) hc) (fun b o _ _ hc e n=>u.any e n hc) (fun b o hc e n=>u.free b o e n hc) (fun b o hc e=>u.there b o e hc) u.nA u.tU u.xW (fun m' hm=>by
  obtain ⟨o',es',ep',ho',r'⟩:=hm
  rw [ho] at ho';cases ho'
  exact ⟨_,es',ep',hL,r'⟩) hok hg
def Inv.turned (I:Inv X pins σ H s) (k:∀ b o,b≠it->s.heap.get? b=some o->h'.get? b=some o) (hn:H it=none) (hL:it≠X.env.locals)
  (h1:it∈X.ex\/X.s₀.heap.objs.size<=it) (h2:∀ x c,X.env.cells.lookup x=some c->c≠it) (h3:∀ p∈X.pn++pins,p.1≠it):Inv X pins σ H { s with heap:=h',toks:=t' }:=by
 have nit:∀ b u,H b=some u->b≠it:=fun b u e z=>by rw [z,hn] at e;cases e
 refine I.step (g':=s.gens) (d':=s.drawn) (ch:=[it]) (fun b hb=>?_) (fun b o _ _ hc e _=>k b o (fun z=>hc (by simp [z])) e) (fun b o _ _ hc e _=>⟨o.slots,k b o (fun z=>hc (by simp [z])) e⟩) (fun _ _ _ _ n=>n)
  (fun b o hc e=>⟨o,k b o (fun z=>hc (by simp [z])) e⟩) (fun _ _ e=>e) (fun _ _ _ e=>e) (fun b ps e=>⟨#[],by rw [e];simp⟩) (fun m hm=>?_) (fun b u e=>?_) I.bare
 .have e:b=it:=by simpa using hb
  subst e
  exact ⟨h1,hL,h2,h3⟩
 .obtain ⟨o,es,ep,ho,r⟩:=hm
  exact ⟨o,es,ep,k _ o (Ne.symm hL) ho,r⟩
 .refine (I.hok b u e).m_ (fun c v hc q=>k c v ?_ q) (fun _ q=>q) fun _ _ q=>q
  rcases hc with z | z
  .rw [z];exact nit b u e
  .exact nit c _ z
def Inv.tok (I:Inv X pins σ H s) (t:Nat):Inv X pins σ H { s with toks:=t }:=I.un (h':=s.heap) (t':=t) Un.refl I.hok
def Inv.kept (I:Inv X pins σ H s) (k:∀ b u,s.heap.get? b=some u->h'.get? b=some u):Inv X pins σ H { s with heap:=h',toks:=t' }:=I.un (Un.kept k) (I.hok.kept k)
def Inv.laid (I:Inv X pins σ H s) (k:∀ b u,s.heap.get? b=some u->h'.get? b=some u) (hp:s.heap.objs.size<=a) (new:qp X.prog X.w (upd H a o) h' a o):
  Inv X pins σ (upd H a o) { s with heap:=h',toks:=t' }:=I.un (Un.laid k hp (I.hok.fresh hp)) (I.hok.laid k hp new)
def Inv.write (I:Inv X pins σ H s) (mu:Mut (H x)) (he:e=x\/H e=some (.own x)) (k:∀ b u,b≠e->s.heap.get? b=some u->h'.get? b=some u) (heo:∃ u,h'.get? e=some u)
  (new:qp X.prog X.w (upd H x o) h' x o):Inv X pins σ (upd H x o) { s with heap:=h',toks:=t' }:=I.un (Un.write mu he k heo) (I.hok.write mu he k heo new)
def Inv.aX (I:Inv X pins σ H s) (h:∀ p∈pins',s.heap.get? p.1=some p.2/\H p.1=none/\p.1≠X.env.locals/\p.1∉X.fs/\∀ v,p.2.data≠.cell v):Inv X pins' σ H s:=
 ⟨I.ok,I.os,I.bare,I.base,I.loc,I.cell,I.free,I.Vj,fun p hp=>(S5.mp hp).elim (fun z=>I.pin p (a1w _ z)) (h p),I.hok,I.len⟩
def gX {N:MX}(hN:N.Nodup) {i j:Nat}{x:Str}(a:N[i]? = some x) (b:N[j]? = some x):i=j:=by
 obtain ⟨h1,e1⟩:=O2.mp a
 obtain ⟨h2,e2⟩:=O2.mp b
 exact (List.getElem_inj hN).mp (e1.trans e2.symm)
def cX (I:Inv X pins σ H s) (hN:X.N.Nodup) (hi:X.N[i]? = some x) (hx:Loc X.env.scope x) (r:RelV v u)
  (h:∀ s',Inv X pins (σ.set i (some v)) H s'->(∃ a,Heap.SameBut a s.heap s'.heap/\(a=X.env.locals\/X.env.cells.lookup x=some a))->Q () s') (hf:X.fn x=true\/X.env.scope.names.lookup x=some .local:=by first | exact .inl rfl | exact .inr rfl | assumption):wpAny M A (storeName X.env x u) Q E s:=by
 obtain ⟨m,hn,hl⟩:=id I.loc
 have hcls:(X.env.scope.kind == .class || (X.env.scope.kind == .module && X.env.locals != X.env.globals))=false:=by rw [I.ok.kind];rfl
 have hiσ:i < σ.length:=by rw [I.len];exact (O2.mp hi).1
 have cne:=I.cne
 have tracked:∀ {a:Addr}{h':Heap},(∃ o,s.heap.get? a=some o/\H a=none)->Heap.SameBut a s.heap h'->HOk X.prog X.w H h':=fun {a h'} ha hs b ob e=>by
  obtain ⟨_,_,hfree⟩:=ha
  refine (I.hok b ob e).m_ (fun c w' hc q=>(hs.2 c ?_).trans q) (fun _ q=>q) fun _ _ q=>q
  rintro rfl
  rcases hc with rfl | hc
  .rw [hfree] at e;cases e
  .rw [hfree] at hc;cases hc
 rcases hx with hk | hk
 .refine wpAny_storeName_local hk hn (fun h' hn' hs=>?_) hcls
  obtain ⟨oL,_,_,hoL,_⟩:=id hn
  refine h _ ⟨I.ok,I.os,I.bare,⟨fun b o e n hb hx=>?_,fun b o e n hb hx=>?_,I.base.free,fun b o e hx=>?_,I.base.nA,I.base.tU,I.base.xW⟩,⟨_,hn',fun j y v' e1 e2 e3=>?_⟩,fun y c e=>?_,I.free,I.Vj,fun p hp=>?_,tracked ⟨oL,hoL,I.free⟩ hs,by simpa using I.len⟩ ⟨_,hs,.inl rfl⟩
  .exact (hs.2 b (O1 (O0 (N4 e) I.ok.above))).trans (I.base.keep b o e n hb hx)
  .obtain ⟨sl,e1⟩:=I.base.slot b o e n hb hx
   exact ⟨sl,(hs.2 b (O1 (O0 (N4 e) I.ok.above))).trans e1⟩
  .obtain ⟨o',e1⟩:=I.base.there b o e hx
   exact ⟨o',(hs.2 b (O1 (O0 (N4 e) I.ok.above))).trans e1⟩
  .by_cases hj:j=i
   .subst hj
    rw [hi] at e1;cases e1
    rw [R9 hiσ] at e2
    cases e2
    exact ⟨u,r,.inl ⟨hk,by simp⟩⟩
   .rw [P8 (Ne.symm hj)] at e2
    obtain ⟨u',r',q⟩:=hl j y v' e1 e2 e3
    refine ⟨u',r', ?_⟩
    rcases q with ⟨k,e⟩ | ⟨k,c,e,z⟩
    .refine .inl ⟨k, ?_⟩
     have:y≠x:=fun e=>hj (gX hN e1 (e ▸ hi))
     simp [this,e]
    .exact .inr ⟨k,c,e,z.sameBut hs (cne y c e)⟩
  .obtain ⟨w',z⟩:=I.cell y c e
   exact ⟨w',z.sameBut hs (cne y c e)⟩
  .obtain ⟨e,n,ne,nf,d⟩:=I.pin p hp
   exact ⟨(hs.2 p.1 ne).trans e,n,ne,nf,d⟩
 .have hfn:X.fn x=true:=by
   rcases hf with z | z
   .exact z
   .rw [z] at hk;cases hk
  obtain ⟨c,hc⟩:=I.ok.has x (.inl hk)
  obtain ⟨w',z⟩:=I.cell x c hc
  refine wpAny_storeName_cell I.ok.kind hk hc z (fun h' hc' hs=>?_)
  obtain ⟨oc,hoc,hocd⟩:=id z
  refine h { s with heap:=h' } ⟨I.ok,I.os,I.bare,⟨fun b o e n hb hx=>?_,fun b o e n hb hx=>?_,I.base.free,fun b o e hx=>?_,I.base.nA,I.base.tU,I.base.xW⟩,⟨m,hn.sameBut hs (Ne.symm (cne x c hc)),fun j y v' e1 e2 e3=>?_⟩,fun y c' e=>?_,I.free,I.Vj,fun p hp=>?_,tracked ⟨oc,hoc,I.Vj x c hc⟩ hs,by simpa using I.len⟩ ⟨c,hs,.inr hc⟩
  .exact (hs.2 b (O1 (O0 (N4 e) (I.ok.cab x c hfn hc)))).trans (I.base.keep b o e n hb hx)
  .obtain ⟨sl,e1⟩:=I.base.slot b o e n hb hx
   exact ⟨sl,(hs.2 b (O1 (O0 (N4 e) (I.ok.cab x c hfn hc)))).trans e1⟩
  .obtain ⟨o',e1⟩:=I.base.there b o e hx
   exact ⟨o',(hs.2 b (O1 (O0 (N4 e) (I.ok.cab x c hfn hc)))).trans e1⟩
  .by_cases hj:j=i
   .subst hj
    rw [hi] at e1;cases e1
    rw [R9 hiσ] at e2
    cases e2
    exact ⟨u,r,.inr ⟨.inl hk,c,hc,hc'⟩⟩
   .rw [P8 (Ne.symm hj)] at e2
    obtain ⟨u',r',q⟩:=hl j y v' e1 e2 e3
    refine ⟨u',r', ?_⟩
    rcases q with q | ⟨k,c',e,z'⟩
    .exact .inl q
    .refine .inr ⟨k,c',e,z'.sameBut hs ?_⟩
     rintro rfl
     exact hj (gX hN e1 (I.ok.inj _ _ _ e hc ▸ hi))
  .by_cases hcc:c' = c
   .subst hcc;exact ⟨_,hc'⟩
   .obtain ⟨w2,z2⟩:=I.cell y c' e
    exact ⟨w2,z2.sameBut hs hcc⟩
  .obtain ⟨e,n,ne,nf,d⟩:=I.pin p hp
   refine ⟨(hs.2 p.1 ?_).trans e,n,ne,nf,d⟩
   intro q
   rw [q,hoc] at e
   have q':oc=p.2:=T1 e
   exact d w' (by rw [<- q'];exact hocd)
def Qr (I:Inv X pins σ H s) (hN:X.N.Nodup) (hi:X.N[i]? = some x) (hx:Loc X.env.scope x) (r:RelV v u)
  (h:∀ s',Inv X pins (σ.set i (some v)) H s'->Q () s') (hf:X.fn x=true\/X.env.scope.names.lookup x=some .local:=by first | exact .inl rfl | exact .inr rfl | assumption):wpAny M A (storeName X.env x u) Q E s:=
 cX I hN hi hx r (fun s' I' _=>h s' I') hf
def Inv.D8 (I:Inv X pins σ H s) (ho:s'.os=s.os) (u:Un (frs X.stack) ch H H' s.heap s'.heap) (hok:HOk X.prog X.w H' s'.heap) (hg:AllBare s'.gens)
  (hch:∀ b∈ch,(b∈X.ex\/X.s₀.heap.objs.size<=b)/\b≠X.env.locals/\(∀ x c,X.env.cells.lookup x=some c->c≠b)/\∀ p∈X.pn++pins,p.1≠b):Inv X pins σ H' s':=by
 obtain ⟨h',g',d',t',o'⟩:=s'
 have e:o' = s.os:=ho
 subst e
 exact I.call (g':=g') (t':=t') (d':=d') u hok hg hch
end
abbrev XK:=Value->Option Addr->Hp->Prop
abbrev St:=List (Option V)
abbrev VK:=V->Hp->Prop
abbrev TE:=St->Hp->VK->Prop
abbrev TT:=St->Hp->(Bool->Hp->Prop)->Prop
abbrev TA:=St->Hp->(List V->Hp->Prop)->Prop
structure Ends where
 nx:St->Hp->Prop
 rt:VK
 bk:St->Hp->Prop:=fun _ _=>False
 ct:St->Hp->Prop:=fun _ _=>False
abbrev TS:=Ends->St->Hp->Prop
def EP (X:Cx) (pins:MR) (σ:St) (Q:VK) (u:Value) (s':MZ):Prop:=∃ v H',Inv X pins σ H' s'/\RelV v u/\Q v H'
def TP (X:Cx) (pins:MR) (σ:St) (Q:Bool->Hp->Prop) (b:Bool) (s':MZ):Prop:=∃ H',Inv X pins σ H' s'/\Q b H'
def AP (X:Cx) (pins:MR) (σ:St) (Q:List V->Hp->Prop) (us:M_) (s':MZ):Prop:=∃ vs H',Inv X pins σ H' s'/\Vals vs us/\Q vs H'
def SP (X:Cx) (pins:MR) (D:Ends) (f:Flow) (s':MZ):Prop:=
 match f with
 | .next=>∃ σ' H',Inv X pins σ' H' s'/\D.nx σ' H'
 | .brk=>∃ σ' H',Inv X pins σ' H' s'/\D.bk σ' H'
 | .cont=>∃ σ' H',Inv X pins σ' H' s'/\D.ct σ' H'
 | .ret u=>∃ v σ' H',Inv X pins σ' H' s'/\RelV v u/\D.rt v H'
def PE (X:Cx) (e:Nh) (t:TE):Prop:=
 ∀ (pins:MR) (s:MZ) (σ:St) (H:Hp) (Q:VK),Inv X pins σ H s->t σ H Q->wpAny (Oc X) X.A (eval e X.env) (EP X pins σ Q) X.xe s
def PT (X:Cx) (e:Nh) (t:TT):Prop:=
 ∀ (pins:MR) (s:MZ) (σ:St) (H:Hp) (Q:Bool->Hp->Prop),Inv X pins σ H s->t σ H Q->wpAny (Oc X) X.A (isTrue e X.env (eval e X.env)) (TP X pins σ Q) X.xe s
def PW (X:Cx) (e:Nh) (t:TT):Prop:=
 ∀ (whole:Sem Value) (pins:MR) (s:MZ) (σ:St) (H:Hp) (Q:Bool->Hp->Prop),Inv X pins σ H s->t σ H Q->wpAny (Oc X) X.A (isTrue e X.env whole) (TP X pins σ Q) X.xe s
def PW.pt (h:PW X e t):PT X e t:=h _
def PA (X:Cx) (es:Nc) (t:TA):Prop:=
 ∀ (pos:Pos) (pins:MR) (s:MZ) (σ:St) (H:Hp) (Q:List V->Hp->Prop),Inv X pins σ H s->t σ H Q->wpAny (Oc X) X.A (spliced (backTo pos (starEach es X.env))) (AP X pins σ Q) X.xe s
def PS (X:Cx) (st:NF) (t:TS):Prop:=
 ∀ (pins:MR) (s:MZ) (σ:St) (H:Hp) (D:Ends),Inv X pins σ H s->t D σ H->wpAny (Oc X) X.A (exec st X.env) (SP X pins D) X.xe s
def PSs (X:Cx) (st:Nx) (t:TS):Prop:=
 ∀ (pins:MR) (s:MZ) (σ:St) (H:Hp) (D:Ends),Inv X pins σ H s->t D σ H->wpAny (Oc X) X.A (execs st X.env) (SP X pins D) X.xe s
def thn {α:Type}{t:Sem α}{Q Q':α->Shared->Prop}(h:wpAny M A t Q E s) (hQ:∀ a s,Q a s->Q' a s):wpAny M A t Q' E s:=S4 h hQ fun _ _ x=>x
section
variable {X:Cx}
def ng (i:Nat):TE:=fun σ H Q=>∃ v,σ[i]? = some (some v)/\Q v H
def tC (v:V):TE:=fun _ H Q=>Q v H
def D9 (hN:X.N[i]? = some x) (hv:Vis X.env.scope x) (hd:(x == ("__debug__" : Str))=false:=by decide) (hcd:(x == ("__classdict__" : Str))=false:=by decide):PE X (.Name x pos) (ng i):=by
 intro pins s σ H Q I h
 obtain ⟨v,e,h⟩:=h
 obtain ⟨m,hn,hl⟩:=I.loc
 obtain ⟨u,r,l⟩:=hl i x v hN e hv
 have fin:EP X pins σ Q u s:=⟨v,H,I,r,h⟩
 rcases l with ⟨hk,hm⟩ | ⟨hk,c,hc,hcell⟩
 .exact wpAny_Name (a2F I.ok.kind hk hn hm fin) hd
 .rcases hk with hk | hk
  .exact wpAny_Name (a2P I.ok.kind hk hc hcell fin) hd
  .exact wpAny_Name (wpAny_loadName_free I.ok.kind hk hc hcell fin hcd) hd
def D_ {i j pos}:PE X (.Constant (.int i) j pos) (tC (.int i)):=fun _ _ _ H _ I h=>wpAny_Constant_int ⟨.int i,H,I.tok _,⟨_,rfl⟩,h⟩
def V9 {b j pos}:PE X (.Constant (.bool b) j pos) (tC (.bl b)):=fun _ _ _ H _ I h=>Constant_bool ⟨.bl b,H,I,rfl,h⟩
def Vo {j pos}:PE X (.Constant .none j pos) (tC .non):=fun _ _ _ H _ I h=>Constant_none ⟨.non,H,I,rfl,h⟩
def vh {x j pos}:PE X (.Constant (.str x) j pos) (tC (.str x)):=fun _ _ _ H _ I h=>Calls.Constant_str ⟨.str x,H,I.tok _,⟨_,rfl⟩,h⟩
def Gl (X:Cx) (x:Str):Prop:=X.env.kindOf x=some .globalImplicit
def Jn (I:Inv X pins σ H s) (hg:Gl X x) (hm:X.mg x=some u) (h:Q u s)
  (hd:(x == ("__debug__" : Str))=false:=by decide):wpAny (Oc X) X.A (eval (.Name x pos) X.env) Q E s:=
 a1N I.ok.kind hg (Calls.loadGlobal_global (by rw [I.ok.glob];exact I.mod.glob.keeps I.bk) hm h) hd
def Vp (I:Inv X pins σ H s) (hg:Gl X x) (hm:X.mg x=none) (hv:bootBuiltins x=some u) (h:Q u s)
  (hn:x ≠ "__name__" := by decide) (hd:(x == ("__debug__" : Str))=false:=by decide):wpAny (Oc X) X.A (eval (.Name x pos) X.env) Q E s:=by
 obtain ⟨mb,h1,h2⟩:=I.mod.blt
 exact a1N I.ok.kind hg (Calls.loadGlobal_builtin (by rw [I.ok.glob];exact I.mod.glob.keeps I.bk) hm (by rw [I.ok.blt];exact h1.keeps I.bk) ((h2 x hn).trans hv) h) hd
def zP (hg:Gl X x) (hm:X.mg x=some u) (r:RelV v u) (hd:(x == ("__debug__" : Str))=false:=by decide):PE X (.Name x pos) (tC v):=
 fun _ _ _ H _ I h=>Jn I hg hm ⟨v,H,I,r,h⟩ hd
def nE (hg:Gl X x) (hm:X.mg x=none) (hv:bootBuiltins x=some u) (r:RelV v u) (hn:x ≠ "__name__" := by decide) (hd:(x == ("__debug__" : Str))=false:=by decide):PE X (.Name x pos) (tC v):=
 fun _ _ _ H _ I h=>Vp I hg hm hv ⟨v,H,I,r,h⟩ hn hd
variable {a b:Nh}{ta tb:TE}{pos:Pos}
def aY (b:Nh) (h:op≠.In) (h2:op≠.NotIn):behindInMarks op b=false:=by
 have e1:(op == CmpOp.In)=false:=by cases op <;> first | rfl | exact absurd rfl h
 have e2:(op == CmpOp.NotIn)=false:=by cases op <;> first | rfl | exact absurd rfl h2
 cases b <;> simp [behindInMarks,e1,e2]
def tB (t:TE):TT:=fun σ H Q=>t σ H fun x H1=>∃ c,x=.bl c/\Q c H1
def Ea (h:PE X e t) (he:∀ whole,isTrue e X.env whole=(do let v <- whole;standAt e.pos;holding [v] (truthy v)):=by intro _;rfl):PT X e (tB t):=by
 intro pins s σ H Q I hw
 refine isTrue_plain (thn (h pins s σ H _ I hw) fun v s1 ⟨x,H1,I1,r1,q1⟩=>?_) (he _)
 obtain ⟨d,rfl,q⟩:=q1
 cases r1
 exact a1j ⟨H1,I1,q⟩
variable {tA tB':TT}{rest:Nc}
def Mg (t u:TT):TT:=fun σ H Q=>t σ H fun c H1=>if c=true then u σ H1 Q else Q false H1
def tOr (t u:TT):TT:=fun σ H Q=>t σ H fun c H1=>if c=true then Q true H1 else u σ H1 Q
def Mh (t:TT):TT:=fun σ H Q=>t σ H fun c H1=>Q (!c) H1
def pw_and1 (ha:PT X a tA):PW X (.BoolOp .And [a] pos) tA:=by
 intro wh pins s σ H Q I h
 refine isTrue_and (thn (ha pins s σ H Q I h) fun c s1 e=>?_)
 cases c with
 | true=>exact isTrue_and_nil e
 | false=>exact e
def pw_or1 (ha:PT X a tA):PW X (.BoolOp .Or [a] pos) tA:=by
 intro wh pins s σ H Q I h
 refine isTrue_or (thn (ha pins s σ H Q I h) fun c s1 e=>?_)
 cases c with
 | false=>exact isTrue_or_nil e
 | true=>exact e
def pw_and (ha:PT X a tA) (hb:PW X (.BoolOp .And (b :: rest) pos) tB'):PW X (.BoolOp .And (a :: b :: rest) pos) (Mg tA tB'):=by
 intro wh pins s σ H Q I h
 refine isTrue_and (thn (ha pins s σ H _ I h) fun c s1 ⟨H1,I1,q1⟩=>?_)
 cases c with
 | true=>exact hb wh pins s1 σ H1 Q I1 q1
 | false=>exact ⟨H1,I1,q1⟩
def pw_or (ha:PT X a tA) (hb:PW X (.BoolOp .Or (b :: rest) pos) tB'):PW X (.BoolOp .Or (a :: b :: rest) pos) (tOr tA tB'):=by
 intro wh pins s σ H Q I h
 refine isTrue_or (thn (ha pins s σ H _ I h) fun c s1 ⟨H1,I1,q1⟩=>?_)
 cases c with
 | true=>exact ⟨H1,I1,q1⟩
 | false=>exact hb wh pins s1 σ H1 Q I1 q1
def Eb (ha:PT X a tA):PT X (.UnaryOp .Not a pos) (Mh tA):=by
 intro pins s σ H Q I h
 exact isTrue_not (ha pins s σ H (fun c H1=>Q (!c) H1) I h)
def Hs (ta tb:TE):TE:=fun σ H Q=>ta σ H fun x H1=>∃ c,x=.bl c/\if c=true then tb σ H1 Q else Q (.bl false) H1
def Mi (ta tb:TE):TE:=fun σ H Q=>ta σ H fun x H1=>∃ c,x=.bl c/\if c=true then Q (.bl true) H1 else tb σ H1 Q
def Ec {op} (h:PE X a t):PE X (.BoolOp op [a] pos) t:=fun pins s σ H Q I hw=>BoolOp_one (h pins s σ H Q I hw)
def Ed (ha:PE X a ta) (hb:PE X (.BoolOp .And (b :: rest) pos) tb):PE X (.BoolOp .And (a :: b :: rest) pos) (Hs ta tb):=by
 intro pins s σ H Q I h
 refine BoolOp_and (thn (ha pins s σ H _ I h) fun v s1 ⟨x,H1,I1,r1,q1⟩=>?_)
 obtain ⟨c,rfl,q1⟩:=q1
 cases r1
 refine a1j ?_
 cases c with
 | true=>exact hb pins s1 σ H1 Q I1 q1
 | false=>exact ⟨.bl false,H1,I1,rfl,q1⟩
def Hu (ha:PE X a ta) (hb:PE X (.BoolOp .Or (b :: rest) pos) tb):PE X (.BoolOp .Or (a :: b :: rest) pos) (Mi ta tb):=by
 intro pins s σ H Q I h
 refine BoolOp_or (thn (ha pins s σ H _ I h) fun v s1 ⟨x,H1,I1,r1,q1⟩=>?_)
 obtain ⟨c,rfl,q1⟩:=q1
 cases r1
 refine a1j ?_
 cases c with
 | false=>exact hb pins s1 σ H1 Q I1 q1
 | true=>exact ⟨.bl true,H1,I1,rfl,q1⟩
end
def SqL (K:Nd) (H:Hp) (a:Addr) (xs:Nb):Prop:=
 Rd H a (.lst xs)\/
  ∃ (o:Obj) (its:NR) (n:Nat),K.lookup a=some o/\o.cls=.type "list" /\ o.dict=none/\o.data=.seq its n/\its.size<=sizeLine/\Vals xs its.toList
def SqT (K:Nd) (H:Hp) (a:Addr) (xs:Nb):Prop:=
 Rd H a (.tup xs)\/
  ∃ (o:Obj) (its:NR) (n:Nat),K.lookup a=some o/\o.cls=.type "tuple" /\ o.data=.seq its n/\its.size<=sizeLine/\Vals xs its.toList
def Mj:Value->Option V
 | .none=>some .non
 | .bool b=>some (.bl b)
 | .int i _=>some (.int i)
 | .str x _=>some (.str x)
 | .bytes b _=>some (.byt b)
 | .float b _=>some (.flt b)
 | .ref a=>some (.ref a)
 | .type n=>some (.ty n)
 | _=>none
def RelV.abs (r:RelV x u):Mj u=some x:=by
 cases x with
 | non=>cases r;rfl
 | bl _=>cases r;rfl
 | int _=>obtain ⟨t,rfl⟩:=r;rfl
 | str _=>obtain ⟨t,rfl⟩:=r;rfl
 | byt _=>obtain ⟨t,rfl⟩:=r;rfl
 | flt _=>obtain ⟨t,rfl⟩:=r;rfl
 | ref _=>cases r;rfl
 | ty _=>cases r;rfl
def RelV.inj (r:RelV x u) (q:RelV y u):x=y:=T1 (r.abs.symm.trans q.abs)
def Vals.inj:∀ {xs ys:Nb}{us:M_},Vals xs us->Vals ys us->xs=ys
 | _,_,_,.nil,.nil=>rfl
 | _,_,_,.cons r t,.cons r' t'=>by rw [r.inj r',Vals.inj t t']
def SqL.of {K:Nd}(h:H a=some (.lst xs)):SqL K H a xs:=.inl (.inl h)
def SqT.of {K:Nd}(h:H a=some (.tup xs)):SqT K H a xs:=.inl (.inl h)
def Inv.list (I:Inv X pins σ H s) (h:SqL X.K H a xs):∃ its:List Value,Vals xs its/\PlainL s.heap a its.toArray/\xs.length<=sizeLine:=by
 rcases h with h | ⟨o,its,n,hk,hc,hd,hs,hz,r⟩
 .obtain ⟨z,its,n,r,e⟩:=h.ok I.hok
  exact ⟨its,r,⟨_,n,e,rfl,rfl,rfl⟩,z⟩
 .refine ⟨its.toList,r,⟨o,n,I.kIn a o hk,hc,hd,by simpa using hs⟩, ?_⟩
  have e:=r.length
  simp only [Array.length_toList] at e
  omega
def Inv.tuple (I:Inv X pins σ H s) (h:SqT X.K H a xs):∃ its:List Value,Vals xs its/\IsTup s.heap a its.toArray/\xs.length<=sizeLine:=by
 rcases h with h | ⟨o,its,n,hk,hc,hs,hz,r⟩
 .obtain ⟨z,its,r,p⟩:=h.ok I.hok
  exact ⟨its,r,p,z⟩
 .refine ⟨its.toList,r,⟨o,I.kIn a o hk,hc,n,by simpa using hs⟩, ?_⟩
  have e:=r.length
  simp only [Array.length_toList] at e
  omega
def Inv.tX (I:Inv X pins σ H s) (h:SqL X.K H a xs) (h':SqL X.K H a ys):xs=ys:=by
 obtain ⟨its,r,⟨o,n,e,_,_,d⟩,_⟩:=I.list h
 obtain ⟨its',r',⟨o',n',e',_,_,d'⟩,_⟩:=I.list h'
 rw [e] at e';cases e'
 rw [d] at d'
 injection d' with d1 _
 have:its=its':=by simpa using S0 Array.toList d1
 subst this
 exact r.inj r'
def Inv.cY (I:Inv X pins σ H s) (h:SqT X.K H a xs) (h':SqT X.K H a ys):xs=ys:=by
 obtain ⟨its,r,⟨o,e,_,n,d⟩,_⟩:=I.tuple h
 obtain ⟨its',r',⟨o',e',_,n',d'⟩,_⟩:=I.tuple h'
 rw [e] at e';cases e'
 rw [d] at d'
 injection d' with d1 _
 have:its=its':=by simpa using S0 Array.toList d1
 subst this
 exact r.inj r'
abbrev Cx.cV (X:Cx) (E:MW):Cx:={ X with xe:=E }
abbrev Cx.nox (X:Cx):Cx:=X.cV fun _ _=>False
def Cx.Ok.cV {X:Cx}(ok:X.Ok) (E:MW):(X.cV E).Ok:=
 ⟨ok.mod,ok.kind,ok.glob,ok.blt,ok.above,ok.inj,ok.has,ok.cab,ok.hd,ok.frames,ok.stk,ok.exf,ok.bs,ok.bsz,ok.D2,ok.D3,ok.fq,ok.frf⟩
def Cx.Ok.Yt {X:Cx}{E:MW}(ok:(X.cV E).Ok):X.Ok:=
 ⟨ok.mod,ok.kind,ok.glob,ok.blt,ok.above,ok.inj,ok.has,ok.cab,ok.hd,ok.frames,ok.stk,ok.exf,ok.bs,ok.bsz,ok.D2,ok.D3,ok.fq,ok.frf⟩
def Inv.cV (I:Inv X pins σ H s) (E:MW):Inv (X.cV E) pins σ H s:=⟨I.ok.cV E,I.os,I.bare,I.base,I.loc,I.cell,I.free,I.Vj,I.pin,I.hok,I.len⟩
def Inv.Yt (I:Inv (X.cV E) pins σ H s):Inv X pins σ H s:=⟨I.ok.Yt,I.os,I.bare,I.base,I.loc,I.cell,I.free,I.Vj,I.pin,I.hok,I.len⟩
def SP.Yt (h:SP (X.cV E) pins D f s'):SP X pins D f s':=by
 cases f with
 | next=>obtain ⟨σ',H',I,q⟩:=h;exact ⟨σ',H',I.Yt,q⟩
 | brk=>obtain ⟨σ',H',I,q⟩:=h;exact ⟨σ',H',I.Yt,q⟩
 | cont=>obtain ⟨σ',H',I,q⟩:=h;exact ⟨σ',H',I.Yt,q⟩
 | ret u=>obtain ⟨v,σ',H',I,r,q⟩:=h;exact ⟨v,σ',H',I.Yt,r,q⟩
section
variable {X:Cx}{st:NF}{rest:Nx}{t u:TS}{e:Nh}{te:TE}{pos:Pos}
def Hv:TS:=fun D σ H=>D.nx σ H
def Hw (t u:TS):TS:=fun D σ H=>t { D with nx:=u D } σ H
def nF:PSs X [] Hv:=fun _ _ σ H _ I h=>a0L ⟨σ,H,I,h⟩
def WG (h1:PS X st t) (h2:PSs X rest u):PSs X (st :: rest) (Hw t u):=by
 intro pins s σ H D I h
 refine a13 (thn (h1 pins s σ H { D with nx:=u D } I h) fun f s1 q=>?_)
 cases f with
 | next=>
  obtain ⟨σ',H',I',q⟩:=q
  exact h2 pins s1 σ' H' D I' q
 | ret v=>exact q
 | brk=>exact q
 | cont=>exact q
def jP (h1:PS X st t):PSs X [st] t:=by
 intro pins s σ H D I h
 refine a13 (thn (h1 pins s σ H D I h) fun f s1 q=>?_)
 cases f with
 | next=>exact a0L q
 | ret v=>exact q
 | brk=>exact q
 | cont=>exact q
def Inv.quiet (I:Inv X pins σ H s):interactive X.env=false:=by simp [interactive,I.ok.kind]
def Hx (te:TE):TS:=fun D σ H=>te σ H fun _ H1=>D.nx σ H1
def aZ (he:PE X e te) (hs:swapsWith e none pos.line X.env=pure false:=by rfl):PS X (.Expr e pos) (Hx te):=by
 intro pins s σ H D I h
 exact wpAny_Expr_any (thn (he pins s σ H _ I h) fun v s1 ⟨x,H1,I1,r1,q1⟩=>⟨σ,H1,I1,q1⟩) I.quiet hs
def Ml (te:TE):TS:=fun D σ H=>te σ H D.rt
def gY (he:PE X e te):PS X (.Return (some e) pos) (Ml te):=by
 intro pins s σ H D I h
 exact wpAny_Return_some (thn (he pins s σ H _ I h) fun v s1 ⟨x,H1,I1,r1,q1⟩=>⟨x,σ,H1,I1,r1,q1⟩)
def Mm (c:TT) (t u:TS):TS:=fun D σ H=>c σ H fun b H1=>if b=true then t D σ H1 else u D σ H1
def Ee (hc:PT X c tc) (ha:PSs X a t) (hb:PSs X b u):PS X (.If c a b pos) (Mm tc t u):=by
 intro pins s σ H D I h
 refine wpAny_If (thn (hc pins s σ H _ I h) fun d s1 ⟨H1,I1,q1⟩=>?_)
 cases d with
 | true=>exact ha pins s1 σ H1 D I1 q1
 | false=>exact hb pins s1 σ H1 D I1 q1
end
abbrev TG:=V->St->Hp->(St->Hp->Prop)->Prop
abbrev TGs:=List V->St->Hp->(St->Hp->Prop)->Prop
def PG (X:Cx) (target:Nh) (t:TG):Prop:=
 ∀ (pins:MR) (s:MZ) (σ:St) (H:Hp) (v:V) (u:Value) (Q:St->Hp->Prop),Inv X pins σ H s->RelV v u->t v σ H Q->
  wpAny (Oc X) X.A (assign target X.env u) (fun _ s'=>∃ σ' H',Inv X pins σ' H' s'/\Q σ' H') X.xe s
def PGs (X:Cx) (ts:Nc) (t:TGs):Prop:=
 ∀ (pins:MR) (s:MZ) (σ:St) (H:Hp) (vs:Nb) (us:M_) (Q:St->Hp->Prop),Inv X pins σ H s->Vals vs us->t vs σ H Q->
  wpAny (Oc X) X.A (assignInOrder ((assignEach ts X.env).map (·.2)) us) (fun _ s'=>∃ σ' H',Inv X pins σ' H' s'/\Q σ' H') X.xe s
abbrev TIp:=V->V->Hp->VK->Prop
def PIp (X:Cx) (op:Operator) (t:TIp):Prop:=
 ∀ (pins:MR) (s:MZ) (σ:St) (H:Hp) (x y:V) (v u:Value) (Q:VK),Inv X pins σ H s->RelV x v->RelV y u->t x y H Q->
  wpAny (Oc X) X.A (inplaceOp op v u) (EP X pins σ Q) X.xe s
section
variable {X:Cx}{pos:Pos}
def ft (i:Nat):TG:=fun v σ H Q=>Q (σ.set i (some v)) H
def nG (hN:X.N.Nodup) (hi:X.N[i]? = some x) (hx:Loc X.env.scope x) (hf:X.fn x=true\/X.env.scope.names.lookup x=some .local:=by first | exact .inl rfl | exact .inr rfl | assumption):PG X (.Name x pos) (ft i):=by
 intro pins s σ H v u Q I r h
 exact wpAny_assign_Name (Qr I hN hi hx r (fun s' I'=>⟨_,H,I',h⟩) hf)
def Mn:TGs:=fun vs σ H Q=>vs=[]/\Q σ H
def Hy (t:TG) (u:TGs):TGs:=fun vs σ H Q=>∃ v r,vs=v :: r/\t v σ H fun σ' H'=>u r σ' H' Q
def nH:PGs X [] Mn:=by
 intro pins s σ H vs us Q I r h
 obtain ⟨e,h⟩:=h
 subst e
 cases r
 exact assignInOrder_nil ⟨σ,H,I,h⟩
def gZ (h1:PG X e t) (h2:PGs X es u)
  (hs:(assignEach (e :: es) X.env).map (·.2)=assign e X.env :: (assignEach es X.env).map (·.2):=by rfl):PGs X (e :: es) (Hy t u):=by
 intro pins s σ H vs us Q I r h
 obtain ⟨v,vr,e1,h⟩:=h
 subst e1
 cases r with
 | cons r rr=>
  rw [hs]
  refine assignInOrder_cons (thn (h1 pins s σ H _ _ _ I r h) fun _ s1 ⟨σ1,H1,I1,q1⟩=>?_)
  exact h2 pins s1 σ1 H1 _ _ Q I1 rr q1
def Mo (K:Nd) (n:Nat) (t:TGs):TG:=fun v σ H Q=>∃ a xs,v=.ref a/\SqT K H a xs/\xs.length=n/\t xs σ H Q
def Aa (hc:X.calm=true) (h:PGs X es t)
  (hn:(assignEach es X.env).length=n:=by rfl) (hst:(assignEach es X.env).findIdx? (·.1)=none:=by rfl):PG X (.Tuple es k pos) (Mo X.K n t):=by
 intro pins s σ H v u Q I r hw
 obtain ⟨a,xs,e1,hq,hl,hw⟩:=hw
 subst e1
 cases r
 obtain ⟨its,rv,ht,hz⟩:=I.tuple hq
 refine assign_Tuple_tuple (I.ok.hd hc) ht (by simp [hn,<- hl,rv.length]) hst fun h' hx=>?_
 have I1:Inv X pins σ H { s with heap:=h' }:=I.kept (t':=s.toks) fun b o e=>hx b o (O1 (N4 e)) e
 exact h pins _ σ H xs _ Q I1 (by simpa using rv) hw
def DP (te:TE) (g:TG):TS:=fun D σ H=>te σ H fun x H1=>g x σ H1 D.nx
def Ab (he:PE X e te) (hg:PG X tg g) (hs:swapsWithSole [tg] e pos.line X.env=pure false:=by rfl) (hw:swappedStores [tg] e X.env=pure none:=by rfl)
  (h1:(assignEach [tg] X.env).map (·.2)=[assign tg X.env]:=by rfl):PS X (.Assign [tg] e pos) (DP te g):=by
 intro pins s σ H D I h
 refine wpAny_Assign_stores (thn (he pins s σ H _ I h) fun v s1 ⟨x,H1,I1,r1,q1⟩=>?_) hs hw
 rw [h1]
 exact thn (hg pins s1 σ H1 x v _ I1 r1 q1) fun _ s2 q=>q
def nI (hN:X.N.Nodup) (hi:X.N[i]? = some x) (hx:Loc X.env.scope x) (he:PE X e te) (hs:swapsWith e (some (.Name x pos')) pos.line X.env=pure false:=by rfl) (hf:X.fn x=true\/X.env.scope.names.lookup x=some .local:=by first | exact .inl rfl | exact .inr rfl | assumption):
  PS X (.Assign [.Name x pos'] e pos) (DP te (ft i)):=by
 intro pins s σ H D I h
 refine wpAny_Assign_Name (thn (he pins s σ H _ I h) fun v s1 ⟨y,H1,I1,r1,q1⟩=>?_) hs
 exact Qr I1 hN hi hx r1 (fun s2 I2=>⟨_,H1,I2,q1⟩) hf
def Mp (i:Nat) (te:TE) (ti:TIp):TS:=fun D σ H=>∃ x,σ[i]? = some (some x)/\te σ H fun y H1=>ti x y H1 fun z H2=>D.nx (σ.set i (some z)) H2
def Ef (hN:X.N.Nodup) (hi:X.N[i]? = some x) (hx:Loc X.env.scope x) (he:PE X e te) (ho:PIp X op ti) (hf:X.fn x=true\/X.env.scope.names.lookup x=some .local:=by first | exact .inl rfl | exact .inr rfl | assumption):
  PS X (.AugAssign (.Name x pos') op e pos) (Mp i te ti):=by
 intro pins s σ H D I h
 obtain ⟨v,e1,h⟩:=h
 obtain ⟨m,hn,hl⟩:=I.loc
 have vis:Vis X.env.scope x:=by rcases hx with k | k;exact .inl k;exact .inr (.inl k)
 obtain ⟨u,r,l⟩:=hl i x v hi e1 vis
 refine wpAny_AugAssign_Name ?_
 have go:wpAny (Oc X) X.A (eval e X.env) (fun w s₂=>wpAny (Oc X) X.A (inplaceOp op u w) (fun r s₃=>wpAny (Oc X) X.A (storeName X.env x r) (fun _=>SP X pins D .next) X.xe s₃) X.xe s₂) X.xe s:=by
  refine thn (he pins s σ H _ I h) fun w s1 ⟨y,H1,I1,r1,q1⟩=>?_
  refine thn (ho pins s1 σ H1 v y u w _ I1 r r1 q1) fun z s2 ⟨zv,H2,I2,r2,q2⟩=>?_
  exact Qr I2 hN hi hx r2 (fun s3 I3=>⟨_,H2,I3,q2⟩) hf
 rcases l with ⟨hk,hm⟩ | ⟨hk,c,hc,hcell⟩
 .exact a2F I.ok.kind hk hn hm go
 .rcases hk with hk | hk
  .exact a2P I.ok.kind hk hc hcell go
  .rcases hx with k | k
   .have:X.env.scope.names.lookup x=some .free:=hk
    rw [k] at this;cases this
   .have:X.env.scope.names.lookup x=some .free:=hk
    rw [k] at this;cases this
def ipI (f:Int->Int->Int):TIp:=fun x y H Q=>∃ i j,x=.int i/\y=.int j/\Q (.int (f i j)) H
def Eg:PIp X .Add (ipI fun i j=>i + j):=by
 intro pins s σ H x y v u Q I r1 r2 h
 obtain ⟨i,j,e1,e2,q⟩:=h
 subst e1;subst e2
 obtain ⟨t,rfl⟩:=r1
 obtain ⟨t',rfl⟩:=r2
 exact iadd_int ⟨.int _,H,I.tok _,⟨_,rfl⟩,q⟩
end
section
variable {X:Cx}{pos:Pos}
def Ac (c:TT) (tb:TS):TS:=fun D σ H=>∃ W:Nat->St->Hp->Prop,(∃ m,W m σ H)/\∀ m σ H,W m σ H->
 c σ H fun b H1=>if b=true then ∃ N:St->Hp->Prop,(∀ σ' H',N σ' H'->∃ m',m' < m/\W m' σ' H')/\tb { D with nx:=N,ct:=N,bk:=D.nx } σ H1 else D.nx σ H1
def tY (hp:PassesOwn (Oc X) X.A X.env X.xe) (hc:PT X c tc) (hb:PSs X body tb):PS X (.While c body [] pos) (Ac tc tb):=by
 intro pins s σ H D I h
 obtain ⟨W,⟨m0,w0⟩,turn⟩:=h
 refine wpAny_While (codeAny_whileLoop (fun n s'=>∃ σ' H',Inv X pins σ' H' s'/\W n σ' H') ?_ m0 ⟨σ,H,I,w0⟩)
 rintro n s1 ⟨σ1,H1,I1,w1⟩
 refine a0x hp (thn (hc pins s1 σ1 H1 _ I1 (turn n σ1 H1 w1)) fun b s2 ⟨H2,I2,q2⟩=>?_)
 cases b with
 | true=>
  obtain ⟨N,hN,q2⟩:=q2
  rw [if_pos rfl]
  refine a0x hp (thn (hb pins s2 σ1 H2 _ I2 q2) fun f s3 q3=>?_)
  cases f with
  | next=>
   obtain ⟨σ3,H3,I3,n3⟩:=q3
   obtain ⟨m',hm,w3⟩:=hN σ3 H3 n3
   exact ⟨m',hm,σ3,H3,I3,w3⟩
  | cont=>
   obtain ⟨σ3,H3,I3,n3⟩:=q3
   obtain ⟨m',hm,w3⟩:=hN σ3 H3 n3
   exact ⟨m',hm,σ3,H3,I3,w3⟩
  | brk=>exact q3
  | ret v=>exact q3
 | false=>
  rw [if_neg O3]
  exact a0L ⟨σ1,H2,I2,q2⟩
end
structure It where
 go:Nat->Hp->Prop
 yld:Nat->Hp->V->Hp->Prop
 stop:Nat->Hp->Prop
def lO (X:Cx) (pins:MR) (H:Hp) (b:Addr):Prop:=
 H b=none/\b≠X.env.locals/\b∉X.fs/\(b∈X.ex\/X.s₀.heap.objs.size<=b)/\(∀ x c,X.env.cells.lookup x=some c->c≠b)/\∀ p∈X.pn++pins,p.1≠b
def Inv.DQ (I:Inv X pins σ H s) (hb:s.heap.objs.size<=b) (hn:H' b=none):lO X pins H' b:=by
 refine ⟨hn,a0r (O0 I.lt hb),I.Mf hb,.inr (P6 I.sz hb),fun x c e z=>?_,fun p hp z=>?_⟩
 .obtain ⟨v,q⟩:=I.cell x c e
  exact absurd (O0 q.lt (by rw [z];exact hb)) (T6 _)
 .exact absurd (O0 (N4 (I.pin p hp).1) (by rw [z];exact hb)) (T6 _)
structure Turn (P:Nk) (w:Nq) (K:Nd) (tg:Nh) (J:It) (fp:NG) (it:Addr) (tn:Nat->Heap->Prop):Prop where
 mem:it∈fp
 obj:∀ i h,tn i h->∀ b∈fp,∃ o,h.get? b=some o/\∀ v,o.data≠.cell v
 keep:∀ i h h',tn i h->(∀ b∈fp,∀ o,h.get? b=some o->h'.get? b=some o)->tn i h'
 item:∀ (X:Cx),X.prog=P->X.w=w->X.K=K->X.calm=true->∀ (i:Nat) (pins:MR) (s:MZ) (σ:St) (H:Hp) (E:MW),Inv X pins σ H s->(∀ b∈fp,lO X pins H b)->tn i s.heap->J.go i H->
  wpAny (model P w) X.A (pyNext (.ref it)) (fun r s1=>∃ u,r=some u/\
   wpAny (model P w) X.A (letOwnedTupleGo tg (.ref it) u) (fun _ s2=>∃ x H',Inv X pins σ H' s2/\RelV x u/\J.yld i H x H'/\tn (i + 1) s2.heap/\∀ b∈fp,H' b=none) E s1) E s
 done:∀ (X:Cx),X.prog=P->X.w=w->X.K=K->X.calm=true->∀ (i:Nat) (pins:MR) (s:MZ) (σ:St) (H:Hp) (E:MW),Inv X pins σ H s->(∀ b∈fp,lO X pins H b)->tn i s.heap->J.stop i H->
  wpAny (model P w) X.A (pyNext (.ref it)) (fun r s1=>r=none/\Inv X pins σ H s1) E s
 self:∀ (A:Nt) (i:Nat) (s:MZ) (Q:MW) (E:MW),tn i s.heap->Q (.ref it) s->wpAny (model P w) A (pyIter (.ref it)) Q E s
abbrev TI:=St->Hp->(It->Hp->Prop)->Prop
def PIE (X:Cx) (pins:MR) (σ:St) (tg:Nh) (R:It->Hp->Prop) (itv:Value) (s2:MZ):Prop:=
 ∃ (it:Addr) (fp:NG) (tn:Nat->Heap->Prop) (J:It) (H':Hp),itv=.ref it/\Inv X pins σ H' s2/\Turn X.prog X.w X.K tg J fp it tn/\tn 0 s2.heap/\(∀ b∈fp,lO X pins H' b)/\R J H'
def PI (X:Cx) (tg j9:Nh) (wi:TI):Prop:=
 ∀ (pins:MR) (s:MZ) (σ:St) (H:Hp) (R:It->Hp->Prop),Inv X pins σ H s->wi σ H R->
  wpAny (Oc X) X.A (eval j9 X.env) (fun v s1=>wpAny (Oc X) X.A (pyIter v) (PIE X pins σ tg R) X.xe s1) X.xe s
def BA (ho:s.heap.get? it=some o) (hc:o.cls=.type n) (hd:o.data=.fields vs)
    (hn:["enumerate","zip","dict_itemiterator","dict_reverseitemiterator","odict_iterator","itertools.zip_longest","itertools.pairwise"].contains n=false) (hQ:Q () s):wpAny M A (letOwnedTupleGo tg (.ref it) u) Q E s:=by
  unfold letOwnedTupleGo
  cases tg <;> first
    | exact N5 hQ
    | (cases u <;> first
        | exact N5 hQ
        | (refine f8 (a2G ho ?_)
           rw [hc,hd]
           show wpAny M A (if (["enumerate","zip","dict_itemiterator","dict_reverseitemiterator","odict_iterator","itertools.zip_longest","itertools.pairwise"].contains n && vs[0]? == some (rawInt _))=true then _ else _) Q E s
           rw [if_neg (by intro h;rw [hn,Bool.false_and] at h;cases h)]
           exact N5 hQ))
def Itl (K:Nd) (a:Addr):It:=
 ⟨fun i H=>∃ xs x,SqL K H a xs/\xs[i]? = some x,fun i H x H'=>H' = H/\∀ xs,SqL K H a xs->xs[i]? = some x,fun i H=>∃ xs,SqL K H a xs/\xs.length<=i⟩
def Itt (K:Nd) (a:Addr):It:=
 ⟨fun i H=>∃ xs x,SqT K H a xs/\xs[i]? = some x,fun i H x H'=>H' = H/\∀ xs,SqT K H a xs->xs[i]? = some x,fun i H=>∃ xs,SqT K H a xs/\xs.length<=i⟩
def Itr (lo:Int) (n:Nat):It:=⟨fun i _=>i < n,fun i H x H'=>H' = H/\x=.int (lo + i),fun i _=>n<=i⟩
def nJ {P:Nk}{w:Nq}{K:Nd}{tg:Nh}(a it:Addr):Turn P w K tg (Itl K a) [it] it (fun i h=>h.IsListIter it a i) where
 mem:=by simp
 obj:=fun i h st b hb=>by
  have e:b=it:=by simpa using hb
  subst e
  obtain ⟨o,e,c,d⟩:=st
  exact ⟨o,e,fun v z=>by rw [d] at z;cases z⟩
 keep:=fun i h h' st k=>st.at fun o e=>k it (by simp) o e
 item:=by
  intro X hP hw hK hc i pins s σ H E I hf st hg
  subst hP hw hK
  obtain ⟨xs,x,hq,hx⟩:=hg
  obtain ⟨its,rv,p,hz⟩:=I.list hq
  obtain ⟨u,hu,ru⟩:=rv.get hx
  obtain ⟨f0,f1,f2,f3,f4,f5⟩:=hf it (by simp)
  refine wpAny_pyNext_list_item st p.isList (x:=u) (by simpa using hu) fun h' st' sb=>?_
  have I1:Inv X pins σ H { s with heap:=h' }:=I.turned (t':=s.toks) (fun b o hb e=>(sb.2 b hb).trans e) f0 f1 f3 f4 f5
  obtain ⟨o,e,c,d⟩:=id st'
  exact ⟨u,rfl,BA (s:={ s with heap:=h' }) e c d (by decide) ⟨x,H,I1,ru,⟨rfl,fun ys hy=>by rw [I.tX hy hq];exact hx⟩,st',fun b hb=>(hf b hb).1⟩⟩
 done:=by
  intro X hP hw hK hc i pins s σ H E I hf st hg
  subst hP hw hK
  obtain ⟨xs,hq,hx⟩:=hg
  obtain ⟨its,rv,p,hz⟩:=I.list hq
  obtain ⟨f0,f1,f2,f3,f4,f5⟩:=hf it (by simp)
  have hl:=rv.length
  exact wpAny_pyNext_list_end (I.ok.hd hc) st p.isList (by simp;omega) fun h' eb=>⟨rfl,I.turned (t':=s.toks) (fun b o hb e=>eb b o hb e) f0 f1 f3 f4 f5⟩
 self:=fun _ _ _ _ _ st h=>wpAny_pyIter_listiter st h
def lQ {P:Nk}{w:Nq}{K:Nd}{tg:Nh}(a it:Addr):Turn P w K tg (Itt K a) [it] it (fun i h=>h.IsTupleIter it a i) where
 mem:=by simp
 obj:=fun i h st b hb=>by
  have e:b=it:=by simpa using hb
  subst e
  obtain ⟨o,e,c,d⟩:=st
  exact ⟨o,e,fun v z=>by rw [d] at z;cases z⟩
 keep:=fun i h h' st k=>st.at fun o e=>k it (by simp) o e
 item:=by
  intro X hP hw hK hc i pins s σ H E I hf st hg
  subst hP hw hK
  obtain ⟨xs,x,hq,hx⟩:=hg
  obtain ⟨its,rv,p,hz⟩:=I.tuple hq
  obtain ⟨u,hu,ru⟩:=rv.get hx
  obtain ⟨f0,f1,f2,f3,f4,f5⟩:=hf it (by simp)
  refine wpAny_pyNext_tuple_item st (show s.heap.IsTuple a its.toArray from p) (x:=u) (by simpa using hu) fun h' st' sb=>?_
  have I1:Inv X pins σ H { s with heap:=h' }:=I.turned (t':=s.toks) (fun b o hb e=>(sb.2 b hb).trans e) f0 f1 f3 f4 f5
  obtain ⟨o,e,c,d⟩:=id st'
  exact ⟨u,rfl,BA (s:={ s with heap:=h' }) e c d (by decide) ⟨x,H,I1,ru,⟨rfl,fun ys hy=>by rw [I.cY hy hq];exact hx⟩,st',fun b hb=>(hf b hb).1⟩⟩
 done:=by
  intro X hP hw hK hc i pins s σ H E I hf st hg
  subst hP hw hK
  obtain ⟨xs,hq,hx⟩:=hg
  obtain ⟨its,rv,p,hz⟩:=I.tuple hq
  obtain ⟨f0,f1,f2,f3,f4,f5⟩:=hf it (by simp)
  have hl:=rv.length
  exact wpAny_pyNext_tuple_end (I.ok.hd hc) st (show s.heap.IsTuple a its.toArray from p) (by simp;omega) fun h' eb=>⟨rfl,I.turned (t':=s.toks) (fun b o hb e=>eb b o hb e) f0 f1 f3 f4 f5⟩
 self:=fun _ _ _ _ _ st h=>wpAny_pyIter_tupleiter st h
def lS {P:Nk}{w:Nq}{K:Nd}{tg:Nh}(it:Addr) (lo:Int) (n:Nat):Turn P w K tg (Itr lo n) [it] it (fun i h=>IsRangeIter h it (lo + (i:Nat) * 1) ((n:Int) - (i:Nat)) 1) where
 mem:=by simp
 obj:=fun i h st b hb=>by
  have e:b=it:=by simpa using hb
  subst e
  exact ⟨_,st,fun v z=>by
   have z':Data.fields _=Data.cell v:=z
   cases z'⟩
 keep:=fun i h h' st k=>k it (by simp) _ st
 item:=by
  intro X hP hw hK hc i pins s σ H E I hf st hg
  subst hP hw hK
  obtain ⟨f0,f1,f2,f3,f4,f5⟩:=hf it (by simp)
  have W:=Walks.range (prog:=X.prog) (w:=X.w) (I.ok.hd hc) it lo 1 n
  refine W.item i s _ _ hg st fun v h' tk hv st' kk=>?_
  obtain ⟨t,rfl⟩:=hv
  have I1:Inv X pins σ H { s with heap:=h',toks:=tk }:=I.turned (fun b o hb e=>kk b o (by simpa using hb) e) f0 f1 f3 f4 f5
  refine ⟨_,rfl,BA (s:={ s with heap:=h',toks:=tk }) (n := "range_iterator") st' rfl rfl (by decide) ⟨.int (lo + i),H,I1,⟨t, ?_⟩,⟨rfl,rfl⟩,st',fun b hb=>(hf b hb).1⟩⟩
  rw [Int.mul_one]
 done:=by
  intro X hP hw hK hc i pins s σ H E I hf st hg
  subst hP hw hK
  obtain ⟨f0,f1,f2,f3,f4,f5⟩:=hf it (by simp)
  exact wpAny_pyNext_range_end (I.ok.hd hc) st (by have:n<=i:=hg;omega) fun h' eb=>⟨rfl,I.turned (t':=s.toks) (fun b o hb e=>eb b o hb e) f0 f1 f3 f4 f5⟩
 self:=fun _ _ _ _ _ st h=>wpAny_pyIter_rangeiter st h
section
variable {X:Cx}{tg:Nh}
def tZ {pins:MR}{σ:St}{H:Hp}{s:MZ}{R:It->Hp->Prop}{E:MW}{lo hi:Int}{t u v:Tok}{tk:Nat}(I:Inv X pins σ H s) (h1:-(2 ^ 62)<=lo) (h2:lo < 2 ^ 62) (h3:-(2 ^ 62)<=hi) (h4:hi < 2 ^ 62)
  (q:R (Itr lo (hi - lo).toNat) H):wpAny (Oc X) X.A (pyIter (.ref s.heap.objs.size)) (PIE X pins σ tg R) E { s with heap:=s.heap.push { cls:=.type "range",data:=.fields #[.int lo t,.int hi u,.int 1 v] },toks:=tk }:=by
 refine wpAny_pyIter_range (IsRange.new ..) (small_one h1 h2 h3 h4) ?_
 have I1:Inv X pins σ H { s with heap:=s.heap.push { cls:=.type "range",data:=.fields #[.int lo t,.int hi u,.int 1 v] },toks:=tk }:=I.kept fun b o e=>M7 _ e
 refine ⟨(s.heap.push { cls:=.type "range",data:=.fields #[.int lo t,.int hi u,.int 1 v] }).objs.size,[(s.heap.push { cls:=.type "range",data:=.fields #[.int lo t,.int hi u,.int 1 v] }).objs.size],_,_,H,rfl,
  I1.kept (t':=tk) fun b o e=>M7 _ e,lS _ lo (hi - lo).toNat, ?_,fun b hb=>?_,q⟩
 .have e1:lo + ((0:Nat):Int) * 1=lo:=by simp
  have e2:(((hi - lo).toNat:Nat):Int) - ((0:Nat):Int)=Builtin.Range.rangeSize lo hi 1:=by rw [rangeSize_one];split <;> omega
  show IsRangeIter _ _ (lo + ((0:Nat):Int) * 1) ((((hi - lo).toNat:Nat):Int) - ((0:Nat):Int)) 1
  rw [e1,e2]
  exact O7 _ rfl
 .have e:b=(s.heap.push { cls:=.type "range",data:=.fields #[.int lo t,.int hi u,.int 1 v] }).objs.size:=by simpa using hb
  subst e
  exact I1.DQ (N1 _) (I1.hok.fresh (N1 _))
def Hz (ta:TA):TI:=fun σ H R=>ta σ H fun vs H1=>∃ j:Int,vs=[.int j]/\-(2 ^ 62)<=j/\j < 2 ^ 62/\R (Itr 0 j.toNat) H1
def nK (hg:Gl X "range") (hm:X.mg "range" = none) (ha:PA X [a] ta) (hs:starEach [a] X.env=[(false,eval a X.env)]:=by rfl):PI X tg (.Call (.Name "range" p) [a] [] pos) (Hz ta):=by
 intro pins s σ H R I h
 refine Call_ (Vp I hg hm boot_range (a0k (thn (ha pos pins s σ H _ I h) fun us s1 ⟨vs,H1,I1,r1,q1⟩=>?_) hs rfl))
 obtain ⟨j,e,q1,q2,q⟩:=q1
 subst e
 cases r1 with
 | cons r rr=>
  cases rr
  obtain ⟨t,rfl⟩:=r
  exact call_range_1 (tZ I1 (by omega) (by omega) q1 q2 (by simpa using q))
def G5 (wi:TI) (g:TG) (tb:TS):TS:=fun D σ H=>wi σ H fun J H1=>∃ W:Nat->Nat->St->Hp->Prop,(∃ m,W 0 m σ H1)/\∀ i m σ H,W i m σ H->
 (J.stop i H/\D.nx σ H)\/(J.go i H/\∃ N:St->Hp->Prop,(∀ σ' H',N σ' H'->∃ m',m' < m/\W (i + 1) m' σ' H')/\∀ x H',J.yld i H x H'->g x σ H' fun σ2 H2=>tb { D with nx:=N,ct:=N,bk:=D.nx } σ2 H2)
def cZ (fp:NG) (h:Heap):List (Addr × Obj):=fp.filterMap fun b=>(h.get? b).map fun o=>(b,o)
def Qs (hb:b∈fp) (e:h.get? b=some o):(b,o)∈cZ fp h:=a2U.mpr ⟨b,hb,by rw [e];rfl⟩
def nM (hp:p∈cZ fp h):p.1∈fp/\h.get? p.1=some p.2:=by
 obtain ⟨b,hb,e⟩:=a2U.mp hp
 cases q:h.get? b with
 | none=>rw [q] at e;cases e
 | some o=>
  rw [q] at e
  have e':(b,o)=p:=T1 e
  subst e'
  exact ⟨hb,q⟩
def Inv.pinned (I:Inv X pins σ H s) (hf:∀ b∈fp,lO X pins H b) (ho:∀ b∈fp,∃ o,s.heap.get? b=some o/\∀ v,o.data≠.cell v):Inv X (pins++cZ fp s.heap) σ H s:=
 I.aX fun p hp=>(S5.mp hp).elim (fun z=>I.pin p (P4 _ z)) fun z=>by
  obtain ⟨hb,e⟩:=nM z
  obtain ⟨f0,f1,f2,_⟩:=hf p.1 hb
  obtain ⟨o,e',d⟩:=ho p.1 hb
  rw [e] at e';cases e'
  exact ⟨e,f0,f1,f2,d⟩
def Inv.vY (I:Inv X (pins++pl) σ H s):Inv X pins σ H s:=I.aX fun p hp=>I.pin p (P4 _ (a1w _ hp))
def nN (hp:PassesOwn (Oc X) X.A X.env X.xe) (hc:X.calm=true) (hi:PI X tg j9 wi) (hg:PG X tg g) (hb:PSs X body tb)
  (hs:∀ x,foldedSetIterable j9 X.env x=pure x:=by intro _;rfl):PS X (.For tg j9 body [] pos) (G5 wi g tb):=by
 intro pins s σ H D I h
 refine wpAny_For (thn (hi pins s σ H _ I h) fun v s1 h1=>thn h1 fun itv s2 h2=>?_) hs
 obtain ⟨it,fp,tn,J,H2,e,I2,T,st2,f2,W,⟨m0,w0⟩,turn⟩:=h2
 subst e
 -- what stays true of the iterator's objects through the loop
 have stat:∀ {H':Hp},(∀ b∈fp,H' b=none)->∀ b∈fp,lO X pins H' b:=fun hn b hb=>⟨hn b hb,(f2 b hb).2⟩
 refine codeAny_forLoop_any (fun n s'=>∃ i σ' H',Inv X pins σ' H' s'/\tn i s'.heap/\(∀ b∈fp,H' b=none)/\W i n σ' H') ?_ m0 ⟨0,σ,H2,I2,st2,fun b hb=>(f2 b hb).1,w0⟩
 rintro n s3 ⟨i,σ3,H3,I3,st3,fr3,w3⟩
 rcases turn i n σ3 H3 w3 with ⟨stop,qn⟩ | ⟨go,N,hN,step⟩
 .refine a0x hp (thn (T.done X rfl rfl rfl hc i pins s3 σ3 H3 X.xe I3 (stat fr3) st3 stop) fun r s4 ⟨hr,I4⟩=>?_)
  subst hr
  exact a0L ⟨σ3,H3,I4,qn⟩
 .refine a0x hp (thn (T.item X rfl rfl rfl hc i pins s3 σ3 H3 X.xe I3 (stat fr3) st3 go) fun r s4 ⟨u,hr,h4⟩=>?_)
  subst hr
  refine a0x hp (thn h4 fun _ s5 ⟨x,H5,I5,r5,y5,st5,fr5⟩=>?_)
  have I5':=I5.pinned (stat fr5) (T.obj _ _ st5)
  refine a0x hp (thn (hg _ s5 σ3 H5 x u _ I5' r5 (step x H5 y5)) fun _ s6 ⟨σ6,H6,I6,q6⟩=>?_)
  refine a0x hp (thn (hb _ s6 σ6 H6 _ I6 q6) fun f s7 q7=>?_)
  have again:∀ {σ7:St}{H7:Hp},Inv X (pins++cZ fp s5.heap) σ7 H7 s7->N σ7 H7->∃ m,m < n/\∃ i σ' H',Inv X pins σ' H' s7/\tn i s7.heap/\(∀ b∈fp,H' b=none)/\W i m σ' H':=fun {σ7 H7} I7 n7=>by
   obtain ⟨m',hm,w7⟩:=hN σ7 H7 n7
   refine ⟨m',hm,i + 1,σ7,H7,I7.vY,T.keep _ _ _ st5 fun b hb o e=>(I7.pin (b,o) (P4 _ (P4 _ (Qs hb e)))).1,fun b hb=>?_,w7⟩
   obtain ⟨o,e,d⟩:=T.obj _ _ st5 b hb
   exact (I7.pin (b,o) (P4 _ (P4 _ (Qs hb e)))).2.1
  cases f with
  | next=>obtain ⟨σ7,H7,I7,n7⟩:=q7;exact again I7 n7
  | cont=>obtain ⟨σ7,H7,I7,n7⟩:=q7;exact again I7 n7
  | brk=>obtain ⟨σ7,H7,I7,q7⟩:=q7;exact ⟨σ7,H7,I7.vY,q7⟩
  | ret v=>obtain ⟨x7,σ7,H7,I7,r7,q7⟩:=q7;exact ⟨x7,σ7,H7,I7.vY,r7,q7⟩
end
abbrev R2:=V->V->Hp->VK->Prop
def OpR (X:Cx) (f:Value->Value->Sem Value) (r:R2):Prop:=
 ∀ (pins:MR) (s:MZ) (σ:St) (H:Hp) (x y:V) (v u:Value) (Q:VK),Inv X pins σ H s->RelV x v->RelV y u->r x y H Q->
  wpAny (Oc X) X.A (f v u) (EP X pins σ Q) X.xe s
def UnR (X:Cx) (f:Value->Sem Value) (r:V->Hp->VK->Prop):Prop:=
 ∀ (pins:MR) (s:MZ) (σ:St) (H:Hp) (x:V) (v:Value) (Q:VK),Inv X pins σ H s->RelV x v->r x H Q->
  wpAny (Oc X) X.A (f v) (EP X pins σ Q) X.xe s
def Yu (X:Cx) (f:Value) (r:List V->Hp->VK->Prop):Prop:=
 ∀ (pins:MR) (s:MZ) (σ:St) (H:Hp) (xs:Nb) (us:M_) (Q:VK),Inv X pins σ H s->Vals xs us->r xs H Q->
  wpAny (Oc X) X.A (call f us) (EP X pins σ Q) X.xe s
def tOp (r:R2) (ta tb:TE):TE:=fun σ H Q=>ta σ H fun x H1=>tb σ H1 fun y H2=>r x y H2 Q
def tUn (r:V->Hp->VK->Prop) (ta:TE):TE:=fun σ H Q=>ta σ H fun x H1=>r x H1 Q
def rI (C:Int->Int->Prop) (g:Int->Int->V):R2:=fun x y H Q=>∃ i j,x=.int i/\y=.int j/\C i j/\Q (g i j) H
def rI0 (g:Int->Int->V):R2:=fun x y H Q=>∃ i j,x=.int i/\y=.int j/\Q (g i j) H
def rU (g:Int->V):V->Hp->VK->Prop:=fun x H Q=>∃ i,x=.int i/\Q (g i) H
section
variable {X:Cx}{a b c:Nh}{ta tb tc:TE}{pos:Pos}
def HB (ha:PE X a ta) (hb:PE X b tb) {pins:MR}{s:MZ}{σ:St}{H:Hp}{R:V->V->Hp->Prop}(I:Inv X pins σ H s)
  (h:ta σ H fun x H1=>tb σ H1 fun y H2=>R x y H2) {Q:MW}{f:Value->Value->Sem Value}
  (hf:∀ v u s2 x y H2,Inv X pins σ H2 s2->RelV x v->RelV y u->R x y H2->wpAny (Oc X) X.A (f v u) Q X.xe s2):
  wpAny (Oc X) X.A (eval a X.env) (fun v s₁=>wpAny (Oc X) X.A (eval b X.env) (fun u s₂=>wpAny (Oc X) X.A (f v u) Q X.xe s₂) X.xe s₁) X.xe s:=by
 refine thn (ha pins s σ H _ I h) fun v s1 ⟨x,H1,I1,r1,q1⟩=>?_
 refine thn (hb pins s1 σ H1 _ I1 q1) fun u s2 ⟨y,H2,I2,r2,q2⟩=>?_
 exact hf v u s2 x y H2 I2 r1 r2 q2
def Eh (ho:OpR X (binaryOp op) r) (ha:PE X a ta) (hb:PE X b tb):PE X (.BinOp a op b pos) (tOp r ta tb):=by
 intro pins s σ H Q I h
 exact wpAny_BinOp (HB ha hb I h fun v u s2 x y H2 I2 rx ry q=>ho pins s2 σ H2 x y v u Q I2 rx ry q)
def HD (ho:UnR X (unaryOp op) r) (ha:PE X a ta):PE X (.UnaryOp op a pos) (tUn r ta):=by
 intro pins s σ H Q I h
 exact UnaryOp_ (thn (ha pins s σ H _ I h) fun v s1 ⟨x,H1,I1,r1,q1⟩=>ho pins s1 σ H1 x v Q I1 r1 q1)
def opI {f:Value->Value->Sem Value}{C:Int->Int->Prop}{g:Int->Int->Int}
  (rule:∀ (i j:Int) (t u:Tok) (s:MZ) (Q:MW) (E:MW),C i j->Q (.int (g i j) s.toks) { s with toks:=s.toks + 1 }->wpAny (Oc X) X.A (f (.int i t) (.int j u)) Q E s):
  OpR X f (rI C fun i j=>.int (g i j)):=by
 intro pins s σ H x y v u Q I rx ry h
 obtain ⟨i,j,rfl,rfl,hc,q⟩:=h
 obtain ⟨t,rfl⟩:=rx
 obtain ⟨t',rfl⟩:=ry
 exact rule i j t t' s _ _ hc ⟨.int (g i j),H,I.tok _,⟨_,rfl⟩,q⟩
def Ls {f:Value->Value->Sem Value}{g:Int->Int->Int}
  (rule:∀ (i j:Int) (t u:Tok) (s:MZ) (Q:MW) (E:MW),Q (.int (g i j) s.toks) { s with toks:=s.toks + 1 }->wpAny (Oc X) X.A (f (.int i t) (.int j u)) Q E s):
  OpR X f (rI0 fun i j=>.int (g i j)):=by
 intro pins s σ H x y v u Q I rx ry h
 obtain ⟨i,j,rfl,rfl,q⟩:=h
 obtain ⟨t,rfl⟩:=rx
 obtain ⟨t',rfl⟩:=ry
 exact rule i j t t' s _ _ ⟨.int (g i j),H,I.tok _,⟨_,rfl⟩,q⟩
def G6 {f:Value->Value->Sem Value}{g:Int->Int->Bool}
  (rule:∀ (i j:Int) (t u:Tok) (s:MZ) (Q:MW) (E:MW),Q (.bool (g i j)) s->wpAny (Oc X) X.A (f (.int i t) (.int j u)) Q E s):
  OpR X f (rI0 fun i j=>.bl (g i j)):=by
 intro pins s σ H x y v u Q I rx ry h
 obtain ⟨i,j,rfl,rfl,q⟩:=h
 obtain ⟨t,rfl⟩:=rx
 obtain ⟨t',rfl⟩:=ry
 exact rule i j t t' s _ _ ⟨.bl (g i j),H,I,rfl,q⟩
def DR (i j:Int):Prop:=0 < j/\j < 1073741824
def Ei (i j:Int):Prop:=0<=j/\j<=1000000/\i.natAbs < 2 ^ 64
def Ad (i j:Int):Prop:=(-(2 ^ 64) < i/\i < 2 ^ 64)\/(-(2 ^ 64) < j/\j < 2 ^ 64)
def Ad.ok (h:Ad i j):IntMulOk i j:=by
 rcases h with ⟨h1,h2⟩ | ⟨h1,h2⟩
 .exact .of_left (intBits_le_64 h1 h2)
 .exact .of_right (intBits_le_64 h1 h2)
def Ej:OpR X (binaryOp .Add) (rI0 fun i j=>.int (i + j)):=Ls fun _ _ _ _ _ _ _ q=>add_int q
def Yv:OpR X (binaryOp .Sub) (rI0 fun i j=>.int (i - j)):=Ls fun _ _ _ _ _ _ _ q=>sub_int q
def Ek:OpR X (binaryOp .Mult) (rI Ad fun i j=>.int (i * j)):=opI fun _ _ _ _ _ _ _ hc q=>mul_int q hc.ok
def BB:OpR X (binaryOp .FloorDiv) (rI DR fun i j=>.int (i / j)):=opI fun i j _ _ _ _ _ hc q=>by
 have h1:(0:Int) < j:=hc.1
 have h2:j < 1073741824:=hc.2
 exact floordiv_int (by omega) (by rw [Int.fdiv_eq_ediv_of_nonneg i (by omega)];exact q) (.inl (PyProof.noPylong_small (by omega)))
def El:OpR X (binaryOp .Mod) (rI (fun _ j=>0 < j) fun i j=>.int (i % j)):=opI fun i j _ _ _ _ _ hc q=>by
 have h1:(0:Int) < j:=hc
 exact mod_int' (by omega) (by rw [Int.fmod_eq_emod_of_nonneg i (by omega)];exact q)
def BC:OpR X (binaryOp .Mod) (rI (fun _ j=>j≠0) fun i j=>.int (i.fmod j)):=opI fun _ _ _ _ _ _ _ hc q=>mod_int' hc q
def nO:OpR X (binaryOp .Pow) (rI Ei fun i j=>.int (i ^ j.toNat)):=opI fun _ _ _ _ _ _ _ hc q=>pow_int_small hc.1 hc.2.1 hc.2.2 q
def unI {f:Value->Sem Value}{g:Int->Int}
  (rule:∀ (i:Int) (t:Tok) (s:MZ) (Q:MW) (E:MW),Q (.int (g i) s.toks) { s with toks:=s.toks + 1 }->wpAny (Oc X) X.A (f (.int i t)) Q E s):
  UnR X f (rU fun i=>.int (g i)):=by
 intro pins s σ H x v Q I rx h
 obtain ⟨i,rfl,q⟩:=h
 obtain ⟨t,rfl⟩:=rx
 exact rule i t s _ _ ⟨.int (g i),H,I.tok _,⟨_,rfl⟩,q⟩
def g5:UnR X (unaryOp .USub) (rU fun i=>.int (-i)):=unI fun _ _ _ _ _ q=>neg_int q
end
section
variable {X:Cx}{a b c:Nh}{ta tb tc:TE}{pos:Pos}
def nP (I:Inv X pins σ H s) (q:Q (.bl k) H) (e:k=k'):EP X pins σ Q (.bool k') s:=by
 subst e
 exact ⟨.bl k,H,I,rfl,q⟩
def c4:OpR X (compareOp .Lt) (rI0 fun i j=>.bl (decide (i < j))):=G6 fun _ _ _ _ _ _ _ q=>lt_int q
def BD:OpR X (compareOp .LtE) (rI0 fun i j=>.bl (decide (i<=j))):=G6 fun _ _ _ _ _ _ _ q=>le_int q
def V_:OpR X (compareOp .Gt) (rI0 fun i j=>.bl (decide (j < i))):=G6 fun _ _ _ _ _ _ _ q=>gt_int q
def HF:OpR X (compareOp .GtE) (rI0 fun i j=>.bl (decide (j<=i))):=G6 fun _ _ _ _ _ _ _ q=>ge_int q
def nQ:OpR X (compareOp .In) (fun x y H Q=>∃ i j,x=.str i/\y=.str j/\Q (.bl (!(Builtin.Str.occurrences j i 0 j.length 1).isEmpty)) H):=by
 intro pins s σ H x y v u Q I rx ry h
 obtain ⟨i,j,rfl,rfl,q⟩:=h
 obtain ⟨t,rfl⟩:=rx
 obtain ⟨t',rfl⟩:=ry
 exact in_str (nP I q rfl)
def nR:OpR X (compareOp .Is) (fun x y H Q=>y=.non/\Q (.bl (decide (x=.non))) H):=by
 intro pins s σ H x y v u Q I rx ry h
 obtain ⟨rfl,q⟩:=h
 cases ry
 refine is_none_gen (nP I q ?_)
 cases x <;> first
  | (cases rx;rfl)
  | (obtain ⟨t,rfl⟩:=rx;rfl)
def BE:OpR X (compareOp .IsNot) (fun x y H Q=>y=.non/\Q (.bl (!decide (x=.non))) H):=by
 intro pins s σ H x y v u Q I rx ry h
 obtain ⟨rfl,q⟩:=h
 cases ry
 refine isnot_none_gen (nP I q ?_)
 cases x <;> first
  | (cases rx;rfl)
  | (obtain ⟨t,rfl⟩:=rx;rfl)
def OpR.or (h:OpR X f r) (h':OpR X f r'):OpR X f (fun x y H Q=>r x y H Q\/r' x y H Q):=by
 intro pins s σ H x y v u Q I rx ry q
 rcases q with q | q
 .exact h pins s σ H x y v u Q I rx ry q
 .exact h' pins s σ H x y v u Q I rx ry q
def yT (b:Nh) (h:op≠.In:=by decide) (h2:op≠.NotIn:=by decide):behindInMarks op b=false:=by
 have e1:(op == CmpOp.In)=false:=by cases op <;> first | rfl | exact absurd rfl h
 have e2:(op == CmpOp.NotIn)=false:=by cases op <;> first | rfl | exact absurd rfl h2
 cases b <;> simp [behindInMarks,e1,e2]
def BF (ho:OpR X (compareOp op) r) (ha:PE X a ta) (hb:PE X b tb) (hm:behindInMarks op b=false):PE X (.Compare a [op] [b] pos) (tOp r ta tb):=by
 intro pins s σ H Q I h
 exact wpAny_Compare1 (HB ha hb I h fun v u s2 x y H2 I2 rx ry q=>ho pins s2 σ H2 x y v u Q I2 rx ry q) hm
def Em (t:TE):TT:=fun σ H Q=>t σ H fun x H'=>∃ k,x=.bl k/\Q k H'
def fu (ho:OpR X (compareOp op) r) (ha:PE X a ta) (hb:PE X b tb) (hm:behindInMarks op b=false):PT X (.Compare a [op] [b] pos) (Em (tOp r ta tb)):=by
 intro pins s σ H Q I h
 refine wpAny_isTrue_Compare1 (thn (ha pins s σ H _ I h) fun v s1 ⟨x,H1,I1,r1,q1⟩=>thn (hb pins s1 σ H1 _ I1 q1) fun u s2 ⟨y,H2,I2,r2,q2⟩=>
  thn (ho pins s2 σ H2 x y v u _ I2 r1 r2 q2) fun c s3 ⟨z,H3,I3,r3,k,e,q3⟩=>?_) hm
 subst e
 cases r3
 exact a1j ⟨H3,I3,q3⟩
def g6:(sizeLine:Nat) < 2 ^ 63:=by rw [T2];decide
def lU:OpR X (binaryOp .Add) (fun x y H Q=>∃ i j,x=.str i/\y=.str j/\i.length + j.length<=sizeLine/\Q (.str (i++j)) H):=by
 intro pins s σ H x y v u Q I rx ry h
 obtain ⟨i,j,rfl,rfl,hz,q⟩:=h
 obtain ⟨t,rfl⟩:=rx
 obtain ⟨t',rfl⟩:=ry
 exact add_str (fun t' tk=>⟨.str (i++j),H,I.tok _,⟨_,rfl⟩,q⟩) hz
def vals1 (r:Vals [x] us):∃ u,us=[u]/\RelV x u:=by
 cases r with
 | cons r1 r2=>cases r2;exact ⟨_,rfl,r1⟩
def vals2 (r:Vals [x,y] us):∃ u w',us=[u,w']/\RelV x u/\RelV y w':=by
 cases r with
 | cons r1 r2=>
  cases r2 with
  | cons r3 r4=>cases r4;exact ⟨_,_,rfl,r1,r3⟩
def nS (hc:X.calm=true):Yu X (.builtin "max") (fun xs H Q=>∃ i j,xs=[.int i,.int j]/\Q (.int (if j > i then j else i)) H):=by
 intro pins s σ H xs us Q I r h
 obtain ⟨i,j,rfl,q⟩:=h
 obtain ⟨u,w',rfl,⟨t,rfl⟩,⟨t',rfl⟩⟩:=vals2 r
 refine max_two_ints (I.ok.hd hc) fun h' tk k=>⟨_,H,I.kept k, ?_,q⟩
 by_cases hj:j > i
 .rw [if_pos hj,if_pos hj];exact ⟨_,rfl⟩
 .rw [if_neg hj,if_neg hj];exact ⟨_,rfl⟩
def Lu (K:Nd) (x:V) (H:Hp) (n:Nat):Prop:=
 match x with
 | .str y=>y.length<=sizeLine/\n=y.length
 | .byt y=>y.size<=sizeLine/\n=y.size
 | .ref p=>(∃ xs,SqL K H p xs/\n=xs.length)\/∃ xs,SqT K H p xs/\n=xs.length
 | _=>False
def t4:Yu X (.builtin "len") (fun xs H Q=>∃ x n,xs=[x]/\Lu X.K x H n/\Q (.int n) H):=by
 intro pins s σ H xs us Q I r h
 obtain ⟨x,n,rfl,e,q⟩:=h
 obtain ⟨u,rfl,rx⟩:=vals1 r
 have hl:=g6
 have hs:sizeLine=16777216:=T2
 cases x with
 | str y=>
  obtain ⟨t,rfl⟩:=rx
  obtain ⟨hy,e'⟩:y.length<=sizeLine/\n=y.length:=e
  subst e'
  exact len_str (by omega) ⟨.int _,H,I.tok _,⟨_,rfl⟩,q⟩
 | byt y=>
  obtain ⟨t,rfl⟩:=rx
  obtain ⟨hy,e'⟩:y.size<=sizeLine/\n=y.size:=e
  subst e'
  exact PySem.W.len_bytes (by omega) ⟨.int _,H,I.tok _,⟨_,rfl⟩,q⟩
 | ref p=>
  cases rx
  have e':(∃ xs,SqL X.K H p xs/\n=xs.length)\/∃ xs,SqT X.K H p xs/\n=xs.length:=e
  rcases e' with ⟨xs,hx,e'⟩ | ⟨xs,hx,e'⟩
  .subst e'
   obtain ⟨its,r',pl,hz⟩:=I.list hx
   have hlen:=r'.length
   exact Calls.call_len_list pl.isList (by simp only [List.size_toArray];omega) ⟨.int xs.length,H,I.tok _,⟨_,by simp only [List.size_toArray];rw [hlen]⟩,q⟩
  .subst e'
   obtain ⟨its,r',pl,hz⟩:=I.tuple hx
   have hlen:=r'.length
   exact len_tuple pl (by simp only [List.size_toArray];omega) ⟨.int xs.length,H,I.tok _,⟨_,by simp only [List.size_toArray];rw [hlen]⟩,q⟩
 | _=>exact (show False from e).elim
end
structure BG (h:Heap) (x dx C:Addr) (mA:MU):Prop where
 obj:h.get? x=some (PySem.W.instObj C dx)
 ns:h.Ns1 dx mA
 ne:dx≠x
def JK {h:Heap}{dx:Addr}{mA:MU}(n:h.Ns1 dx mA):∃ od,h.get? dx=some od/\∀ name,PySem.W.lookIn name od=some (mA name):=by
 obtain ⟨o,es,ep,ho,hd,hk,_,hm⟩:=n
 refine ⟨o,ho,fun name=>?_⟩
 have e:=hm name
 unfold nsFind findBy at e
 rw [<- a2V] at e
 unfold PySem.W.lookIn
 rw [hd]
 dsimp only
 split
 .rename_i y q
  rw [q] at e
  exact S0 some e
 .rename_i q
  rw [q] at e
  have a:es.toList.any (·.refKey)=false:=by
   rw [List.any_eq_false]
   intro y hy
   obtain ⟨z,t,hkey⟩:=hk y (a2H.mp hy)
   simp [DictEntry.refKey,hkey]
  have a':¬ es.toList.any (·.refKey)=true:=by rw [a];exact O3
  rw [if_neg a']
  exact S0 some e
def BG.look (I:BG h x dx C mA):∃ od,PySem.W.InstAt h x (PySem.W.instObj C dx) C (some od)/\∀ name,PySem.W.lookIn name od=some (mA name):=
 let ⟨od,ho,hl⟩:=JK I.ns
 ⟨od,⟨I.obj,rfl,rfl,ho⟩,hl⟩
section
variable {prog:Nk}{w:Nq}{A:Nt}{E:MW}{s:MZ}{K:Nd}{x dx C f:Addr}{mA:MU}{name:Str}{v:Value}
def get_map (X:K.In s.heap) (I:BG s.heap x dx C mA) (hg:PySem.W.plainGet K C name=true) (hh:PySem.W.hasDictIn K C=true)
  (ha:PySem.W.findIn K (.ref C) name=some none) (hv:mA name=some v) (hv':PySem.W.handedIn v=true) (h:Q v { s with toks:=s.toks + 1 }):
  wpAny (model prog w) A (getAttr (.ref x) name expr) Q E s:=by
 obtain ⟨od,J,hl⟩:=I.look
 exact PySem.W.get_value X J (a1H hg).1 (PySem.W.findObj_own hh ha rfl (by rw [hl,hv])) hv' h
def t7 (X:K.In s.heap) (I:BG s.heap x dx C mA) (hg:PySem.W.plainGet K C name=true)
  (hf:PySem.W.findIn K (.ref C) name=some (some (.ref f))) (ht:PySem.W.isFn K (.ref f)=true) (hv:mA name=none) (h:Q (.ref f,[.ref x]) s):
  wpAny (model prog w) A (getMethod (.ref x) name pl) Q E s:=by
 obtain ⟨od,J,hl⟩:=I.look
 exact PySem.W.method_fn X J (a1H hg).1 (a1H hg).2 hf (P7.mp ht) (by show (PySem.W.lookIn name od).map (·.isSome)=some false;rw [hl,hv];rfl) h
def BH (X:K.In s.heap) (I:BG s.heap x dx C mA)
  (hs:PySem.W.findIn K (.ref C) "__setattr__" = some (some (.builtin "object.__setattr__"))) (hp:PySem.W.plainOver K C=true) (ht:PySem.W.takerIn K C name=some none) (hh:PySem.W.hasDictIn K C=true)
  (hw:PySem.Within mA ns) (hsz:ns.length<=sizeLine)
  (h:∀ h',BG h' x dx C (fun y=>if y=name then some v else mA y)->Heap.SameBut dx s.heap h'->Q () { s with heap:=h',toks:=s.toks + 2 }):
  wpAny (model prog w) A (setAttr (.ref x) name v) Q E s:=by
 obtain ⟨od,J,hl⟩:=I.look
 refine PySem.W.set_plain X J hs (PySem.W.osa_open (s:={ s with toks:=s.toks + 1 }) (r:=none) X J hp ht fun b=>?_)
 obtain ⟨cd,hc,hd'⟩:=PySem.W.any_some hh
 have hx:s.heap.get? x=some ⟨.ref C,some dx,.plain,#[]⟩:=I.obj
 refine f8 (N5 (f8 (f8 (a0U hx (f8 (PySem.W.Looks.here (s:={ s with toks:=s.toks + 1 }) (PySem.W.looks_clsIn X hc) ?_))))))
 rw [hd']
 refine N5 (a:=some dx) (f8 (N5 (f8 ?_)))
 refine a2W (s:={ s with toks:=s.toks + 1 }) I.ns fun h' hn2 hs2=>?_
 obtain ⟨oD,esD,epD,hoD,hdD,hcD⟩:=hn2.count (a1U name v hw)
 refine f8 (a14 hoD (by rw [hdD];exact a15 (P6 hcD (by rw [v0];omega))) ?_)
 exact N5 (h _ ⟨(hs2.2 _ (Ne.symm I.ne)).trans I.obj,hn2,I.ne⟩ hs2)
def t8 (X:K.In s.heap) (hm:PySem.W.makesIn K C=true)
  (hi:PySem.W.findIn K (.ref C) "__init__" = some (some (.ref f))) (hf:PySem.W.typeIn K (.ref f)=some (.type "function"))
  (h:codeAny (model prog w) (A.under (.builtin "type.__call__" ⟨.ref C :: vs,kw⟩)) (.call (.ref f) ⟨.ref (s.heap.objs.size + 1) :: vs,kw⟩) (PySem.W.InitBack (s.heap.objs.size + 1) R)
   { s with heap:=(s.heap.push PySem.W.emptyDict).push (PySem.W.instObj C s.heap.objs.size) }):
  codeAny (model prog w) A (.call (.ref C) ⟨vs,kw⟩) R s:=by
 obtain ⟨hh,g,d,t,os⟩:=s
 exact PySem.W.make_core (PySem.W.makes_of X hm) (PySem.W.looks_findIn X hi) (fun self=>PySem.W.bind_fn X self hf) (.inl rfl) h
end
def JL (f:Str) (v:V):List (Str × V)->List (Str × V)
 | []=>[(f,v)]
 | (g,x) :: r=>if g=f then (g,v) :: r else (g,x) :: JL f v r
def Jo (f g:Str) (v:V):∀ fs:List (Str × V),(JL f v fs).lookup g=if g=f then some v else fs.lookup g
 | []=>by
  show List.lookup g [(f,v)]=_
  by_cases h:g=f
  .have hb:(g == f)=true:=P7.mpr h
   simp only [List.lookup,hb,if_pos h]
  .have hb:(g == f)=false:=S6.mpr h
   simp only [List.lookup,hb,if_neg h]
 | (k,x) :: r=>by
  have ih:=Jo f g v r
  rw [show JL f v ((k,x) :: r)=(if k=f then (k,v) :: r else (k,x) :: JL f v r) from rfl]
  by_cases hk:k=f
  .rw [if_pos hk]
   by_cases h:g=k
   .have hb:(g == k)=true:=P7.mpr h
    simp only [List.lookup,hb,if_pos (h.trans hk)]
   .have hb:(g == k)=false:=S6.mpr h
    simp only [List.lookup,hb,if_neg (fun e:g=f=>h (e.trans hk.symm))]
  .rw [if_neg hk]
   by_cases h:g=k
   .have hb:(g == k)=true:=P7.mpr h
    simp only [List.lookup,hb,if_neg (fun e:g=f=>hk (h.symm.trans e))]
   .have hb:(g == k)=false:=S6.mpr h
    simp only [List.lookup,hb]
    exact ih
def Yw (f:Str) (v:V):∀ fs:List (Str × V),f∈(JL f v fs).map (·.1)/\∀ g,g∈fs.map (·.1)->g∈(JL f v fs).map (·.1)
 | []=>⟨by simp [JL],fun g h=>by simp at h⟩
 | (k,x) :: r=>by
  obtain ⟨i1,i2⟩:=Yw f v r
  rw [show JL f v ((k,x) :: r)=(if k=f then (k,v) :: r else (k,x) :: JL f v r) from rfl]
  by_cases hk:k=f
  .rw [if_pos hk]
   subst hk
   exact ⟨by simp,fun g h=>by simpa using h⟩
  .rw [if_neg hk]
   refine ⟨?_,fun g h=>?_⟩
   .rw [N9]
    exact M9 _ i1
   .rw [N9] at h ⊢
    rcases O5.mp h with e | e
    .exact O5.mpr (.inl e)
    .exact M9 _ (i2 g e)
def Jp (f:Str) (v:V):∀ fs:List (Str × V),(JL f v fs).length<=fs.length + 1
 | []=>by simp [JL]
 | (k,x) :: r=>by
  have ih:=Jp f v r
  rw [show JL f v ((k,x) :: r)=(if k=f then (k,v) :: r else (k,x) :: JL f v r) from rfl]
  by_cases hk:k=f
  .rw [if_pos hk,v0,v0];omega
  .rw [if_neg hk,v0,v0];omega
def V8.some_of (r:V8 (some v) o):∃ u,o=some u/\RelV v u:=by
 cases o with
 | none=>exact (show False from r).elim
 | some u=>exact ⟨u,rfl,r⟩
def V8.none_of (r:V8 none o):o=none:=by
 cases o with
 | none=>rfl
 | some u=>exact (show False from r).elim
def c5 (r:RelV v u):PySem.W.handedIn u=true:=by
 cases v with
 | non=>cases (show u=Value.none from r);rfl
 | bl b=>cases (show u=Value.bool b from r);rfl
 | int i=>obtain ⟨t,e⟩:=(show ∃ t,u=Value.int i t from r);cases e;rfl
 | str x=>obtain ⟨t,e⟩:=(show ∃ t,u=Value.str x t from r);cases e;rfl
 | byt b=>obtain ⟨t,e⟩:=(show ∃ t,u=Value.bytes b t from r);cases e;rfl
 | flt b=>obtain ⟨t,e⟩:=(show ∃ t,u=Value.float b t from r);cases e;rfl
 | ref a=>cases (show u=Value.ref a from r);rfl
 | ty n=>cases (show u=Value.type n from r);rfl
def a_ (hok:HOk P w H h) (e:H a=some (.ins C dx fs)):∃ mA,BG h a dx C mA/\(∀ f,V8 (fs.lookup f) (mA f))/\PySem.Within mA (fs.map (·.1))/\fs.length<=1000/\H dx=some (.own a):=by
 obtain ⟨d,z,ne,ob,mA,n,r,q⟩:=(show qp P w H h a (.ins C dx fs) from hok a _ e)
 exact ⟨mA,⟨ob,n,ne⟩,r,q,z,d⟩
structure Cls (K:Nd) (C:Addr):Prop where
 pg:PySem.W.plainGet K C Str.empty=true
 hd:PySem.W.hasDictIn K C=true
 po:PySem.W.plainOver K C=true
 sa:PySem.W.findIn K (.ref C) "__setattr__" = some (some (.builtin "object.__setattr__"))
def Cls.get {K:Nd}{C:Addr}(c:Cls K C) (f:Str):PySem.W.plainGet K C f=true:=c.pg
def kQ (K:Nd) (C:Addr) (f:Str):Prop:=PySem.W.findIn K (.ref C) f=some none
def kQ.HI {K:Nd}{C:Addr}{f:Str}(n:kQ K C f):PySem.W.takerIn K C f=some none:=by
 unfold PySem.W.takerIn
 rw [show PySem.W.findIn K (.ref C) f=some none from n]
 rfl
structure Meth (K:Nd) (C:Addr) (m:Str) (f:Addr):Prop where
 at_:PySem.W.findIn K (.ref C) m=some (some (.ref f))
 fn:PySem.W.isFn K (.ref f)=true
 kp:PySem.W.keepIn K (.ref f)=true
def lV (I:Inv X pins σ H s) (e:H a=some (.ins C dx fs)) (c:Cls X.K C) (n:kQ X.K C f) (l:fs.lookup f=some v)
  (h:∀ u s',Inv X pins σ H s'->RelV v u->Q u s'):wpAny (Oc X) A (getAttr (.ref a) f b) Q E s:=by
 obtain ⟨mA,O,r,_,_,_⟩:=a_ I.hok e
 obtain ⟨u,hu,ru⟩:=V8.some_of (v:=v) (o:=mA f) (by rw [<- l];exact r f)
 exact get_map I.kIn O (c.get f) c.hd n hu (c5 ru) (h u _ (I.tok _) ru)
def ai (I:Inv X pins σ H s) (e:H a=some (.ins C dx fs)) (c:Cls X.K C) (k:Meth X.K C m g) (l:fs.lookup m=none)
  (h:Q (.ref g,[.ref a]) s):wpAny (Oc X) A (getMethod (.ref a) m pl) Q E s:=by
 obtain ⟨mA,O,r,_,_,_⟩:=a_ I.hok e
 have hn:mA m=none:=V8.none_of (by rw [<- l];exact r m)
 exact t7 I.kIn O (c.get m) k.at_ k.fn hn h
def lX (I:Inv X pins σ H s) (e:H a=some (.ins C dx fs)) (c:Cls X.K C) (n:kQ X.K C f) (hl:fs.length < 1000) (ry:RelV y u)
  (h:∀ s',Inv X pins σ (upd H a (.ins C dx (JL f y fs))) s'->Q () s'):wpAny (Oc X) A (setAttr (.ref a) f u) Q E s:=by
 obtain ⟨mA,O,r,wi,_,ho⟩:=a_ I.hok e
 have hz:(fs.map (·.1)).length<=sizeLine:=by rw [u8,T2];omega
 refine BH I.kIn O c.sa c.po n.HI c.hd wi hz fun h' O' sb=>h _ ?_
 have hd:∃ o,h'.get? dx=some o:=let ⟨o,_,_,e',_⟩:=O'.ns;⟨o,e'⟩
 refine I.write (x:=a) (e:=dx) (by rw [e];exact True.intro) (.inr ho) (fun b q hb z=>(sb.2 b hb).trans z) hd ?_
 refine ⟨by rw [zj O.ne];exact ho, ?_,O.ne,O'.obj,_,O'.ns,fun g=>?_,fun g hg=>?_⟩
 .have:=Jp f y fs;omega
 .show V8 ((JL f y fs).lookup g) (if g=f then some u else mA g)
  rw [Jo]
  by_cases q:g=f
  .rw [if_pos q,if_pos q];exact ry
  .rw [if_neg q,if_neg q];exact r g
 .by_cases q:g=f
  .rw [q];exact (Yw f y fs).1
  .refine (Yw f y fs).2 g (wi g fun z=>hg ?_)
   show (if g=f then some u else mA g)=none
   rw [if_neg q];exact z
def Inv.made (I:Inv X pins σ H s):Inv X pins σ (upd (upd H s.heap.objs.size (.own (s.heap.objs.size + 1))) (s.heap.objs.size + 1) (.ins C s.heap.objs.size []))
  { s with heap:=(s.heap.push PySem.W.emptyDict).push (PySem.W.instObj C s.heap.objs.size) }:=by
 have e1:(s.heap.push PySem.W.emptyDict).get? s.heap.objs.size=some PySem.W.emptyDict:=O7 s.heap rfl
 have e2:((s.heap.push PySem.W.emptyDict).push (PySem.W.instObj C s.heap.objs.size)).get? (s.heap.objs.size + 1)=some (PySem.W.instObj C s.heap.objs.size):=by
  have:=O7 (s.heap.push PySem.W.emptyDict) (o:=PySem.W.instObj C s.heap.objs.size) rfl
  rwa [a0D] at this
 have e3:(s.heap.push PySem.W.emptyDict).Ns s.heap.objs.size (fun _=>none):=⟨PySem.W.emptyDict,#[],_,e1,rfl,(fun e he=>absurd he (by simp)),fun _=>rfl⟩
 have I1:=I.laid (a:=s.heap.objs.size) (o:=.own (s.heap.objs.size + 1)) (h':=s.heap.push PySem.W.emptyDict) (t':=s.toks) (fun b u q=>M7 _ q) (N1 _) ⟨_,e1⟩
 refine I1.laid (a:=s.heap.objs.size + 1) (o:=.ins C s.heap.objs.size []) (t':=s.toks) (fun b u q=>M7 _ q) (a1x (a0D _ _)) ?_
 have ne:s.heap.objs.size≠s.heap.objs.size + 1:=O1 (a0a _)
 refine ⟨by rw [zj ne,zh],S7 _,ne,e2,fun _=>none,(Heap.Ns1.of_empty e3).at fun o q=>M7 _ q,fun _=>True.intro,fun y hy=>absurd rfl hy⟩
def nU (hb:attributeBase e f env (eval e env)=eval e env)
  (h:wpAny (model prog w) A (eval e env) (fun o s₁=>wpAny (model prog w) A (getAttr o f true) Q E s₁) E s):wpAny (model prog w) A (eval (.Attribute e f pos) env) Q E s:=
 Attribute_any_ h (by rw [arm_eval_Attribute,hb])
def Mq (K:Nd) (ta:TE) (f:Str):TE:=fun σ H Q=>ta σ H fun x H1=>∃ a C dx fs v,x=.ref a/\H1 a=some (.ins C dx fs)/\Cls K C/\kQ K C f/\fs.lookup f=some v/\Q v H1
def Mr (K:Nd) (ta tv:TE) (f:Str):TS:=fun D σ H=>tv σ H fun y H1=>ta σ H1 fun x H2=>∃ a C dx fs,x=.ref a/\H2 a=some (.ins C dx fs)/\Cls K C/\kQ K C f/\fs.length < 1000/\
 D.nx σ (upd H2 a (.ins C dx (JL f y fs)))
def Ae (he:PE X e ta) (hb:attributeBase e f X.env (eval e X.env)=eval e X.env):PE X (.Attribute e f pos) (Mq X.K ta f):=by
 intro pins s σ H Q I h
 refine nU hb (thn (he pins s σ H _ I h) fun u s1 ⟨x,H1,I1,rx,a,C,dx,fs,v,ex,ea,c,n,l,q⟩=>?_)
 subst ex
 obtain rfl:u=Value.ref a:=rx
 exact lV I1 ea c n l fun u' s2 I2 ru=>⟨v,H1,I2,ru,q⟩
def Af (ha:PE X o ta) (hv:PE X value tv) (hs:swapsWith value (some (.Attribute o f pos')) pos.line X.env=pure false):PS X (.Assign [.Attribute o f pos'] value pos) (Mr X.K ta tv f):=by
 intro pins s σ H D I h
 refine a1u (thn (hv pins s σ H _ I h) fun u s1 ⟨y,H1,I1,ry,q⟩=>thn (ha pins s1 σ H1 _ I1 q) fun ov s2 ⟨x,H2,I2,rx,a,C,dx,fs,ex,ea,c,n,l,q2⟩=>?_) hs
 subst ex
 obtain rfl:ov=Value.ref a:=rx
 exact lX I2 ea c n l ry fun s3 I3=>⟨σ,_,I3,q2⟩
section
variable {X:Cx}{pins:MR}{σ:St}{H:Hp}{s:MZ}{A:Nt}{E:MW}{Q:MW}{c:Value}{b:Bool}
inductive nh (K:Nd) (H:Hp):V->Value->Prop where
 | non:nh K H .non (.type "NoneType")
 | bl (x:Bool):nh K H (.bl x) (.type "bool")
 | int (i:Int):nh K H (.int i) (.type "int")
 | str (x:Str):nh K H (.str x) (.type "str")
 | flt (x:UInt64):nh K H (.flt x) (.type "float")
 | lst {a:Addr}{xs:Nb}(e:H a=some (.lst xs)):nh K H (.ref a) (.type "list")
 | frz {a:Addr}{o:Obj}{xs:Nb}(e:H a=some (.frz o (.lst xs))):nh K H (.ref a) (.type "list")
 | tup {a:Addr}{xs:Nb}(e:H a=some (.tup xs)):nh K H (.ref a) (.type "tuple")
 | dK {a:Addr}{kvs:Ng}(e:H a=some (.dK kvs)):nh K H (.ref a) (.type "dict")
 | dT {a:Addr}{kvs:NS}(e:H a=some (.dT kvs)):nh K H (.ref a) (.type "dict")
 | ins {a C dx:Addr}{fs:Nu}(e:H a=some (.ins C dx fs)) (cl:Cls K C) (ha:PySem.W.findIn K (.ref C) "__class__" = some (some (.builtin "object.__class__")))
   (hn:PySem.W.specialIn K (.builtin "object.__class__") "__get__" = some (some (.builtin "getset_descriptor.__get__"))) (htk:PySem.W.takesIn K (.builtin "object.__class__")=some true)
   (hm:PySem.W.mroIn K C (.type "object")=some true):nh K H (.ref a) (.ref C)
end
structure k_ (k:Nat) (A:Nt):Prop where
 hd:A.handled=none
 dp:A.depth + 3 * k + 5 < recursionLimit
 un:A.units + 16 * k + 200 < cLine
def k_.mono (r:k_ k A) (h:j<=k):k_ j A:=⟨r.hd,by have:=r.dp;omega,by have:=r.un;omega⟩
def k_.deeper (r:k_ (k + 1) A) (env:Env):k_ k (A.deeper env):=
 ⟨r.hd,by have:=r.dp;show A.depth + 1 + 3 * k + 5 < _;omega,by have:=r.un;show A.units + 3 + 16 * k + 200 < _;omega⟩
def k_.in1 (r:k_ (k + 1) A):k_ k A.in1:=
 ⟨r.hd,by have:=r.dp;show A.depth + 3 * k + 5 < _;omega,by have:=r.un;show A.units + 1 + 16 * k + 200 < _;omega⟩
def lY {A:Nt}{C:Addr}{us:M_}{kw:NJ}:(A.under (.builtin "type.__call__" ⟨.ref C :: us,kw⟩)).depth=A.depth + 1:=by
 first | rfl | simp [Around.under,Code.weight,Code.isCreation,Code.isGuard,Code.isCaller,Code.frames,Code.isFrame,guardIds]
def lZ {A:Nt}{C:Addr}{us:M_}{kw:NJ}:(A.under (.builtin "type.__call__" ⟨.ref C :: us,kw⟩)).units=A.units + 1:=by
 first | rfl | simp [Around.under,Code.cUnits,Code.frames,Code.isFrame]
def k_.make (r:k_ (k + 1) A) (C:Addr) (us:M_) (kw:NJ):k_ k (A.under (.builtin "type.__call__" ⟨.ref C :: us,kw⟩)):=
 ⟨r.hd,by have:=r.dp;rw [lY];omega,by have:=r.un;rw [lZ];omega⟩
def k_.depth (r:k_ k A):A.depth < recursionLimit:=by have:=r.dp;omega
def k_.units (r:k_ k A):A.units + 64 < cLine:=by have:=r.un;omega
def HJ:TA:=fun _ H Q=>Q [] H
def En (ta:TE) (tr:TA):TA:=fun σ H Q=>ta σ H fun x H1=>tr σ H1 fun xs H2=>Q (x :: xs) H2
section
variable {X:Cx}{e:Nh}{es:Nc}{te:TE}{t:TA}{pos:Pos}
def aj:PA X [] HJ:=fun _ _ _ _ H Q I h=>a1k ⟨[],H,I,.nil,h⟩
def Yx (ha:PE X e te) (hr:PA X es t) (hs:starEach (e :: es) X.env=(false,eval e X.env) :: starEach es X.env:=by rfl):PA X (e :: es) (En te t):=by
 intro pos pins s σ H Q I h
 rw [hs]
 show wpAny _ _ (spliced ((false,eval e X.env) :: backTo pos (starEach es X.env))) _ _ s
 refine a0M (thn (ha pins s σ H _ I h) fun u s1 ⟨x,H1,I1,r1,q1⟩=>?_)
 exact thn (hr pos pins s1 σ H1 _ I1 q1) fun us s2 ⟨xs,H2,I2,r2,q2⟩=>⟨x :: xs,H2,I2,.cons r1 r2,q2⟩
def Lv (t:TA):TE:=fun σ H Q=>t σ H fun xs H1=>xs.length<=sizeLine/\∀ p,H1 p=none->Q (.ref p) (upd H1 p (.tup xs))
def Ms (t:TA):TE:=fun σ H Q=>t σ H fun xs H1=>xs.length<=sizeLine/\∀ p,H1 p=none->Q (.ref p) (upd H1 p (.lst xs))
def WU {x1} (h:PA X es t):PE X (.Tuple es x1 pos) (Lv t):=by
 intro pins s σ H Q I hq
 refine wpAny_Tuple_spliced (thn (h pos pins s σ H _ I hq) fun us s1 ⟨xs,H1,I1,r,z,q⟩=>⟨by rw [<- r.length];exact z, ?_⟩)
 have hf:H1 s1.heap.objs.size=none:=I1.hok.fresh (N1 _)
 refine ⟨.ref s1.heap.objs.size,upd H1 s1.heap.objs.size (.tup xs),I1.laid (t':=s1.toks) (fun b u e=>M7 _ e) (N1 _) ?_,rfl,q _ hf⟩
 exact ⟨z,us,r,⟨_,O7 _ rfl,rfl,_,rfl⟩⟩
def Ag (h:PA X es t):PE X (.List es pos) (Ms t):=by
 intro pins s σ H Q I hq
 refine wpAny_List_spliced (thn (h pos pins s σ H _ I hq) fun us s1 ⟨xs,H1,I1,r,z,q⟩=>⟨by rw [<- r.length];exact z, ?_⟩)
 have hf:H1 s1.heap.objs.size=none:=I1.hok.fresh (N1 _)
 refine ⟨.ref s1.heap.objs.size,upd H1 s1.heap.objs.size (.lst xs),I1.laid (t':=s1.toks) (fun b u e=>M7 _ e) (N1 _) ?_,rfl,q _ hf⟩
 exact ⟨z,us,0,r,O7 _ rfl⟩
end
abbrev Sp:=List V->Hp->VK->XK->Prop
abbrev CXT:=List Env->Hp->Shared->XK->Value->Shared->Prop
structure t9 (P:Nk) (w:Nq) (K:Nd) (mg:MU) (base:Heap) (A:Nt) (outer:List Env) (s:MZ) (H:Hp):Prop where
 frames:A.frames=some outer
 mod:Mod K mg base
 bs:∀ b o,base.get? b=some o->s.heap.get? b=some o/\H b=none
 bsz:base.objs.size<=s.heap.objs.size
 fq:s.heap.FunFrames base outer
 frf:∀ b∈frs outer,H b=none
 hok:HOk P w H s.heap
 bare:AllBare s.gens
def CE (outer:List Env) (P:Nk) (w:Nq) (H:Hp) (s:MZ) (Q:VK) (u:Value) (s':MZ):Prop:=
 ∃ v H',s'.os=s.os/\AllBare s'.gens/\Un (frs outer) [] H H' s.heap s'.heap/\HOk P w H' s'.heap/\RelV v u/\Q v H'
def CR (CX:CXT) (outer:List Env) (P:Nk) (w:Nq) (H:Hp) (s:MZ) (Q:VK) (E:XK) (r:Result) (s':MZ):Prop:=
 match r with
 | .ok (.ret u)=>CE outer P w H s Q u s'
 | .ok _=>False
 | .error e=>CX outer H s E e s'
structure y3 (P:Nk) (w:Nq) (K:Nd) (mg:MU) (base:Heap) (CX:CXT) (k:Nat) (f:Addr) (fd:Nr) (ps:MX) (sp:Sp):Prop where
 len:∀ vs H Q E,sp vs H Q E->vs.length=ps.length
 run:∀ (A:Nt) (outer:List Env) (s:MZ) (H:Hp) (args:Args) (us:M_) (vs:Nb) (Q:VK) (E:XK),k_ k A->t9 P w K mg base A outer s H->BindsTo s fd args (ps.zip us)->Vals vs us->sp vs H Q E->
  codeAny (model P w) A (.call (.ref f) args) (CR CX outer P w H s Q E) s
def y3.imp {P:Nk}{w:Nq}{K:Nd}{mg:MU}{base:Heap}{CX:CXT}{k:Nat}{f:Addr}{fd:Nr}{ps:MX}{sp sp':Sp}(F:y3 P w K mg base CX k f fd ps sp)
  (h:∀ vs H Q E,sp' vs H Q E->sp vs H Q E):y3 P w K mg base CX k f fd ps sp':=
 ⟨fun vs H Q E q=>F.len vs H Q E (h _ _ _ _ q),fun A outer s H args us vs Q E hr he hb hv hs=>F.run A outer s H args us vs Q E hr he hb hv (h _ _ _ _ hs)⟩
def t9.make {P:Nk}{w:Nq}{K:Nd}{mg:MU}{base:Heap}{A:Nt}{outer:List Env}{s:MZ}{H:Hp}(e:t9 P w K mg base A outer s H) (C:Addr) (us:M_) (kw:NJ):
  t9 P w K mg base (A.under (.builtin "type.__call__" ⟨.ref C :: us,kw⟩)) outer s H:=⟨by first | exact e.frames | (simpa [Around.under,Code.envs,Code.isFrame,pushEnvs] using e.frames),e.mod,e.bs,e.bsz,e.fq,e.frf,e.hok,e.bare⟩
def Inv.nj (I:Inv X pins σ H s):t9 X.prog X.w X.K X.mg X.base X.A X.stack s H:=
 ⟨I.ok.frames,I.ok.mod,I.bs,P6 I.ok.bsz I.sz,I.stack,I.aW,I.hok,I.bare⟩
def Inv.after (I:Inv X pins σ H s) (h:CE X.stack X.prog X.w H s Q u s'):EP X pins σ Q u s':=by
 obtain ⟨v,H',os,bare,un,hok,r,q⟩:=h
 obtain ⟨hh,g,d,t,os'⟩:=s'
 obtain rfl:os' = s.os:=os
 exact ⟨v,H',I.call (h':=hh) (g':=g) (d':=d) (t':=t) (ch:=[]) un hok bare (fun b z=>absurd z (by simp)),r,q⟩
def HK (sp:Sp) (dvs:Nb) (E:XK) (t:TA):TE:=fun σ H Q=>t σ H fun vs H1=>sp (vs++dvs) H1 Q E
def HL (C:Addr) (sp:Sp) (dvs:Nb) (E:XK) (t:TA):TE:=fun σ H Q=>t σ H fun vs H1=>∀ x dx,H1 x=none->H1 dx=none->dx≠x->
 sp (.ref x :: (vs++dvs)) (upd (upd H1 dx (.own x)) x (.ins C dx [])) (fun v H2=>v=.non/\Q (.ref x) H2) E
def Binds (K:Nd) (fd:Nr) (ps:MX) (ds:M_):Prop:=
 ∀ (s:MZ) (us:M_),K.In s.heap->(us++ds).length=ps.length->BindsTo s fd ⟨us,[]⟩ (ps.zip (us++ds))
def Binds.all {K:Nd}{fd:Nr}{ps:MX}(h:∀ us:List Value,us.length=ps.length->bindArgs fd ⟨us,[]⟩=pure (ps.zip us)):Binds K fd ps []:=fun s us _ hl=>by
 rw [O9] at hl ⊢
 exact .of_eq (h us hl)
def Passes (CX:CXT) (X:Cx) (E:XK):Prop:=∀ (pins:MR) (σ:St) (H:Hp) (s:MZ) (e:Value) (s':MZ),Inv X pins σ H s->CX X.stack H s E e s'->X.xe e s'
section
variable {X:Cx}{CX:CXT}{k:Nat}{f C:Addr}{fd:Nr}{ps:MX}{sp:Sp}{dvs:Nb}{ds:M_}{E:XK}{x m:Str}{p pos kA:Pos}{e o:Nh}{es:Nc}{ta:TE}{t:TA}
def nV (F:y3 X.prog X.w X.K X.mg X.base CX k f fd ps sp) (hr:k_ k X.A) (hb:Binds X.K fd ps ds) (hd:Vals dvs ds) (hx:Passes CX X E)
  (I:Inv X pins σ H s) (r:Vals vs us) (h:sp (vs++dvs) H Q E):wpAny (Oc X) X.A (call (.ref f) us) (EP X pins σ Q) X.xe s:=by
 have r2:Vals (vs++dvs) (us++ds):=r.append hd
 have hl:(us++ds).length=ps.length:=by rw [<- r2.length];exact F.len _ _ _ _ h
 refine a0C (a0E (F.run X.A X.stack s H ⟨us,[]⟩ (us++ds) (vs++dvs) Q E hr I.nj (hb s us I.kIn hl) r2 h) fun r s' hq=>?_)
 cases r with
 | error e=>exact hx pins σ H s e s' I hq
 | ok fl=>
  cases fl with
  | ret u=>exact I.after hq
  | next=>exact False.elim hq
  | brk=>exact False.elim hq
  | cont=>exact False.elim hq
def fz (F:y3 X.prog X.w X.K X.mg X.base CX k f fd ps sp) (hr:k_ k X.A) (hg:Gl X x) (hm:X.mg x=some (.ref f)) (hk:PySem.W.keepIn X.K (.ref f)=true) (hb:Binds X.K fd ps ds) (hd:Vals dvs ds) (hx:Passes CX X E)
  (ha:PA X (e :: es) t) (hdb:(x == ("__debug__" : Str))=false:=by decide) (he:starEach (e :: es) X.env=(false,eval e X.env) :: starEach es X.env:=by rfl) (hpl:(backTo pos (starEach es X.env)).any (·.1)=false:=by rfl):
  PE X (.Call (.Name x p) (e :: es) [] pos) (HK sp dvs E t):=by
 intro pins s σ H Q I h
 refine T9 (Jn I hg hm ?_ hdb)
 refine a0N (h₀:=X.base) I.ok.mod.kin hk (thn (ha pos pins s σ H _ I h) fun us s1 ⟨vs,H1,I1,r,q⟩=>⟨I1.kIn, ?_⟩) he hpl
 exact nV F hr hb hd hx I1 r q
structure Mk (K:Nd) (C f:Addr):Prop where
 makes:PySem.W.makesIn K C=true
 init:PySem.W.findIn K (.ref C) "__init__" = some (some (.ref f))
 fn:PySem.W.isFn K (.ref f)=true
 kp:PySem.W.keepIn K (.ref C)=true
def t_ (M:Mk X.K C f) (F:y3 X.prog X.w X.K X.mg X.base CX k f fd ps sp) (hr:k_ (k + 1) X.A) (hb:Binds X.K fd ps ds) (hd:Vals dvs ds)
  (hx:Passes CX X E) (I:Inv X pins σ H s) (r:Vals vs us)
  (h:∀ x dx,H x=none->H dx=none->dx≠x->sp (.ref x :: (vs++dvs)) (upd (upd H dx (.own x)) x (.ins C dx [])) (fun v H2=>v=.non/\Q (.ref x) H2) E):
  wpAny (Oc X) X.A (call (.ref C) us) (EP X pins σ Q) X.xe s:=by
 have hq:=h (s.heap.objs.size + 1) s.heap.objs.size (I.hok.fresh (a0m _)) (I.hok.fresh (N1 _)) (O1 (a0a _))
 have I2:=Inv.made (C:=C) I
 have r2:Vals (V.ref (s.heap.objs.size + 1) :: (vs++dvs)) (Value.ref (s.heap.objs.size + 1) :: (us++ds)):=.cons rfl (r.append hd)
 have hl:(Value.ref (s.heap.objs.size + 1) :: us++ds).length=ps.length:=by
  have e:=r2.length
  rw [F.len _ _ _ _ hq] at e
  exact e.symm
 refine a0C (t8 (f:=f) I.kIn M.makes M.init (P7.mp M.fn) (a0E (F.run _ X.stack _ _ ⟨Value.ref (s.heap.objs.size + 1) :: us,[]⟩ (Value.ref (s.heap.objs.size + 1) :: (us++ds)) _ _ E (hr.make C us [])
  (I2.nj.make C us []) (hb _ (Value.ref (s.heap.objs.size + 1) :: us) I2.kIn hl) r2 hq) fun r s' hq'=>?_))
 cases r with
 | error e=>exact hx pins σ _ _ e s' I2 hq'
 | ok fl=>
  cases fl with
  | ret u=>
   obtain ⟨v,H',I3,rv,ev,q3⟩:=I2.after hq'
   subst ev
   exact ⟨rv,⟨V.ref (s.heap.objs.size + 1),H',I3,rfl,q3⟩⟩
  | next=>exact False.elim hq'
  | brk=>exact False.elim hq'
  | cont=>exact False.elim hq'
def nW (M:Mk X.K C f) (F:y3 X.prog X.w X.K X.mg X.base CX k f fd ps sp) (hr:k_ (k + 1) X.A) (hg:Gl X x) (hm:X.mg x=some (.ref C)) (hb:Binds X.K fd ps ds) (hd:Vals dvs ds) (hx:Passes CX X E)
  (ha:PA X (e :: es) t) (hdb:(x == ("__debug__" : Str))=false:=by decide) (he:starEach (e :: es) X.env=(false,eval e X.env) :: starEach es X.env:=by rfl) (hpl:(backTo pos (starEach es X.env)).any (·.1)=false:=by rfl):
  PE X (.Call (.Name x p) (e :: es) [] pos) (HL C sp dvs E t):=by
 intro pins s σ H Q I h
 refine T9 (Jn I hg hm ?_ hdb)
 refine a0N (h₀:=X.base) I.ok.mod.kin M.kp (thn (ha pos pins s σ H _ I h) fun us s1 ⟨vs,H1,I1,r,q⟩=>⟨I1.kIn, ?_⟩) he hpl
 exact t_ M F hr hb hd hx I1 r q
end
def PK (X:Cx) (kws:List Keyword) (t:TA):Prop:=
 ∀ (pos:Pos) (pins:MR) (s:MZ) (σ:St) (H:Hp) (Q:List V->Hp->Prop),Inv X pins σ H s->t σ H Q->wpAny (Oc X) X.A (evalAll ((backToKw pos (keywordEach kws X.env)).map (·.2))) (AP X pins σ Q) X.xe s
section
variable {X:Cx}{CX:CXT}{k:Nat}{f C:Addr}{fd:Nr}{ps ks:MX}{sp:Sp}{E:XK}{x m:Str}{p pos kA kpos:Pos}{e o:Nh}{es:Nc}{kws:List Keyword}{te ta:TE}{t tk:TA}{nm:Option Str}
def Eo:PK X [] HJ:=fun _ _ _ _ H Q I h=>wpAny_evalAll_nil ⟨[],H,I,.nil,h⟩
def BI (ha:PE X e te) (hr:PK X kws t):PK X (⟨nm,e,kpos⟩ :: kws) (En te t):=by
 intro pos pins s σ H Q I h
 show wpAny _ _ (evalAll ((do let v <- eval e X.env;standAt pos;pure v) :: (backToKw pos (keywordEach kws X.env)).map (·.2))) _ _ s
 refine wpAny_evalAll_cons (f8 (thn (ha pins s σ H _ I h) fun u s1 ⟨x,H1,I1,r1,q1⟩=>f8 (a1r (N5 ?_))))
 exact thn (hr pos pins s1 σ H1 _ I1 q1) fun us s2 ⟨xs,H2,I2,r2,q2⟩=>⟨x :: xs,H2,I2,.cons r1 r2,q2⟩
variable {g:List Value->List Value->List Value}{gV:List V->List V->List V}
end
structure zu (N P:MX) (sc:Scope):Prop where
 kind:sc.kind=.function
 co:sc.isCoroutine=false
 gen:sc.isGenerator=false
 nd:N.Nodup
 pre:N.take P.length=P
 par:∀ x∈P,sc.names.lookup x=some .local\/sc.names.lookup x=some .cell
 GQ:∀ y∈sc.names,y.2≠.free
def c6 {kindOf:NQ}{x:Str}:∀ {binds:NJ}{m:MU},(∀ v,(x,v)∉binds)->bindL kindOf binds m x=m x
 | [],_,_=>rfl
 | (n,v) :: r,m,h=>by
  unfold bindL
  rw [c6 fun w hw=>h w (M9 _ hw)]
  split
  .have:x≠n:=by rintro rfl;exact h v v4
   simp [this]
  .rfl
def c7 {kindOf:NQ}{x:Str}:∀ {binds:NJ}{m:MU},(∀ v,(x,v)∉binds)->bindC kindOf binds m x=m x
 | [],_,_=>rfl
 | (n,v) :: r,m,h=>by
  unfold bindC
  rw [c7 fun w hw=>h w (M9 _ hw)]
  split
  .rfl
  .have:x≠n:=by rintro rfl;exact h v v4
   simp [this]
def c8 {kindOf:NQ}{x:Str}{v:Value}:∀ {P:MX}{vs:M_}{i:Nat}{m:MU},P.Nodup->P[i]? = some x->vs[i]? = some v->kindOf x=some .local->
  bindL kindOf (P.zip vs) m x=some v
 | [],_,_,_,_,h,_,_=>by simp at h
 | _ :: _,[],_,_,_,_,h,_=>by simp at h
 | p :: P,w :: vs,0,m,nd,h1,h2,hk=>by
  simp at h1 h2;subst h1;subst h2
  show bindL kindOf ((p,w) :: P.zip vs) m p=_
  unfold bindL
  rw [c6 fun v hv=>(a0s.mp nd).1 (a2p hv).1,if_pos hk]
  simp
 | p :: P,w :: vs,i + 1,m,nd,h1,h2,hk=>by
  show bindL kindOf ((p,w) :: P.zip vs) m x=_
  unfold bindL
  exact c8 (i:=i) (a0s.mp nd).2 (by simpa using h1) (by simpa using h2) hk
def c9 {kindOf:NQ}{x:Str}{v:Value}:∀ {P:MX}{vs:M_}{i:Nat}{m:MU},P.Nodup->P[i]? = some x->vs[i]? = some v->kindOf x≠some .local->
  bindC kindOf (P.zip vs) m x=some v
 | [],_,_,_,_,h,_,_=>by simp at h
 | _ :: _,[],_,_,_,_,h,_=>by simp at h
 | p :: P,w :: vs,0,m,nd,h1,h2,hk=>by
  simp at h1 h2;subst h1;subst h2
  show bindC kindOf ((p,w) :: P.zip vs) m p=_
  unfold bindC
  rw [c7 fun v hv=>(a0s.mp nd).1 (a2p hv).1,if_neg hk]
  simp
 | p :: P,w :: vs,i + 1,m,nd,h1,h2,hk=>by
  show bindC kindOf ((p,w) :: P.zip vs) m x=_
  unfold bindC
  exact c9 (i:=i) (a0s.mp nd).2 (by simpa using h1) (by simpa using h2) hk
def start (N:MX) (vs:Nb):St:=vs.map some++List.replicate (N.length - vs.length) none
def l4 (CX:CXT) (P:Nk) (w:Nq) (K:Nd) (mg:MU) (base:Heap) (N:MX) (qual:Str) (scope:Scope) (f:Addr) (cd:Value) (A:Nt) (outer:List Env) (s:MZ) (H:Hp) (E:XK):Cx where
 prog:=P
 w:=w
 K:=K
 mg:=mg
 base:=base
 A:=A.deeper (envOfC qual scope s.heap.objs.size f cd)
 N:=N
 s₀:=s
 H₀:=H
 env:=envOfC qual scope s.heap.objs.size f cd
 outer:=outer
 stack:=envOfC qual scope s.heap.objs.size f cd :: outer
 ex:=[]
 calm:=true
 fn:=fun _=>true
 pn:=[]
 xe:=fun e s'=>wpAny (model P w) (A.deeper (envOfC qual scope s.heap.objs.size f cd)) (leaving (envOfC qual scope s.heap.objs.size f cd) e) (fun _ s''=>CX outer H s E e s'') (fun e' s''=>CX outer H s E e' s'') s'
def g7 {sc:Scope}{n:Nat}{x:Str}(h:sc.names.lookup x=some .cell):∃ c,(cellsFrom n sc.names []).lookup x=some c:=by
 have q:=a2s sc.names n [] (.inl h)
 exact a0f.mp q
def nX {CX:CXT}{P:Nk}{w:Nq}{K:Nd}{mg:MU}{base:Heap}{N ps:MX}{qual:Str}{scope:Scope}{f:Addr}{cd:Value}{A:Nt}{outer:List Env}{s s1:MZ}{H:Hp}{E:XK}{us:M_}{vs:Nb}
  (S:zu N ps scope) (hd:A.handled=none) (e0:t9 P w K mg base A outer s H) (hl:vs.length=ps.length) (r:Vals vs us)
  (x:InCallC s s.heap.objs.size (bindL (envOfC qual scope s.heap.objs.size f cd).kindOf (ps.zip us) fun _=>none) (cellsFrom (s.heap.objs.size + 1) scope.names []) (bindC (envOfC qual scope s.heap.objs.size f cd).kindOf (ps.zip us) fun _=>none) s1):
  Inv (l4 CX P w K mg base N qual scope f cd A outer s H E) [] (start N vs) H s1:=by
 have hpl:ps.length<=N.length:=by have:=S0 List.length S.pre;rw [a0W] at this;omega
 obtain ⟨h1,tk,rfl,hk⟩:=x.done
 have noA:∀ b:Addr,b∉(l4 CX P w K mg base N qual scope f cd A outer s H E).ex:=fun b z=>absurd (show b∈([]:List Addr) from z) (by simp)
 refine ⟨⟨e0.mod,S.kind,rfl,rfl,N1 _,fun y z c h1 h2=>?_,fun y hy=>?_,fun y c _ h=>?_,fun _=>hd,Around.frames_deeper e0.frames,.inr ⟨rfl,rfl⟩,fun b z=>absurd z (noA b),e0.bs,e0.bsz,fun b _ _=>noA b,fun b z=>absurd z (noA b),e0.fq,e0.frf⟩,
  rfl,e0.bare,Un.kept hk,⟨_,x.toInCall.ns,fun i y v h1 h2 h3=>?_⟩,fun y c h=>⟨_,x.cell y c h⟩,e0.hok.fresh (N1 _),fun y c h=>?_,fun p hp=>absurd (show p∈([]:List (Addr × Obj)) from hp) (by simp),e0.hok.kept hk, ?_⟩
 .exact name_of_addr x.apart (a0G h1) (a0G h2)
 .have hy:scope.names.lookup y=some .cell\/scope.names.lookup y=some .free:=hy
  rcases hy with hy | hy
  .exact g7 hy
  .exact absurd rfl (S.GQ _ (a0G hy))
 .exact a1v (x.above y c (a0G h))
 .have hi:i < vs.length:=by
   unfold start at h2
   by_cases hi:i < vs.length
   .exact hi
   .rw [a0B (by simpa using hi)] at h2
    rw [a0t] at h2
    split at h2 <;> cases h2
  have ha:vs[i]? = some v:=by
   unfold start at h2
   rw [S8 (by simpa using hi),P0] at h2
   cases e:vs[i]? with
   | none=>rw [e] at h2;cases h2
   | some a=>rw [e] at h2;cases h2;rfl
  obtain ⟨u,hu,rv⟩:=r.get ha
  have hp:ps[i]? = some y:=by
   rw [<- S.pre,List.getElem?_take_of_lt (by omega)];exact h1
  have ndP:ps.Nodup:=by rw [<- S.pre];exact S.nd.sublist (List.take_sublist _ _)
  refine ⟨u,rv, ?_⟩
  rcases S.par y (a0X hp) with k | k
  .exact .inl ⟨k,c8 ndP hp hu k⟩
  .obtain ⟨c,e⟩:=g7 (n:=s.heap.objs.size + 1) k
   refine .inr ⟨.inl k,c,e, ?_⟩
   have q:=x.cell y c e
   rw [c9 ndP hp hu (by show scope.names.lookup y≠_;rw [k];decide)] at q
   exact q
 .exact e0.hok.fresh (a1v (x.above y c (a0G h)))
 .unfold start
  show _=N.length
  rw [M6,u8,a0y]
  omega
def HN {CX:CXT}{P:Nk}{w:Nq}{K:Nd}{mg:MU}{base:Heap}{k:Nat}{f:Addr}{name qual:Str}{params:Arguments}{body:Nx}{scope:Scope}{dV kV doc pm cdv ct oc:Value}{an od:ND}
  {osl:NC}{N ps:MX}{sp:Sp}(lk:K.lookup f=some ⟨oc,od,.func (PySem.W.fnOf name qual params body scope dV kV doc pm an cdv ct),osl⟩) (hcd:PySem.W.codeIn K cdv qual=true) (S:zu N ps scope)
  (len:∀ vs H Q E,sp vs H Q E->vs.length=ps.length)
  (m9:∀ (A:Nt) (outer:List Env) (s:MZ) (H:Hp) (vs:Nb) (Q:VK) (E:XK),k_ k (A.deeper (envOfC qual scope s.heap.objs.size f cdv))->sp vs H Q E->
   ∃ t,PSs (l4 CX P w K mg base N qual scope f cdv A outer s H E) body t/\t { nx:=fun _ H'=>Q .non H',rt:=Q } (start N vs) H):
  y3 P w K mg base CX (k + 1) f (PySem.W.fnOf name qual params body scope dV kV doc pm an cdv ct) ps sp:=by
 refine ⟨len,fun A outer s H args us vs Q E hr e0 hb r hsp=>?_⟩
 have hl:=len _ _ _ _ hsp
 have KX:K.In s.heap:=e0.mod.kin.keeps fun b o e=>(e0.bs b o e).1
 have lim:s.heap.NoLimit:=e0.mod.nolimit.keeps fun b o e=>(e0.bs b o e).1
 have hkind:∀ y∈ps.zip us,scope.names.lookup y.1=some .local\/(scope.names.lookup y.1=some .cell/\((cellsFrom (s.heap.objs.size + 1) scope.names []).lookup y.1).isSome=true):=fun ⟨n,v⟩ hy=>by
  rcases S.par n (a2p hy).1 with q | q
  .exact .inl q
  .exact .inr ⟨q,a2s _ _ _ (.inl q)⟩
 refine codeAny_call_function hr.depth (KX _ _ lk) rfl S.co S.gen rfl (PySem.W.codeRec_of KX hcd) (hb _ _ _ _ ?_)
 refine wpAny_newFunctionEnv_cells S.kind hkind fun env he s1 x=>?_
 subst he
 refine ⟨lim.keeps x.toInCall.keep,codeAny_func ?_⟩
 obtain ⟨t,ht,hq⟩:=m9 A outer s H vs Q E (hr.deeper _) hsp
 have I:Inv (l4 CX P w K mg base N qual scope f cdv A outer s H E) [] (start N vs) H s1:=nX S hr.hd e0 hl r x
 refine S4 (ht [] s1 (start N vs) H _ I hq) (fun fl s' hs=>?_) fun e s' hs=>hs
 have fin:∀ {σ':St}{H':Hp}{v:V}{u:Value},Inv (l4 CX P w K mg base N qual scope f cdv A outer s H E) [] σ' H' s'->RelV v u->Q v H'->CE outer P w H s Q u s':=
  fun {σ' H' v u} J rv q=>⟨v,H',J.os,J.bare,J.base,J.hok,rv,q⟩
 cases fl with
 | ret u=>
  obtain ⟨v,σ',H',J,rv,q⟩:=hs
  exact fin J rv q
 | next=>
  obtain ⟨σ',H',J,q⟩:=hs
  exact fin (v:=V.non) (u:=Value.none) J rfl q
 | brk=>
  obtain ⟨_,_,_,q⟩:=hs
  exact False.elim q
 | cont=>
  obtain ⟨_,_,_,q⟩:=hs
  exact False.elim q
section
variable {X:Cx}{x:Str}{p pos:Pos}{e:Nh}{es:Nc}{t:TA}{id T:String}{r:List V->Hp->VK->Prop}
def tCB (r:List V->Hp->VK->Prop) (t:TA):TE:=fun σ H Q=>t σ H fun vs H1=>r vs H1 Q
def g8 (hc:Yu X (.builtin id) r) (hg:Gl X x) (hm:X.mg x=none) (hv:bootBuiltins x=some (.builtin id)) (ha:PA X (e :: es) t) (hn:x ≠ "__name__" := by decide) (hdb:(x == ("__debug__" : Str))=false:=by decide)
  (he:starEach (e :: es) X.env=(false,eval e X.env) :: starEach es X.env:=by rfl) (hpl:(backTo pos (starEach es X.env)).any (·.1)=false:=by rfl):PE X (.Call (.Name x p) (e :: es) [] pos) (tCB r t):=by
 intro pins s σ H Q I h
 refine T9 (Vp I hg hm hv ?_ hn hdb)
 exact PyProof.Rows.callWith_builtin1 (thn (ha pos pins s σ H _ I h) fun us s1 ⟨vs,H1,I1,r1,q1⟩=>hc pins s1 σ H1 vs us Q I1 r1 q1) he hpl
def nY (hc:Yu X (.type T) r) (hg:Gl X x) (hm:X.mg x=none) (hv:bootBuiltins x=some (.type T)) (ha:PA X (e :: es) t) (hn:x ≠ "__name__" := by decide) (hdb:(x == ("__debug__" : Str))=false:=by decide)
  (he:starEach (e :: es) X.env=(false,eval e X.env) :: starEach es X.env:=by rfl) (hpl:(backTo pos (starEach es X.env)).any (·.1)=false:=by rfl):PE X (.Call (.Name x p) (e :: es) [] pos) (tCB r t):=by
 intro pins s σ H Q I h
 refine T9 (Vp I hg hm hv ?_ hn hdb)
 exact a0k (thn (ha pos pins s σ H _ I h) fun us s1 ⟨vs,H1,I1,r1,q1⟩=>hc pins s1 σ H1 vs us Q I1 r1 q1) he hpl
end
end L2
namespace HT
open PySem PyProof.Rows
section
open PySem.SeqAt
open PySem.AutoSeq1 (wpAny_loadPart')
open PySem.MeetsSeq PySem.MeetsSeq2 PySem.MeetsSeq3
end
section
variable {prog:Nk}{w:Nq}{A:Nt}{E:MW}{s:MZ}
def sIx (n d:Nat):Option Int->Nat
 | none=>d
 | some v=>if v < 0 then (v + (n:Int)).toNat else min v.toNat n
end
end HT
namespace L2
open PySem PySem.Spec PyProof.Rows
abbrev TO:=St->Hp->(Option Int->Hp->Prop)->Prop
def PO (X:Cx) (e:NV) (t:TO):Prop:=
 ∀ (pins:MR) (s:MZ) (σ:St) (H:Hp) (Q:Option Int->Hp->Prop),Inv X pins σ H s->t σ H Q->
  wpAny (Oc X) X.A (evalPart e X.env) (fun u s'=>∃ o H',Inv X pins σ H' s'/\IsPart u o/\Q o H') X.xe s
def BJ:TO:=fun _ H Q=>Q none H
def HP (t:TE):TO:=fun σ H Q=>t σ H fun x H1=>∃ i,x=.int i/\Q (some i) H1
section
variable {X:Cx}{e:Nh}{te:TE}{lo hi:NV}{tl th:TO}{pos p2:Pos}
def BK:PO X none BJ:=by
 intro pins s σ H Q I h
 rw [evalPart_none]
 exact N5 ⟨none,H,I,.none,h⟩
def BL (h:PE X e te):PO X (some e) (HP te):=by
 intro pins s σ H Q I hw
 rw [evalPart_some]
 refine thn (h pins s σ H _ I hw) fun u s1 ⟨x,H1,I1,r1,q1⟩=>?_
 obtain ⟨i,rfl,q⟩:=q1
 obtain ⟨t,rfl⟩:=r1
 exact ⟨some i,H1,I1,.int i t,q⟩
def SlR (X:Cx) (r:V->Option Int->Option Int->Hp->VK->Prop):Prop:=
 ∀ (pins:MR) (s:MZ) (σ:St) (H:Hp) (x:V) (v vl vu:Value) (lo hi:NO) (sl:Addr) (Q:VK),Inv X pins σ H s->RelV x v->s.heap.IsSliceOf sl vl vu .none->IsPart vl lo->IsPart vu hi->r x lo hi H Q->
  ∃ T id,typeLookup (.type T) "__getitem__" = pure (some (.builtin id))/\s.TypeIs v T/\wpAny (Oc X) X.A (getItem v (.ref sl)) (EP X pins σ Q) X.xe s
def SlR.or (h:SlR X r) (h':SlR X r'):SlR X (fun x lo hi H Q=>r x lo hi H Q\/r' x lo hi H Q):=by
 intro pins s σ H x v vl vu lo hi sl Q I rx hs pl pu q
 rcases q with q | q
 .exact h pins s σ H x v vl vu lo hi sl Q I rx hs pl pu q
 .exact h' pins s σ H x v vl vu lo hi sl Q I rx hs pl pu q
def tSl (r:V->Option Int->Option Int->Hp->VK->Prop) (te:TE) (tl th:TO):TE:=fun σ H Q=>te σ H fun x H1=>tl σ H1 fun l H2=>th σ H2 fun u H3=>r x l u H3 Q
def ua (hr:SlR X r) (he:PE X e te) (hl:PO X lo tl) (hu:PO X hi th):PE X (.Subscript e (.Slice lo hi none p2) pos) (tSl r te tl th):=by
 intro pins s σ H Q I h
 refine Subscript_ (thn (he pins s σ H _ I h) fun v s1 ⟨x,H1,I1,r1,q1⟩=>?_)
 refine wpAny_Slice (thn (hl pins s1 σ H1 _ I1 q1) fun vl s2 ⟨l,H2,I2,pl,q2⟩=>thn (hu pins s2 σ H2 _ I2 q2) fun vu s3 ⟨u,H3,I3,pu,q3⟩=>?_)
 rw [evalPart_none]
 refine N5 ?_
 have I4:Inv X pins σ H3 { s3 with heap:=s3.heap.push { cls:=.type "slice",data:=.fields #[vl,vu,.none] } }:=I3.kept (t':=s3.toks) fun b ob q=>M7 _ q
 obtain ⟨T,id,hT,ht,hg⟩:=hr pins { s3 with heap:=s3.heap.push { cls:=.type "slice",data:=.fields #[vl,vu,.none] } } σ H3 x v vl vu l u s3.heap.objs.size Q I4 r1 (Heap.IsSliceOf.new ..) pl pu q3
 show wpAny (Oc X) X.A (subscriptTail e (.Slice lo hi none p2) v (.ref s3.heap.objs.size)) (EP X pins σ Q) X.xe { s3 with heap:=s3.heap.push { cls:=.type "slice",data:=.fields #[vl,vu,.none] } }
 exact tail_any (ops:=[.ref s3.heap.objs.size,v]) ht hT hg (by with_unfolding_all rfl)
def Ah (xs:Nb) (lo hi:NO):List V:=(xs.drop (HT.sIx xs.length 0 lo)).take (HT.sIx xs.length xs.length hi - HT.sIx xs.length 0 lo)
def fB (xs:Nb) (lo hi:NO):(Ah xs lo hi).length<=xs.length:=by
 unfold Ah
 rw [a0W,a16]
 omega
end
def ixN (n:Nat) (i:Int):Option Nat:=if 0<=i then (if i < n then some i.toNat else none) else if -(n:Int)<=i then some (i + n).toNat else none
def atI {α:Type}(xs:List α) (i:Int):Option α:=(ixN xs.length i).bind fun j=>xs[j]?
def BM (h:ixN n i=some j):seqIndex? i n=some j/\j < n/\-(n:Int)<=i/\i < n:=by
 unfold ixN at h
 by_cases h0:0<=i
 .rw [if_pos h0] at h
  by_cases h1:i < n
  .rw [if_pos h1] at h
   have e:i.toNat=j:=T1 h
   exact ⟨by rw [seqIndex_of h0 h1,e],by omega,by omega,h1⟩
  .rw [if_neg h1] at h;cases h
 .rw [if_neg h0] at h
  by_cases h1:-(n:Int)<=i
  .rw [if_pos h1] at h
   have e:(i + n).toNat=j:=T1 h
   exact ⟨by rw [seqIndex_neg (by omega) h1,e],by omega,h1,by omega⟩
  .rw [if_neg h1] at h;cases h
def fC {α:Type}{xs:List α}{v:α}(h:atI xs i=some v):∃ j,seqIndex? i xs.length=some j/\xs[j]? = some v/\j < xs.length/\-(xs.length:Int)<=i/\i < xs.length:=by
 unfold atI at h
 cases e:ixN xs.length i with
 | none=>rw [e] at h;cases h
 | some j=>
  rw [e] at h
  obtain ⟨h1,h2,h3,h4⟩:=BM e
  exact ⟨j,h1,h,h2,h3,h4⟩
def ba (b:Nh):Prop:=∀ o i,subscripted b false o i=operate [o,i] (getItem o i)
def IxR (X:Cx) (r:R2):Prop:=
 ∀ (value slice:Nh) (pins:MR) (s:MZ) (σ:St) (H:Hp) (x y:V) (v u:Value) (Q:VK),Inv X pins σ H s->RelV x v->RelV y u->r x y H Q->
  subscripted slice false v u=operate [v,u] (getItem v u)->wpAny (Oc X) X.A (subscriptTail value slice v u) (EP X pins σ Q) X.xe s
def MtR (X:Cx) (id:String) (r:V->List V->Hp->VK->Prop):Prop:=
 ∀ (pins:MR) (s:MZ) (σ:St) (H:Hp) (x:V) (xs:Nb) (v:Value) (us:M_) (Q:VK),Inv X pins σ H s->RelV x v->Vals xs us->r x xs H Q->
  wpAny (Oc X) X.A (call (.builtin id) (v :: us)) (EP X pins σ Q) X.xe s
section
variable {X:Cx}{a b:Nh}{ta tb:TE}{pos:Pos}
def IxR.or (h:IxR X r) (h':IxR X r'):IxR X (fun x y H Q=>r x y H Q\/r' x y H Q):=by
 intro value slice pins s σ H x y v u Q I rx ry q hs
 rcases q with q | q
 .exact h value slice pins s σ H x y v u Q I rx ry q hs
 .exact h' value slice pins s σ H x y v u Q I rx ry q hs
def BO (hr:IxR X r) (ha:PE X a ta) (hb:PE X b tb) (hs:ba b):PE X (.Subscript a b pos) (tOp r ta tb):=by
 intro pins s σ H Q I h
 exact Subscript_ (HB ha hb I h fun v u s2 x y H2 I2 rx ry q=>hr a b pins s2 σ H2 x y v u Q I2 rx ry q (hs _ _))
def Lw (K:Nd):R2:=fun x y H Q=>∃ p xs i v,x=.ref p/\y=.int i/\SqL K H p xs/\atI xs i=some v/\Q v H
def Lx (K:Nd):R2:=fun x y H Q=>∃ p xs i v,x=.ref p/\y=.int i/\SqT K H p xs/\atI xs i=some v/\Q v H
def Ly:R2:=fun x y H Q=>∃ z i c,x=.str z/\y=.int i/\z.length<=sizeLine/\atI z.cps.toList i=some c/\Q (.str ⟨#[c]⟩) H
def BP:IxR X (Lw X.K):=by
 intro value slice pins s σ H x y v u Q I rx ry h hs
 obtain ⟨p,xs,i,z,rfl,rfl,hq,he,q⟩:=h
 cases rx
 obtain ⟨t,rfl⟩:=ry
 obtain ⟨its,r,pl,hz⟩:=I.list hq
 obtain ⟨j,h1,h2,h3,h4,h5⟩:=fC he
 obtain ⟨w,ew,rw'⟩:=r.get h2
 have hl:=r.length
 have hn:=g6
 have fin:EP X pins σ Q w s:=⟨z,H,I,rw',q⟩
 by_cases h0:0<=i
 .have hj:i.toNat=j:=by
   rw [seqIndex_of h0 h5] at h1
   exact T1 h1
  exact item_listR pl.isList h0 (by omega) (by rw [hj];simpa using ew) fin hs
 .have hj:(i + (its.toArray.size:Int)).toNat=j:=by
   rw [seqIndex_neg (by omega) h4] at h1
   rw [O4,<- hl]
   exact T1 h1
  exact a2t (x:=w) pl.isList.typeIs slot_list_getitem.lookup
   (wpAny_getItem_list_neg (Q:=fun r s'=>r=w/\EP X pins σ Q r s') pl.isList (by omega) (by rw [O4] <;> omega) (by omega) (by rw [hj];simpa using ew) ⟨rfl,fin⟩) hs
def Ep:IxR X (Lx X.K):=by
 intro value slice pins s σ H x y v u Q I rx ry h hs
 obtain ⟨p,xs,i,z,rfl,rfl,hq,he,q⟩:=h
 cases rx
 obtain ⟨t,rfl⟩:=ry
 obtain ⟨its,r,pl,hz⟩:=I.tuple hq
 obtain ⟨j,h1,h2,h3,h4,h5⟩:=fC he
 obtain ⟨w,ew,rw'⟩:=r.get h2
 have hl:=r.length
 have hn:=g6
 have fin:EP X pins σ Q w s:=⟨z,H,I,rw',q⟩
 exact a2t (x:=w) pl.typeIs slot_tuple_getitem.lookup
  (getItem_tuple (j:=j) (Q:=fun r s'=>r=w/\EP X pins σ Q r s') pl (by omega) (by omega) (by rw [O4,<- hl];exact h1) (by simpa using ew) ⟨rfl,fin⟩) hs
def QH:IxR X Ly:=by
 intro value slice pins s σ H x y v u Q I rx ry h hs
 obtain ⟨z,i,c,rfl,rfl,hz,he,q⟩:=h
 obtain ⟨t,rfl⟩:=rx
 obtain ⟨t',rfl⟩:=ry
 obtain ⟨j,h1,h2,h3,h4,h5⟩:=fC he
 have hl:z.cps.toList.length=z.length:=by simp [Str.length]
 rw [hl] at h1 h4 h5
 have hn:=g6
 exact tail_any (typeIs_str s z t) slot_str_getitem.lookup (getItem_str (c:=c) (by
  have e1:decide (i < -(2 ^ 63:Int))=false:=N6 (by omega)
  have e2:decide (i ≥ 2 ^ 63)=false:=N6 (by omega)
  rw [e1,e2,Bool.or_false]) (by rw [h1];simpa using h2) ⟨.str ⟨#[c]⟩,H,I.tok _,⟨_,rfl⟩,q⟩) hs
def rIx (K:Nd):R2:=fun x y H Q=>Lw K x y H Q\/Lx K x y H Q\/Ly x y H Q
def Ai:IxR X (rIx X.K):=BP.or (Ep.or QH)
def c_ (lo hi:NO) (n:Nat):(sliceBounds lo hi none n).1=((HT.sIx n 0 lo:Nat):Int)/\(sliceBounds lo hi none n).2.1=((HT.sIx n n hi:Nat):Int)/\(sliceBounds lo hi none n).2.2=1:=by
 refine ⟨?_, ?_,rfl⟩
 .cases lo with
  | none=>simp [sliceBounds,HT.sIx]
  | some i=>
   simp only [sliceBounds,HT.sIx,Option.getD_none,show (1:Int) > 0 by decide,if_true]
   by_cases h:i < 0
   .simp only [h,if_true] <;> omega
   .simp only [h,if_false] <;> omega
 .cases hi with
  | none=>simp [sliceBounds,HT.sIx]
  | some i=>
   simp only [sliceBounds,HT.sIx,Option.getD_none,show (1:Int) > 0 by decide,if_true]
   by_cases h:i < 0
   .simp only [h,if_true] <;> omega
   .simp only [h,if_false] <;> omega
def bb (its:M_) (lo hi:NO):slicePick its.toArray lo hi none=((its.drop (HT.sIx its.length 0 lo)).take (HT.sIx its.length its.length hi - HT.sIx its.length 0 lo)).toArray:=by
 obtain ⟨h1,h2,h3⟩:=c_ lo hi its.toArray.size
 unfold slicePick
 rw [h1,h2,h3]
 simp only [sliceRange_one,pick_run,List.size_toArray] <;> rfl
def Mu (K:Nd):V->Option Int->Option Int->Hp->VK->Prop:=fun x lo hi H Q=>∃ a xs,x=.ref a/\SqL K H a xs/\∀ p,H p=none->Q (.ref p) (upd H p (.lst (Ah xs lo hi)))
def BQ:SlR X (Mu X.K):=by
 intro pins s σ H x v vl vu lo hi sl Q I rx hs pl pu h
 obtain ⟨a,xs,rfl,hx,q⟩:=h
 cases rx
 obtain ⟨its,r,ht,hz⟩:=I.list hx
 have hlen:=r.length
 refine ⟨"list",_,slot_list_getitem.lookup,ht.isList.typeIs, ?_⟩
 refine wpAny_getItem_list_slice ht.isList hs pl pu .none (by simp) ?_ (by rw [List.size_toArray] <;> omega)
 rw [bb,<- hlen]
 refine ⟨.ref s.heap.objs.size,_,I.laid (t':=s.toks) (o:=.lst (Ah xs lo hi)) (fun b ob q=>M7 _ q) (N1 _) ?_,rfl,q _ (I.hok.fresh (N1 _))⟩
 exact ⟨P6 (fB xs lo hi) hz,_,0,(r.drop (HT.sIx xs.length 0 lo)).take (HT.sIx xs.length xs.length hi - HT.sIx xs.length 0 lo),O7 _ rfl⟩
def Wa:V->Bool
 | .non=>true
 | .bl _=>true
 | .int _=>true
 | .str _=>true
 | _=>false
def eqV:V->V->Bool
 | .non,.non=>true
 | .bl a,.bl b=>a == b
 | .bl a,.int b=>(if a then 1 else 0) == b
 | .int a,.bl b=>a == (if b then 1 else 0)
 | .int a,.int b=>a == b
 | .str a,.str b=>a == b
 | _,_=>false
def Aj (ry:RelV y u) (rx:RelV x v) (fy:Wa y=true) (fx:Wa x=true):SeqAt.EqAt A s u v (eqV y x):=by
 cases y with
 | non=>
  cases ry
  cases x with
  | non=>cases rx;exact SeqAt.EqAt.same _
  | bl b=>cases rx;exact SeqAt.EqAt.none_bool b
  | int b=>obtain ⟨t,rfl⟩:=rx;exact SeqAt.EqAt.none_int b t
  | str b=>obtain ⟨t,rfl⟩:=rx;exact SeqAt.EqAt.none_str b t
  | _=>exact absurd (show false=true from fx) O3
 | bl a=>
  cases ry
  cases x with
  | non=>cases rx;exact SeqAt.EqAt.bool_none a
  | bl b=>cases rx;exact SeqAt.EqAt.bool_bool a b
  | int b=>obtain ⟨t,rfl⟩:=rx;exact SeqAt.EqAt.bool_int a b t
  | str b=>obtain ⟨t,rfl⟩:=rx;exact SeqAt.EqAt.bool_str a b t
  | _=>exact absurd (show false=true from fx) O3
 | int a=>
  obtain ⟨t',rfl⟩:=ry
  cases x with
  | non=>cases rx;exact SeqAt.EqAt.int_none a t'
  | bl b=>cases rx;exact SeqAt.EqAt.int_bool a t' b
  | int b=>obtain ⟨t,rfl⟩:=rx;exact SeqAt.EqAt.int_int a t' b t
  | str b=>obtain ⟨t,rfl⟩:=rx;exact a2S a t' b t
  | _=>exact absurd (show false=true from fx) O3
 | str a=>
  obtain ⟨t',rfl⟩:=ry
  cases x with
  | non=>cases rx;exact SeqAt.EqAt.str_none a t'
  | bl b=>cases rx;exact SeqAt.EqAt.str_bool a t' b
  | int b=>obtain ⟨t,rfl⟩:=rx;exact a2T a t' b t
  | str b=>obtain ⟨t,rfl⟩:=rx;exact SeqAt.EqAt.str_str a t' b t
  | _=>exact absurd (show false=true from fx) O3
 | _=>exact absurd (show false=true from fy) O3
def eqU (x:V) (u:Value):Bool:=match u with
 | .none=>eqV .non x
 | .bool b=>eqV (.bl b) x
 | .int i _=>eqV (.int i) x
 | .str z _=>eqV (.str z) x
 | _=>false
def Ak (r:RelV y u) (f:Wa y=true):eqU x u=eqV y x:=by
 cases y with
 | non=>cases r;rfl
 | bl b=>cases r;rfl
 | int i=>obtain ⟨t,rfl⟩:=r;rfl
 | str z=>obtain ⟨t,rfl⟩:=r;rfl
 | _=>exact absurd (show false=true from f) O3
def WV {x:V}:∀ {xs:Nb}{us:M_},Vals xs us->xs.all Wa=true->us.any (eqU x)=xs.any fun y=>eqV y x
 | _,_,.nil,_=>rfl
 | y :: xs,u :: us,.cons r t,f=>by
  rw [a2M,Bool.and_eq_true] at f
  rw [T7,T7,Ak r f.1,WV t f.2]
def JM {A:Nt}{s:MZ}{x:V}{v:Value}(rx:RelV x v) (fx:Wa x=true):∀ {xs:Nb}{us:M_},Vals xs us->xs.all Wa=true->∀ u∈us,SeqAt.EqAt A s u v (eqU x u)
 | _,_,.nil,_=>fun u hu=>by cases hu
 | y :: xs,u :: us,.cons r t,f=>fun u' hu=>by
  rw [a2M,Bool.and_eq_true] at f
  rcases O5.mp hu with rfl | hu
  .rw [Ak r f.1];exact Aj r rx f.1 fx
  .exact JM rx fx t f.2 u' hu
def inV (x:V) (xs:Nb):Bool:=xs.any fun y=>eqV y x
def rIn (K:Nd) (neg:Bool):R2:=fun x y H Q=>∃ p xs,y=.ref p/\(SqL K H p xs\/SqT K H p xs)/\Wa x=true/\xs.all Wa=true/\Q (.bl (if neg then !inV x xs else inV x xs)) H
def nZ:OpR X (compareOp .In) (rIn X.K false):=by
 intro pins s σ H x y v u Q I rx ry h
 obtain ⟨p,xs,rfl,hq,fx,fs,q⟩:=h
 cases ry
 rcases hq with hq | hq
 .obtain ⟨its,r,pl,hz⟩:=I.list hq
  refine SeqAt.in_listAt (eqU x) pl.isList (fun w hw=>JM rx fx r fs w (by simpa using hw)) ⟨.bl _,H,I,rfl, ?_⟩
  rw [show its.toArray.any (eqU x)=its.any (eqU x) by simp,WV r fs]
  exact q
 .obtain ⟨its,r,pl,hz⟩:=I.tuple hq
  refine SeqAt.in_tupleAt (eqU x) pl (fun w hw=>JM rx fx r fs w (by simpa using hw)) ⟨.bl _,H,I,rfl, ?_⟩
  rw [show its.toArray.any (eqU x)=its.any (eqU x) by simp,WV r fs]
  exact q
def de:OpR X (compareOp .NotIn) (rIn X.K true):=by
 intro pins s σ H x y v u Q I rx ry h
 obtain ⟨p,xs,rfl,hq,fx,fs,q⟩:=h
 cases ry
 rcases hq with hq | hq
 .obtain ⟨its,r,pl,hz⟩:=I.list hq
  refine SeqAt.notIn_listAt (eqU x) pl.isList (fun w hw=>JM rx fx r fs w (by simpa using hw)) ⟨.bl _,H,I,rfl, ?_⟩
  rw [show its.toArray.any (eqU x)=its.any (eqU x) by simp,WV r fs]
  exact q
 .obtain ⟨its,r,pl,hz⟩:=I.tuple hq
  refine SeqAt.notIn_tupleAt (eqU x) pl (fun w hw=>JM rx fx r fs w (by simpa using hw)) ⟨.bl _,H,I,rfl, ?_⟩
  rw [show its.toArray.any (eqU x)=its.any (eqU x) by simp,WV r fs]
  exact q
def df:OpR X (compareOp .NotIn) (fun x y H Q=>∃ i j,x=.str i/\y=.str j/\Q (.bl (!(!(Builtin.Str.occurrences j i 0 j.length 1).isEmpty))) H):=by
 intro pins s σ H x y v u Q I rx ry h
 obtain ⟨i,j,rfl,rfl,q⟩:=h
 obtain ⟨t,rfl⟩:=rx
 obtain ⟨t',rfl⟩:=ry
 exact notIn_str ⟨.bl _,H,I,rfl,q⟩
def Yu.or (h:Yu X f r) (h':Yu X f r'):Yu X f (fun xs H Q=>r xs H Q\/r' xs H Q):=by
 intro pins s σ H xs us Q I rs q
 rcases q with q | q
 .exact h pins s σ H xs us Q I rs q
 .exact h' pins s σ H xs us Q I rs q
def dg:Yu X (.type "list") (fun xs H Q=>∃ p ys,xs=[.ref p]/\(SqL X.K H p ys\/SqT X.K H p ys)/\∀ l,H l=none->Q (.ref l) (upd H l (.lst ys))):=by
 intro pins s σ H xs us Q I r h
 obtain ⟨p,ys,rfl,hq,q⟩:=h
 obtain ⟨u,rfl,rx⟩:=vals1 r
 cases rx
 have fin:∀ (its:M_),Vals ys its->ys.length<=sizeLine->∀ (h':Heap) (c':Nat),(∀ b o',s.heap.get? b=some o'->h'.get? b=some o')->
   h'.get? s.heap.objs.size=some { cls:=.type "list",dict:=none,data:=.seq its.toArray c',slots:=#[] }->EP X pins σ Q (.ref s.heap.objs.size) { s with heap:=h' }:=fun its r' hz h' c' kp e=>
  ⟨.ref s.heap.objs.size,_,I.laid (t':=s.toks) kp (N1 _) (show qp X.prog X.w _ h' _ (.lst ys) from ⟨hz,its,c',r',e⟩),rfl,q _ (I.hok.fresh (N1 _))⟩
 rcases hq with hq | hq
 .obtain ⟨its,r',pl,hz⟩:=I.list hq
  have hlen:=r'.length
  obtain ⟨o,ho,hc,n,hd⟩:=pl.isList
  exact call_list_seq p (.inl rfl) ho hc hd (fun h' c' kp e=>fin its r' hz h' c' kp e) (by simp only [List.size_toArray] <;> omega)
 .obtain ⟨its,r',pl,hz⟩:=I.tuple hq
  have hlen:=r'.length
  obtain ⟨o,ho,hc,n,hd⟩:=pl
  exact call_list_seq p (.inr rfl) ho hc hd (fun h' c' kp e=>fin its r' hz h' c' kp e) (by simp only [List.size_toArray] <;> omega)
def tyV (K:Nd) (T:String) (x:V) (H:Hp):Prop:=match x with
 | .str _=>T = "str"
 | .int _=>T = "int"
 | .ref p=>(T = "list" /\ ∃ xs,SqL K H p xs)\/(T = "tuple" /\ ∃ o,K.lookup p=some o/\o.cls=.type "tuple" /\ o.dict=none)\/
   (T = "dict" /\ ((∃ kvs,H p=some (.dK kvs))\/∃ kvs,H p=some (.dT kvs)))\/(T = "set" /\ ∃ S n,H p=some (.set S n))
 | _=>False
def Er (I:Inv X pins σ H s) (r:RelV x v) (ty:tyV X.K T x H):
  s.TypeIs v T/\∀ a,v=.ref a->∃ ob,s.heap.get? a=some ob/\ob.dict=none:=by
 cases x with
 | str z=>
  obtain ⟨t,rfl⟩:=r
  cases (show T = "str" from ty)
  exact ⟨typeIs_str s z t,fun _ e=>nomatch e⟩
 | int i=>
  obtain ⟨t,rfl⟩:=r
  cases (show T = "int" from ty)
  exact ⟨typeIs_int s i t,fun _ e=>nomatch e⟩
 | ref p=>
  cases r
  rcases ty with ⟨rfl,xs,hq⟩ | ⟨rfl,o,hk,hc,hd⟩ | ⟨rfl,hk⟩ | ⟨rfl,S,n,hk⟩
  .obtain ⟨its,_,pl,_⟩:=I.list hq
   refine ⟨pl.isList.typeIs,fun a e=>?_⟩
   cases e
   obtain ⟨o,n,e,c,hd,_⟩:=pl
   exact ⟨o,e,hd⟩
  .refine ⟨⟨o,I.kIn p o hk,hc⟩,fun a e=>?_⟩
   cases e
   exact ⟨o,I.kIn _ o hk,hd⟩
  .have z:∃ o,s.heap.get? p=some o/\o.ExactDict:=by
    rcases hk with ⟨kvs,hk⟩ | ⟨kvs,hk⟩
    .obtain ⟨_,_,_,_,o,_,_,e,ex,_⟩:=I.hok p _ hk
     exact ⟨o,e,ex⟩
    .obtain ⟨_,_,_,_,o,_,_,e,ex,_⟩:=I.hok p _ hk
     exact ⟨o,e,ex⟩
   obtain ⟨o,e,ex⟩:=z
   refine ⟨⟨o,e,ex.1⟩,fun a e2=>?_⟩
   cases e2
   exact ⟨o,e,ex.2.1⟩
  .obtain ⟨o,_,_,_,e,ex,_⟩:=I.hok p _ hk
   refine ⟨⟨o,e,ex.1⟩,fun a e2=>?_⟩
   cases e2
   exact ⟨o,e,ex.2.1⟩
 | _=>exact False.elim ty
def tBM (K:Nd) (T:String) (r:V->List V->Hp->VK->Prop) (to:TE) (t:TA):TE:=fun σ H Q=>to σ H fun x H1=>tyV K T x H1/\t σ H1 fun xs H2=>r x xs H2 Q
variable {o e:Nh}{es:Nc}{to:TE}{t:TA}{name:Str}{kA Yq:Pos}{T id:String}{r:V->List V->Hp->VK->Prop}
def Es (pa:PlainAttrs T) (slot:Slot T name id) (hty:typeOf (.builtin id)=pure (.type "method_descriptor")) (hm:MtR X id r) (ho:PE X o to) (ha:PA X (e :: es) t)
  (tJ:attributeBase o name X.env (eval o X.env)=eval o X.env:=by rfl)
  (GZ:((backTo Yq (starEach (e :: es) X.env)).all (fun x=>!x.1) && (backToKw Yq (keywordEach [] X.env)).all (fun x=>x.1.isSome)
   && decide ((e :: es).length + ([]:List Keyword).length + (if ([]:List Keyword).isEmpty then 0 else 1) < 30))=true:=by rfl)
  (tI:(kA.endLine == Yq.line)=true:=by rfl) (hs:starEach (e :: es) X.env=(false,eval e X.env) :: starEach es X.env:=by rfl) (hplain:(backTo Yq (starEach es X.env)).any (·.1)=false:=by rfl):
  PE X (.Call (.Attribute o name kA) (e :: es) [] Yq) (tBM X.K T r to t):=by
 intro pins s σ H Q I h
 refine wpAny_Call_method_late tJ GZ tI rfl (thn (ho pins s σ H _ I h) fun v s1 ⟨x,H1,I1,r1,ty,q1⟩=>?_)
 obtain ⟨h1,h2⟩:=Er I1 r1 ty
 refine ⟨T,id,pa,slot,hty,h1,h2, ?_⟩
 have hA:=ha Yq pins s1 σ H1 _ I1 q1
 rw [hs] at hA ⊢
 refine a1q (by show (false || (backTo Yq (starEach es X.env)).any (·.1))=false;rw [hplain] <;> rfl) (a1y ?_)
 exact thn hA fun us s2 ⟨vs,H2,I2,r2,q2⟩=>hm pins s2 σ H2 x vs v us Q I2 r1 r2 q2
end
def MtM (X:Cx) (id:String) (r:V->List V->Hp->VK->Prop):Prop:=
 ∀ (pins:MR) (s:MZ) (σ:St) (H:Hp) (x:V) (xs:Nb) (v:Value) (us:M_) (Q:VK),Inv X pins σ H s->RelV x v->Vals xs us->r x xs H Q->
  wpAny (Oc X) X.A (call (.builtin id) (v :: us)) (EP X pins σ Q) X.xe s
def Vals.one:∀ {x:V}{us:M_},Vals [x] us->∃ u,us=[u]/\RelV x u
 | _,_,.cons r .nil=>⟨_,rfl,r⟩
def Vals.rep {xs:Nb}{us:M_}(h:Vals xs us):∀ k:Nat,Vals (List.replicate k xs).flatten (List.replicate k us).flatten
 | 0=>.nil
 | k + 1=>by
  rw [a0l,a0l,a0c,a0c]
  exact Vals.append h (Vals.rep h k)
def foldl_rep (its:M_):∀ (k:Nat) (acc:M_),
  List.foldl (fun x1 x2=>x1++x2) acc.toArray (List.replicate k its.toArray)=(acc++(List.replicate k its).flatten).toArray
 | 0,acc=>by simp
 | k + 1,acc=>by
  have e:acc.toArray++its.toArray=(acc++its).toArray:=by simp
  have e2:(acc++its)++(List.replicate k its).flatten=acc++(List.replicate (k + 1) its).flatten:=by
   rw [a0l,a0c,P2]
  rw [<- e2,<- foldl_rep its k (acc++its),<- e,a0l,a0O]
def Inv.Mv {its its':M_}{n:Nat}{f:Array Value->Array Value}{t':Nat}(I:Inv X pins σ H s) (hH:H l=some (.lst xs))
  (e:s.heap.get? l=some { cls:=.type "list",data:=.seq its.toArray n }) (hf:f its.toArray=its'.toArray) (hv:Vals ys its') (hz:ys.length<=sizeLine):
  Inv X pins σ (upd H l (.lst ys)) { s with heap:=s.heap.update l (Obj.mapSeq f),toks:=t' }:=by
 have q:=PySem.IsL.update e f
 rw [hf] at q
 refine I.write (x:=l) (e:=l) (by rw [hH];exact trivial) (.inl rfl) (fun b' u hb hu=>(P5 s.heap (Obj.mapSeq f) (Ne.symm hb)).trans hu) ⟨_,q⟩ ?_
 exact ⟨hz,its',_,hv,q⟩
def Inv.HQ (I:Inv X pins σ H s) (hv:Vals ys its) (hz:ys.length<=sizeLine):
  Inv X pins σ (upd H s.heap.objs.size (.lst ys)) { s with heap:=s.heap.push { cls:=.type "list",data:=.seq its.toArray },toks:=t' }:=
 I.laid (fun _ _ q=>M7 _ q) (N1 _) ⟨hz,its,0,hv,O7 _ rfl⟩
def Inv.fresh (I:Inv X pins σ H s):H s.heap.objs.size=none:=I.hok.fresh (N1 _)
def Inv.G7 (I:Inv X pins σ H s) (hH:H l=some (.lst xs)):xs.length<=sizeLine/\∃ (its:M_) (n:Nat),Vals xs its/\xs.length=its.length/\s.heap.get? l=some { cls:=.type "list",data:=.seq its.toArray n }:=by
 obtain ⟨z,its,n,r,e⟩:=I.hok l _ hH
 exact ⟨z,its,n,r,r.length,e⟩
def ub (h:n<=sizeLine):Builtin.List.listTooLong n=false:=by
 unfold Builtin.List.listTooLong
 exact N6 (by omega)
section
variable {X:Cx}
def BR:V->List V->Hp->VK->Prop:=fun x vs H Q=>∃ l xs y,x=.ref l/\vs=[y]/\H l=some (.lst xs)/\xs.length < sizeLine/\Q .non (upd H l (.lst (xs++[y])))
def WX:MtM X "list.append" BR:=by
 intro pins s σ H x vs v us Q I rx rv h
 obtain ⟨l,xs,y,rfl,rfl,hH,hz,q⟩:=h
 cases rx
 obtain ⟨u,rfl,ru⟩:=rv.one
 obtain ⟨z,its,n,r,hl,e⟩:=I.G7 hH
 refine call_meets F.slot_list_append ⟨_,e,rfl⟩ F.entry_list_append (F.args_list_append_2 _ _) (PySem.list_append l its.toArray n u (by rw [O4];omega)) ⟨e, ?_⟩
 refine ⟨.non,_,I.Mv (its':=its++[u]) hH e (by simp) (r.append (.cons ru .nil)) ?_,rfl,q⟩
 rw [M6,P1]
 omega
def Lz:R2:=fun x y H Q=>∃ l b xs zs,x=.ref l/\y=.ref b/\H l=some (.lst xs)/\H b=some (.lst zs)/\xs.length + zs.length<=sizeLine/\∀ p,H p=none->Q (.ref p) (upd H p (.lst (xs++zs)))
def Al:OpR X (binaryOp .Add) Lz:=by
 intro pins s σ H x y v u Q I rx ry h
 obtain ⟨l,b,xs,zs,rfl,rfl,hH,hB,hz,q⟩:=h
 cases rx
 cases ry
 obtain ⟨z,its,n,r,hl,e⟩:=I.G7 hH
 obtain ⟨z2,its2,n2,r2,hl2,e2⟩:=I.G7 hB
 refine PySem.P.add_list e e2 ?_ (by rw [O4,O4];omega)
 have ea:its.toArray++its2.toArray=(its++its2).toArray:=by simp
 rw [ea]
 exact ⟨.ref _,_,I.HQ (t':=s.toks) (r.append r2) (by rw [M6];omega),rfl,q _ I.fresh⟩
def LB:R2:=fun x y H Q=>∃ l k xs,x=.ref l/\y=.int k/\H l=some (.lst xs)/\-(2 ^ 63)<=k/\k < 2 ^ 63/\xs.length * k.toNat<=sizeLine/\
 ∀ p,H p=none->Q (.ref p) (upd H p (.lst (List.replicate k.toNat xs).flatten))
def len_rep {α:Type}(xs:List α) (k:Nat):(List.replicate k xs).flatten.length=k * xs.length:=by
 induction k with
 | zero=>simp
 | succ k ih=>rw [a0l,a0c,M6,ih,Nat.succ_mul,Nat.add_comm]
def Et:OpR X (binaryOp .Mult) LB:=by
 intro pins s σ H x y v u Q I rx ry h
 obtain ⟨l,k,xs,rfl,rfl,hH,h1,h2,hz,q⟩:=h
 cases rx
 obtain ⟨t,rfl⟩:=ry
 obtain ⟨z,its,n,r,hl,e⟩:=I.G7 hH
 have hlen:its.toArray.size * k.toNat<=sizeLine:=by rw [O4,<- hl];exact hz
 have hcap:¬ its.toArray.size * k.toNat > (2 ^ 63 - 1) / 8:=by
  have:(sizeLine:Nat)<=(2 ^ 63 - 1) / 8:=by decide
  omega
 have hfit:¬ (!Builtin.List.listFitsIndex k)=true:=by
  rw [fitsIndex_both h1 h2]
  exact O3
 have hlong:¬ Builtin.List.listTooLong (its.toArray.size * k.toNat)=true:=by
  rw [ub hlen]
  exact O3
 have hnew:List.foldl (fun x1 x2=>x1++x2) #[] (List.replicate (if its.toArray.isEmpty=true then 0 else k.toNat) its.toArray)=(List.replicate k.toNat its).flatten.toArray:=by
  have f0:∀ m:Nat,List.foldl (fun x1 x2=>x1++x2) #[] (List.replicate m its.toArray)=(List.replicate m its).flatten.toArray:=fun m=>by
   have:=foldl_rep its m []
   rw [a0z] at this
   exact this
  rw [f0]
  cases its with
  | nil=>simp
  | cons a r'=>rw [if_neg (by simp)]
 refine wpAny_binaryOp_repeat_ref (T := "list") (U := "int") (by decide) ⟨_,e,rfl⟩ (fun s'=>typeIs_int s' k t) noFill_list_mul F.fills_int_mul F.slot_int_rmul repeat_list F.slot_int_index.lookup
  (call_meets F.slot_int_rmul (typeIs_int s k t) F.entry_int_rmul (F.args_int_rmul_2 _ _) (int___rmul___int_list k t l its.toArray n)
   ⟨e,rfl,⟨_,e,rfl⟩,call_meets F.slot_list_mul ⟨_,e,rfl⟩ F.entry_list_mul (F.args_list_mul_2 _ _) (AutoListH.list___mul___list_int_3 l its.toArray n k t hfit hcap hlong) ⟨e, ?_⟩⟩)
 rw [hnew]
 exact ⟨.ref _,_,I.HQ (t':=s.toks) (r.rep k.toNat) (by rw [len_rep,Nat.mul_comm];exact hz),rfl,q _ I.fresh⟩
end
section
variable {prog:Nk}{w:Nq}{A:Nt}{E:MW}{s:MZ}
end
section
variable {X:Cx}
end
section
variable {κ:Type}[DecidableEq κ]
def Uu (kvs:List (κ × V)) (k:κ):Option V:=(kvs.find? fun kv=>decide (kv.1=k)).map (·.2)
def putK (kvs:List (κ × V)) (k:κ) (v:V):List (κ × V):=
 if (kvs.any fun kv=>decide (kv.1=k))=true then kvs.map (fun kv=>if kv.1=k then (kv.1,v) else kv) else kvs++[(k,v)]
def WH {p:κ × V}{r:List (κ × V)}{k:κ}(e:p.1=k):Uu (p :: r) k=some p.2:=by simp [Uu,List.find?_cons,e]
def WI {p:κ × V}{r:List (κ × V)}{k:κ}(e:¬ p.1=k):Uu (p :: r) k=Uu r k:=by simp [Uu,List.find?_cons,e]
def g9 (k:κ):∀ kvs:List (κ × V),(kvs.any fun kv=>decide (kv.1=k))=(Uu kvs k).isSome
 | []=>rfl
 | p :: r=>by
  rw [T7]
  by_cases e:p.1=k
  .simp only [WH e,decide_eq_true e,Bool.true_or,Option.isSome_some]
  .rw [WI e,N6 e,Bool.false_or];exact g9 k r
def Jq (kvs:List (κ × V)) (k:κ) (v:V):(putK kvs k v).length<=kvs.length + 1:=by
 unfold putK
 split
 .rw [u8];omega
 .rw [M6,v0,a0P];omega
def V8.Yy (r:V8 o u):o.isSome=u.isSome:=by
 cases o with
 | none=>cases u with
  | none=>rfl
  | some _=>exact (show False from r).elim
 | some _=>cases u with
  | none=>exact (show False from r).elim
  | some _=>rfl
def V8.getD (r:V8 o u) (rd:RelV d d'):RelV (o.getD d) (u.getD d'):=by
 cases o with
 | none=>cases u with
  | none=>exact rd
  | some _=>exact (show False from r).elim
 | some _=>cases u with
  | none=>exact (show False from r).elim
  | some _=>exact r
def KV.val {kvs:List (κ × V)}{vs:List (κ × Value)}(r:KV kvs vs) (k:κ):V8 (Uu kvs k) (valueAt vs k):=by
 unfold KV at r
 induction r with
 | nil=>exact True.intro
 | @cons p q ps qs h t ih=>
  obtain ⟨h1,h2⟩:=h
  by_cases e:p.1=k
  .have e':q.1=k:=h1.symm.trans e
   have b:valueAt (q :: qs) k=some q.2:=by simp [valueAt,List.find?_cons,e']
   rw [WH e,b];exact h2
  .have e':¬ q.1=k:=fun z=>e (h1.trans z)
   have b:valueAt (q :: qs) k=valueAt qs k:=by simp [valueAt,List.find?_cons,e']
   rw [WI e,b];exact ih
def KV.any {kvs:List (κ × V)}{vs:List (κ × Value)}(r:KV kvs vs) (k:κ):(kvs.any fun kv=>decide (kv.1=k))=vs.any fun kv=>decide (kv.1=k):=by
 unfold KV at r
 induction r with
 | nil=>rfl
 | cons h t ih=>rw [T7,T7,ih,h.1]
def KV.HU {kvs:List (κ × V)}{vs:List (κ × Value)}(r:KV kvs vs) (k:κ) (ry:RelV y u):
  KV (kvs.map fun kv=>if kv.1=k then (kv.1,y) else kv) (vs.map fun kv=>if kv.1=k then (kv.1,u) else kv):=by
 unfold KV at r ⊢
 induction r with
 | nil=>exact .nil
 | @cons p q ps qs h t ih=>
  rw [N9,N9]
  refine .cons ?_ ih
  obtain ⟨h1,h2⟩:=h
  by_cases e:p.1=k
  .rw [if_pos e,if_pos (h1.symm.trans e)];exact ⟨h1,ry⟩
  .rw [if_neg e,if_neg (fun z=>e (h1.trans z))];exact ⟨h1,h2⟩
def KV.put {kvs:List (κ × V)}{vs:List (κ × Value)}(r:KV kvs vs) (k:κ) (ry:RelV y u):KV (putK kvs k y) (stored vs k u):=by
 unfold putK stored
 rw [r.any k]
 by_cases e:(vs.any fun kv=>decide (kv.1=k))=true
 .rw [if_pos e,if_pos e];exact r.HU k ry
 .rw [if_neg e,if_neg e];exact Paired.snoc r ⟨rfl,ry⟩
def KV.length {kvs:List (κ × V)}{vs:List (κ × Value)}(r:KV kvs vs):kvs.length=vs.length:=a0K r
end
def bc (r:RelV (kV k) u):(yG P w).is k u=true:=by
 cases k with
 | inl i=>obtain ⟨t,e⟩:=(show ∃ t,u=Value.int i t from r);subst e;exact fm P w i t
 | inr x=>obtain ⟨t,e⟩:=(show ∃ t,u=Value.str x t from r);subst e;exact fo P w x t
def dh {P:Nk}{w:Nq}:∀ {ks:NI}{us:M_},Vals (ks.map kV) us->ItemsAre (yG P w) ks us
 | [],_,r=>by rw [a2X] at r;cases r;exact .nil
 | k :: ks,_,r=>by
  rw [N9] at r
  cases r with
  | cons h t=>exact .cons (bc h) (dh t)
abbrev KT (H:Hp):List (List Key × V)->List (List Key × Addr × Value)->Prop:=Paired fun p q=>p.1=q.1/\H q.2.1=some (.tup (p.1.map kV))/\RelV p.2 q.2.2
def KT.val (r:KT H kvs xs) (k:NI):V8 (Uu kvs k) ((atKey xs k).map (·.2)):=by
 induction r with
 | nil=>exact True.intro
 | @cons p q ps qs h t ih=>
  obtain ⟨h1,_,h2⟩:=h
  by_cases e:p.1=k
  .have e':q.1=k:=h1.symm.trans e
   have b:atKey (q :: qs) k=some q.2:=by simp [atKey,List.find?_cons,e']
   rw [WH e,b];exact h2
  .have e':¬ q.1=k:=fun z=>e (h1.trans z)
   have b:atKey (q :: qs) k=atKey qs k:=by simp [atKey,List.find?_cons,e']
   rw [WI e,b];exact ih
def KT.HU (r:KT H kvs xs) (k:NI) (ry:RelV y u):
  KT H (kvs.map fun kv=>if kv.1=k then (kv.1,y) else kv) (xs.map (putAt k u)):=by
 induction r with
 | nil=>exact .nil
 | @cons p q ps qs h t ih=>
  rw [N9,N9]
  refine .cons ?_ ih
  obtain ⟨h1,h2,h3⟩:=h
  unfold putAt
  by_cases e:p.1=k
  .rw [if_pos e,if_pos (h1.symm.trans e)];exact ⟨h1,h2,ry⟩
  .rw [if_neg e,if_neg (fun z=>e (h1.trans z))];exact ⟨h1,h2,h3⟩
def KT.put (r:KT H kvs xs) (k:NI) (hb:H b=some (.tup (k.map kV))) (ry:RelV y u):
  KT H (putK kvs k y) (storedH xs k b u):=by
 have e:(kvs.any fun kv=>decide (kv.1=k))=(atKey xs k).isSome:=by
  rw [g9,(r.val k).Yy,a0T]
 unfold putK storedH
 rw [e]
 by_cases q:(atKey xs k).isSome=true
 .rw [if_pos q,if_pos q];exact r.HU k ry
 .rw [if_neg q,if_neg q];exact Paired.snoc r ⟨rfl,hb,ry⟩
def KT.keeps (r:KT H kvs xs) (ht:∀ b ys,H b=some (.tup ys)->H' b=some (.tup ys)):KT H' kvs xs:=
 Paired.Hr r fun _ _ z=>⟨z.1,ht _ _ z.2.1,z.2.2⟩
def Eu (ok:HOk P w H h) (e:Rd H a u):qp P w H h a u:=e.ok ok
def QF (ok:HOk P w H h) (e:Rd H a (.dK kvs)):kvs.length<=sizeLine/\(a == sysModules)=false/\∃ vs,KV kvs vs/\h.DictOf (yG P w) a vs:=
 show qp P w H h a (.dK kvs) from Eu ok e
def Ew (ok:HOk P w H h) (e:H a=some (.dK kvs)):kvs.length<=sizeLine/\(a == sysModules)=false/\∃ vs,KV kvs vs/\h.DictOf (yG P w) a vs:=QF ok (.inl e)
def WY (ok:HOk P w H h) (e:H a=some (.tup (ks.map kV))):(tupleKind (yG P w)).is h ks a:=by
 obtain ⟨_,its,r,o,h1,h2,n,h3⟩:=(show qp P w H h a (.tup (ks.map kV)) from ok a _ e)
 exact ⟨o,its.toArray,n,h1,h2,h3,by simpa using dh r⟩
def di (ok:HOk P w H h) (e:Rd H a (.dT kvs)):kvs.length<=sizeLine/\(a == sysModules)=false/\
  ∃ xs,KT H kvs xs/\h.DictOfH (tupleKind (yG P w)) a xs:=by
 obtain ⟨z,y,xs,r,o,es,ep,h1,h2,h3,h4,h5⟩:=(show qp P w H h a (.dT kvs) from Eu ok e)
 refine ⟨z,y,xs,r,o,es,ep,h1,h2,h3,h4,fun x hx=>?_,h5⟩
 have all:∀ {l:NS}{m:List (List Key × Addr × Value)},KT H l m->∀ x∈m,(tupleKind (yG P w)).is h x.1 x.2.1:=by
  intro l m q
  induction q with
  | nil=>intro x hx;exact nomatch hx
  | @cons p q ps qs hq t ih=>
   intro x hx
   rcases O5.mp hx with e | hx
   .subst e
    exact WY ok (by rw [<- hq.1];exact hq.2.1)
   .exact ih x hx
 exact all r x hx
def HW (ok:HOk P w H h) (e:H a=some (.dT kvs)):kvs.length<=sizeLine/\(a == sysModules)=false/\
  ∃ xs,KT H kvs xs/\h.DictOfH (tupleKind (yG P w)) a xs:=di ok (.inl e)
def fh (H:Hp) (a:Addr) (y:V) (r:Option V):Prop:=
 (∃ kvs k,Rd H a (.dK kvs)/\y=kV k/\r=Uu kvs k)\/∃ kvs k b,Rd H a (.dT kvs)/\y=.ref b/\H b=some (.tup (k.map kV))/\r=Uu kvs k
def uc (H:Hp) (a:Addr) (y v:V) (H':Hp):Prop:=
 (∃ kvs k,H a=some (.dK kvs)/\y=kV k/\kvs.length < sizeLine/\H' = upd H a (.dK (putK kvs k v)))\/
 ∃ kvs k b,H a=some (.dT kvs)/\y=.ref b/\H b=some (.tup (k.map kV))/\kvs.length < sizeLine/\H' = upd H a (.dT (putK kvs k v))
def uc.k {H:Hp}{a:Addr}{kvs:Ng}{k:Key}{v:V}(e:H a=some (.dK kvs)) (hl:kvs.length < sizeLine):uc H a (kV k) v (upd H a (.dK (putK kvs k v))):=.inl ⟨kvs,k,e,rfl,hl,rfl⟩
def uc.t {H:Hp}{a b:Addr}{kvs:NS}{k:NI}{v:V}(e:H a=some (.dT kvs)) (eb:H b=some (.tup (k.map kV))) (hl:kvs.length < sizeLine):
  uc H a (.ref b) v (upd H a (.dT (putK kvs k v))):=.inr ⟨kvs,k,b,e,rfl,eb,hl,rfl⟩
def Inv.big (I:Inv X pins σ H s):sysModules < s.heap.objs.size:=by
 have h:mainGlobals < s.heap.objs.size:=(I.mod.glob.keeps I.bk).lt
 exact a1z (by decide) h
def n5 (hu:A.units + 1 < cLine) (I:Inv X pins σ H s) (g:fh H a y (some v)) (ry:RelV y u) (h:∀ w' s',Inv X pins σ H s'->RelV v w'->Q w' s'):
  wpAny (Oc X) A (getItem (.ref a) u) Q E s:=by
 rcases g with ⟨kvs,k,e,ey,l⟩ | ⟨kvs,k,b,e,ey,eb,l⟩
 .subst ey
  obtain ⟨z,hd,vs,rel,dd⟩:=QF I.hok e
  obtain ⟨w',hw,rw'⟩:=V8.some_of (v:=v) (o:=valueAt vs k) (by rw [l];exact rel.val k)
  exact wpAny_getItem_of (bc ry) dd.mapOf hw (h w' _ (I.tok _) rw')
 .subst ey
  cases (show u=Value.ref b from ry)
  obtain ⟨z,hd,xs,rel,dd⟩:=di I.hok e
  obtain ⟨w',hw,rw'⟩:=V8.some_of (v:=v) (o:=(atKey xs k).map (·.2)) (by rw [l];exact rel.val k)
  obtain ⟨p,hp,hp2⟩:=M3.mp hw
  refine wpAny_getItem_heap (a0v hu) (WY I.hok eb) dd hp ?_
  rw [hp2]
  exact h w' _ (I.tok _) rw'
def Mw (hu:A.units + 1 < cLine) (I:Inv X pins σ H s) (g:fh H a y o) (ry:RelV y u) (h:∀ s',Inv X pins σ H s'->Q (.bool o.isSome) s'):
  wpAny (Oc X) A (compareOp .In u (.ref a)) Q E s:=by
 rcases g with ⟨kvs,k,e,ey,l⟩ | ⟨kvs,k,b,e,ey,eb,l⟩
 .subst ey
  obtain ⟨z,hd,vs,rel,dd⟩:=QF I.hok e
  refine wpAny_in_of (bc ry) hd dd.mapOf ?_
  rw [<- (rel.val k).Yy,<- l]
  exact h _ (I.tok _)
 .subst ey
  cases (show u=Value.ref b from ry)
  obtain ⟨z,hd,xs,rel,dd⟩:=di I.hok e
  refine wpAny_in_heap (a0v hu) (WY I.hok eb) hd dd ?_
  have q:=(rel.val k).Yy
  rw [a0T] at q
  rw [<- q,<- l]
  exact h _ (I.tok _)
def BS (hu:A.units + 1 < cLine) (I:Inv X pins σ H s) (g:fh H a y o) (ry:RelV y u) (h:∀ s',Inv X pins σ H s'->Q (.bool (!o.isSome)) s'):
  wpAny (Oc X) A (compareOp .NotIn u (.ref a)) Q E s:=by
 rcases g with ⟨kvs,k,e,ey,l⟩ | ⟨kvs,k,b,e,ey,eb,l⟩
 .subst ey
  obtain ⟨z,hd,vs,rel,dd⟩:=QF I.hok e
  refine wpAny_notIn_of (bc ry) hd dd.mapOf ?_
  rw [<- (rel.val k).Yy,<- l]
  exact h _ (I.tok _)
 .subst ey
  cases (show u=Value.ref b from ry)
  obtain ⟨z,hd,xs,rel,dd⟩:=di I.hok e
  refine wpAny_notIn_heap (a0v hu) (WY I.hok eb) hd dd ?_
  have q:=(rel.val k).Yy
  rw [a0T] at q
  rw [<- q,<- l]
  exact h _ (I.tok _)
def fD (I:Inv X pins σ H s) (mu:Mut (H a)) (hs:Heap.SameBut a s.heap h') (he:∃ q,h'.get? a=some q) (new:qp X.prog X.w (upd H a ob) h' a ob):
  Inv X pins σ (upd H a ob) { s with heap:=h',toks:=t' }:=
 I.write (x:=a) (e:=a) mu (.inl rfl) (fun b q hb z=>(hs.2 b hb).trans z) he new
def g_ (z:kvs.length<=sizeLine) (hd:(a == sysModules)=false) (rel:KV kvs vs) (dd:h'.DictOf (yG P w) a vs):
  qp P w H' h' a (.dK kvs):=⟨z,hd,vs,rel,dd⟩
def n6 (hu:A.units + 1 < cLine) (I:Inv X pins σ H s) (g:uc H a y v H') (ry:RelV y u) (rv:RelV v r) (h:∀ s',Inv X pins σ H' s'->Q () s'):
  wpAny (Oc X) A (setItem (.ref a) u r) Q E s:=by
 rcases g with ⟨kvs,k,e,ey,l,eH⟩ | ⟨kvs,k,b,e,ey,eb,l,eH⟩
 .subst ey eH
  obtain ⟨z,hd,vs,rel,dd⟩:=Ew I.hok e
  have hz:vs.length<=sizeLine:=by rw [<- rel.length];exact z
  have hl:(putK kvs k v).length<=sizeLine:=by have:=Jq kvs k v;omega
  refine wpAny_setItem_pairs (hsz:=hz) (bc ry) dd fun h' dd' hs=>h _ ?_
  have he:∃ q,h'.get? a=some q:=let ⟨q,_,_,hq,_⟩:=dd';⟨q,hq⟩
  exact fD I (by rw [e];exact True.intro) hs he (g_ hl hd (rel.put k rv) dd')
 .subst ey eH
  cases (show u=Value.ref b from ry)
  obtain ⟨z,hd,xs,rel,dd⟩:=HW I.hok e
  have hz:xs.length<=sizeLine:=by rw [<- a0K rel];exact z
  have hl:(putK kvs k v).length<=sizeLine:=by have:=Jq kvs k v;omega
  refine wpAny_setItem_heap (hsz:=hz) (a0v hu) (WY I.hok eb) dd fun h' dd' hs=>h _ ?_
  obtain ⟨q,es,ep,hq,h2,h3,h4,_,h5⟩:=dd'
  refine fD I (by rw [e];exact True.intro) hs ⟨q,hq⟩ ⟨hl,hd,_,(rel.put k eb rv).keeps fun c ys ec=>?_,q,es,ep,hq,h2,h3,h4,h5⟩
  rw [zj (Hq ec e (fun z=>nomatch z))]
  exact ec
def HY (I:Inv X pins σ H s) (e:Rd H a (.dK kvs)) (h:∀ t s',Inv X pins σ H s'->Q (.int kvs.length t) s'):wpAny (Oc X) A (call (.builtin "len") [.ref a]) Q E s:=by
 obtain ⟨z,hd,vs,rel,dd⟩:=QF I.hok e
 refine call_len_dict hd dd (by rw [<- rel.length];rw [T2] at z;omega) ?_
 rw [<- rel.length]
 exact h _ _ (I.tok _)
def fE (I:Inv X pins σ H s) (g:fh H a y o):s.TypeIs (.ref a) "dict" := by
 rcases g with ⟨kvs,k,e,_,_⟩ | ⟨kvs,k,b,e,_,_,_⟩
 .obtain ⟨_,_,vs,_,dd⟩:=QF I.hok e
  exact dd.typeIs
 .obtain ⟨_,_,xs,_,dd⟩:=di I.hok e
  exact dd.typeIs
def HZ (td ty tv:TE):TS:=fun D σ H=>tv σ H fun v H1=>td σ H1 fun x H2=>ty σ H2 fun y H3=>∃ a H4,x=.ref a/\uc H3 a y v H4/\D.nx σ H4
def fF (hu:X.A.units + 1 < cLine) (ho:PE X o td) (hi:PE X i ty) (hv:PE X value tv) (hs:swapsWith value (some (.Subscript o i pos')) pos.line X.env=pure false):
  PS X (.Assign [.Subscript o i pos'] value pos) (HZ td ty tv):=by
 intro pins s σ H D I h
 refine wpAny_Assign_Subscript (thn (hv pins s σ H _ I h) fun r s1 ⟨v,H1,I1,rv,q1⟩=>thn (ho pins s1 σ H1 _ I1 q1) fun u s2 ⟨x,H2,I2,rx,q2⟩=>thn (hi pins s2 σ H2 _ I2 q2) fun iv s3 ⟨y,H3,I3,ry,a,H4,ex,g,q3⟩=>?_) hs
 subst ex
 obtain rfl:u=Value.ref a:=rx
 exact n6 hu I3 g ry rv fun s4 I4=>⟨σ,H4,I4,q3⟩
def hU (h:Heap) (hb:sysModules < h.objs.size):qp P w H (h.push { cls:=.type "dict",data:=.dict #[] }) h.objs.size (.dK []):=
 ⟨S7 _,S6.mpr (Ne.symm (O1 hb)),[],.nil,Heap.DictOf.new h⟩
def ud (h:Heap) (hb:sysModules < h.objs.size):qp P w H (h.push { cls:=.type "dict",data:=.dict #[] }) h.objs.size (.dT []):=
 ⟨S7 _,S6.mpr (Ne.symm (O1 hb)),[],.nil,_,#[],0,O7 _ rfl,⟨rfl,rfl,rfl⟩,rfl,rfl,List.nodup_nil⟩
def Ex:TE:=fun _ H Q=>∀ p,H p=none->Q (.ref p) (upd H p (.dK []))
def Ey:TE:=fun _ H Q=>∀ p,H p=none->Q (.ref p) (upd H p (.dT []))
def ue:PE X (.Dict [] [] pos) Ex:=fun pins s σ H Q I h=>
 wpAny_Dict_empty ⟨.ref s.heap.objs.size,_,I.laid (a:=s.heap.objs.size) (o:=.dK []) (t':=s.toks) (fun _ _ q=>M7 _ q) (N1 _) (hU s.heap I.big),rfl,h _ (I.hok.fresh (N1 _))⟩
def uf:PE X (.Dict [] [] pos) Ey:=fun pins s σ H Q I h=>
 wpAny_Dict_empty ⟨.ref s.heap.objs.size,_,I.laid (a:=s.heap.objs.size) (o:=.dT []) (t':=s.toks) (fun _ _ q=>M7 _ q) (N1 _) (ud s.heap I.big),rfl,h _ (I.hok.fresh (N1 _))⟩
def n8:List (TE × TE)->St->Hp->(List (V × V)->Hp->Prop)->Prop
 | [],_,H,Q=>Q [] H
 | (tk,tv) :: r,σ,H,Q=>tk σ H fun x H1=>tv σ H1 fun y H2=>n8 r σ H2 fun ps H3=>Q ((x,y) :: ps) H3
abbrev VV:List (V × V)->List (Value × Value)->Prop:=Paired fun p q=>RelV p.1 q.1/\RelV p.2 q.2
def PPs (X:Cx) (pos:Pos) (keys:List (Option Expr)) (values:Nc) (trs:List (TE × TE)):Prop:=
 ∀ (pins:MR) (s:MZ) (σ:St) (H:Hp) (Q:List (V × V)->Hp->Prop),Inv X pins σ H s->n8 trs σ H Q->
  wpAny (Oc X) X.A (evalPairs (pairTrees keys values X.env pos)) (fun vs s'=>∃ ps H',Inv X pins σ H' s'/\VV ps vs/\Q ps H') X.xe s
def BU:PPs X pos [] [] []:=fun pins s σ H Q I h=>pairTrees_nil_walk ⟨[],H,I,.nil,h⟩
def ug (hk:PE X k tk) (hv:PE X v tv) (hr:PPs X pos ks vs trs):
  PPs X pos (some k :: ks) (v :: vs) ((tk,tv) :: trs):=fun pins s σ H Q I h=>
 pairTrees_cons_walk (thn (hk pins s σ H _ I h) fun u s1 ⟨x,H1,I1,rx,q1⟩=>thn (hv pins s1 σ H1 _ I1 q1) fun w2 s2 ⟨y,H2,I2,ry,q2⟩=>
  thn (hr pins s2 σ H2 _ I2 q2) fun ws s3 ⟨ps,H3,I3,rel,q3⟩=>⟨(x,y) :: ps,H3,I3,.cons ⟨rx,ry⟩ rel,q3⟩)
def dj (kvs more:Ng):List (Key × V):=more.foldl (fun acc kv=>putK acc kv.1 kv.2) kvs
def KV.merge:∀ {more:Ng}{rs:NK}{kvs:Ng}{vs:NK},KV more rs->KV kvs vs->KV (dj kvs more) (merged vs rs):=by
 intro more rs kvs vs r
 unfold KV at r
 induction r generalizing kvs vs with
 | nil=>intro q;exact q
 | @cons p q ps qs h t ih=>
  intro r0
  have e:KV (putK kvs p.1 p.2) (stored vs q.1 q.2):=by
   have:=r0.put p.1 h.2
   rw [<- h.1];exact this
  exact ih e
def JN:∀ (more kvs:Ng),(dj kvs more).length<=kvs.length + more.length
 | [],kvs=>by show kvs.length<=kvs.length + 0;omega
 | p :: r,kvs=>by
  have h1:=JN r (putK kvs p.1 p.2)
  have h2:=Jq kvs p.1 p.2
  show (dj (putK kvs p.1 p.2) r).length<=_
  rw [v0];omega
def ao {P:Nk}{w:Nq}:∀ {kvs:Ng}{ws:List (Value × Value)},VV (kvs.map fun kv=>(kV kv.1,kv.2)) ws->∃ rs,Carries (yG P w) ws rs/\KV kvs rs
 | [],_,r=>by rw [a2X] at r;cases r;exact ⟨[],True.intro,.nil⟩
 | p :: kvs,_,r=>by
  rw [N9] at r
  cases r with
  | @cons a b as bs h t=>
   obtain ⟨rs,c,q⟩:=ao (P:=P) (w:=w) t
   obtain ⟨b1,b2⟩:=b
   exact ⟨(p.1,b2) :: rs,⟨bc h.1,rfl,c⟩,.cons ⟨rfl,h.2⟩ q⟩
def H_ (trs:List (TE × TE)):TE:=fun σ H Q=>∀ p,H p=none->n8 trs σ (upd H p (.dK [])) fun ps H2=>H2 p=some (.dK [])/\∃ kvs:List (Key × V),ps=kvs.map (fun kv=>(kV kv.1,kv.2))/\kvs.length<=15/\Q (.ref p) (upd H2 p (.dK (dj [] kvs)))
def BV (h:PPs X pos keys values trs) (hall:keys.all (·.isSome)=true) (hl:keys.length=values.length) (h0:keys≠[])
  (h15:keys.length<=15):PE X (.Dict keys values pos) (H_ trs):=by
 intro pins s σ H Q I q
 have hn:=I.hok.fresh (N1 s.heap.objs.size)
 have I1:=I.laid (a:=s.heap.objs.size) (o:=.dK []) (h':=s.heap.push { cls:=.type "dict",data:=.dict #[] }) (t':=s.toks) (fun _ _ q=>M7 _ q) (N1 _) (hU s.heap I.big)
 refine wpAny_Dict_walk (knd:=yG X.prog X.w) hall hl h0 h15 (thn (h pins _ σ _ _ I1 (q _ hn)) fun ws s2 ⟨ps,H2,I2,rel,e,kvs,ep,lk,q2⟩=>?_)
 subst ep
 obtain ⟨rs,c,rk⟩:=ao (P:=X.prog) (w:=X.w) rel
 obtain ⟨z,hd,vs0,r0,dd⟩:=Ew I2.hok e
 cases r0
 refine ⟨rs,c,dd,fun h' dd' hs=>⟨.ref s.heap.objs.size,_, ?_,rfl,q2⟩⟩
 have hz:(dj [] kvs).length<=sizeLine:=by
  have h1:=JN kvs []
  rw [a0P] at h1
  rw [T2];omega
 have he:∃ q,h'.get? s.heap.objs.size=some q:=let ⟨q,_,_,hq,_⟩:=dd';⟨q,hq⟩
 exact fD I2 (by rw [e];exact True.intro) hs he (g_ hz hd (rk.merge .nil) dd')
structure M1 (X:Cx) (o:Nh) (m:Str) (kA:Pos) (e:Nh) (Yq:Pos):Prop where
 base:attributeBase o m X.env (eval o X.env)=eval o X.env
 few:((backTo Yq (starEach [e] X.env)).all (fun x=>!x.1) && (backToKw Yq (keywordEach [] X.env)).all (fun x=>x.1.isSome)
  && decide (([e]:List Expr).length + ([]:List Keyword).length + (if ([]:List Keyword).isEmpty then 0 else 1) < 30))=true
 line:(kA.endLine == Yq.line)=true
 trees:backTo Yq (starEach [e] X.env)=[(false,eval e X.env)]
structure M2 (X:Cx) (o:Nh) (m:Str) (kA:Pos) (e f:Nh) (Yq:Pos):Prop where
 base:attributeBase o m X.env (eval o X.env)=eval o X.env
 few:((backTo Yq (starEach [e,f] X.env)).all (fun x=>!x.1) && (backToKw Yq (keywordEach [] X.env)).all (fun x=>x.1.isSome)
  && decide (([e,f]:List Expr).length + ([]:List Keyword).length + (if ([]:List Keyword).isEmpty then 0 else 1) < 30))=true
 line:(kA.endLine == Yq.line)=true
 trees:backTo Yq (starEach [e,f] X.env)=[(false,eval e X.env),(false,eval f X.env)]
def IsD (H:Hp) (a:Addr):Prop:=(∃ kvs,Rd H a (.dK kvs))\/∃ kvs,Rd H a (.dT kvs)
def Am (I:Inv X pins σ H s) (d:IsD H a):
  s.TypeIs (.ref a) "dict" /\ (∀ b,Value.ref a=.ref b->∃ ob,s.heap.get? b=some ob/\ob.dict=none)/\(a == sysModules)=false:=by
 rcases d with ⟨kvs,e⟩ | ⟨kvs,e⟩
 .obtain ⟨_,hd,vs,_,dd⟩:=QF I.hok e
  refine ⟨dd.typeIs,fun b q=>?_,hd⟩
  cases q
  obtain ⟨ob,_,_,h1,h2,_⟩:=dd
  exact ⟨ob,h1,h2.2.1⟩
 .obtain ⟨_,hd,xs,_,dd⟩:=di I.hok e
  refine ⟨dd.typeIs,fun b q=>?_,hd⟩
  cases q
  obtain ⟨ob,_,_,h1,h2,_⟩:=dd
  exact ⟨ob,h1,h2.2.1⟩
def Ez (hu:A.units + 1 < cLine) (I:Inv X pins σ H s) (g:fh H a y o) (ry:RelV y u) (h:∀ w' s',Inv X pins σ H s'->RelV (o.getD .non) w'->Q w' s'):
  wpAny (Oc X) A (call (.builtin "dict.get") [.ref a,u]) Q E s:=by
 rcases g with ⟨kvs,k,e,ey,l⟩ | ⟨kvs,k,b,e,ey,eb,l⟩
 .subst ey
  obtain ⟨z,hd,vs,rel,dd⟩:=QF I.hok e
  refine a17 a0q dd.typeIs a0S (a2j _ _) (meets_dict_get (yG X.prog X.w) a (bc ry) hd) ⟨_,dd.mapOf,h _ _ (I.tok _) ?_⟩
  rw [l]
  exact (rel.val k).getD rfl
 .subst ey
  cases (show u=Value.ref b from ry)
  obtain ⟨z,hd,xs,rel,dd⟩:=di I.hok e
  refine a17 a0q dd.typeIs a0S (a2j _ _) (meetsH_dict_get (tupleKind (yG X.prog X.w)) a b hd) ⟨a0v hu,k,xs,WY I.hok eb,dd,h _ _ (I.tok _) ?_⟩
  rw [l]
  exact (rel.val k).getD rfl
def EA (hu:A.units + 1 < cLine) (I:Inv X pins σ H s) (g:fh H a y o) (ry:RelV y u) (rd:RelV d r) (h:∀ w' s',Inv X pins σ H s'->RelV (o.getD d) w'->Q w' s'):
  wpAny (Oc X) A (call (.builtin "dict.get") [.ref a,u,r]) Q E s:=by
 rcases g with ⟨kvs,k,e,ey,l⟩ | ⟨kvs,k,b,e,ey,eb,l⟩
 .subst ey
  obtain ⟨z,hd,vs,rel,dd⟩:=QF I.hok e
  refine a17 a0q dd.typeIs a0S (a2k _ _ _) (meets_dict_get_default (yG X.prog X.w) a (bc ry) hd r) ⟨_,dd.mapOf,h _ _ (I.tok _) ?_⟩
  rw [l]
  exact (rel.val k).getD rd
 .subst ey
  cases (show u=Value.ref b from ry)
  obtain ⟨z,hd,xs,rel,dd⟩:=di I.hok e
  refine a17 a0q dd.typeIs a0S (a2k _ _ _) (meetsH_dict_get_default (tupleKind (yG X.prog X.w)) a b hd r) ⟨a0v hu,k,xs,WY I.hok eb,dd,h _ _ (I.tok _) ?_⟩
  rw [l]
  exact (rel.val k).getD rd
def EB (td ty:TE):TE:=fun σ H Q=>td σ H fun x H1=>∃ a,x=.ref a/\IsD H1 a/\ty σ H1 fun y H2=>∃ o,fh H2 a y o/\Q (o.getD .non) H2
def EC (td ty tx:TE):TE:=fun σ H Q=>td σ H fun x H1=>∃ a,x=.ref a/\IsD H1 a/\ty σ H1 fun y H2=>tx σ H2 fun z H3=>∃ o,fh H3 a y o/\Q (o.getD z) H3
def uh (hu:X.A.units + 1 < cLine) (ho:PE X o td) (he:PE X e ty) (m:M1 X o "get" kA e Yq):PE X (.Call (.Attribute o "get" kA) [e] [] Yq) (EB td ty):=by
 intro pins s σ H Q I h
 refine wpAny_Call_method m.base m.few m.line a2l a0q a2x (thn (ho pins s σ H _ I h) fun u s1 ⟨x,H1,I1,rx,a,ex,d,q1⟩=>?_)
 subst ex
 obtain rfl:u=Value.ref a:=rx
 obtain ⟨t1,t2,_⟩:=Am I1 d
 refine ⟨t1,t2, ?_⟩
 rw [m.trees]
 refine a1q rfl (a1y (a0M (thn (he pins s1 σ H1 _ I1 q1) fun iv s2 ⟨y,H2,I2,ry,ov,g,q2⟩=>a1k ?_)))
 exact Ez hu I2 g ry fun w' s3 I3 rw'=>⟨_,H2,I3,rw',q2⟩
def ui (hu:X.A.units + 1 < cLine) (ho:PE X o td) (he:PE X e ty) (hf:PE X f tx) (m:M2 X o "get" kA e f Yq):PE X (.Call (.Attribute o "get" kA) [e,f] [] Yq) (EC td ty tx):=by
 intro pins s σ H Q I h
 refine wpAny_Call_method m.base m.few m.line a2l a0q a2x (thn (ho pins s σ H _ I h) fun u s1 ⟨x,H1,I1,rx,a,ex,d,q1⟩=>?_)
 subst ex
 obtain rfl:u=Value.ref a:=rx
 obtain ⟨t1,t2,_⟩:=Am I1 d
 refine ⟨t1,t2, ?_⟩
 rw [m.trees]
 refine a1q rfl (a1y (a0M (thn (he pins s1 σ H1 _ I1 q1) fun iv s2 ⟨y,H2,I2,ry,q2⟩=>
  a0M (thn (hf pins s2 σ H2 _ I2 q2) fun fv s3 ⟨z,H3,I3,rz,ov,g,q3⟩=>a1k ?_))))
 exact EA hu I3 g ry rz fun w' s4 I4 rw'=>⟨_,H3,I4,rw',q3⟩
def uj (I:Inv X pins σ H s) (e:Rd H a (.dK kvs)) (h:∀ p s',H p=none->Inv X pins σ (upd H p (.dK kvs)) s'->Q (.ref p) s'):wpAny (Oc X) A (call (.type "dict") [.ref a]) Q E s:=by
 obtain ⟨z,hd,vs,rel,dd⟩:=QF I.hok e
 refine kt_call_dict hd dd (by rw [<- rel.length];exact z) fun h' dd' hs=>?_
 refine h _ _ (I.hok.fresh (N1 _)) (I.laid (a:=s.heap.objs.size) (o:=.dK kvs) (t':=s.toks) (fun b q hq=>?_) (N1 _) (g_ z (S6.mpr (Ne.symm (O1 I.big))) rel dd'))
 exact (hs.2 b (O1 (N4 hq))).trans (M7 _ hq)
section
variable {X:Cx}{pins:MR}{σ:St}{H:Hp}{s:MZ}{a:Addr}{y:V}{u:Value}{A:Nt}{E:MW}
end
end L2
namespace Att
open PySem PySem.W PySem.Calls PyProof.Rows
def WZ:∀ (ns:Nz) (vs:M_),WellAll P h vs (ns.map WData.int)->IntsAre vs ns:=by
 intro ns
 induction ns with
 | nil=>
  intro vs w
  rw [a2X] at w
  cases w
  exact .nil
 | cons n ns ih=>
  intro vs w
  rw [N9] at w
  cases w with
  | cons a b=>
   cases a
   exact .cons _ _ (ih _ b)
def n_ {l:OpenLaw}{n:Nat}(hn:l.most=some n) {P:Params}{h:Heap}{args:List WData}{vals:M_}
  (hpre:l.row.toRowW.claim.pre args=true) (hwl:WellAll P h vals args):
  ∃ a vs ns,vals=[Value.ref a]/\args=[WData.list (ns.map WData.int)]/\h.get? a=some { cls:=.type "list",data:=.seq vs.toArray }/\IntsAre vs ns/\ns.length<=n:=by
 have hsh:WShape.hasAll [] args [.list .int]=true:=(pre_splitW hpre).1
 have hc:l.pre.holds [] { args:=args }=true:=(pre_splitW hpre).2
 obtain ⟨d,r,rfl,h1,h2⟩:=hasAllW_cons hsh
 obtain rfl:=hasAllW_nil h2
 obtain ⟨xs,rfl,h3⟩:=hasW_list h1
 obtain ⟨ns,rfl⟩:=items_int h3
 have hlen:ns.length<=n:=by
  unfold OpenLaw.pre at hc
  have h4:(WTm.not (.lt (.lit (.int (n:Int))) (.len (.arg 0)))).holds [] { args:=[.list (ns.map .int)] }=true:=by
   have h4:=(holds_andW hc).1
   rw [hn] at h4
   exact h4
  have h5:=condW_of h4 (w_not (w_lt w_lit (w_len_list (w_arg rfl))))
  rw [u8] at h5
  refine Nat.le_of_not_lt fun q=>?_
  have q':(n:Int) < ((ns.length:Nat):Int):=by omega
  first
   | (rw [N7 q'] at h5;exact absurd h5 (by decide))
   | (simp at h5;omega)
 cases hwl with
 | cons w1 w2=>
  cases w2
  cases w1 with
  | list ho hall=>exact ⟨_,_,ns,rfl,rfl,ho,WZ ns _ hall,hlen⟩
def oa (l:OpenLaw) (args:List WData):l.row.toRowW.claim.post args (.bool true) args=true:=
 postW_of (r:=l.row.toRowW) (X:=(true == true))
  (show WShape.has [] (.bool true) .bool=true by first | rfl | decide | simp [WShape.has,WShape.arms,WShape.armsAll])
  (show (WTm.eq .res (.lit (.bool true))).value [] { args:=args,res:=some (.bool true),after:=args }=some (.bool (true == true)) from w_eq_bool (w_res rfl) w_lit) rfl
def fG {l:OpenLaw}{n:Nat}{q:Nk}{loose:MX}{XP:(Str->Option Value)->Heap->Prop}{YP:World->Heap->Prop}{d:DefRec}
  (hn:l.most=some n) (hdf:d.params.defaults=[])
  (call:∀ (w:Nq) (s₀ s₁:MZ) (mg mb:MU) (fa:Addr) (o:Obj) (pm cd doc:Value) (a:Addr) (vs:M_) (ns:Nz),
   Ground q loose [] XP w s₀ mg mb s₁.heap->YP w s₁.heap->
   s₁.heap.get? fa=some o->o.data=.func (docDef d.name d.params d.body d.scope pm cd doc)->s₁.heap.CodeRec cd d.name->mg d.name=some (.ref fa)->
   s₁.heap.get? a=some { cls:=.type "list",data:=.seq vs.toArray }->IntsAre vs ns->ns.length<=n->s₁.gens = #[]->
   codeAny (model l.prog w) callerA (.call (.ref fa) ⟨[.ref a],[]⟩) (fun r s'=>r=.ok (.ret (.bool true))/\OldK s₁.heap s'.heap/\s'.os=s₁.os/\AllBare s'.gens) s₁):
  WalkO q loose XP YP l.row.toRowW d [] (fun f vs=>PySem.call f vs):=by
 intro w s₀ s₁ mg mb G Y fa o pm cd doc dV kV ho hd hcd hD hmg hg args vals as hpre hlay hrd hwl hlo
 obtain rfl:dV=.none:=Dflts.none hD hdf
 obtain rfl:kV=.none:=Dflts.noKw hD
 obtain ⟨a,vs,ns,rfl,rfl,hobj,hints,hlen⟩:=n_ hn hpre hwl
 refine enter_call (a0E (call w s₀ s₁ mg mb fa o pm cd doc a vs ns G Y ho (fd_plain hd) hcd hmg hobj hints hlen hg) fun r s' hq=>?_)
 obtain ⟨rfl,h2,h3,h4⟩:=hq
 exact ⟨.inl ⟨.bool true,.bool true,[],rfl,fun _=>rfl,.bool true,oa l _,fun _=>⟨List.Pairwise.nil,fun _ hm=>(nomatch hm)⟩⟩,h2,h3,h4⟩
section
variable {prog:Nk}{w:Nq}{A:Nt}{E:MW}{s:MZ}{K:Ny}
end
end Att
namespace L2
open PySem PySem.Spec PyProof.Rows
def dk:∀ {vs:M_}{ns:Nz},IntsAre vs ns->Vals (ns.map V.int) vs
 | _,_,.nil=>.nil
 | _,_,.cons n t h=>.cons ⟨t,rfl⟩ (dk h)
def Ia (H:Hp):Prop:=∀ b,H b=none\/∃ o xs,H b=some (.frz o (.lst xs))
def uk {P:Nk}{w:Nq}{K:Nd}{mg mb:MU}{CX:CXT}{k:Nat}{fa a:Addr}{fd:Nr}{x:Str}{sp:Sp}{s₁:MZ}{vs:M_}{ns:Nz}
  (KX:K.In s₁.heap) (hns:s₁.heap.Ns mainGlobals mg) (hb:s₁.heap.Ns builtinsNs mb) (hbb:∀ x:Str,x ≠ "__name__" -> mb x=bootBuiltins x) (hlim:s₁.heap.NoLimit) (hg:s₁.gens = #[])
  (ha:s₁.heap.get? a=some { cls:=.type "list",data:=.seq vs.toArray }) (hi:IntsAre vs ns) (hl:ns.length<=sizeLine) (hr:k_ k callerA)
  (F:∀ base:Heap,K.In base->base.Ns mainGlobals mg->y3 P w K mg base CX k fa fd [x] sp) (hbind:∀ (s:MZ) (u:Value),BindsTo s fd ⟨[u],[]⟩ [(x,u)])
  (hsp:∀ H:Hp,Ia H->SqL K H a (ns.map V.int)->sp [.ref a] H (fun v _=>v=.bl true) fun _ _ _=>False)
  (hCX:∀ H e s',CX [] H s₁ (fun _ _ _=>False) e s'->False):
  codeAny (model P w) callerA (.call (.ref fa) ⟨[.ref a],[]⟩) (fun r s'=>r=.ok (.ret (.bool true))/\OldK s₁.heap s'.heap/\s'.os=s₁.os/\AllBare s'.gens) s₁:=by
 have rv:=dk hi
 have Bl:=hi.length
 -- from an abstract heap in which nothing but the script may be tracked
 have core:∀ H:Hp,Ia H->SqL K H a (ns.map V.int)->HOk P w H s₁.heap->(∀ b,H b≠none->b=a)->(H a≠none->K.lookup a=none)->
   codeAny (model P w) callerA (.call (.ref fa) ⟨[.ref a],[]⟩) (fun r s'=>r=.ok (.ret (.bool true))/\OldK s₁.heap s'.heap/\s'.os=s₁.os/\AllBare s'.gens) s₁:=by
  intro H hO hS hok hA hK
  have base_of:∀ {b:Addr}{o:Obj},s₁.heap.get? b=some o->H b=none->(tV s₁.heap H).get? b=some o:=fun e n=>tW e n
  have noA:∀ {b:Addr}{o:Obj}{es:Array DictEntry}{ep:Nat},s₁.heap.get? b=some o->o.data=.dict es ep->H b=none:=fun {b o es ep} e d=>by
   cases q:H b with
   | none=>rfl
   | some u=>
    have e':b=a:=hA b (by rw [q];simp)
    subst e'
    rw [ha] at e;cases e
    have d':Data.seq vs.toArray _=Data.dict es ep:=d
    cases d'
  have nsK:∀ {b:Addr}{m:MU},s₁.heap.Ns b m->(tV s₁.heap H).Ns b m:=fun {b m} ⟨o,es,ep,e,d,r⟩=>⟨o,es,ep,base_of e (noA e d),d,r⟩
  have hKb:K.In (tV s₁.heap H):=fun b o e=>base_of (KX b o e) (by
   cases q:H b with
   | none=>rfl
   | some u=>
    have e':b=a:=hA b (by rw [q];simp)
    subst e'
    rw [hK (by rw [q];simp)] at e;cases e)
  have hM:Mod K mg (tV s₁.heap H):=⟨hKb,nsK hns,⟨mb,nsK hb,hbb⟩,let ⟨mc,h1,h2⟩:=hlim;⟨mc,nsK h1,h2⟩⟩
  have e0:t9 P w K mg (tV s₁.heap H) callerA [] s₁ H:=⟨rfl,hM,fun b o e=>Bz e,a1x (nD _ _),trivial,fun b hb=>absurd (show b∈([]:List Addr) from hb) (by simp),hok,.of_eq hg⟩
  refine a0E ((F _ hKb (nsK hns)).run callerA [] s₁ H ⟨[.ref a],[]⟩ [.ref a] [.ref a] _ _ hr e0 (hbind s₁ (.ref a)) (.cons rfl .nil) (hsp H hO hS)) fun r s' h=>?_
  cases r with
  | error e=>exact (hCX H e s' h).elim
  | ok fl=>
   cases fl with
   | next=>exact False.elim h
   | brk=>exact False.elim h
   | cont=>exact False.elim h
   | ret u=>
    obtain ⟨v,H',os,bare,un,hok',r',q⟩:=h
    have q':v=.bl true:=q
    subst q'
    obtain rfl:u=Value.bool true:=r'
    refine ⟨rfl,OldK.of_keep fun b o e=>?_,os,bare⟩
    cases q:H b with
    | none=>exact un.keep b o e q (by intro z;exact absurd (show b∈([]:List Addr) from z) (by simp)) (by simp)
    | some u=>
     rcases hO b with z | ⟨ob,xs,z⟩
     .rw [q] at z;cases z
     .have z2:=un.tU b ob _ z
      obtain ⟨e1,_⟩:=hok b _ z
      obtain ⟨e2,_⟩:=hok' b _ z2
      rw [e] at e1;cases e1
      exact e2
 cases hk:K.lookup a with
 | some o=>
  -- the script is one of the module's own objects
  have e:=KX a o hk
  rw [ha] at e
  cases e
  refine core (fun _=>none) (fun _=>.inl rfl) (.inr ⟨_,vs.toArray,_,hk,rfl,rfl,rfl,by rw [O4,Bl];exact hl,by simpa using rv⟩) (fun b u z=>by have z':(none:Option HO)=some u:=z;cases z') (fun b z=>absurd rfl z) fun z=>absurd rfl z
 | none=>
  refine core (fun b=>if b=a then some (.frz { cls:=.type "list",data:=.seq vs.toArray } (.lst (ns.map V.int))) else none) (fun b=>?_) (.inl (.inr ⟨{ cls:=.type "list",data:=.seq vs.toArray },if_pos rfl⟩)) (fun b u z=>?_) (fun b z=>?_) fun _=>hk
  .by_cases hb:b=a
   .exact .inr ⟨_,_,if_pos hb⟩
   .exact .inl (if_neg hb)
  .by_cases hb:b=a
   .have z':=(if_pos hb).symm.trans z
    cases z'
    subst hb
    exact ⟨ha,by rw [u8];exact hl,vs,_,rv,ha⟩
   .have z':=(if_neg hb).symm.trans z
    cases z'
  .by_cases hb:b=a
   .exact hb
   .exact absurd (if_neg hb) z
def BW {l:PySem.W.OpenLaw}{n k:Nat}{q:Nk}{loose:MX}{XP:(Str->Option Value)->Heap->Prop}{YP:World->Heap->Prop}{d:DefRec}{K:Params->PySem.W.Frag}{CX:World->CXT}{sp:World->Sp}{x:Str}
  (hn:l.most=some n) (hn2:n<=sizeLine) (hdf:d.params.defaults=[]) (hr:k_ k callerA)
  (hY:∀ (w:Nq) (h:Heap),YP w h->(K w.params).In h)
  (F:∀ (w:Nq) (mg:MU) (fa:Addr) (h:Heap),(K w.params).In h->h.Ns mainGlobals mg->mg d.name=some (.ref fa)->
   ∃ fd:FuncData,(∀ (s:MZ) (u:Value),BindsTo s fd ⟨[u],[]⟩ [(x,u)])/\
    ∀ base:Heap,(K w.params).In base->base.Ns mainGlobals mg->y3 l.prog w (K w.params) mg base (CX w) k fa fd [x] (sp w))
  (hsp:∀ (w:Nq) (H:Hp) (a:Addr) (ns:Nz),ns.length<=n->Ia H->SqL (K w.params) H a (ns.map V.int)->sp w [.ref a] H (fun v _=>v=.bl true) fun _ _ _=>False)
  (hCX:∀ (w:Nq) (H:Hp) (s:MZ) (e:Value) (s':MZ),CX w [] H s (fun _ _ _=>False) e s'->False):
  PySem.W.WalkO q loose XP YP l.row.toRowW d [] (fun f vs=>PySem.call f vs):=by
 refine Att.fG hn hdf fun w s₀ s₁ mg mb fa o pm cd doc a vs ns G Y ho hd hcd hmg hobj hints hlen hg=>?_
 have KX:=hY w _ Y
 obtain ⟨fd,hb,hF⟩:=F w mg fa _ KX G.T.g hmg
 exact uk KX G.T.g G.T.b G.T.builtins G.T.nolimit hg hobj hints (P6 hlen hn2) hr hF hb (fun H hO hS=>hsp w H a ns hlen hO hS) fun H e s'=>hCX w H s₁ e s'
def inClass (s:NF) (j:Nat):Stmt:=match s with
 | .ClassDef _ _ _ body _ _ _ _ _ _ _=>body.getD j (.Pass ⟨0,0,0,0⟩)
 | _=>.Pass ⟨0,0,0,0⟩
def W0 (s:NF):Arguments:=match s with
 | .FunctionDef _ a _ _ _ _ _ _ _ _=>a
 | _=>{ posonlyargs:=[],args:=[],vararg:=none,kwonlyargs:=[],kw_defaults:=[],kwarg:=none,defaults:=[] }
def Zt (s:NF):List Stmt:=match s with
 | .FunctionDef _ _ b _ _ _ _ _ _ _=>b
 | _=>[]
def zk (s:NF):Scope:=match s with
 | .FunctionDef _ _ _ _ _ _ sc _ _ _=>sc
 | _=>{ kind:=.function,names:=[],isGenerator:=false,isCoroutine:=false }
abbrev E0:XK:=fun _ _ _=>False
structure Fun (K:Nd) (x qual:Str) (st:NF) (f:Addr) (fd:Nr):Prop where
 ex:∃ (oc:Value) (od:ND) (kV doc pm:Value) (an:ND) (cdv ct:Value) (osl:NC),
  fd=PySem.W.fnOf x qual (W0 st) (Zt st) (zk st) .none kV doc pm an cdv ct/\K.lookup f=some ⟨oc,od,.func fd,osl⟩/\PySem.W.codeIn K cdv qual=true
 kp:PySem.W.keepIn K (.ref f)=true
section
variable {P:Nk}{w:Nq}{K:Nd}{mg:MU}{base:Heap}
def Fun.binds {x qual:Str}{st:NF}{f:Addr}{fd:Nr}{ps:MX}(F:Fun K x qual st f fd)
  (h:∀ (kV doc pm:Value) (an:ND) (cdv ct:Value) (us:M_),us.length=ps.length->bindArgs (PySem.W.fnOf x qual (W0 st) (Zt st) (zk st) .none kV doc pm an cdv ct) ⟨us,[]⟩=pure (ps.zip us)):Binds K fd ps []:=by
 obtain ⟨oc,od,kV,doc,pm,an,cdv,ct,osl,rfl,lk,hcd⟩:=F.ex
 exact .all (h kV doc pm an cdv ct)
def An {x qual:Str}{st:NF}{f:Addr}{oc:Value}{od an:ND}{osl:NC}{kV doc pm cdv ct:Value}(l:K.lookup f=some ⟨oc,od,.func (PySem.W.fnOf x qual (W0 st) (Zt st) (zk st) .none kV doc pm an cdv ct),osl⟩)
  (c:PySem.W.codeIn K cdv qual=true) (k:PySem.W.keepIn K (.ref f)=true):Fun K x qual st f (PySem.W.fnOf x qual (W0 st) (Zt st) (zk st) .none kV doc pm an cdv ct):=⟨⟨oc,od,kV,doc,pm,an,cdv,ct,osl,rfl,l,c⟩,k⟩
end
def zA (hr:k_ k A):A.units + 1 < cLine:=a09 (Nat.add_le_add_left (by decide:1<=64) _) hr.units
def pv (i:Nat) (hN:X.N[i]? = some x:=by rfl) (hv:Vis X.env.scope x:=by first | exact Or.inl rfl | exact Or.inr (Or.inl rfl) | exact Or.inr (Or.inr rfl)) (hd:(x == ("__debug__" : Str))=false:=by decide)
  (hcd:(x == ("__classdict__" : Str))=false:=by decide):PE X (.Name x pos) (ng i):=D9 hN hv hd hcd
def BX {A B:Prop}(h:B):if false=true then A else B:=by
 rw [if_neg O3]
 exact h
def BY {A B:Prop}(h:A):if true=true then A else B:=by
 rw [if_pos rfl]
 exact h
def zE (H H':Hp):Prop:=∀ b o,H b=some o->H' b=some o
def zE.refl (H:Hp):zE H H:=fun _ _ h=>h
def zE.trans (a:zE H H1) (b:zE H1 H2):zE H H2:=fun c o h=>b c o (a c o h)
section
variable {κ:Type}[DecidableEq κ]
end
end L2
set_option maxHeartbeats 4000000
namespace L2
open PySem PySem.Spec PyProof.Rows PySem.W
def kB:List Value:=[.type "ValueError",.type "Exception",.type "BaseException",.type "object"]
def dm:List Value->List Value
 | .ref _ :: r=>dm r
 | l=>l
structure Zu (K:Ny) (C:Addr):Prop where
 over:(clsIn K C).any (fun cd=>dm cd.mro == kB && !cd.mro.isEmpty && cd.hasDict)=true
 sa:findIn K (.ref C) "__setattr__" = some (some (.builtin "object.__setattr__"))
 ga:findIn K (.ref C) "__getattribute__" = some (some (.builtin "BaseException.__getattribute__"))
 gn:findIn K (.ref C) "__getattr__" = some none
 ty:typeIn K (.ref C)=some (.type "type")
def Vq (self:Value):∀ l:List Value,dm l=kB->refuseLoop self "__setattr__" l=pure ()
 | [],e=>by cases e
 | .ref c :: r,e=>by rw [refuseLoop_ref];exact Vq self r e
 | .type n :: r,e=>by rw [show Value.type n :: r=kB from e];exact PySem.F.store_ValueError.passes self
 | .none :: r,e=>by cases e
 | .bool _ :: r,e=>by cases e
 | .int _ _ :: r,e=>by cases e
 | .str _ _ :: r,e=>by cases e
 | .bytes _ _ :: r,e=>by cases e
 | .float _ _ :: r,e=>by cases e
 | .builtin _ :: r,e=>by cases e
 | .ellipsis :: r,e=>by cases e
 | .notImplemented :: r,e=>by cases e
def dq {x:String}(hx:kB.contains (.type x)=true):∀ l:List Value,dm l=kB->l.contains (.type x)=true
 | [],e=>by cases e
 | .ref c :: r,e=>by rw [List.contains_cons,dq hx r e,Bool.or_true]
 | .type n :: r,e=>by rw [show Value.type n :: r=kB from e];exact hx
 | .none :: r,e=>by cases e
 | .bool _ :: r,e=>by cases e
 | .int _ _ :: r,e=>by cases e
 | .str _ _ :: r,e=>by cases e
 | .bytes _ _ :: r,e=>by cases e
 | .float _ _ :: r,e=>by cases e
 | .builtin _ :: r,e=>by cases e
 | .ellipsis :: r,e=>by cases e
 | .notImplemented :: r,e=>by cases e
def Zu.cd {K:Ny}{C:Addr}(c:Zu K C):∃ cd,clsIn K C=some cd/\dm cd.mro=kB/\cd.mro.isEmpty=false/\cd.hasDict=true:=by
 obtain ⟨cd,hc,h⟩:=any_some c.over
 simp only [Bool.and_eq_true,beq_iff_eq,Bool.not_eq_true'] at h
 exact ⟨cd,hc,h.1.1,h.1.2,h.2⟩
def Zu.sub {K:Ny}{C:Addr}(c:Zu K C) {x:String}(hx:kB.contains (.type x)=true):mroIn K C (.type x)=some true:=by
 obtain ⟨cd,hc,h1,h2,_⟩:=c.cd
 unfold mroIn
 rw [hc,Option.bind_some,if_neg (by rw [h2];decide),dq hx _ h1]
def yU (C:Addr) (od:ND) (t:Addr) (T:Value) (sl:NC):Obj:=⟨.ref C,od,.fields #[.ref t,T,.none,.none,.bool false,.none],sl⟩
section
variable {prog:Nk}{w:Nq}{A:Nt}{E:MW}{s:MZ}{K:Ny}{x dx C t:Addr}{T:Value}{sl:NC}{mA:MU}{name:Str}{v:Value}{R:Result->Shared->Prop}
def hX (X:K.In s.heap) (c:Zu K C) (I:InstAt s.heap x (yU C od t T sl) C oo) (ht:takerIn K C name=some none)
  (h:∀ b,wpAny (model prog w) A.in1 (Builtin.ObjectAttr.storeInOwnDict (.ref x) (.ref C) (.str name tk) name v b)
   (fun fin s'=>match fin with | .done f=>R (.ok f) s' | .again c'=>c'.quiet=true/\codeAny (model prog w) A c' R s') (fun e s'=>R (.error e) s') s):
  codeAny (model prog w) A (.call (.builtin "object.__setattr__") ⟨[.ref x,.str name tk,v],[]⟩) R s:=by
 have SF:=PySem.F.store_object
 obtain ⟨cd,hc,ho,ne,_⟩:=c.cd
 have sub:Looks (model prog w) s.heap (isInstance (.ref x) (.type "object")) true:=I.type.andThen (a1L X (c.sub (x := "object") (by decide)))
 refine a0Y SF.slot.plain SF.entry (@check_slot (model prog w) _ _ s "object.__setattr__" "object" "__setattr__" (.ref x) [.str name tk,v] [] _ SF.kind SF.split sub (SF.args (.ref x) (.str name tk) v) ?_)
 obtain ⟨attr,ha,hr⟩:=O8.mp ht
 have hm:Looks (model prog w) s.heap (mroOf (.ref C)) cd.mro:=(a21 X hc).andThen .now
 have L3:Looks (model prog w) s.heap (Builtin.ObjectAttr.storeTaker? attr) none:=by
  cases attr with
  | none=>exact .now
  | some a=>
   obtain ⟨b,hb,e⟩:=M3.mp hr
   refine (looks_takesIn X hb).andThen ?_
   cases b with
   | true=>cases e
   | false=>exact .now
 rw [osa_eq,refuse_eq]
 refine f8 (f8 (I.type.here (f8 (hm.here ?_))))
 rw [Vq _ _ ho]
 refine N5 (f8 (I.type.here (f8 ((a1a X ha).here (f8 (L3.here ?_))))))
 exact h _
def l5 (X:K.In s.heap) (c:Zu K C) (hx:s.heap.get? x=some (yU C none t T sl)) (ht:takerIn K C name=some none)
  (h:∀ h',h'.get? x=some (yU C (some s.heap.objs.size) t T sl)->h'.Ns1 s.heap.objs.size (fun y=>if y=name then some v else none)->
   (∀ b o,b≠x->s.heap.get? b=some o->h'.get? b=some o)->Q () { s with heap:=h',toks:=s.toks + 2 }):
  wpAny (model prog w) A (setAttr (.ref x) name v) Q E s:=by
 have I:InstAt s.heap x (yU C none t T sl) C none:=⟨hx,rfl,rfl,trivial⟩
 refine set_plain X I c.sa (hX (s:={ s with toks:=s.toks + 1 }) X c I ht fun b=>?_)
 obtain ⟨cd,hc,_,_,hd⟩:=c.cd
 have hxs:x≠s.heap.objs.size:=O1 (N4 hx)
 have hx1:(s.heap.push emptyDict).get? x=some (yU C none t T sl):=M7 _ hx
 refine f8 (N5 (f8 (f8 (a0U hx (f8 (Looks.here (s:={ s with toks:=s.toks + 1 }) (a21 X hc) ?_))))))
 rw [hd]
 refine f8 (wpAny_alloc' (f8 (wpAny_update' hx1 (N5 ?_))))
 have hgx:((s.heap.push emptyDict).update x fun o=>{ o with dict:=some s.heap.objs.size }).get? x=some (yU C (some s.heap.objs.size) t T sl):=a0d _ hx1 rfl
 have hgd:((s.heap.push emptyDict).update x fun o=>{ o with dict:=some s.heap.objs.size }).get? s.heap.objs.size=some emptyDict:=(a1I _ _ _ _ hxs.symm).trans (Heap.get?_push_at rfl rfl)
 have hnd:((s.heap.push emptyDict).update x fun o=>{ o with dict:=some s.heap.objs.size }).Ns s.heap.objs.size (fun _=>none):=⟨_,#[],_,hgd,rfl,fun e he=>absurd he (by simp),fun _=>rfl⟩
 refine f8 (N5 (f8 ?_))
 refine a2W (s:={ s with heap:=(s.heap.push emptyDict).update x fun o=>{ o with dict:=some s.heap.objs.size },toks:=s.toks + 1 }) (Heap.Ns1.of_empty hnd) fun h' hn' hs=>?_
 obtain ⟨oD,esD,epD,hoD,hdD,hcD⟩:=hn'.count (a1U name v PySem.Within.nil)
 refine f8 (a14 hoD (by rw [hdD];exact a15 (P6 hcD (by rw [v0,a0P,T2];omega))) ?_)
 refine N5 (h _ ((hs.2 _ hxs).trans hgx) hn' fun b o hb e=>?_)
 exact (hs.2 _ (O1 (N4 e))).trans ((a1I _ _ _ _ hb).trans (M7 _ e))
def og (X:K.In s.heap) (c:Zu K C) (hx:s.heap.get? x=some (yU C (some dx) t T sl)) (hn:s.heap.Ns1 dx mA) (hne:dx≠x) (ht:takerIn K C name=some none)
  (hw:PySem.Within mA ns) (hsz:ns.length<=sizeLine)
  (h:∀ h',h'.Ns1 dx (fun y=>if y=name then some v else mA y)->Heap.SameBut dx s.heap h'->Q () { s with heap:=h',toks:=s.toks + 2 }):
  wpAny (model prog w) A (setAttr (.ref x) name v) Q E s:=by
 obtain ⟨od,hod,_⟩:=JK hn
 have I:InstAt s.heap x (yU C (some dx) t T sl) C (some od):=⟨hx,rfl,rfl,hod⟩
 refine set_plain X I c.sa (hX (s:={ s with toks:=s.toks + 1 }) X c I ht fun b=>?_)
 obtain ⟨cd,hc,_,_,hd⟩:=c.cd
 refine f8 (N5 (f8 (f8 (a0U hx (f8 (Looks.here (s:={ s with toks:=s.toks + 1 }) (a21 X hc) ?_))))))
 rw [hd]
 refine N5 (a:=some dx) (f8 (N5 (f8 ?_)))
 refine a2W (s:={ s with toks:=s.toks + 1 }) hn fun h' hn2 hs2=>?_
 obtain ⟨oD,esD,epD,hoD,hdD,hcD⟩:=hn2.count (a1U name v hw)
 refine f8 (a14 hoD (by rw [hdD];exact a15 (P6 hcD (by rw [v0];omega))) ?_)
 exact N5 (h _ hn2 hs2)
def My (X:K.In s.heap) (c:Zu K C) (hx:s.heap.get? x=some (yU C (some dx) t T sl)) (hn:s.heap.Ns1 dx mA) (ha:findIn K (.ref C) name=some none)
  (hv:mA name=some v) (hh:handedIn v=true) (h:Q v { s with toks:=s.toks + 1 }):wpAny (model prog w) A (getAttr (.ref x) name expr) Q E s:=by
 obtain ⟨od,hod,hl⟩:=JK hn
 have I:InstAt s.heap x (yU C (some dx) t T sl) C (some od):=⟨hx,rfl,rfl,hod⟩
 obtain ⟨cd,hc,ho,ne,hdct⟩:=c.cd
 obtain ⟨hp,g,d,tk,os⟩:=s
 have L0:=I.type (M:=model prog w)
 have L1:=a1a (M:=model prog w) X c.ga
 have L2:=a1a (M:=model prog w) X c.gn
 have Lb:Looks (model prog w) hp (isInstance (.ref x) (.type "BaseException")) true:=L0.andThen (a1L X (c.sub (x := "BaseException") (by decide)))
 have L3:=looks_find (M:=model prog w) X I (findObj_own (by unfold hasDictIn;rw [hc];exact hdct) ha rfl (by rw [hl,hv]))
 have ga:=PySem.F.excAttr_ValueError.ga
 have f3:=ga.bind (.ref x)
 unfold getAttr getAttrBy
 refine f8 (a18 (T8 (f8 (L0.at (f8 (L1.at ?_))))))
 dsimp only
 rw [show (onTheHeap (Value.ref C) && Value.builtin "BaseException.__getattribute__" == Value.builtin "object.__getattribute__")=false from by
  rw [show (Value.builtin "BaseException.__getattribute__" == Value.builtin "object.__getattribute__")=false from by decide +kernel];rfl]
 show wpAny _ _ (getAttrByItsOwn _ _ _ _ _ _) _ _ _
 unfold getAttrByItsOwn
 refine f8 (show wpAny _ _ (typeLookup (.ref C) "__getattr__") _ _ _ from L2.at ?_)
 unfold callGetattribute boundAndCalled
 rw [show (expr && onTheHeap (Value.builtin "BaseException.__getattribute__"))=false from by cases expr <;> rfl]
 refine f8 (a02 (T8 ?_))
 show wpAny _ _ (bindSpecial _ _ >>= _) _ _ _
 rw [f3]
 refine f8 (N5 (a0C (a0Y ga.plain F.entry_bexc_ga ?_)))
 have hk:builtinKind "BaseException.__getattribute__" = some .slot:=by decide +kernel
 have hs:splitId "BaseException.__getattribute__" = some ("BaseException","__getattribute__"):=by decide +kernel
 refine @check_slot (model prog w) _ _ ⟨hp,g,d,tk + 1,os⟩ "BaseException.__getattribute__" "BaseException" "__getattribute__" (.ref x) [.str name tk] [] _ hk hs Lb (F.args_bexc_ga (.ref x) (.str name tk)) ?_
 unfold Builtin.«object.__getattribute__»
 repeat lk
 show wpAny _ _ (handedOut v) _ _ _
 rw [handedOut_of hh]
 exact N5 h
end
def strKeys (es:Array DictEntry):Bool:=es.toList.all fun e=>match e.key with | .str _ _=>true | _=>false
def dr (K:Ny):List Value->Bool
 | .ref a :: r=>(match K.lookup a with
   | some ⟨_,_,.cls cd,_⟩=>(match K.lookup cd.ns with
     | some ⟨_,_,.dict es _,_⟩=>strKeys es && (es.toList.all fun e=>!e.key.isStr "__init__")
     | _=>false)
   | _=>false) && dr K r
 | l=>l == kB
def l6 {h:Heap}{N:Addr}{c:Value}{dd:ND}{es:Array DictEntry}{ep:Nat}{sl:NC}(e:h.get? N=some ⟨c,dd,.dict es ep,sl⟩) (k:strKeys es=true)
  (hi:(es.toList.all fun e=>!e.key.isStr "__init__")=true):∃ m,h.Ns N m/\m "__init__" = none:=by
 refine ⟨fun n=>nsFind es n,⟨_,es,ep,e,rfl,fun x hx=>?_,fun _=>rfl⟩, ?_⟩
 .have q:=a19.mp k x (a2H.mpr hx)
  split at q
  .rename_i n t hk;exact ⟨n,t,hk⟩
  .cases q
 .show nsFind es "__init__" = none
  unfold nsFind findBy
  rw [<- a2V,List.find?_eq_none.mpr fun x hx=>by simpa using a19.mp hi x hx]
  rfl
def oh {K:Ny}{h:Heap}(X:K.In h):∀ l:List Value,dr K l=true->OwnTail h kB l
 | .ref a :: r,e=>by
  unfold dr at e
  obtain ⟨e1,e2⟩:=a2I.mp e
  split at e1
  .rename_i c dd cd sl hl
   split at e1
   .rename_i c2 dd2 es ep sl2 hl2
    obtain ⟨k1,k2⟩:=a2I.mp e1
    obtain ⟨m,hm,hm0⟩:=l6 (X _ _ hl2) k1 k2
    exact .own (X _ _ hl) hm hm0 (oh X r e2)
   .cases e1
  .cases e1
 | [],e=>by cases e
 | .type n :: r,e=>by rw [show Value.type n :: r=kB from P7.mp e];exact .base
 | .none :: r,e=>by rw [show Value.none :: r=kB from P7.mp e];exact .base
 | .bool _ :: r,e=>by rw [P7.mp e];exact .base
 | .int _ _ :: r,e=>by rw [P7.mp e];exact .base
 | .str _ _ :: r,e=>by rw [P7.mp e];exact .base
 | .bytes _ _ :: r,e=>by rw [P7.mp e];exact .base
 | .float _ _ :: r,e=>by rw [P7.mp e];exact .base
 | .builtin _ :: r,e=>by rw [P7.mp e];exact .base
 | .ellipsis :: r,e=>by rw [P7.mp e];exact .base
 | .notImplemented :: r,e=>by rw [P7.mp e];exact .base
structure XMk (K:Ny) (C f:Addr):Prop where
 cls:∃ nm q N bs bm sn sub ab col dd k0 k1 k2 k3 k5,K.lookup C=some (excClassObj nm q C N bs bm true sn sub ab col dd k0 k1 k2 k3 k5 "ValueError.__new__")/\dr K bm=true
 init:findIn K (.ref C) "__init__" = some (some (.ref f))
 fn:typeIn K (.ref f)=some (.type "function")
 kp:keepIn K (.ref C)=true
section
variable {prog:Nk}{w:Nq}{A:Nt}{E:MW}{K:Ny}{C f:Addr}{h:Heap}{g:Array GenState}{d:Drawn}{t:Nat}{os:OsState}
def Ao (rest:M_):Obj:={ cls:=.type "tuple",data:=.seq rest.toArray }
def Ib {rest:M_}{Q:MW}(M:XMk K C f) (X:K.In h) (hrest:rest.length<=sizeLine)
  (hq:codeAny (model prog w) (A.under (.builtin "type.__call__" ⟨.ref C :: rest,[]⟩)) (.call (.ref f) ⟨.ref (h.objs.size + 1) :: rest,[]⟩) (fun r s'=>match r with | .ok (.ret v)=>v=.none/\Q (.ref (h.objs.size + 1)) s' | .ok _=>False | .error e=>E e s')
   ⟨(h.push (Ao rest)).push (yU C none h.objs.size .none #[]),g,d,t,os⟩):
  wpAny (model prog w) A (call (.ref C) rest) Q E ⟨h,g,d,t,os⟩:=by
 obtain ⟨nm,q,N,bs,bm,sn,sub,ab,col,dd,k0,k1,k2,k3,k5,hK,hT⟩:=M.cls
 have hC:=X _ _ hK
 have T:=oh X _ hT
 have F:=PySem.F.excBase_ValueError
 have f1:=tc_lookup
 have f2:=tc_bind (.ref C)
 have hTy:(⟨h,g,d,t,os⟩:Shared).TypeIs (.ref C) "type" := ⟨_,hC,rfl⟩
 refine a0C (codeAny_of_tree ?_)
 show wpAny _ _ (callAny (.ref C) _) _ _ _
 repeat (any_goals (first | assumption | with_reducible refine wpAny_loadPart_at hC ?_ | wp_step))
 refine And.intro rfl (codeAny_call_builtin_at (a2Y _ (by decide +kernel)) entry_typeCall (wpAny_check_type_call_sub hC ?_))
 repeat (first | with_reducible refine wpAny_loadPart_at hC ?_ | with_reducible refine wpAny_madeBy_exc hC ?_ | wp_step)
 refine codeAny_call_builtin_code (a2Y _ F.quiet) (wpAny_check_new_subT F T hC (codeAny_exc_new_subT F T hC ?_ hrest))
 show wpAny _ _ _ _ _ ⟨(h.push (Ao rest)).push (yU C none h.objs.size .none #[]),g,d,t,os⟩
 have kp:∀ b o,h.get? b=some o->((h.push (Ao rest)).push (yU C none h.objs.size .none #[])).get? b=some o:=fun b o e=>M7 _ (M7 _ e)
 have hx:((h.push (Ao rest)).push (yU C none h.objs.size .none #[])).get? (h.objs.size + 1)=some (yU C none h.objs.size .none #[]):=by heap_get
 have X1:K.In ((h.push (Ao rest)).push (yU C none h.objs.size .none #[])):=X.keeps kp
 have t1:Looks (model prog w) ((h.push (Ao rest)).push (yU C none h.objs.size .none #[])) (typeOf (.ref (h.objs.size + 1))) (.ref C):=(Looks.ld hx).andThen .now
 have s1:Looks (model prog w) ((h.push (Ao rest)).push (yU C none h.objs.size .none #[])) (isSubtype (.ref C) (.ref C)) true:=a1L X1 (by
  unfold mroIn clsIn;rw [hK];simp)
 have i1:=a1a (M:=model prog w) X1 M.init
 have b1:=bind_fn (M:=model prog w) X1 (.ref (h.objs.size + 1)) M.fn
 unfold isInstance callSpecial? specialOf
 repeat (first | with_reducible refine a0C ?_ | lk)
 refine a0E hq fun r s' z=>?_
 rcases r with e | (v | _ | _ | _) <;> first | exact z | exact z.elim | skip
 obtain ⟨rfl,z⟩:=z
 exact N5 (N5 z)
end
def XO (e C:Addr) (od:ND) (T:Value):HO:=.ext fun h=>∃ t sl,h.get? e=some (yU C od t T sl)
def XD (dx:Addr) (fs:Nu):HO:=.ext fun h=>∃ mA,h.Ns1 dx mA/\(∀ f,V8 (fs.lookup f) (mA f))/\PySem.Within mA (fs.map (·.1))/\fs.length<=1000
def XO.ok (x:h.get? e=some (yU C od t T sl)):qp P w H h e (XO e C od T):=
 ⟨⟨t,sl,x⟩,⟨_,x⟩,fun _ _ ⟨t',sl',p⟩ k=>⟨t',sl',k _ p⟩⟩
def XO.get (x:qp P w H h e (XO e C od T)):∃ t sl,h.get? e=some (yU C od t T sl):=x.1
def XD.ok (n:h.Ns1 dx mA) (r:∀ f,V8 (fs.lookup f) (mA f)) (wi:PySem.Within mA (fs.map (·.1))) (l:fs.length<=1000):qp P w H h dx (XD dx fs):=by
 refine ⟨⟨mA,n,r,wi,l⟩, ?_,fun h1 h2 ⟨m,⟨o,es,ep,ho,q⟩,r1⟩ k=>⟨m,⟨o,es,ep,k _ ho,q⟩,r1⟩⟩
 obtain ⟨o,es,ep,ho,_⟩:=n
 exact ⟨o,ho⟩
def XD.get (x:qp P w H h dx (XD dx fs)):∃ mA,h.Ns1 dx mA/\(∀ f,V8 (fs.lookup f) (mA f))/\PySem.Within mA (fs.map (·.1))/\fs.length<=1000:=x.1
def Inv.BZ (I:Inv X pins σ H s) (he:H e=some (XO e C od T)) (ch:NG) (hch:∀ b∈ch,X.s₀.heap.objs.size<=b/\H b=none/\b≠X.env.locals/\(∀ x c,X.env.cells.lookup x=some c->c≠b)/\∀ p∈X.pn++pins,p.1≠b)
  (keep:∀ b o,b≠e->b∉ch->b∉frs X.stack->s.heap.get? b=some o->h'.get? b=some o)
  (slot:∀ b o,b∈frs X.stack->s.heap.get? b=some o->∃ sl,h'.get? b=some { o with slots:=sl })
  (hx:∃ t sl,h'.get? e=some (yU C od t T' sl)):Inv X pins σ (upd H e (XO e C od T')) { s with heap:=h' }:=by
 have ne:∀ b,H b=none->b≠e:=fun b n z=>by rw [z,he] at n;cases n
 have nf:∀ b o,H b=some o->b∉frs X.stack:=fun b o q z=>by rw [I.aW b z] at q;cases q
 have nc:∀ b o,H b=some o->b∉ch:=fun b o q z=>by rw [(hch b z).2.1] at q;cases q
 obtain ⟨t',sl',hx'⟩:=hx
 have any:∀ b o,b∉ch->b≠e->s.heap.get? b=some o->∃ sl,h'.get? b=some { o with slots:=sl }:=fun b o hb hne q=>by
  by_cases hf:b∈frs X.stack
  .exact slot b o hf q
  .exact ⟨o.slots,keep b o hne hb hf q⟩
 refine I.step (g':=s.gens) (d':=s.drawn) (t':=s.toks) (ch:=ch) (fun b hb=>⟨.inr (hch b hb).1,(hch b hb).2.2⟩) (fun b o hL hb hc q n=>keep b o (ne b n) hc (fun z=>?_) q) (fun b o _ _ hc q n=>any b o hc (ne b n) q)
  (fun b o _ _ n=>by rw [zj (ne b n)];exact n) (fun b o hc q=>?_) (fun b xs q=>?_) (fun b o u q=>?_) (fun b ps q=>⟨#[], ?_⟩) (fun m hm=>?_) (fun b u q=>?_) I.bare
 .rcases O5.mp (I.ah b z) with z | z
  .exact hL z
  .exact hb z
 .by_cases hbe:b=e
  .exact ⟨_,hbe ▸ hx'⟩
  .obtain ⟨sl,q'⟩:=any b o hc hbe q
   exact ⟨_,q'⟩
 .have:b≠e:=fun z=>by rw [z,he] at q;cases q
  rw [zj this];exact q
 .have:b≠e:=fun z=>by rw [z,he] at q;cases q
  rw [zj this];exact q
 .have:b≠e:=fun z=>by rw [z,he] at q;cases q
  rw [zj this,q];simp
 .obtain ⟨o,es,ep,ho,r⟩:=hm
  have hL:H X.env.locals=none:=I.free
  obtain ⟨sl,q'⟩:=any _ o (fun z=>(hch _ z).2.2.1 rfl) (ne _ hL) ho
  exact ⟨_,es,ep,q',r⟩
 .by_cases hbe:b=e
  .subst hbe
   rw [zh] at q;cases q
   exact XO.ok hx'
  .rw [zj hbe] at q
   refine (I.hok b u q).m_ (fun c v hc r=>?_) (fun c r=>?_) fun c xs r=>?_
   .rcases hc with z | z
    .subst z;exact keep c v hbe (nc c u q) (nf c u q) r
    .have:c≠e:=fun z2=>by rw [z2,he] at z;cases z
     exact keep c v this (nc c _ z) (nf c _ z) r
   .have:c≠e:=fun z2=>by rw [z2,he] at r;cases r
    rw [zj this];exact r
   .have:c≠e:=fun z2=>by rw [z2,he] at r;cases r
    rw [zj this];exact r
structure Tb (X:Cx) (pins:MR) (H:Hp) (s:MZ) (Ta:Addr) (fl:Value):Prop where
 tbk:∃ oT ts,s.heap.get? Ta=some oT/\oT.data=.fields ts/\ts[3]? = some fl
 new:X.s₀.heap.objs.size<=Ta
 free:H Ta=none
 pin:∀ p∈X.pn++pins,p.1≠Ta
def Own (X:Cx):Prop:=X.stack=X.env :: X.outer/\X.env.frame=some X.env.locals
def Tb.ok (I:Inv X pins σ H s) (b:Tb X pins H s Ta fl):Ta≠X.env.locals/\(∀ x c,X.env.cells.lookup x=some c->c≠Ta)/\Ta∉frs X.stack:=by
 obtain ⟨oT,ts,h1,h2,_⟩:=b.tbk
 have nL:Ta≠X.env.locals:=fun z=>by
  obtain ⟨m,⟨o,es,ep,ho,hd,_⟩,_⟩:=I.loc
  rw [z] at h1;rw [h1] at ho;cases ho;rw [h2] at hd;cases hd
 refine ⟨nL,fun x c q z=>?_,fun z=>?_⟩
 .obtain ⟨v,o,ho,hd⟩:=I.cell x c q
  rw [z,h1] at ho;cases ho;rw [h2] at hd;cases hd
 .rcases O5.mp (I.ah _ z) with z | z
  .exact nL z
  .obtain ⟨_,o,ho,hn⟩:=I.fq.mem z
   rw [h1] at ho;cases ho;exact hn _ h2
def W2 (I:Inv X pins σ H s) (he:H e=some (XO e C od (.ref Ta))) (b:Tb X pins H s Ta fl)
  (hQ:∀ h',Inv X pins σ (upd H e (XO e C od (.ref Ta))) { s with heap:=h' }->Tb X pins (upd H e (XO e C od (.ref Ta))) { s with heap:=h' } Ta (f.elim .none fun f=>rawInt f)->Q () { s with heap:=h' }):
  wpAny M A (setFlight (.ref e) f) Q E s:=by
 obtain ⟨t,sl,hx⟩:=XO.get (I.hok e _ he)
 obtain ⟨oT,ts,h1,h2,h3⟩:=id b.tbk
 obtain ⟨n1,n2,n3⟩:=b.ok I
 have nTe:Ta≠e:=fun z=>by have:=b.free;rw [z,he] at this;cases this
 have sz:=(a03.mp h3).1
 unfold setFlight
 refine f8 (a1M hx rfl (x:=.ref Ta) rfl ?_)
 rw [if_pos (show (Value.ref Ta != Value.none)=true from by simp)]
 refine a2y h1 h2 sz ?_
 have oth:∀ c,c≠Ta->(s.heap.update Ta (Obj.mapFields (·.setIfInBounds 3 (f.elim .none fun f=>rawInt f)))).get? c=s.heap.get? c:=fun c hc=>P5 _ _ (Ne.symm hc)
 refine hQ _ (I.BZ he [Ta] (fun c hc=>?_) (fun c o _ hc _ q=>(oth c (by simpa using hc)).trans q) (fun c o hc q=>⟨o.slots,(oth c (fun z=>n3 (z ▸ hc))).trans q⟩) ⟨t,sl,(oth e (Ne.symm nTe)).trans hx⟩) ⟨⟨_,_,Heap.get?_update_self _ h1 (Obj.isFreed_of_fields (Obj.data_mapFields h2 _)),Obj.data_mapFields h2 _,by simp [sz]⟩,b.new,by rw [zj nTe];exact b.free,b.pin⟩
 obtain rfl:c=Ta:=by simpa using hc
 exact ⟨b.new,b.free,n1,n2,b.pin⟩
def um (I:Inv X pins σ H s) (he:H e=some (XO e C od .none)) (hQ:Q () s):wpAny M A (setFlight (.ref e) f) Q E s:=by
 obtain ⟨t,sl,hx⟩:=XO.get (I.hok e _ he)
 unfold setFlight
 refine f8 (a1M hx rfl (x:=.none) rfl ?_)
 exact N5 hQ
def dv (own:Own X) (hA:A.frames=some X.stack) (I:Inv X pins σ H s) (he:H e=some (XO e C od T))
  (hQ:∀ Tn h',Inv X pins σ (upd H e (XO e C od (.ref Tn))) { s with heap:=h' }->Tb X pins (upd H e (XO e C od (.ref Tn))) { s with heap:=h' } Tn (rawInt X.env.locals)->Q () { s with heap:=h' }):
  wpAny M A (do setField (.ref e) 1 (<- EntryCells.newEntry head (<- frameOf X.env) .none (rawInt X.env.locals) .none (<- entryPlaceOf X.env.locals hadNext))) Q E s:=by
 obtain ⟨t,sl,hx⟩:=XO.get (I.hok e _ he)
 have hst:=I.stack
 rw [own.1] at hst hA
 refine f8 (wpAny_frameOf_fun hA hst own.2 fun h1 hs1=>?_)
 refine f8 (wpAny_entryPlaceOf fun pl hpl=>?_)
 unfold EntryCells.newEntry newFields
 refine f8 (a1l ?_ (hpl.sizeOk5 _ _ _ _ _))
 have nef:e∉frs (X.env :: X.outer):=fun z=>by
  have:=I.aW e (by rw [own.1];exact z)
  rw [he] at this;cases this
 have hx1:h1.get? e=some (yU C od t T sl):=(hs1.2.1 e nef).trans hx
 have hnT:e≠h1.objs.size:=O1 (N4 hx1)
 refine a2y (M7 _ hx1) rfl (by show 1 < 6;decide) ?_
 have hold:∀ c o,c≠e->h1.get? c=some o->∀ tb:Obj,((h1.push tb).update e (Obj.mapFields (·.setIfInBounds 1 (Value.ref h1.objs.size)))).get? c=some o:=fun c o hc q tb=>
  (P5 _ _ (Ne.symm hc)).trans (M7 _ q)
 have hfr:H h1.objs.size=none:=I.hok.fresh (a1x hs1.1.symm)
 refine hQ h1.objs.size _ (I.BZ he [] (fun _ z=>nomatch z) (fun c o hc _ hf q=>hold c o hc ((hs1.2.1 c (by rw [own.1] at hf;exact hf)).trans q) _) (fun c o hf q=>?_) ⟨t,sl, ?_⟩) ⟨⟨_,_,(P5 _ _ hnT).trans (O7 _ rfl),rfl, ?_⟩, ?_, ?_,fun p hp z=>?_⟩
 .obtain ⟨sl',q'⟩:=hs1.2.2 c o q
  exact ⟨sl',hold c _ (fun z=>nef (by rw [own.1] at hf;exact z ▸ hf)) q' _⟩
 .exact a0d _ (M7 _ hx1) rfl
 .rcases hpl with rfl | ⟨_,_,_,_,_,_,_,rfl⟩ <;> simp
 .rw [hs1.1];exact I.sz
 .rw [zj (Ne.symm hnT)];exact hfr
 .have q:=(I.pin p hp).1
  exact absurd (N4 q) (by rw [z,hs1.1];exact T6 _)
structure XIs (K:Ny) (C:Addr):Prop where
 ha:findIn K (.ref C) "__class__" = some (some (.builtin "object.__class__"))
 hn:specialIn K (.builtin "object.__class__") "__get__" = some (some (.builtin "getset_descriptor.__get__"))
 htk:takesIn K (.builtin "object.__class__")=some true
section
variable {prog:Nk}{w:Nq}{A:Nt}{E:MW}{s:MZ}{K:Ny}{x dx C t:Addr}{T:Value}{sl:NC}{mA:MU}{name:Str}{v:Value}{R:Result->Shared->Prop}
def ED (X:K.In s.heap) (c:Zu K C) (z:XIs K C) (I:InstAt s.heap x ox C (some od))
  (h:Q (some (.ref C)) { s with toks:=s.toks + 1 }):wpAny (model prog w) A (getAttr? (.ref x) "__class__") Q E s:=by
 obtain ⟨cd,hc,ho,ne,hdct⟩:=c.cd
 have hm:=c.sub (x := "object") (by decide)
 obtain ⟨hp,g,d,tk,os⟩:=s
 have L0:=I.type (M:=model prog w)
 have L1:=a1a (M:=model prog w) X c.ga
 have L2:=a1a (M:=model prog w) X c.gn
 have Lb:Looks (model prog w) hp (isInstance (.ref x) (.type "BaseException")) true:=L0.andThen (a1L X (c.sub (x := "BaseException") (by decide)))
 have hf:findObj K C (some od) "__class__" = some (.bind (.builtin "getset_descriptor.__get__") (.builtin "object.__class__")):=findObj_data (by rw [hc];rfl) z.ha z.hn z.htk
 have L3:=looks_find (M:=model prog w) X I hf
 have ga:=PySem.F.excAttr_ValueError.ga
 have f3:=ga.bind (.ref x)
 unfold getAttr? getAttrBy? getAttrBy
 refine f8 (a18 (f8 (a02 (T8 (f8 (L0.at (f8 (L1.at ?_))))))))
 dsimp only
 rw [show (onTheHeap (Value.ref C) && Value.builtin "BaseException.__getattribute__" == Value.builtin "object.__getattribute__")=false from by
  rw [show (Value.builtin "BaseException.__getattribute__" == Value.builtin "object.__getattribute__")=false from by decide +kernel];rfl]
 show wpAny _ _ (getAttrByItsOwn _ _ _ _ _ _) _ _ _
 unfold getAttrByItsOwn
 refine f8 (show wpAny _ _ (typeLookup (.ref C) "__getattr__") _ _ _ from L2.at ?_)
 refine f8 (a02 (T8 ?_))
 show wpAny _ _ (bindSpecial _ _ >>= _) _ _ _
 rw [f3]
 refine f8 (N5 (a0C (a0Y ga.plain F.entry_bexc_ga ?_)))
 have hk:builtinKind "BaseException.__getattribute__" = some .slot:=by decide +kernel
 have hs:splitId "BaseException.__getattribute__" = some ("BaseException","__getattribute__"):=by decide +kernel
 refine @check_slot (model prog w) _ _ ⟨hp,g,d,tk + 1,os⟩ "BaseException.__getattribute__" "BaseException" "__getattribute__" (.ref x) [.str "__class__" tk] [] _ hk hs Lb (F.args_bexc_ga (.ref x) (.str "__class__" tk)) ?_
 unfold Builtin.«object.__getattribute__»
 repeat (first | with_reducible refine a0C ?_ | lk)
 refine class_get (s:=⟨hp,g,d,tk + 1,os⟩) (ox:=ox) (od:=some od) X I hm ?_
 exact N5 (N5 (N5 h))
def uo {ox od:Obj}(c:Zu K C) (z:XIs K C):KitX K (.ref x) (.ref C) (fun h=>InstAt h x ox C (some od)) where
 ty:=fun _ _ _ I=>I.type
 it:=fun _ _ X _=>by
  obtain ⟨cd,hc,_⟩:=c.cd
  unfold clsIn at hc
  split at hc
  .rename_i c' d' cd' sl' hl
   intro A' Q' E' s' k q
   unfold isType loadHead
   exact f8 (a0U (k _ _ (X _ _ hl)) (N5 q))
  .cases hc
 ne:=fun h tp dd its n sl X htp=>by
  obtain ⟨cd,hc,_⟩:=c.cd
  refine Bool.eq_false_iff.mpr fun q=>?_
  obtain rfl:C=tp:=Value.ref.inj (P7.mp q)
  unfold clsIn at hc
  split at hc
  .rename_i c' d' cd' sl' hl
   cases (X _ _ hl).symm.trans htp
  .cases hc
 ca:=fun X I k=>ED X c z I k
end
def bf (h:H a=some o):upd H a o=H:=by
 funext b;unfold upd;split
 .rename_i e;rw [e,h]
 .rfl
def XC (e C dx:Addr):HO:=.ext fun h=>∃ t T sl,h.get? e=some (yU C (some dx) t T sl)
def XC.ok (x:h.get? e=some (yU C (some dx) t T sl)):qp P w H h e (XC e C dx):=
 ⟨⟨t,T,sl,x⟩,⟨_,x⟩,fun _ _ ⟨t',T',sl',p⟩ k=>⟨t',T',sl',k _ p⟩⟩
def XC.get (x:qp P w H h e (XC e C dx)):∃ t T sl,h.get? e=some (yU C (some dx) t T sl):=x.1
section
variable {X:Cx}{pins:MR}{σ:St}{H:Hp}{s:MZ}{e C dx Ta:Addr}{od:ND}{T fl:Value}{M:Model}{A:Nt}{E:MW}{Q:Unit->Shared->Prop}
def Inv.fH (I:Inv X pins σ H s) (he:H e=some (XO e C (some dx) T)):Inv X pins σ (upd H e (XC e C dx)) s:=by
 obtain ⟨t,sl,hx⟩:=XO.get (I.hok e _ he)
 refine I.un (h':=s.heap) (t':=s.toks) ⟨fun b o q _ _ _=>q,fun b o q _ _ _=>⟨o.slots,q⟩,fun b o _ n _=>?_,fun b o q _=>⟨o,q⟩,fun b xs q=>?_,fun b o u q=>?_,fun b ps q=>⟨#[], ?_⟩⟩ fun b u q=>?_
 .have:b≠e:=fun z=>by rw [z,he] at n;cases n
  rw [zj this];exact n
 .have:b≠e:=fun z=>by rw [z,he] at q;cases q
  rw [zj this];exact q
 .have:b≠e:=fun z=>by rw [z,he] at q;cases q
  rw [zj this];exact q
 .have:b≠e:=fun z=>by rw [z,he] at q;cases q
  rw [zj this,q];simp
 .by_cases hb:b=e
  .subst hb;rw [zh] at q;cases q;exact XC.ok hx
  .rw [zj hb] at q
   refine (I.hok b u q).m_ (fun _ _ _ r=>r) (fun c r=>?_) fun c xs r=>?_
   .have:c≠e:=fun z2=>by rw [z2,he] at r;cases r
    rw [zj this];exact r
   .have:c≠e:=fun z2=>by rw [z2,he] at r;cases r
    rw [zj this];exact r
def Fl (X:Cx) (pins:MR) (H:Hp) (s:MZ) (e C:Addr) (od:ND):Prop:=
 ∃ T,H e=some (XO e C od T)/\(T=.none\/∃ Ta fl,T=.ref Ta/\Tb X pins H s Ta fl/\(fl=.none\/∃ n:Int,fl=rawInt n))
def bg (own:Own X) (hA:A.frames=some X.stack) (I:Inv X pins σ H s) (f:Fl X pins H s e C od)
  (hQ:∀ Tn h',Inv X pins σ (upd H e (XO e C od (.ref Tn))) { s with heap:=h' }->Tb X pins (upd H e (XO e C od (.ref Tn))) { s with heap:=h' } Tn (rawInt X.env.locals)->Q () { s with heap:=h' }):
  wpAny M A (noteFrame (.ref e) X.env) Q E s:=by
 obtain ⟨T,he,hT⟩:=f
 obtain ⟨t,sl,hx⟩:=XO.get (I.hok e _ he)
 unfold noteFrame
 simp only [own.2]
 refine f8 (a1M hx rfl (x:=T) rfl ?_)
 rcases hT with rfl | ⟨Ta,fl,rfl,b,hfl⟩
 .rw [if_neg (by decide)]
  exact dv own hA I he hQ
 .rw [if_pos (show (Value.ref Ta != Value.none)=true from by simp)]
  obtain ⟨oT,ts,h1,h2,h3⟩:=id b.tbk
  refine f8 (a1M h1 h2 h3 ?_)
  by_cases hq:¬ (fl == rawInt X.env.locals)=true
  .rw [if_neg hq]
   obtain ⟨n1,n2,n3⟩:=b.ok I
   have nTe:Ta≠e:=fun z=>by have:=b.free;rw [z,he] at this;cases this
   have sz:=(a03.mp h3).1
   refine f8 (a2y h1 h2 sz ?_)
   have oth:∀ c,c≠Ta->(s.heap.update Ta (Obj.mapFields (·.setIfInBounds 3 .none))).get? c=s.heap.get? c:=fun c hc=>P5 _ _ (Ne.symm hc)
   have I2:Inv X pins σ H { s with heap:=s.heap.update Ta (Obj.mapFields (·.setIfInBounds 3 .none)) }:=by
    have:=I.BZ (T':=.ref Ta) he [Ta] (h':=s.heap.update Ta (Obj.mapFields (·.setIfInBounds 3 .none))) (fun c hc=>by
     obtain rfl:c=Ta:=by simpa using hc
     exact ⟨b.new,b.free,n1,n2,b.pin⟩) (fun c o _ hc _ q=>(oth c (by simpa using hc)).trans q) (fun c o hc q=>⟨o.slots,(oth c (fun z=>n3 (z ▸ hc))).trans q⟩) ⟨t,sl,(oth e (Ne.symm nTe)).trans hx⟩
    rwa [bf he] at this
   exact dv own hA I2 he fun Tn h'=>hQ Tn h'
  .have hq:=Classical.not_not.mp hq
   rw [if_pos hq]
   obtain rfl:fl=rawInt X.env.locals:=eq_of_beq hq
   refine N5 ?_
   have:=hQ Ta s.heap (by rw [bf he];exact I) (by rw [bf he];exact b)
   exact this
end
def Ic (X:Cx) (E:XK) (v:Value) (s':MZ):Prop:=∃ σ H' e C dx,v=.ref e/\Inv X.nox [] σ H' s'/\Fl X.nox [] H' s' e C (some dx)/\E (.ref e) (some dx) (upd H' e (XC e C dx))
def CXe (P:Nk) (w:Nq):CXT:=fun outer H s E v s'=>∃ e C dx Ta oT ts H',v=.ref e/\s'.os=s.os/\AllBare s'.gens/\Un (frs outer) [] H H' s.heap s'.heap/\HOk P w H' s'.heap/\
 H' e=some (XO e C (some dx) (.ref Ta))/\s'.heap.get? Ta=some oT/\oT.data=.fields ts/\ts[3]? = some .none/\H' Ta=none/\s.heap.objs.size<=Ta/\E (.ref e) (some dx) (upd H' e (XC e C dx))
abbrev thr (X:Cx) (E:XK):Cx:=X.cV (Ic X E)
def Inv.thrown (I:Inv X pins σ H s) (h:CXe X.prog X.w X.stack H s E v s'):
  ∃ H' e C dx,v=.ref e/\Inv X pins σ H' s'/\Fl X pins H' s' e C (some dx)/\E (.ref e) (some dx) (upd H' e (XC e C dx)):=by
 obtain ⟨e,C,dx,Ta,oT,ts,H',rfl,os,bare,un,hok,he,h1,h2,h3,hn,hs,q⟩:=h
 have I2:Inv X pins σ H' s':=I.D8 os un hok bare fun b z=>absurd z (by simp)
 refine ⟨H',e,C,dx,rfl,I2,⟨_,he,.inr ⟨Ta,_,rfl,⟨⟨oT,ts,h1,h2,h3⟩,P6 I.sz hs,hn,fun p hp z=>?_⟩,.inl rfl⟩⟩,q⟩
 have:=N4 (I.pin p hp).1
 rw [z] at this
 exact absurd hs (Nat.not_le.mpr this)
def Inv.h9 (I:Inv X pins σ H s):Inv X [] σ H s:=I.aX fun _ h=>nomatch h
def Fl.h9 (f:Fl X pins H s e C od):Fl X [] H s e C od:=by
 obtain ⟨T,he,h⟩:=f
 refine ⟨T,he,h.imp id fun ⟨Ta,fl,e1,b,h2⟩=>⟨Ta,fl,e1,⟨b.tbk,b.new,b.free,fun p hp=>b.pin p ?_⟩,h2⟩⟩
 rw [O9] at hp
 exact a1w _ hp
def Fl.cV (f:Fl X pins H s e C od):Fl (X.cV E) pins H s e C od:=by
 obtain ⟨T,he,h⟩:=f
 exact ⟨T,he,h.imp id fun ⟨Ta,fl,e1,b,h2⟩=>⟨Ta,fl,e1,⟨b.tbk,b.new,b.free,b.pin⟩,h2⟩⟩
def zK:Passes (CXe X.prog X.w) (thr X E) E:=fun pins σ H s v s' I h=>by
 obtain ⟨H',e,C,dx,rfl,I2,f,q⟩:=Inv.thrown (X:=thr X E) I h
 exact ⟨σ,H',e,C,dx,rfl,(I2.Yt.cV _).h9,(Fl.cV (X:=thr X E) f.h9),q⟩
def oi:Passes (CXe P w) X E0:=fun pins σ H s v s' I h=>by
 obtain ⟨e,C,dx,Ta,oT,ts,H',_,_,_,_,_,_,_,_,_,_,_,q⟩:=h
 exact False.elim q
def zI (own:Own X):PassesOwn (Oc X) X.A X.env (Ic X E):=fun v s' ⟨σ,H',e,C,dx,hv,I,f,q⟩=>by
 subst hv
 have hA:X.A.frames=some X.nox.stack:=I.ok.frames
 refine bg (X:=X.nox) own hA I f fun Tn h' I2 b=>?_
 obtain ⟨t,sl,hx⟩:=XO.get (I2.hok e _ zh)
 refine f8 (a1M hx rfl (x:=.ref Tn) rfl ?_)
 rw [if_neg (show ¬ ((Value.ref Tn == Value.none)=true) from by simp)]
 refine W2 I2 zh b fun h2 I3 b3=>?_
 rw [vg] at I3 b3
 refine ⟨σ,_,e,C,dx,rfl,I3,⟨_,zh,.inr ⟨Tn,_,rfl,b3,.inr ⟨(X.env.locals:Int), ?_⟩⟩⟩, ?_⟩
 .rw [own.2];rfl
 .rw [vg];exact q
def EE {P:Nk}{w:Nq}{K:Ny}{mg:MU}{base:Heap}{N:MX}{qual:Str}{scope:Scope}{f:Addr}{cd:Value}{A:Nt}{outer:List Env}{s:MZ}{H:Hp}{E:XK}{v:Value}{s':MZ}
  (h:Ic (l4 (CXe P w) P w K mg base N qual scope f cd A outer s H E) E v s'):(l4 (CXe P w) P w K mg base N qual scope f cd A outer s H E).xe v s':=by
 obtain ⟨σ,H',e,C,dx,hv,I,fl,q⟩:=h
 subst hv
 have own:Own (l4 (CXe P w) P w K mg base N qual scope f cd A outer s H E):=⟨rfl,rfl⟩
 show wpAny (model P w) _ (leaving _ (.ref e)) _ _ s'
 unfold leaving
 refine f8 (bg (X:=(l4 (CXe P w) P w K mg base N qual scope f cd A outer s H E).nox) own I.ok.frames I fl fun Tn h' I2 b=>?_)
 refine W2 I2 zh b fun h2 I3 b3=>?_
 rw [vg] at I3 b3
 obtain ⟨oT,ts,h1,h2',h3⟩:=b3.tbk
 exact ⟨e,C,dx,Tn,oT,ts,_,rfl,I3.os,I3.bare,I3.base,I3.hok,zh,h1,h2',h3,b3.free,b3.new,by rw [vg];exact q⟩
def PSs.Ie {X:Cx}{E:MW}{st:Nx}{t:TS}(h:PSs (X.cV E) st t) (hE:∀ v s,E v s->X.xe v s):PSs X st t:=fun pins s σ H D I hw=>
 S4 (h pins s σ H D (I.cV E) hw) (fun _ _ q=>q.Yt) hE
section
variable {P:Nk}{w:Nq}{K:Ny}{mg:MU}{base:Heap}
def Fun.okX {x qual:Str}{st:NF}{f:Addr}{fd:Nr}{N ps:MX}{k:Nat}{sp:Sp}(F:Fun K x qual st f fd) (S:zu N ps (zk st)) (len:∀ vs H Q E,sp vs H Q E->vs.length=ps.length)
  (m9:∀ (cdv:Value) (A:Nt) (outer:List Env) (s:MZ) (H:Hp) (vs:Nb) (Q:VK) (E:XK),k_ k (A.deeper (envOfC qual (zk st) s.heap.objs.size f cdv))->sp vs H Q E->
   ∃ t,PSs (thr (l4 (CXe P w) P w K mg base N qual (zk st) f cdv A outer s H E) E) (Zt st) t/\t { nx:=fun _ H'=>Q .non H',rt:=Q } (start N vs) H):y3 P w K mg base (CXe P w) (k + 1) f fd ps sp:=by
 obtain ⟨oc,od,kV,doc,pm,an,cdv,ct,osl,rfl,lk,hcd⟩:=F.ex
 refine HN lk hcd S len fun A outer s H vs Q E hr hsp=>?_
 obtain ⟨t,h,q⟩:=m9 cdv A outer s H vs Q E hr hsp
 exact ⟨t,h.Ie fun v s h=>EE h,q⟩
end
def EF (C:Addr) (sp:Sp) (E:XK) (t:TA):TE:=fun σ H Q=>t σ H fun vs H1=>vs.length<=1000/\∀ x,H1 x=none->sp (.ref x :: vs) (upd H1 x (XO x C none .none)) (fun v H2=>v=.non/\Q (.ref x) H2) E
def Inv.Ig (I:Inv X pins σ H s):
  Inv X pins σ (upd H (s.heap.objs.size + 1) (XO (s.heap.objs.size + 1) C none .none)) { s with heap:=(s.heap.push (Ao us)).push (yU C none s.heap.objs.size .none #[]) }:=
 I.laid (t':=s.toks) (fun b u e=>M7 _ (M7 _ e)) (a0m _) (XO.ok (t:=s.heap.objs.size) (sl:=#[]) (by heap_get))
def oj (M:XMk X.K C f) (F:y3 X.prog X.w X.K X.mg X.base CX k f fd ps sp) (hr:k_ (k + 1) X.A) (hb:Binds X.K fd ps [])
  (hx:Passes CX X E) (I:Inv X pins σ H s) (r:Vals vs us) (hl:vs.length<=1000) (h:∀ x,H x=none->sp (.ref x :: vs) (upd H x (XO x C none .none)) (fun v H2=>v=.non/\Q (.ref x) H2) E):
  wpAny (Oc X) X.A (call (.ref C) us) (EP X pins σ Q) X.xe s:=by
 have hq:=h (s.heap.objs.size + 1) (I.hok.fresh (a0m _))
 have I2:=Inv.Ig (C:=C) (us:=us) I
 have r2:Vals (V.ref (s.heap.objs.size + 1) :: vs) (Value.ref (s.heap.objs.size + 1) :: us):=.cons rfl r
 have hl2:(Value.ref (s.heap.objs.size + 1) :: us++[]).length=ps.length:=by
  have e:=r2.length
  rw [F.len _ _ _ _ hq] at e
  rw [O9];exact e.symm
 have bd:=hb _ (Value.ref (s.heap.objs.size + 1) :: us) I2.kIn hl2
 rw [O9] at bd
 obtain ⟨hh,g,d,tk,os⟩:=s
 refine Ib M I.kIn (by rw [<- r.length,T2];omega) (a0E (F.run _ X.stack _ _ ⟨_ :: us,[]⟩ _ _ _ E (hr.make C us []) (I2.nj.make C us []) bd r2 hq) fun r s' hq'=>?_)
 cases r with
 | error e=>exact hx pins σ _ _ e s' I2 hq'
 | ok fl=>
  cases fl with
  | ret u=>
   obtain ⟨v,H',I3,rv,ev,q3⟩:=I2.after hq'
   subst ev
   exact ⟨rv,⟨V.ref (hh.objs.size + 1),H',I3,rfl,q3⟩⟩
  | next=>exact False.elim hq'
  | brk=>exact False.elim hq'
  | cont=>exact False.elim hq'
def uq (M:XMk X.K C f) (F:y3 X.prog X.w X.K X.mg X.base CX k f fd ps sp) (hr:k_ (k + 1) X.A) (hg:Gl X x) (hm:X.mg x=some (.ref C)) (hb:Binds X.K fd ps []) (hx:Passes CX X E)
  (ha:PA X (e :: es) t) (hdb:(x == ("__debug__" : Str))=false:=by decide) (he:starEach (e :: es) X.env=(false,eval e X.env) :: starEach es X.env:=by rfl) (hpl:(backTo pos (starEach es X.env)).any (·.1)=false:=by rfl):
  PE X (.Call (.Name x p) (e :: es) [] pos) (EF C sp E t):=by
 intro pins s σ H Q I h
 refine T9 (Jn I hg hm ?_ hdb)
 refine a0N (h₀:=X.base) I.ok.mod.kin M.kp (thn (ha pos pins s σ H _ I h) fun us s1 ⟨vs,H1,I1,r,hl,q⟩=>⟨I1.kIn, ?_⟩) he hpl
 exact oj M F hr hb hx I1 r hl q
def Ih (K:Ny) (ta tv:TE) (f:Str):TS:=fun D σ H=>tv σ H fun y H1=>ta σ H1 fun x H2=>∃ e C T,x=.ref e/\Zu K C/\takerIn K C f=some none/\
  ((H2 e=some (XO e C none T)/\∀ dx,H2 dx=none->D.nx σ (upd (upd H2 dx (XD dx [(f,y)])) e (XO e C (some dx) T)))\/
   (∃ dx fs,H2 e=some (XO e C (some dx) T)/\H2 dx=some (XD dx fs)/\dx≠e/\fs.length < 1000/\D.nx σ (upd H2 dx (XD dx (JL f y fs)))))
def Ii (K:Ny) (ta:TE) (f:Str):TE:=fun σ H Q=>ta σ H fun x H1=>∃ e C dx fs v,x=.ref e/\Zu K C/\findIn K (.ref C) f=some none/\(H1 e=some (XC e C dx)\/∃ T,H1 e=some (XO e C (some dx) T))/\H1 dx=some (XD dx fs)/\fs.lookup f=some v/\Q v H1
section
variable {X:Cx}{o value:Nh}{f:Str}{pos pos':Pos}{ta tv:TE}
def jQ (ha:PE X o ta) (hv:PE X value tv) (hs:swapsWith value (some (.Attribute o f pos')) pos.line X.env=pure false):PS X (.Assign [.Attribute o f pos'] value pos) (Ih X.K ta tv f):=by
 intro pins s σ H D I h
 refine a1u (thn (hv pins s σ H _ I h) fun u s1 ⟨y,H1,I1,ry,q⟩=>thn (ha pins s1 σ H1 _ I1 q) fun ov s2 ⟨x,H2,I2,rx,e,C,T,ex,c,tk,q2⟩=>?_) hs
 subst ex
 obtain rfl:ov=Value.ref e:=rx
 rcases q2 with ⟨he,q2⟩ | ⟨dx,fs,he,hd,ne,l,q2⟩
 .obtain ⟨t,sl,hx⟩:=XO.get (I2.hok e _ he)
  have hne:s2.heap.objs.size≠e:=a0r (N4 hx)
  have hfr:H2 s2.heap.objs.size=none:=I2.hok.fresh (N1 _)
  refine l5 I2.kIn c hx tk fun h' hx' hn' kp=>⟨σ,_, ?_,q2 _ hfr⟩
  have lt:∀ b o,s2.heap.get? b=some o->b≠s2.heap.objs.size:=fun b o q=>O1 (N4 q)
  have ltH:∀ b o,H2 b=some o->b≠s2.heap.objs.size:=fun b o q z=>by rw [z,hfr] at q;cases q
  refine I2.un (h':=h') (t':=s2.toks + 2) ⟨fun b o q n _ _=>kp b o (fun z=>by rw [z,he] at n;cases n) q,fun b o q n _ _=>⟨o.slots,kp b o (fun z=>by rw [z,he] at n;cases n) q⟩,fun b o q n _=>?_,fun b o q _=>?_,fun b xs q=>?_,fun b o u q=>?_,fun b ps q=>⟨#[], ?_⟩⟩ fun b ob q=>?_
  .rw [zj (fun z=>by rw [z,he] at n;cases n),zj (lt b o q)];exact n
  .by_cases hb:b=e
   .exact ⟨_,hb ▸ hx'⟩
   .exact ⟨o,kp b o hb q⟩
  .rw [zj (fun z=>by rw [z,he] at q;cases q),zj (ltH b _ q)];exact q
  .rw [zj (fun z=>by rw [z,he] at q;cases q),zj (ltH b _ q)];exact q
  .rw [zj (fun z=>by rw [z,he] at q;cases q),zj (ltH b _ q),q];simp
  .by_cases hb:b=e
   .subst hb;rw [zh] at q;cases q;exact XO.ok hx'
   .rw [zj hb] at q
    by_cases hb2:b=s2.heap.objs.size
    .subst hb2;rw [zh] at q;cases q
     refine XD.ok hn' (fun g=>?_) (fun g hg=>?_) (by show 1<=1000;decide)
     .show V8 (List.lookup g [(f,y)]) (if g=f then some u else none)
      by_cases z:g=f
      .subst z;rw [if_pos rfl];simp only [List.lookup,beq_self_eq_true];exact ry
      .rw [if_neg z];simp only [List.lookup,beq_eq_false_iff_ne.mpr z];exact True.intro
     .by_cases z:g=f
      .subst z;exact M8.mpr rfl
      .exact absurd (if_neg z) hg
    .rw [zj hb2] at q
     refine (I2.hok b ob q).m_ (fun c v hc r=>kp c v ?_ r) (fun c r=>?_) fun c xs r=>?_
     .rcases hc with z | z
      .rw [z];exact hb
      .intro z2;rw [z2,he] at z;cases z
     .rw [zj (fun z=>by rw [z,he] at r;cases r),zj (ltH c _ r)];exact r
     .rw [zj (fun z=>by rw [z,he] at r;cases r),zj (ltH c _ r)];exact r
 .obtain ⟨t,sl,hx⟩:=XO.get (I2.hok e _ he)
  obtain ⟨mA,hn,r,wi,l1⟩:=XD.get (I2.hok dx _ hd)
  refine og I2.kIn c hx hn ne tk wi (by rw [u8,T2];omega) fun h' hn' sb=>⟨σ,_, ?_,q2⟩
  have hdx:∃ u,h'.get? dx=some u:=let ⟨o,_,_,e',_⟩:=hn';⟨o,e'⟩
  refine I2.write (x:=dx) (e:=dx) (t':=s2.toks + 2) (by rw [hd];exact True.intro) (.inl rfl) (fun b u hb z=>(sb.2 b hb).trans z) hdx (XD.ok hn' (fun g=>?_) (fun g hg=>?_) ?_)
  .show V8 ((JL f y fs).lookup g) (if g=f then some u else mA g)
   rw [Jo]
   by_cases q:g=f
   .rw [if_pos q,if_pos q];exact ry
   .rw [if_neg q,if_neg q];exact r g
  .by_cases q:g=f
   .rw [q];exact (Yw f y fs).1
   .refine (Yw f y fs).2 g (wi g fun z=>hg ?_)
    show (if g=f then some u else mA g)=none
    rw [if_neg q];exact z
  .have:=Jp f y fs;omega
def EG (I:Inv X pins σ H s) (he:H e=some (XC e C dx)\/∃ T,H e=some (XO e C (some dx) T)):∃ t T sl,s.heap.get? e=some (yU C (some dx) t T sl):=by
 rcases he with he | ⟨T,he⟩
 .exact XC.get (I.hok e _ he)
 .obtain ⟨t,sl,h⟩:=XO.get (I.hok e _ he)
  exact ⟨t,T,sl,h⟩
def B0 (he:PE X e ta) (hb:attributeBase e f X.env (eval e X.env)=eval e X.env):PE X (.Attribute e f pos) (Ii X.K ta f):=by
 intro pins s σ H Q I h
 refine nU hb (thn (he pins s σ H _ I h) fun u s1 ⟨x,H1,I1,rx,a,C,dx,fs,v,ex,c,n,ea,ed,l,q⟩=>?_)
 subst ex
 obtain rfl:u=Value.ref a:=rx
 obtain ⟨t,T,sl,hx⟩:=EG I1 ea
 obtain ⟨mA,hn,r,_,_⟩:=XD.get (I1.hok dx _ ed)
 obtain ⟨u,hu,ru⟩:=V8.some_of (v:=v) (o:=mA f) (by rw [<- l];exact r f)
 exact My I1.kIn c hx hn n hu (c5 ru) ⟨v,H1,I1.tok _,ru,q⟩
def EH (K:Ny) (E:XK) (te:TE):TS:=fun _ σ H=>te σ H fun v H1=>∃ e C dx,v=.ref e/\Zu K C/\H1 e=some (XO e C (some dx) .none)/\E (.ref e) (some dx) (upd H1 e (XC e C dx))
def ur (hh:X.calm=true) (he:PE (thr X E) e te):PS (thr X E) (.Raise (some e) none pos) (EH X.K E te):=by
 intro pins s σ H D I h
 rw [arm_exec_Raise]
 refine f8 (a1r ?_)
 show wpAny _ _ (raiseStmt X.env (some (do let v <- eval e X.env;standAt pos;pure v)) none) _ _ s
 unfold raiseStmt
 refine f8 (f8 (thn (he pins s σ H _ I h) fun u s1 ⟨v,H1,I1,rv,a,C,dx,ev,c,hx,q⟩=>f8 (a1r (N5 ?_))))
 subst ev
 obtain rfl:u=Value.ref a:=rv
 obtain ⟨t,sl,ho⟩:=XO.get (I1.hok a _ hx)
 obtain ⟨cd,hcd,_⟩:=c.cd
 have L0:Looks (Oc X) s1.heap (typeOf (.ref a)) (.ref C):=(Looks.ld ho).andThen .now
 have Lb:Looks (Oc X) s1.heap (isSubtype (.ref C) (.type "BaseException")) true:=a1L I1.kIn (c.sub (x := "BaseException") (by decide))
 have LI:Looks (Oc X) s1.heap (isInstance (.ref a) (.type "BaseException")) true:=L0.andThen Lb
 have fin:(thr X E).xe (.ref a) s1:=⟨σ,H1,a,C,dx,rfl,(I1.Yt.cV _).h9,⟨.none,hx,.inl rfl⟩,q⟩
 have hd:(thr X E).A.handled=none:=I1.ok.hd hh
 have LT:Looks (Oc X) s1.heap (isType (.ref a)) false:=by
  intro A' Q' E' s' k q
  unfold isType loadHead
  exact f8 (a0U (k _ _ ho) (N5 q))
 have LE:Looks (Oc X) s1.heap (isExcClass (.ref a)) false:=LT.andThen .now
 refine f8 (N5 ?_)
 dsimp only
 refine f8 (T8 ?_)
 unfold excFromValue
 refine f8 (LE.here ?_)
 simp only [Bool.false_eq_true,if_false]
 refine f8 (LI.here ?_)
 simp only [if_true]
 refine N5 (f8 (LT.here ?_))
 simp only [Bool.false_eq_true,if_false]
 have LC:Looks (Oc X) s1.heap (typeOf (.ref C)) (.type "type"):=looks_typeIn I1.kIn c.ty
 have LR:Looks (Oc X) s1.heap (raisedInstance (.ref a)) (.ref a):=by
  unfold raisedInstance
  refine L0.andThen (LC.andThen ?_)
  rw [if_pos (by simp)]
  exact .now
 refine f8 (LR.here (f8 (um I1 hx ?_)))
 exact wpAny_raiseNew_none hd fin
end
def TyX (K:Ny) (H:Hp) (x:V) (t:Value):Prop:=nh K H x t\/
 ∃ e C dx fs,x=.ref e/\t=.ref C/\Zu K C/\XIs K C/\(H e=some (XC e C dx)\/∃ T,H e=some (XO e C (some dx) T))/\H dx=some (XD dx fs)
def Ij:V->Option Value
 | .ref a=>some (.ref a)
 | .ty n=>some (.type n)
 | _=>none
def uu (r:RelV c u) (e:Ij c=some v):u=v:=by
 cases c with
 | ref a=>cases e;exact r
 | ty n=>cases e;exact r
 | _=>cases e
def fI (I:Inv X pins σ H s) (rx:RelV x u) (ty:TyX X.K H x t):∃ P,KitX X.K u t P/\P s.heap/\u≠.builtin "__main__.__loader__#opaque" := by
 rcases ty with ty | ⟨e,C,dx,fs,rfl,rfl,c,z,he,hd⟩
 .cases ty with
  | non=>cases (show u=Value.none from rx);exact ⟨_,kitx_none,True.intro,fun z=>nomatch z⟩
  | bl y=>cases (show u=Value.bool y from rx);exact ⟨_,kitx_bool,True.intro,fun z=>nomatch z⟩
  | int i=>obtain ⟨t,q⟩:=(show ∃ t,u=Value.int i t from rx);cases q;exact ⟨_,kitx_int,True.intro,fun z=>nomatch z⟩
  | str y=>obtain ⟨t,q⟩:=(show ∃ t,u=Value.str y t from rx);cases q;exact ⟨_,kitx_str,True.intro,fun z=>nomatch z⟩
  | flt y=>obtain ⟨t,q⟩:=(show ∃ t,u=Value.float y t from rx);cases q;exact ⟨_,kitx_float,True.intro,fun z=>nomatch z⟩
  | @lst a xs ea=>
   cases (show u=Value.ref a from rx)
   obtain ⟨_,_,n,_,h1⟩:=(show qp X.prog X.w H s.heap a (.lst xs) from I.hok a _ ea)
   exact ⟨_,kitx_list,⟨_,h1,rfl⟩,fun z=>nomatch z⟩
  | @frz a ob xs ea=>
   cases (show u=Value.ref a from rx)
   obtain ⟨_,_,_,n,_,h1⟩:=(show qp X.prog X.w H s.heap a (.frz ob (.lst xs)) from I.hok a _ ea)
   exact ⟨_,kitx_list,⟨_,h1,rfl⟩,fun z=>nomatch z⟩
  | @tup a xs ea=>
   cases (show u=Value.ref a from rx)
   obtain ⟨_,_,_,p⟩:=(show qp X.prog X.w H s.heap a (.tup xs) from I.hok a _ ea)
   obtain ⟨o,h1,h2,_⟩:=p
   exact ⟨_,kitx_tuple,⟨o,h1,h2⟩,fun z=>nomatch z⟩
  | @dK a kvs ea=>
   cases (show u=Value.ref a from rx)
   obtain ⟨_,_,vs,_,p⟩:=(show qp X.prog X.w H s.heap a (.dK kvs) from I.hok a _ ea)
   obtain ⟨o,es,ep,h1,h2,_⟩:=p
   exact ⟨_,kitx_dict,⟨o,h1,h2.1⟩,fun z=>nomatch z⟩
  | @dT a kvs ea=>
   cases (show u=Value.ref a from rx)
   obtain ⟨_,_,xs,_,o,es,ep,h1,h2,_⟩:=(show qp X.prog X.w H s.heap a (.dT kvs) from I.hok a _ ea)
   exact ⟨_,kitx_dict,⟨o,h1,h2.1⟩,fun z=>nomatch z⟩
  | @ins a C dx fs ea cl ha hn htk hm=>
   cases (show u=Value.ref a from rx)
   obtain ⟨mA,O,_⟩:=a_ I.hok ea
   obtain ⟨od,J,_⟩:=O.look
   exact ⟨_,kitx_own (cl.get _) cl.hd ha hn htk hm,J,fun z=>nomatch z⟩
 .cases (show u=Value.ref e from rx)
  obtain ⟨t,T,sl,hx⟩:=EG I he
  obtain ⟨mA,hn,_⟩:=XD.get (I.hok dx _ hd)
  obtain ⟨od,hod,_⟩:=JK hn
  exact ⟨_,uo c z,⟨hx,rfl,rfl,hod⟩,fun z=>nomatch z⟩
def XP (X:Cx) (pins:MR) (σ:St) (Z:XK) (v:Value) (s':MZ):Prop:=∃ H' e C dx,v=.ref e/\Inv X pins σ H' s'/\Fl X pins H' s' e C (some dx)/\Z (.ref e) (some dx) (upd H' e (XC e C dx))
abbrev TEx:=St->Hp->VK->XK->Prop
abbrev TSx:=Ends->XK->St->Hp->Prop
def PEx (X:Cx) (e:Nh) (t:TEx):Prop:=
 ∀ (pins:MR) (s:MZ) (σ:St) (H:Hp) (Q:VK) (Z:XK),Inv X pins σ H s->t σ H Q Z->wpAny (Oc X) X.A (eval e X.env) (EP X pins σ Q) (XP X pins σ Z) s
def PSx (X:Cx) (st:NF) (t:TSx):Prop:=
 ∀ (pins:MR) (s:MZ) (σ:St) (H:Hp) (D:Ends) (Z:XK),Inv X pins σ H s->t D Z σ H->wpAny (Oc X) X.A (exec st X.env) (SP X pins D) (XP X pins σ Z) s
def Ik (X:Cx) (st:Nx) (t:TSx):Prop:=
 ∀ (pins:MR) (s:MZ) (σ:St) (H:Hp) (D:Ends) (Z:XK),Inv X pins σ H s->t D Z σ H->wpAny (Oc X) X.A (execs st X.env) (SP X pins D) (XP X pins σ Z) s
def B1 (F:y3 X.prog X.w X.K X.mg X.base (CXe X.prog X.w) k f fd ps sp) (hr:k_ k X.A) (hb:Binds X.K fd ps [])
  (I:Inv X pins σ H s) (r:Vals vs us) (h:sp vs H Q Z):wpAny (Oc X) X.A (call (.ref f) us) (EP X pins σ Q) (XP X pins σ Z) s:=by
 have hl:(us++[]).length=ps.length:=by rw [O9,<- r.length];exact F.len _ _ _ _ h
 have bd:=hb s us I.kIn hl
 rw [O9] at bd
 refine a0C (a0E (F.run X.A X.stack s H ⟨us,[]⟩ us vs Q Z hr I.nj bd r h) fun r s' hq=>?_)
 cases r with
 | error e=>exact I.thrown hq
 | ok fl=>
  cases fl with
  | ret u=>exact I.after hq
  | next=>exact False.elim hq
  | brk=>exact False.elim hq
  | cont=>exact False.elim hq
def PA.nox (h:PA X.nox es t) (pos:Pos) (I:Inv X pins σ H s) (hw:t σ H Q):
  wpAny (Oc X) X.A (spliced (backTo pos (starEach es X.env))) (AP X pins σ Q) E s:=
 S4 (h pos pins s σ H Q (I.cV _) hw) (fun _ _ ⟨vs,H',I',r,q⟩=>⟨vs,H',I'.Yt,r,q⟩) fun _ _ z=>False.elim z
def uv (F:y3 X.prog X.w X.K X.mg X.base (CXe X.prog X.w) k f fd ps sp) (hr:k_ k X.A) (hg:Gl X x) (hm:X.mg x=some (.ref f)) (hk:keepIn X.K (.ref f)=true) (hb:Binds X.K fd ps [])
  (ha:PA X.nox (e :: es) t) (hdb:(x == ("__debug__" : Str))=false:=by decide) (he:starEach (e :: es) X.env=(false,eval e X.env) :: starEach es X.env:=by rfl) (hpl:(backTo pos (starEach es X.env)).any (·.1)=false:=by rfl):
  PEx X (.Call (.Name x p) (e :: es) [] pos) (fun σ H Q Z=>t σ H fun vs H1=>sp vs H1 Q Z):=by
 intro pins s σ H Q Z I h
 refine T9 (Jn I hg hm ?_ hdb)
 refine a0N (h₀:=X.base) I.ok.mod.kin hk (thn (PA.nox ha pos I h) fun us s1 ⟨vs,H1,I1,r,q⟩=>⟨I1.kIn, ?_⟩) he hpl
 exact B1 F hr hb I1 r q
def B3 (hN:X.N.Nodup) (hi:X.N[i]? = some x) (hx:Loc X.env.scope x) (he:PEx X e tx) (hs:swapsWith e (some (.Name x pos')) pos.line X.env=pure false:=by rfl) (hf:X.fn x=true\/X.env.scope.names.lookup x=some .local:=by first | exact .inl rfl | exact .inr rfl | assumption):
  PSx X (.Assign [.Name x pos'] e pos) (fun D Z σ H=>tx σ H (fun v H1=>D.nx (σ.set i (some v)) H1) Z):=by
 intro pins s σ H D Z I h
 refine wpAny_Assign_Name (thn (he pins s σ H _ Z I h) fun v s1 ⟨y,H1,I1,r1,q1⟩=>?_) hs
 exact Qr I1 hN hi hx r1 (fun s2 I2=>⟨_,H1,I2,q1⟩) hf
def uw {st:NF}{t:TSx}(h1:PSx X st t):Ik X [st] t:=by
 intro pins s σ H D Z I h
 refine a13 (thn (h1 pins s σ H D Z I h) fun f s1 q=>?_)
 cases f with
 | next=>exact a0L q
 | ret v=>exact q
 | brk=>exact q
 | cont=>exact q
abbrev Cx.held (X:Cx) (v:Value):Cx:={ X with A:=X.A.mark (some v),calm:=false,xe:=fun _ _=>False }
def Inv.held (I:Inv X pins σ H s) (v:Value):Inv (X.held v) pins σ H s:=
 ⟨⟨I.ok.mod,I.ok.kind,I.ok.glob,I.ok.blt,I.ok.above,I.ok.inj,I.ok.has,I.ok.cab,fun z=>Bool.noConfusion z,I.ok.frames,I.ok.stk,I.ok.exf,I.ok.bs,I.ok.bsz,I.ok.D2,I.ok.D3,I.ok.fq,I.ok.frf⟩,I.os,I.bare,I.base,I.loc,I.cell,I.free,I.Vj,I.pin,I.hok,I.len⟩
def Inv.Ap (I:Inv (X.held v) pins σ H s) (ok:X.Ok):Inv X pins σ H s:=
 ⟨ok,I.os,I.bare,I.base,I.loc,I.cell,I.free,I.Vj,I.pin,I.hok,I.len⟩
def Inv.blank (I:Inv X pins σ H s) (hn:h'.Ns X.env.locals m') (hs:Heap.SameBut X.env.locals s.heap h'):Inv X pins (List.replicate X.N.length none) H { s with heap:=h',toks:=t' }:=by
 have ne:∀ b o,X.s₀.heap.get? b=some o->b≠X.env.locals:=fun b o e=>O1 (O0 (N4 e) I.ok.above)
 have neH:∀ b o,H b=some o->b≠X.env.locals:=fun b o q z=>by rw [z,I.free] at q;cases q
 refine ⟨I.ok,I.os,I.bare,⟨fun b o e n hb hx=>(hs.2 b (ne b o e)).trans (I.base.keep b o e n hb hx),fun b o e n hb hx=>?_,fun b o e n hx=>I.base.free b o e n hx,fun b o e hx=>?_,I.base.nA,I.base.tU,I.base.xW⟩,⟨m',hn,fun i x v _ e2 _=>?_⟩,fun x c e=>?_,I.free,I.Vj,fun p hp=>?_,fun b u e=>?_,by simp⟩
 .obtain ⟨sl,q⟩:=I.base.slot b o e n hb hx
  exact ⟨sl,(hs.2 b (ne b o e)).trans q⟩
 .obtain ⟨o',q⟩:=I.base.there b o e hx
  exact ⟨o',(hs.2 b (ne b o e)).trans q⟩
 .rw [a0t] at e2
  split at e2 <;> cases e2
 .obtain ⟨v,o,ho,hd⟩:=I.cell x c e
  exact ⟨v,o,(hs.2 c (I.cne x c e)).trans ho,hd⟩
 .obtain ⟨e,n,nL,nf,d⟩:=I.pin p hp
  exact ⟨(hs.2 p.1 nL).trans e,n,nL,nf,d⟩
 .refine (I.hok b u e).m_ (fun c w hc r=>(hs.2 c ?_).trans r) (fun _ r=>r) fun _ _ r=>r
  rcases hc with z | z
  .rw [z];exact neH b u e
  .exact neH c _ z
def name_goes (I:Inv X pins σ H s) (hl:X.env.kindOf n=some .local)
  (hQ:∀ s',Inv X pins (List.replicate X.N.length none) H s'->Q () s'):wpAny M A (do bindName X.env n .none;unbindBehindTheSuite X.env n pos) Q E s:=by
 obtain ⟨m,hn,_⟩:=id I.loc
 exact wpAny_nameGoes hl hn (by rw [I.ok.kind];rfl) fun h' m' hn' hs=>hQ _ (I.blank hn' hs)
structure Catch (K:Ny) (C F:Addr) (b:Bool):Prop where
 ty:typeIn K (.ref F)=some (.type "type")
 cl:(clsIn K F).isSome=true
 ex:subIn K (.ref F) (.type "BaseException")=some true
 su:subIn K (.ref C) (.ref F)=some b
def Jr {K:Ny}{M:Model}{h:Heap}{e C F:Addr}{b:Bool}{o:Obj}(X:K.In h) (he:h.get? e=some o) (hc:o.cls=.ref C) (k:Catch K C F b):Looks M h (excMatches (.ref e) (.ref F)) b:=by
 have L0:Looks M h (typeOf (.ref e)) (.ref C):=hc ▸ (Looks.ld he).andThen .now
 have L1:Looks M h (typeOf (.ref F)) (.type "type"):=looks_typeIn X k.ty
 have L2:Looks M h (isInstance (.ref F) (.type "tuple")) false:=L1.andThen (Looks.of_pure tc_notTuple)
 have L3:Looks M h (isType (.ref F)) true:=by
  have hcl:=k.cl
  unfold clsIn at hcl
  split at hcl
  .rename_i c' d' cd' sl' hl
   intro A' Q' E' s' kk q
   unfold isType loadHead
   exact f8 (a0U (kk _ _ (X _ _ hl)) (N5 q))
  .cases hcl
 have L4:Looks M h (isExcClass (.ref F)) true:=L3.andThen (looks_subIn X k.ex)
 have L5:=looks_subIn (M:=M) X k.su
 intro A Q E s kk q
 obtain ⟨hp,g,d,tk,os⟩:=s
 have M0:=L0.keeps kk
 have M2:=L2.keeps kk
 have M4:=L4.keeps kk
 have M5:=L5.keeps kk
 clear L0 L1 L2 L3 L4 L5
 unfold excMatches
 cases b with
 | true=>(repeat lk);exact q
 | false=>(repeat lk);exact q
def ux (i j:Int):Prop:=i.natAbs < 2 ^ 8192/\j.natAbs < 2 ^ 8192
def ux.ok (h:ux i j):IntMulOk i j:=IntMulOk.of_le (intBits_le_iff.mpr h.1) (intBits_le_iff.mpr h.2) (by decide)
def B4:OpR X (binaryOp .Mult) (rI ux fun i j=>.int (i * j)):=opI fun _ _ _ _ _ _ _ hc q=>mul_int q hc.ok
section
variable {H:Hp}{Q:VK}{i j:Int}{x y:Str}{v:V}{o:Option V}{r:St}{n:Nat}
end
section
variable {K:Ny}{C:Addr}{f g:Str}{E E':XK}{D:Ends}{σ:St}{H:Hp}{v u:V}{te tu:TE}
end
def zE.upd {H:Hp}{p:Addr}{o:HO}(h:H p=Option.none):zE H (upd H p o):=fun b q e=>by rw [zj (zX e h)];exact e
def fJ (cells:Nv):List (Str × NameKind)->List (Str × Addr)->List (Str × Addr)
 | [],cs=>cs
 | (n,k) :: r,cs=>fJ cells r (if k == .free then (match cells.lookup n with | some c=>(n,c) :: cs | none=>cs) else cs)
def Vr {env:Env}:∀ (names:NB) (cs:Nv),(∀ y∈names,y.2=.free->(env.cells.lookup y.1).isSome=true)->
  (forIn names cs fun x r=>if (x.2 == NameKind.free)=true then do let a <- cellOf env x.1;pure (ForInStep.yield ((x.1,a) :: r)) else pure (ForInStep.yield r))=(pure (fJ env.cells names cs):Sem _)
 | [],cs,_=>rfl
 | (n,k) :: r,cs,h=>by
  rw [List.forIn_cons]
  have ih:=fun cs=>Vr (env:=env) r cs fun y hy=>h y (M9 _ hy)
  unfold fJ
  by_cases hk:(k == NameKind.free)=true
  .have hs:=h (n,k) v4 (P7.mp hk)
   obtain ⟨c,hc⟩:=a0f.mp hs
   have hc':List.lookup n env.cells=some c:=hc
   simp only [hk,if_true,cellOf,hc',pure_bind]
   exact ih _
  .have hk':(k == NameKind.free)=false:=by simpa using hk
   simp only [hk',Bool.false_eq_true,if_false,pure_bind]
   exact ih _
def l7 (h:∀ y∈scope.names,y.2=.free->(env.cells.lookup y.1).isSome=true):closureFor scope env=pure (fJ env.cells scope.names []):=by
 have:=Vr scope.names [] h
 simp only [closureFor]
 rw [this]
 rfl
def Qt {cells:Nv}{x:Str}{c:Addr}:∀ (names:NB) (cs:Nv),(∀ d,cs.lookup x=some d->cells.lookup x=some d)->(fJ cells names cs).lookup x=some c->cells.lookup x=some c
 | [],cs,h,e=>h c e
 | (n,k) :: r,cs,h,e=>by
  unfold fJ at e
  refine Qt r _ (fun d hd=>?_) e
  by_cases hk:(k == NameKind.free)=true
  .rw [if_pos hk] at hd
   split at hd
   .rename_i c' hc'
    rw [R7] at hd
    split at hd
    .rename_i hx
     cases hd
     rw [P7.mp hx];exact hc'
    .exact h d hd
   .exact h d hd
  .rw [if_neg hk] at hd
   exact h d hd
def bh {cells:Nv}{x:Str}:∀ (names:NB) (cs:Nv),((cs.lookup x).isSome=true\/((x,NameKind.free)∈names/\(cells.lookup x).isSome=true))->((fJ cells names cs).lookup x).isSome=true
 | [],cs,h=>by
  rcases h with h | ⟨h,_⟩
  .exact h
  .cases h
 | (n,k) :: r,cs,h=>by
  unfold fJ
  refine bh r _ ?_
  rcases h with h | ⟨h,hc⟩
  .left
   by_cases hk:(k == NameKind.free)=true
   .rw [if_pos hk]
    split
    .rw [R7];split
     .rfl
     .exact h
    .exact h
   .rw [if_neg hk];exact h
  .rcases O5.mp h with e | e
   .left
    cases e
    rw [if_pos (by rfl)]
    obtain ⟨c,hc⟩:=a0f.mp hc
    rw [hc,R7]
    simp
   .exact .inr ⟨e,hc⟩
def B5 {x:Str}{c:Addr}:∀ (names:NB) (h:Heap) (cs:Nv),(cellsFrom h.objs.size names cs).lookup x=some c->cs.lookup x=some c\/(h.objs.size<=c/\∃ v,(pushCells h names).IsCell c v)
 | [],_,_,e=>.inl e
 | (n,k) :: r,h,cs,e=>by
  unfold cellsFrom at e
  unfold pushCells
  split at e
  .rename_i hk
   rw [if_pos hk]
   have e':(cellsFrom (h.push { cls:=.type "cell",data:=.cell none }).objs.size r ((n,h.objs.size) :: cs)).lookup x=some c:=by rw [a0D];exact e
   rcases B5 r _ _ e' with z | ⟨z,v⟩
   .rw [R7] at z
    split at z
    .cases z
     exact .inr ⟨N1 _,none,_,a2q r _ _ _ (O7 _ rfl),rfl⟩
    .exact .inl z
   .rw [a0D] at z
    exact .inr ⟨a1V z,v⟩
  .rename_i hk
   rw [if_neg hk]
   exact B5 r h cs e
def om:∀ (names:NB) (lo:Nat) (cs:Nv),(∀ x y c,cs.lookup x=some c->cs.lookup y=some c->x=y)->(∀ x c,cs.lookup x=some c->c < lo)->∀ x y c,(cellsFrom lo names cs).lookup x=some c->(cellsFrom lo names cs).lookup y=some c->x=y
 | [],_,_,h,_=>h
 | (n,k) :: r,lo,cs,h,hl=>by
  unfold cellsFrom
  split
  .refine om r _ _ (fun x y c e1 e2=>?_) fun x c e=>?_
   .rw [R7] at e1 e2
    split at e1 <;> split at e2
    .rename_i q1 _ q2;rw [P7.mp q1,P7.mp q2]
    .cases e1;exact absurd (hl _ _ e2) (T6 _)
    .cases e2;exact absurd (hl _ _ e1) (T6 _)
    .exact h x y c e1 e2
   .rw [R7] at e
    split at e
    .cases e;exact a0a _
    .exact a1m (hl x c e)
  .exact om r _ _ h hl
def oq {x:Str}:∀ (names:NB) (lo:Nat) (cs:Nv),((cs.lookup x).isSome=true\/(x,NameKind.cell)∈names)->((cellsFrom lo names cs).lookup x).isSome=true
 | [],_,_,h=>h.elim id fun z=>nomatch z
 | (n,k) :: r,lo,cs,h=>by
  unfold cellsFrom
  split
  .refine oq r _ _ ?_
   rcases h with h | h
   .left;rw [R7];split
    .rfl
    .exact h
   .rcases O5.mp h with e | e
    .cases e;left;rw [R7];simp
    .exact .inr e
  .rename_i hk
   refine oq r _ _ (h.imp id fun z=>?_)
   rcases O5.mp z with e | e
   .cases e;exact absurd rfl hk
   .exact e
def ot {x:Str}:∀ (names:NB) (lo:Nat) (cs:Nv),(x,NameKind.cell)∉names->(cellsFrom lo names cs).lookup x=cs.lookup x
 | [],_,_,_=>rfl
 | (n,k) :: r,lo,cs,h=>by
  unfold cellsFrom
  split
  .rename_i hk
   rw [ot r _ _ fun z=>h (M9 _ z),R7]
   have:(x == n)=false:=by
    cases q:x == n with
    | false=>rfl
    | true=>exact absurd (by rw [P7.mp q,P7.mp hk];exact v4) h
   rw [this]
  .exact ot r _ _ fun z=>h (M9 _ z)
def ou {x:Str}{c:Addr}:∀ (names:NB) (lo b:Nat) (cs:Nv),b<=lo->((x,NameKind.cell)∈names\/∀ d,cs.lookup x=some d->b<=d)->(cellsFrom lo names cs).lookup x=some c->b<=c
 | [],_,_,_,_,h,e=>h.elim (fun z=>nomatch z) fun z=>z c e
 | (n,k) :: r,lo,b,cs,hb,h,e=>by
  unfold cellsFrom at e
  split at e
  .refine ou r _ b _ (a1n hb) ?_ e
   rcases h with h | h
   .rcases O5.mp h with z | z
    .cases z;refine .inr fun d hd=>?_
     rw [R7] at hd;simp at hd;rw [<- hd];exact hb
    .exact .inl z
   .refine .inr fun d hd=>?_
    rw [R7] at hd
    split at hd
    .cases hd;exact hb
    .exact h d hd
  .rename_i hk
   refine ou r _ b _ hb (h.imp (fun z=>?_) id) e
   rcases O5.mp z with q | q
   .cases q;exact absurd rfl hk
   .exact q
def l8
  (h:Q (newEnv scope s.heap.objs.size globals (cellsFrom (s.heap.objs.size + 1) scope.names cl) qual none .none (some env) builtinsNs) { s with heap:=pushCells (s.heap.push { cls:=.type "dict",data:=.dict #[] }) scope.names }):
  wpAny M A (newFunctionEnv scope globals cl [] qual none .none (some env)) Q E s:=by
 simp only [newFunctionEnv,Option.isSome_some,if_true]
 refine f8 (wpAny_alloc ?_)
 refine f8 (wpAny_layCells _ (fun name kind cells=>by cases hkc:kind == NameKind.cell <;> simp [hkc]) _ _ _ _ ?_)
 rw [show ({ s with heap:=s.heap.push { cls:=.type "dict",data:=.dict #[] } }:Shared).heap.objs.size=s.heap.objs.size + 1 from a0D ..]
 refine f8 ?_
 rw [List.forIn_nil]
 exact N5 (N5 h)
abbrev h_ (scope:Scope) (cl:Nv) (L:Addr) (env:Env):Env:={ compEnvC scope cl L env with cells:=cellsFrom (L + 1) scope.names cl }
abbrev qP (X:Cx) (scope:Scope) (N:MX) (fp:NG) (pn:MR) (s:MZ) (H:Hp) (L:Addr):Cx:=
 { X with N:=N,s₀:=s,H₀:=H,env:=h_ scope (fJ X.env.cells scope.names []) L X.env,outer:=X.stack,ex:=fp,fn:=fun x=>scope.names.contains (x,.cell),pn:=pn,xe:=fun _ _=>False }
def tL (X:Cx) (scope:Scope) (N:MX) (fr:Ni):Bool:=
 scope.kind == .function && scope.names.all (fun y=>y.2 != .cell || !scope.names.contains (y.1,.free)) && scope.names.all (fun y=>y.2 != .local || scope.names.lookup y.1 == some .local) &&
 scope.names.all (fun y=>y.2 != .free || (X.env.kindOf y.1 == some .cell || X.env.kindOf y.1 == some .free)) && N.length == fr.length &&
 (N.zip fr).all fun p=>match p.2 with | none=>true | some j=>X.N[j]? == some p.1 && scope.names.contains (p.1,.free) && ((relabel scope X.env).names.lookup p.1 == some .cell || (relabel scope X.env).names.lookup p.1 == some .free)
def tM (σ:St) (fr:Ni):St:=fr.map fun o=>match o with | none=>none | some j=>(σ[j]?).join
def PTs (X:Cx) (ifs:Nc) (t:TT):Prop:=
 ∀ (pins:MR) (s:MZ) (σ:St) (H:Hp) (Q:Bool->Hp->Prop),Inv X pins σ H s->t σ H Q->
  wpAny (Oc X) X.A (forIn ifs true fun c r=>if r=true then do let ok <- isTrue c X.env (eval c X.env);pure (ForInStep.yield ok) else pure (ForInStep.yield r)) (TP X pins σ Q) X.xe s
def Mz:TT:=fun _ H Q=>Q true H
def B6:PTs X [] Mz:=fun _ _ σ H _ I h=>wpAny_tests_nil ⟨H,I,h⟩
def dw (h:(relabel scope env).names.lookup x=some .cell\/(relabel scope env).names.lookup x=some .free):(x,NameKind.free)∈scope.names\/(x,NameKind.cell)∈scope.names:=by
 have key:∀ (names:NB) k,(names.map fun (n,k)=>if (k == NameKind.free && env.scope.kind == .function && env.kindOf n == some .cell) then (n,NameKind.cell) else (n,k)).lookup x=some k->(k=.cell\/k=.free)->(x,NameKind.free)∈names\/(x,NameKind.cell)∈names:=by
  intro names
  induction names with
  | nil=>intro k e _;simp at e
  | cons y r ih=>
   intro k e hk
   obtain ⟨n,kd⟩:=y
   rw [N9,R7] at e
   by_cases q:(kd == NameKind.free && env.scope.kind == .function && env.kindOf n == some .cell)=true
   .simp only [q,if_true] at e
    split at e
    .rename_i hx
     have hf:kd=.free:=by
      simp only [Bool.and_eq_true,beq_iff_eq] at q
      exact q.1.1
     left;rw [P7.mp hx,hf];exact v4
    .exact (ih k e hk).imp (M9 _) (M9 _)
   .simp only [q,Bool.false_eq_true,if_false] at e
    split at e
    .rename_i hx
     have e':kd=k:=T1 e
     rcases hk with z | z
     .right;rw [P7.mp hx,e',z];exact v4
     .left;rw [P7.mp hx,e',z];exact v4
    .exact (ih k e hk).imp (M9 _) (M9 _)
 rcases h with h | h
 .exact key _ _ h (.inl rfl)
 .exact key _ _ h (.inr rfl)
def fK (I:Nat->Shared->Prop)
  (turn:∀ n s,I n s->wpAny (model prog w) A (pyNext it) (fun r s1=>match r with
   | none=>R (.ok .next) s1
   | some v=>wpAny (model prog w) A (letOwnedTupleGo target it v) (fun _ s1'=>wpAny (model prog w) A (assign target env v) (fun _ s2=>
     wpAny (model prog w) A (forIn ifs true fun c r=>if r=true then do let ok <- isTrue c env (eval c env);pure (ForInStep.yield ok) else pure (ForInStep.yield r)) (fun ok s3=>
      if ok=true then wpAny (model prog w) A (eval elt env) (fun x s4=>wpAny (model prog w) A (call (.builtin "list.append") [acc,x]) (fun _ s5=>∃ m,m < n/\I m s5) (fun _ _=>False) s4) (fun _ _=>False) s3
      else ∃ m,m < n/\I m s3) (fun _ _=>False) s2) (fun _ _=>False) s1') (fun _ _=>False) s1) (fun _ _=>False) s)
  (n:Nat) (h:I n s):codeAny (model prog w) A (.compLoop (.ListComp elt [⟨target,j9,ifs,0⟩] scope pos) 0 it acc env) R s:=by
 refine codeAny_loop rfl I (fun n s hI=>?_) n h
 show wpAny _ A ((compTurn (.ListComp elt [⟨target,j9,ifs,0⟩] scope pos) 0 it acc env).onRaise (fun x=>do noteFrame x env;theTreesLotGoes x)) _ _ s
 refine wpAny_noted ?_
 rw [compTurn_list]
 refine f8 (a1r (f8 (S4 (turn n s hI) (fun r s1 h1=>?_) fun _ _ z=>False.elim z)))
 cases r with
 | none=>exact N5 h1
 | some v=>
  refine f8 (S4 h1 (fun _ s1' h1'=>f8 (S4 h1' (fun _ s2 h2=>f8 (S4 h2 (fun ok s3 h3=>?_) fun _ _ z=>False.elim z)) fun _ _ z=>False.elim z)) fun _ _ z=>False.elim z)
  cases ok with
  | false=>exact N5 ⟨rfl,h3⟩
  | true=>exact f8 (f8 (S4 h3 (fun x s4 h4=>f8 (S4 h4 (fun _ s5 h5=>N5 (N5 ⟨rfl,h5⟩)) fun _ _ z=>False.elim z)) fun _ _ z=>False.elim z))
def l9 {X:Cx}{pins:MR}{σ:St}{H2:Hp}{s2:MZ}{elt j9 tg:Nh}{ifs:Nc}{scope:Scope}{pos:Pos}{N:MX}{fr:Ni}{it:Addr}{fp:NG}{tn:Nat->Heap->Prop}{J:It}
  {E:MW}{RR:Value->Addr->Result->Shared->Prop}
  (hc:X.calm=true) (hok:tL X scope N fr=true) (I2:Inv X pins σ H2 s2) (T:Turn X.prog X.w X.K tg J fp it tn) (st:tn 0 s2.heap) (f2:∀ b∈fp,lO X pins H2 b)
  (k:∀ (s3:MZ) (h1:Heap),Inv X pins σ (upd H2 s2.heap.objs.size (.lst [])) s3->Inv (qP X scope N fp (X.pn++pins) s3 (upd H2 s2.heap.objs.size (.lst [])) s3.heap.objs.size) [] (tM σ fr) (upd H2 s2.heap.objs.size (.lst [])) { s3 with heap:=h1,toks:=s3.toks + 0 }->(∀ b o,s2.heap.get? b=some o->h1.get? b=some o)->(∀ b∈fp,(upd H2 s2.heap.objs.size (.lst [])) b=none)->(∀ H':Hp,(∀ b∈fp,H' b=none)->∀ b∈fp,lO (qP X scope N fp (X.pn++pins) s3 (upd H2 s2.heap.objs.size (.lst [])) s3.heap.objs.size) [] H' b)->
   codeAny (Oc X) X.A (.compLoop (.ListComp elt [⟨tg,j9,ifs,0⟩] scope pos) 0 (.ref it) (.ref s2.heap.objs.size) (h_ scope (fJ X.env.cells scope.names []) s3.heap.objs.size X.env)) (RR (.ref s2.heap.objs.size) s3.heap.objs.size) { s3 with heap:=h1,toks:=s3.toks + 0 }):
  wpAny (Oc X) X.A (newList []) (fun acc s3=>wpAny (Oc X) X.A (newFunctionEnv scope X.env.globals (fJ X.env.cells scope.names []) [] X.env.qual none .none (some X.env)) (fun cenv s4=>
   codeAny (Oc X) X.A (.compStart (.ListComp elt [⟨tg,j9,ifs,0⟩] scope pos) 0 (.ref it) acc { cenv with scope:=relabel scope X.env }) (RR acc cenv.locals) s4) E s3) E s2:=by
 unfold tL at hok
 simp only [Bool.and_eq_true,beq_iff_eq,List.all_eq_true] at hok
 obtain ⟨⟨⟨⟨⟨k1,k2⟩,k3⟩,k4⟩,k5⟩,k6⟩:=hok
 have hcf:∀ x,(x,NameKind.free)∈scope.names->(x,NameKind.cell)∉scope.names:=fun x hf hc'=>by
  have:=k2 _ hc'
  simp only [bne_self_eq_false,Bool.false_or,Bool.not_eq_true',List.contains_eq_mem,decide_eq_false_iff_not] at this
  exact this hf
 refine a1l ?_
 have I3:Inv X pins σ (upd H2 s2.heap.objs.size (.lst [])) { s2 with heap:=s2.heap.push { cls:=.type "list",data:=.seq ([]:List Value).toArray } }:=I2.HQ (ys:=[]) (its:=[]) (t':=s2.toks) .nil (S7 _)
 refine l8 ?_
 generalize hs3:({ s2 with heap:=s2.heap.push { cls:=.type "list",data:=.seq ([]:List Value).toArray } }:Shared)=s3 at I3 ⊢
 have hns1:=(Heap.Ns.new s3.heap (.type "dict")).keeps (a2q scope.names _)
 have kp1:∀ b o,s3.heap.get? b=some o->(pushCells (s3.heap.push { cls:=.type "dict",data:=.dict #[] }) scope.names).get? b=some o:=fun b o e=>a2q _ _ b o (M7 _ e)
 have cor:∀ x c,(cellsFrom (s3.heap.objs.size + 1) scope.names (fJ X.env.cells scope.names [])).lookup x=some c->X.env.cells.lookup x=some c\/(s3.heap.objs.size + 1<=c/\∃ v,(pushCells (s3.heap.push { cls:=.type "dict",data:=.dict #[] }) scope.names).IsCell c v):=fun x c e=>by
  have:=B5 (x:=x) (c:=c) scope.names (s3.heap.push { cls:=.type "dict",data:=.dict #[] }) (fJ X.env.cells scope.names []) (by rw [a0D];exact e)
  rw [a0D] at this
  exact this.imp (Qt _ [] fun _ z=>by simp at z) id
 generalize hh1:pushCells (s3.heap.push { cls:=.type "dict",data:=.dict #[] }) scope.names=h1 at hns1 kp1 cor ⊢
 have kp0:∀ b o,s2.heap.get? b=some o->s3.heap.get? b=some o:=fun b o e=>by rw [<- hs3];exact M7 _ e
 have fp3:∀ b∈fp,b < s3.heap.objs.size/\(upd H2 s2.heap.objs.size (.lst [])) b=none:=fun b hb=>by
  obtain ⟨o,ho,_⟩:=T.obj _ _ st b hb
  refine ⟨N4 (kp0 _ _ ho), ?_⟩
  rw [zj (O1 (N4 ho))];exact (f2 b hb).1
 have okc:(qP X scope N fp (X.pn++pins) s3 (upd H2 s2.heap.objs.size (.lst [])) s3.heap.objs.size).Ok:=by
  refine ⟨I3.ok.mod,k1,I3.ok.glob,I3.ok.blt,N1 _,om _ _ _ (fun x y c e1 e2=>I3.ok.inj x y c (Qt _ [] (fun _ z=>by simp at z) e1) (Qt _ [] (fun _ z=>by simp at z) e2)) (fun x c e=>?_),fun x hx=>?_,fun x c z e=>?_,fun _=>I3.ok.hd hc,I3.ok.frames,.inl rfl,
   fun b hb=>⟨O1 (fp3 b hb).1,fun x c e=>?_⟩,I3.bs,P6 I3.ok.bsz I3.sz,fun b o e hb=>?_,fun b hb z=>?_,I3.stack,I3.aW⟩
  .obtain ⟨v,hv⟩:=I3.cell x c (Qt _ [] (fun _ z=>by simp at z) e)
   exact a1m hv.lt
  .refine a0f.mp (oq _ _ _ ?_)
   rcases dw hx with hf | hf
   .have hk:=k4 _ hf
    simp only [bne_self_eq_false,Bool.false_or,Bool.or_eq_true,beq_iff_eq] at hk
    obtain ⟨c,hcx⟩:=I3.ok.has x hk
    exact .inl (bh _ [] (.inr ⟨hf,by rw [hcx];rfl⟩))
   .exact .inr hf
  .exact ou scope.names (s3.heap.objs.size + 1) s3.heap.objs.size _ (a0m _) (.inl (List.contains_iff_mem.mp z)) e
  .rcases cor x c e with z | ⟨z,_⟩
   .exact (f2 b hb).2.2.2.2.1 x c z
   .exact fun q=>absurd (a09 (a1V z) (show c < s3.heap.objs.size by rw [q];exact (fp3 b hb).1)) (T6 _)
  .rcases (f2 b hb).2.2.2.1 with z | z
   .exact I2.ok.D2 b o e z
   .have:=N4 e
    exact absurd (O0 this I2.ok.bsz) (Nat.not_lt.mpr z)
  .rcases O5.mp (I3.ah b z) with z | z
   .exact (f2 b hb).2.1 z
   .exact (f2 b hb).2.2.1 z
 have lenN:(tM σ fr).length=N.length:=by unfold tM;rw [u8];exact k5.symm
 have J0:Inv (qP X scope N fp (X.pn++pins) s3 (upd H2 s2.heap.objs.size (.lst [])) s3.heap.objs.size) [] (tM σ fr) (upd H2 s2.heap.objs.size (.lst [])) { s3 with heap:=h1,toks:=s3.toks + 0 }:=by
  have I4:=I3.kept (h':=h1) (t':=s3.toks + 0) kp1
  refine ⟨okc,rfl,I3.bare,Un.kept kp1,⟨_,hns1,fun i x v e1 e2 _=>?_⟩,fun x c e=>(cor x c e).elim (I4.cell x c) fun z=>z.2,I3.hok.fresh (N1 _),fun x c e=>(cor x c e).elim (I4.Vj x c) fun z=>I3.hok.fresh (a1V z.1),fun p hp=>?_,I4.hok,lenN⟩
  .unfold tM at e2
   rw [P0] at e2
   cases hfi:fr[i]? with
   | none=>rw [hfi] at e2;cases e2
   | some o=>
    rw [hfi] at e2
    cases o with
    | none=>cases e2
    | some j=>
     have e3:(σ[j]?).join=some v:=T1 e2
     have hm:(x,some j)∈N.zip fr:=by
      refine a0X (i:=i) ?_
      rw [List.getElem?_zip_eq_some]
      exact ⟨e1,hfi⟩
     have hk:=k6 _ hm
     simp only [Bool.and_eq_true,Bool.or_eq_true,beq_iff_eq,List.contains_iff_mem] at hk
     obtain ⟨⟨g1,g2⟩,g3⟩:=hk
     have hσ:σ[j]? = some (some v):=by
      cases q:σ[j]? with
      | none=>rw [q] at e3;cases e3
      | some w=>rw [q] at e3;cases w with
       | none=>cases e3
       | some w=>cases e3;rfl
     have hkx:=k4 _ g2
     simp only [bne_self_eq_false,Bool.false_or,Bool.or_eq_true,beq_iff_eq] at hkx
     obtain ⟨m,_,hl⟩:=I4.loc
     obtain ⟨u,ru,lk⟩:=hl j x v g1 hσ (by rcases hkx with z | z;exact .inr (.inl z);exact .inr (.inr z))
     refine ⟨u,ru,.inr ⟨g3, ?_⟩⟩
     rcases lk with ⟨z,_⟩ | ⟨_,c,ec,z⟩
     .rcases hkx with q | q <;> (rw [z] at q;cases q)
     .obtain ⟨c',hc'⟩:=a0f.mp (bh (cells:=X.env.cells) (x:=x) scope.names [] (.inr ⟨g2,by rw [ec];rfl⟩))
      have:=Qt _ [] (fun _ z=>by simp at z) hc'
      rw [ec] at this;cases this
      exact ⟨c,(ot _ _ _ (hcf x g2)).trans hc',z⟩
  .have hp':p∈X.pn++pins:=by rw [O9] at hp;exact hp
   obtain ⟨q1,q2,q3,q4,q5⟩:=I4.pin p hp'
   refine ⟨q1,q2,O1 (N4 (I3.pin p hp').1),fun z=>?_,q5⟩
   rcases O5.mp (I3.ah _ z) with z | z
   .exact q3 z
   .exact q4 z
 have stat:∀ {H':Hp},(∀ b∈fp,H' b=none)->∀ b∈fp,lO (qP X scope N fp (X.pn++pins) s3 (upd H2 s2.heap.objs.size (.lst [])) s3.heap.objs.size) [] H' b:=fun hn b hb=>
  ⟨hn b hb,(okc.exf b hb).1,fun z=>okc.D3 b hb z,.inl hb,(okc.exf b hb).2,fun p hp=>by rw [O9] at hp;exact (f2 b hb).2.2.2.2.2 p hp⟩
 have loop:=k s3 h1 I3 J0 (fun b o e=>kp1 b o (kp0 b o e)) (fun b hb=>(fp3 b hb).2) (fun _ hn=>stat hn)
 exact codeAny_compStart_list loop (T.self _ 0 _ _ _ (T.keep _ _ _ st fun b _ o e=>kp1 b o (kp0 b o e)) loop)
def ia {X:Cx}{pins:MR}{σ:St}{H2:Hp}{s2:MZ}{elt j9 tg:Nh}{ifs:Nc}{scope:Scope}{pos:Pos}{N:MX}{fr:Ni}{g:TG}{tc:TT}{te:TE}{it:Addr}{fp:NG}{tn:Nat->Heap->Prop}{J:It}
  {E:MW}{RR:Value->Addr->Result->Shared->Prop}{Q:VK}
  (hc:X.calm=true) (hok:tL X scope N fr=true) (I2:Inv X pins σ H2 s2) (T:Turn X.prog X.w X.K tg J fp it tn) (st:tn 0 s2.heap) (f2:∀ b∈fp,lO X pins H2 b)
  (hg:∀ fp pn s H L,PG (qP X scope N fp pn s H L) tg g) (hi:∀ fp pn s H L,PTs (qP X scope N fp pn s H L) ifs tc) (he:∀ fp pn s H L,PE (qP X scope N fp pn s H L) elt te)
  (h:∀ acc,H2 acc=none->∃ W:Nat->Nat->St->Hp->Prop,(∃ m,W 0 m (tM σ fr) (upd H2 acc (.lst [])))/\∀ i m σ' H',W i m σ' H'->
   (J.stop i H'/\Q (.ref acc) H')\/(J.go i H'/\∃ N:St->Hp->Prop,(∀ σ' H',N σ' H'->∃ m',m' < m/\W (i + 1) m' σ' H')/\∀ x H3,J.yld i H' x H3->g x σ' H3 fun σ4 H4=>tc σ4 H4 fun b H5=>
    if b=true then te σ4 H5 fun v H6=>∃ ys,H6 acc=some (.lst ys)/\ys.length < sizeLine/\N σ4 (upd H6 acc (.lst (ys++[v]))) else N σ4 H5))
  (hRR:∀ acc C m s' H',Inv X pins σ H' s'->s'.heap.Ns C m->X.s₀.heap.objs.size<=C->H' C=none->C≠X.env.locals->(∀ x c,X.env.cells.lookup x=some c->c≠C)->(∀ p∈X.pn++pins,p.1≠C)->Q (.ref acc) H'->RR (.ref acc) C (.ok .next) s'):
  wpAny (Oc X) X.A (newList []) (fun acc s3=>wpAny (Oc X) X.A (newFunctionEnv scope X.env.globals (fJ X.env.cells scope.names []) [] X.env.qual none .none (some X.env)) (fun cenv s4=>
   codeAny (Oc X) X.A (.compStart (.ListComp elt [⟨tg,j9,ifs,0⟩] scope pos) 0 (.ref it) acc { cenv with scope:=relabel scope X.env }) (RR acc cenv.locals) s4) E s3) E s2:=by
 have hDf:H2 s2.heap.objs.size=none:=I2.hok.fresh (N1 _)
 obtain ⟨W,⟨m0,w0⟩,turn⟩:=h _ hDf
 refine l9 hc hok I2 T st f2 fun s3 h1 I3 J0 kp fpn stat=>?_
 have hcc:(qP X scope N fp (X.pn++pins) s3 (upd H2 s2.heap.objs.size (.lst [])) s3.heap.objs.size).calm=true:=hc
 refine fK (fun n s'=>∃ i σ' H',Inv (qP X scope N fp (X.pn++pins) s3 (upd H2 s2.heap.objs.size (.lst [])) s3.heap.objs.size) [] σ' H' s'/\tn i s'.heap/\(∀ b∈fp,H' b=none)/\W i n σ' H') ?_ m0
  ⟨0,_,_,J0,T.keep _ _ _ st fun b _ o e=>kp b o e,fpn,w0⟩
 rintro n s5 ⟨i,σ5,H5,I5,st5,fr5,w5⟩
 rcases turn i n σ5 H5 w5 with ⟨stop,qn⟩ | ⟨go,NN,hNN,step⟩
 .refine thn (T.done (qP X scope N fp (X.pn++pins) s3 (upd H2 s2.heap.objs.size (.lst [])) s3.heap.objs.size) rfl rfl rfl hcc i [] s5 σ5 H5 _ I5 (stat _ fr5) st5 stop) fun r s6 ⟨hr,I6⟩=>?_
  subst hr
  have I7:Inv X pins σ H5 s6:=I3.D8 (ch:=fp) I6.os I6.base I6.hok I6.bare fun b hb=>⟨(f2 b hb).2.2.2.1,(f2 b hb).2.1,(f2 b hb).2.2.2.2.1,(f2 b hb).2.2.2.2.2⟩
  obtain ⟨mm,hmm,_⟩:=I6.loc
  refine hRR _ _ mm s6 H5 I7 hmm I3.sz I6.free (a0r I3.lt) (fun x c e z=>?_) (fun p hp z=>?_) qn
  .obtain ⟨v,hv⟩:=I3.cell x c e
   exact absurd hv.lt (by rw [z];exact T6 _)
  .exact absurd (N4 (I3.pin p hp).1) (by rw [z];exact T6 _)
 .refine thn (T.item (qP X scope N fp (X.pn++pins) s3 (upd H2 s2.heap.objs.size (.lst [])) s3.heap.objs.size) rfl rfl rfl hcc i [] s5 σ5 H5 _ I5 (stat _ fr5) st5 go) fun r s6 ⟨u,hr,h6⟩=>?_
  subst hr
  refine thn h6 fun _ s7 ⟨x,H7,I7,r7,y7,st7,fr7⟩=>?_
  have I7':=I7.pinned (stat _ fr7) (T.obj _ _ st7)
  have again:∀ {σ9:St}{H9:Hp}{s9:MZ},Inv (qP X scope N fp (X.pn++pins) s3 (upd H2 s2.heap.objs.size (.lst [])) s3.heap.objs.size) ([]++cZ fp s7.heap) σ9 H9 s9->NN σ9 H9->
    ∃ m,m < n/\∃ i σ' H',Inv (qP X scope N fp (X.pn++pins) s3 (upd H2 s2.heap.objs.size (.lst [])) s3.heap.objs.size) [] σ' H' s9/\tn i s9.heap/\(∀ b∈fp,H' b=none)/\W i m σ' H':=fun {σ9 H9 s9} I9 n9=>by
   obtain ⟨m',hm,w9⟩:=hNN σ9 H9 n9
   refine ⟨m',hm,i + 1,σ9,H9,I9.vY,T.keep _ _ _ st7 fun b hb o e=>(I9.pin (b,o) (P4 _ (P4 _ (Qs hb e)))).1,fun b hb=>?_,w9⟩
   obtain ⟨o,e,d⟩:=T.obj _ _ st7 b hb
   exact (I9.pin (b,o) (P4 _ (P4 _ (Qs hb e)))).2.1
  refine thn (hg _ _ _ _ _ _ s7 σ5 H7 x u _ I7' r7 (step x H7 y7)) fun _ s8 ⟨σ8,H8,I8,q8⟩=>?_
  refine thn (hi _ _ _ _ _ _ s8 σ8 H8 _ I8 q8) fun ok s9 ⟨H9,I9,q9⟩=>?_
  cases ok with
  | false=>rw [if_neg (by decide)] at q9 ⊢;exact again I9 q9
  | true=>
   rw [if_pos rfl] at q9 ⊢
   refine thn (he _ _ _ _ _ _ s9 σ8 H9 _ I9 q9) fun y s10 ⟨v,H10,I10,r10,ys,h10,l10,q10⟩=>?_
   refine thn (WX (X:=qP X scope N fp (X.pn++pins) s3 (upd H2 s2.heap.objs.size (.lst [])) s3.heap.objs.size) _ s10 σ8 H10 (.ref s2.heap.objs.size) [v] (.ref s2.heap.objs.size) [y] (fun _ H11=>NN σ8 H11) I10 rfl (.cons r10 .nil) ⟨_,ys,v,rfl,rfl,h10,l10,q10⟩) fun _ s11 ⟨_,H11,I11,_,q11⟩=>?_
   exact again I11 q11
def tLC (wi:TI) (g:TG) (tc:TT) (te:TE) (fr:Ni):TE:=fun σ H Q=>wi σ H fun J H1=>∀ acc,H1 acc=none->∃ W:Nat->Nat->St->Hp->Prop,(∃ m,W 0 m (tM σ fr) (upd H1 acc (.lst [])))/\∀ i m σ' H',W i m σ' H'->
 (J.stop i H'/\Q (.ref acc) H')\/(J.go i H'/\∃ N:St->Hp->Prop,(∀ σ' H',N σ' H'->∃ m',m' < m/\W (i + 1) m' σ' H')/\∀ x H3,J.yld i H' x H3->g x σ' H3 fun σ4 H4=>tc σ4 H4 fun b H5=>
  if b=true then te σ4 H5 fun v H6=>∃ ys,H6 acc=some (.lst ys)/\ys.length < sizeLine/\N σ4 (upd H6 acc (.lst (ys++[v]))) else N σ4 H5)
def ib {X:Cx}{pins:MR}{σ:St}{H:Hp}{s:MZ}{scope:Scope}{N:MX}{fr:Ni}(hok:tL X scope N fr=true) (I:Inv X pins σ H s):
  scope.kind=.function/\(∀ y∈scope.names,y.2=.local->scope.names.lookup y.1=some .local)/\closureFor scope X.env=pure (fJ X.env.cells scope.names []):=by
 unfold tL at hok
 simp only [Bool.and_eq_true,beq_iff_eq,List.all_eq_true] at hok
 obtain ⟨⟨⟨⟨⟨k1,k2⟩,k3⟩,k4⟩,k5⟩,k6⟩:=hok
 refine ⟨k1,fun y hy z=>?_,l7 fun y hy z=>?_⟩
 .have:=k3 y hy
  rw [z] at this
  simpa using this
 .have hk:=k4 y hy
  rw [z] at hk
  simp only [bne_self_eq_false,Bool.false_or,Bool.or_eq_true,beq_iff_eq] at hk
  obtain ⟨c,hcx⟩:=I.ok.has y.1 hk
  rw [hcx];rfl
def Il (N:MX) (fr:Ni) (hc:X.calm=true) (hok:tL X scope N fr=true) (hi:PI X tg j9 wi) (hg:∀ fp pn s H L,PG (qP X scope N fp pn s H L) tg g) (ht:∀ fp pn s H L,PTs (qP X scope N fp pn s H L) ifs tc) (he:∀ fp pn s H L,PE (qP X scope N fp pn s H L) elt te)
  (hs:∀ x,foldedSetIterable j9 X.env x=pure x:=by intro _;rfl):PE X (.ListComp elt [⟨tg,j9,ifs,0⟩] scope pos) (tLC wi g tc te fr):=by
 intro pins s σ H Q I h
 obtain ⟨k1,k3,hcl⟩:=ib hok I
 rw [eval_ListComp]
 refine a2a (use:=none) rfl hs hcl k1 k3 (thn (hi pins s σ H _ I h) fun v s1 h1=>thn h1 fun itv s2 h2=>?_)
 obtain ⟨it,fp,tn,J,H2,e,I2,T,st2,f2,hr⟩:=h2
 subst e
 refine ia (Q:=Q) (RR:=fun acc C=>compPost (Oc X) X.A X.xe none (EP X pins σ Q) acc C) hc hok I2 T st2 f2 hg ht he hr fun acc C m s' H' I' hn h1 h2 h3 h4 h5 q=>?_
 exact ⟨m,hn,fun h' sb=>⟨.ref acc,H',I'.turned (t':=s'.toks) (fun b o hb e=>(sb.2 b hb).trans e) h2 h3 (.inr h1) h4 h5,rfl,q⟩⟩
def EI (N:MX) (fr:Ni) (hN:X.N.Nodup) (hy:X.N[i]? = some y) (hl:X.env.scope.names.lookup y=some .local) (hc:X.calm=true) (hok:tL X scope N fr=true) (hi:PI X tg j9 wi) (hg:∀ fp pn s H L,PG (qP X scope N fp pn s H L) tg g)
  (ht:∀ fp pn s H L,PTs (qP X scope N fp pn s H L) ifs tc) (he:∀ fp pn s H L,PE (qP X scope N fp pn s H L) elt te) (hsw:swapsWith (.ListComp elt [⟨tg,j9,ifs,0⟩] scope pos) (some (.Name y py)) tK.line X.env=pure true:=by rfl)
  (hs:∀ x,foldedSetIterable j9 X.env x=pure x:=by intro _;rfl):PS X (.Assign [.Name y py] (.ListComp elt [⟨tg,j9,ifs,0⟩] scope pos) tK) (DP (tLC wi g tc te fr) (ft i)):=by
 intro pins s σ H D I h
 obtain ⟨k1,k3,hcl⟩:=ib hok I
 rw [exec_Assign_Name_used _ _ _ _ hsw]
 refine f8 (a1r (f8 ?_))
 show wpAny _ X.A (do let _ <- comprehension (.ListComp elt [⟨tg,j9,ifs,0⟩] scope pos) scope X.env _ (newList []) false (eval j9 X.env) (some (assign (.Name y py) X.env))) _ _ s
 refine f8 (S4 (a2a (use:=some (assign (.Name y py) X.env)) (Q:=fun _ s'=>SP X pins D .next s') rfl hs hcl k1 k3
  (thn (hi pins s σ H _ I h) fun v s1 h1=>thn h1 fun itv s2 h2=>?_)) (fun _ s' hq=>N5 (N5 hq)) fun _ _ z=>z)
 obtain ⟨it,fp,tn,J,H2,e,I2,T,st2,f2,hr⟩:=h2
 subst e
 refine ia (Q:=fun v H1=>ft i v σ H1 D.nx) (RR:=fun acc C=>compPost (Oc X) X.A X.xe (some (assign (.Name y py) X.env)) (fun _ s'=>SP X pins D .next s') acc C) hc hok I2 T st2 f2 hg ht he hr fun acc C m s' H' I' hn h1 h2 h3 h4 h5 q=>?_
 show wpAny _ X.A (assign (.Name y py) X.env (.ref acc)) _ _ _
 refine wpAny_assign_Name (cX (v:=.ref acc) I' hN hy (.inl hl) rfl (fun s'' I'' ⟨a,sb,ha⟩=>?_) (.inr hl))
 have nea:C≠a:=fun z=>by
  rcases ha with e | e
  .exact h3 (z.trans e)
  .exact h4 y a e z.symm
 obtain ⟨o,es,ep,ho,rr⟩:=id hn
 refine ⟨m,⟨o,es,ep,(sb.2 C nea).trans ho,rr⟩,fun h' sb'=>⟨_,H',I''.turned (t':=s''.toks) (fun b o hb e=>(sb'.2 b hb).trans e) h2 h3 (.inr h1) h4 h5,q⟩⟩
section
variable {X:Cx}
def MB:V->Option Int->Option Int->Hp->VK->Prop:=fun x lo hi H Q=>∃ z,x=.str z/\z.length<=sizeLine/\Q (.str (Txt.slice z lo hi)) H
def EJ:SlR X MB:=by
 intro pins s σ H x v vl vu lo hi sl Q I rx hs pl pu h
 obtain ⟨z,rfl,hz,q⟩:=h
 obtain ⟨t,rfl⟩:=rx
 have part:∀ {a:Value}{o:NO},IsPart a o->∃ p:Option (Int × Tok),a=partValue p/\p.map (·.1)=o:=by
  intro a o h
  cases h
  .exact ⟨none,rfl,rfl⟩
  .exact ⟨some (_,_),rfl,rfl⟩
 obtain ⟨p1,rfl,rfl⟩:=part pl
 obtain ⟨p2,rfl,rfl⟩:=part pu
 refine ⟨"str",_,F.slot_str_getitem.lookup,typeIs_str _ _ _,wpAny_getItem_str_slice (l:=p1) (u:=p2) (st:=none) ?_ rfl ?_⟩
 .exact hs
 .exact post_val_or_str ⟨P6 (Txt.slice_le z _ _) hz,fun t' k=>⟨.str _,H,I.tok _,⟨t',rfl⟩,q⟩⟩
end
def Its (x:Str):It:=⟨fun i _=>i < x.cps.size,fun i H v H'=>H' = H/\∃ c,x.cps[i]? = some c/\v=.str ⟨#[c]⟩,fun i _=>x.cps.size<=i⟩
def B7 (it:Addr) (x:Str) (i:Nat) (h:Heap):Prop:=∃ t,h.IsStrIter it "str_ascii_iterator" x t i\/h.IsStrIter it "str_iterator" x t i
def uy {P:Nk}{w:Nq}{K:Ny}{y:Str}{py:Pos}(it:Addr) (x:Str):Turn P w K (.Name y py) (Its x) [it] it (fun i h=>i<=x.cps.size/\B7 it x i h) where
 mem:=by simp
 obj:=fun i h st b hb=>by
  obtain rfl:b=it:=by simpa using hb
  obtain ⟨_,t,⟨o,e,_,d⟩ | ⟨o,e,_,d⟩⟩:=st <;> exact ⟨o,e,fun v z=>by rw [d] at z;cases z⟩
 keep:=fun i h h' st k=>by
  obtain ⟨hi,t,⟨o,e,r⟩ | ⟨o,e,r⟩⟩:=st
  .exact ⟨hi,t,.inl ⟨o,k it (by simp) o e,r⟩⟩
  .exact ⟨hi,t,.inr ⟨o,k it (by simp) o e,r⟩⟩
 item:=by
  intro X hP hw hK hc i pins s σ H E I hf st hg
  subst hP hw hK
  have hg':i < x.cps.size:=hg
  have hx:x.cps[i]? = some x.cps[i]:=Array.getElem?_eq_getElem hg'
  obtain ⟨f0,f1,f2,f3,f4,f5⟩:=hf it (by simp)
  obtain ⟨_,t,st | st⟩:=st
  .refine wpAny_pyNext_ascii_item st hx fun h' st' sb=>⟨_,rfl,N5 ⟨.str ⟨#[x.cps[i]]⟩,H,I.turned (t':=s.toks + 1) (fun b o hb e=>(sb.2 b hb).trans e) f0 f1 f3 f4 f5,⟨_,rfl⟩,⟨rfl,_,hx,rfl⟩,⟨hg',t,.inl st'⟩,fun b hb=>(hf b hb).1⟩⟩
  .refine wpAny_pyNext_wide_item st hx fun h' st' sb=>⟨_,rfl,N5 ⟨.str ⟨#[x.cps[i]]⟩,H,I.turned (t':=s.toks + 1) (fun b o hb e=>(sb.2 b hb).trans e) f0 f1 f3 f4 f5,⟨_,rfl⟩,⟨rfl,_,hx,rfl⟩,⟨hg',t,.inr st'⟩,fun b hb=>(hf b hb).1⟩⟩
 done:=by
  intro X hP hw hK hc i pins s σ H E I hf st hg
  subst hP hw hK
  have hg':x.cps.size<=i:=hg
  have hx:x.cps[i]? = none:=a2u hg'
  obtain ⟨f0,f1,f2,f3,f4,f5⟩:=hf it (by simp)
  obtain ⟨_,t,st | st⟩:=st
  .exact wpAny_pyNext_ascii_end (I.ok.hd hc) st hx fun h' eb=>⟨rfl,I.turned (t':=s.toks) (fun b o hb e=>eb b o hb e) f0 f1 f3 f4 f5⟩
  .exact wpAny_pyNext_wide_end (I.ok.hd hc) st hx fun h' eb=>⟨rfl,I.turned (t':=s.toks) (fun b o hb e=>eb b o hb e) f0 f1 f3 f4 f5⟩
 self:=fun _ _ _ _ _ st h=>by
  obtain ⟨_,t,st | st⟩:=st
  .exact wpAny_pyIter_striter_ascii st h
  .exact wpAny_pyIter_striter_wide st h
def MC (tl:TE):TI:=fun σ H R=>tl σ H fun x H1=>∃ z,x=.str z/\R (Its z) H1
def EK (hl:PE X l tl):PI X (.Name y py) l (MC tl):=by
 intro pins s σ H R I h
 refine thn (hl pins s σ H _ I h) fun v s1 ⟨x,H1,I1,r1,z,e,q⟩=>?_
 subst e
 obtain ⟨t,rfl⟩:=r1
 have fin:∀ o:Obj,(∀ h,h.get? s1.heap.objs.size=some o->B7 s1.heap.objs.size z 0 h)->PIE X pins σ (.Name y py) R (.ref s1.heap.objs.size) { s1 with heap:=s1.heap.push o }->PIE X pins σ (.Name y py) R (.ref s1.heap.objs.size) { s1 with heap:=s1.heap.push o }:=fun _ _ h=>h
 have mk:∀ o:Obj,o.isFreed=false->(∀ h:Heap,h.get? s1.heap.objs.size=some o->B7 s1.heap.objs.size z 0 h)->PIE X pins σ (.Name y py) R (.ref s1.heap.objs.size) { s1 with heap:=s1.heap.push o }:=fun o hf ho=>by
  have I2:Inv X pins σ H1 { s1 with heap:=s1.heap.push o }:=I1.kept (t':=s1.toks) fun b u e=>M7 _ e
  refine ⟨s1.heap.objs.size,[s1.heap.objs.size],_,Its z,H1,rfl,I2,uy _ z,⟨S7 _,ho _ (O7 _ hf)⟩,fun b hb=>?_,q⟩
  obtain rfl:b=s1.heap.objs.size:=by simpa using hb
  exact I1.DQ (N1 _) (I1.hok.fresh (N1 _))
 cases ha:z.cps.all (· < 128)
 .exact wpAny_pyIter_wide ha (mk _ rfl fun h e=>⟨t,.inr ⟨_,e,rfl,rfl⟩⟩)
 .exact wpAny_pyIter_ascii ha (mk _ rfl fun h e=>⟨t,.inl ⟨_,e,rfl,rfl⟩⟩)
section
variable {X:Cx}
end
section
variable {C:Addr}{f g:Str}{E':XK}{σ:St}{H:Hp}{v u:V}{te tu:TE}{Q:VK}
end
section
variable {K:Ny}{C e:Addr}{f:Str}{σ:St}{H:Hp}{v:V}{te:TE}{Q:VK}{fs:Nu}
end
section
variable {te:TE}{fr:Ni}{σ:St}{H:Hp}{Q:VK}{r:St}
end
abbrev TJ:=St->Hp->Str->(Str->Hp->Prop)->Prop
section
variable {X:Cx}{e:Nh}{es:Nc}{t:TE}{tj:TJ}{pos:Pos}
end
section
variable {X:Cx}
def EL:R2:=fun x y H Q=>∃ z i,x=.str z/\y=.int i/\z.length<=16/\-2 ^ 63<=i/\i<=1048576/\Q (.str (Txt.mul z i)) H
def l_:OpR X (binaryOp .Mult) EL:=by
 intro pins s σ H x y v u Q I rx ry h
 obtain ⟨z,i,rfl,rfl,hz,h1,h2,q⟩:=h
 obtain ⟨t,rfl⟩:=rx
 obtain ⟨t',rfl⟩:=ry
 exact PySem.W.KXi.mul rfl hz h1 h2 fun t' k _ _=>⟨.str _,H,I.tok _,⟨_,rfl⟩,q⟩
end
section
variable {X:Cx}{e o c:Nh}{st:NF}{rest a b:Nx}{t u:TS}{te to:TE}{tc:TT}{pos:Pos}
end
section
variable {X:Cx}
def EO (i j:Int):Prop:=j≠0/\j.natAbs < 2 ^ 8192
def uz:OpR X (binaryOp .FloorDiv) (rI EO fun i j=>.int (i.fdiv j)):=opI fun _ j _ _ _ _ _ hc q=>floordiv_int hc.1 q (.inl (PyProof.noPylong_of_log2 (by
 have h1:j.natAbs≠0:=by have:=hc.1;omega
 have:=(Nat.log2_lt h1).mpr hc.2
 omega)))
def ow:∀ {ns:Nz}{us:M_},Vals (ns.map V.int) us->∃ ts:List (Int × Tok),us=ts.map (fun z=>Value.int z.1 z.2)/\ts.map Prod.fst=ns
 | [],_,.nil=>⟨[],rfl,rfl⟩
 | n :: ns,_,.cons ⟨t,e⟩ r=>by
  subst e
  obtain ⟨ts,rfl,rfl⟩:=ow r
  exact ⟨(n,t) :: ts,rfl,rfl⟩
def ER (K:Ny):List V->Hp->VK->Prop:=fun vs H Q=>∃ (p:Addr) (ns:Nz),vs=[.ref p]/\SqL K H p (ns.map V.int)/\ns≠[]/\∀ M,M∈ns->(∀ a∈ns,a<=M)->Q (.int M) H
def oy (hc:X.calm=true):Yu X (.builtin "max") (ER X.K):=by
 intro pins s σ H xs us Q I r h
 obtain ⟨p,ns,rfl,hS,hne,q⟩:=h
 obtain ⟨u,rfl,ru⟩:=vals1 r
 cases ru
 obtain ⟨its,rv,pl,_⟩:=I.list hS
 obtain ⟨ts,rfl,rfl⟩:=ow rv
 have e:(ts.map (fun z=>Value.int z.1 z.2)).toArray=intItems ts.toArray:=by
  unfold intItems;simp
 have hsz:0 < ts.toArray.size:=by
  rw [O4]
  cases ts with
  | nil=>exact absurd rfl hne
  | cons a r=>simp
 refine max_intList (xs:=ts.toArray) (I.ok.hd hc) (by rw [<- e];exact pl.isList) hsz fun v h' tk hv hk=>?_
 obtain ⟨t,rfl⟩:=intItems_at hv
 obtain ⟨h1,h2⟩:=argBest_gt (numAt ts.toArray) (ts.toArray.size - 1)
 refine ⟨.int _,H,I.kept (t':=tk) hk,⟨t,rfl⟩,q _ ?_ fun a ha=>?_⟩
 .rw [numAt_eq];exact getD_mem (by rw [u8];rw [O4] at *;omega)
 .obtain ⟨j,hj,rfl⟩:=mem_getD ha
  rw [u8] at hj
  have:=h2 j (by rw [O4];omega)
  rw [numAt_eq] at this
  exact this
end
section
variable {P:Nk}{w:Nq}{K:Nd}{mg:MU}{base:Heap}
end
section
variable {X:Cx}{k:Nat}{f:Addr}{fd:Nr}{ps:MX}{sp:Sp}{x:Str}{p pos:Pos}{e:Nh}{es:Nc}{t:TA}
end
section
variable {X:Cx}{tg:Nh}
end
section
variable {K:Ny}{H:Hp}{Q:VK}
end
section
variable {X:Cx}
end
section
variable {X:Cx}{C:Addr}{x:Str}{p pos:Pos}
end
def G8 (P:Nk) (w:Nq) (K:Ny) (mg:MU) (base:Heap) (A:Nt) (m:Str) (C:Addr) (sp:Sp):Prop:=
 ∃ k f fd ps,Cls K C/\Meth K C m f/\y3 P w K mg base (CXe P w) k f fd ps sp/\k_ k A/\Binds K fd ps []
def Aq (alts:Addr->Sp->Prop) (m:Str) (E:XK) (ta:TE) (t:TA):TE:=fun σ H Q=>ta σ H fun x H1=>∃ a dx fs C sp,alts C sp/\x=.ref a/\H1 a=some (.ins C dx fs)/\fs.lookup m=none/\t σ H1 fun vs H2=>sp (x :: vs) H2 Q E
def uA (he:PE X o ta) (hal:∀ C sp,alts C sp->G8 X.prog X.w X.K X.mg X.base X.A m C sp) (hx:Passes (CXe X.prog X.w) X E) (ha:PA X (e :: es) t)
  (hst:starEach (e :: es) X.env=(false,eval e X.env) :: starEach es X.env:=by rfl) (hpl:(backTo pos (starEach es X.env)).any (·.1)=false:=by rfl)
  (ht:eval (.Call (.Attribute o m kA) (e :: es) [] pos) X.env=(do
   let ov <- eval o X.env
   standAt kA.atName
   let (f,first) <- holding [ov] (getMethod ov m pl)
   callWith pos f first (backTo pos (starEach (e :: es) X.env)) (backToKw pos (keywordEach [] X.env))):=by rfl):
  PE X (.Call (.Attribute o m kA) (e :: es) [] pos) (Aq alts m E ta t):=by
 intro pins s σ H Q I h
 refine a2z (pl:=pl) (thn (he pins s σ H _ I h) fun u s1 ⟨x,H1,I1,rx,a,dx,fs,C,sp,hin,ex,ea,l,q⟩=>?_) ht
 obtain ⟨k,f,fd,ps,c,hm,F,hr,hb⟩:=hal C sp hin
 subst ex
 obtain rfl:u=Value.ref a:=rx
 refine ai I1 ea c hm l ?_
 refine a0N (first:=[.ref a]) (h₀:=X.base) I.ok.mod.kin hm.kp (thn (ha pos pins s1 σ H1 _ I1 q) fun us s2 ⟨vs,H2,I2,r,q2⟩=>⟨I2.kIn, ?_⟩) hst hpl
 exact nV (us:=.ref a :: us) (vs:=.ref a :: vs) (dvs:=[]) F hr hb .nil hx I2 (.cons rfl r) (by rwa [O9])
def oz (he:PE X o ta) (hal:∀ C sp,alts C sp->G8 X.prog X.w X.K X.mg X.base X.A m C sp) (hx:Passes (CXe X.prog X.w) X E)
  (ht:eval (.Call (.Attribute o m kA) [] [] pos) X.env=(do
   let ov <- eval o X.env
   standAt kA.atName
   let (f,first) <- holding [ov] (getMethod ov m pl)
   callWith pos f first (backTo pos (starEach [] X.env)) (backToKw pos (keywordEach [] X.env))):=by rfl):
  PE X (.Call (.Attribute o m kA) [] [] pos) (Aq alts m E ta HJ):=by
 intro pins s σ H Q I h
 refine a2z (pl:=pl) (thn (he pins s σ H _ I h) fun u s1 ⟨x,H1,I1,rx,a,dx,fs,C,sp,hin,ex,ea,l,q⟩=>?_) ht
 obtain ⟨k,f,fd,ps,c,hm,F,hr,hb⟩:=hal C sp hin
 subst ex
 obtain rfl:u=Value.ref a:=rx
 refine ai I1 ea c hm l ?_
 exact PySem.W.callWith_K0 (first:=[.ref a]) I1.kIn hm.kp (nV (us:=[.ref a]) (vs:=[.ref a]) (dvs:=[]) F hr hb .nil hx I1 (.cons rfl .nil) q)
def ic {A:Nt}{xs ys:Nb}{us ws:M_}{e:Nat->Bool}(r1:Vals xs us) (r2:Vals ys ws) (he:∀ j x y u v,xs[j]? = some x->ys[j]? = some y->RelV x u->RelV y v->SeqAt.EqAt A s u v (e j)):
  ∀ j (h1:j < us.toArray.size) (h2:j < ws.toArray.size),SeqAt.EqAt A s us.toArray[j] ws.toArray[j] (e j):=by
 intro j h1 h2
 rw [O4] at h1 h2
 have l1:j < xs.length:=by rw [r1.length];exact h1
 have l2:j < ys.length:=by rw [r2.length];exact h2
 have e1:xs[j]? = some xs[j]:=N8 l1
 have e2:ys[j]? = some ys[j]:=N8 l2
 obtain ⟨u,hu,ru⟩:=r1.get e1
 obtain ⟨w,hw,rw'⟩:=r2.get e2
 have eu:us.toArray[j]=u:=by
  have:=N8 h1
  rw [hu] at this
  simpa using (T1 this).symm
 have ew:ws.toArray[j]=w:=by
  have:=N8 h2
  rw [hw] at this
  simpa using (T1 this).symm
 rw [eu,ew]
 exact he j _ _ _ _ e1 e2 ru rw'
section
variable {X:Cx}
end
section
variable {H:Hp}{Q:VK}{i j:Int}
end
def zE.none (s:zE H H') (h:H' q=Option.none):H q=Option.none:=by
 cases e:H q with
 | none=>rfl
 | some o=>rw [s _ _ e] at h;cases h
inductive PV where
 | i (n:Int) | s (x:Str) | b (c:Bool) | n
 | l (xs:List PV) | t (xs:List PV) | d (kvs:List (Key × PV)) | o (c:Nat) (fs:List (Str × PV)) | x (c:Nat) (fs:List (Str × PV)) | sc (ns:Nz) | dt (kvs:NM)
abbrev Nj:=List PV
abbrev Nn:=(List (Key × PV))
abbrev Np:=(List (Str × PV))
abbrev NH:=Option PV
abbrev NP:=(PV->PV->Option Bool)
abbrev NU:=List (Option PV)
def dtV (kvs:NM):List (List Key × V):=kvs.map fun q=>(q.1,V.int q.2)
inductive Out (α:Type) where
 | ok (a:α) | exc (c:Nat) (fs:Np) | wall
abbrev Nl:=(List PV->Out PV)
def Out.bind {α β:Type}:Out α->(α->Out β)->Out β
 | .ok a,f=>f a
 | .exc c fs,_=>.exc c fs
 | .wall,_=>.wall
structure RC where
 K:Frag
 cls:Nat->Addr
def KL (K:Ny) (a:Addr) (xs:Nb):Prop:=∃ (o:Obj) (its:NR) (n:Nat),K.lookup a=some o/\o.cls=.type "list" /\ o.dict=none/\o.data=.seq its n/\its.size<=sizeLine/\Vals xs its.toList
def fL (K:Ny) (N:MY) (H:Hp) (p:Addr) (vs:Nb):Prop:=(N p/\Rd H p (.lst vs))\/KL K p vs
def fL.sq {K:Ny}{N:MY}{H:Hp}{p:Addr}{vs:Nb}(h:fL K N H p vs):SqL K H p vs:=h.elim (fun z=>.inl z.2) .inr
mutual
def Rep (W:RC) (M:MY) (H:Hp):PV->V->Prop
 | .i n,v=>v=.int n
 | .s x,v=>v=.str x
 | .b c,v=>v=.bl c
 | .n,v=>v=.non
 | .l xs,v=>∃ p vs,v=.ref p/\M p/\H p=some (.lst vs)/\yt W M H xs vs
 | .t xs,v=>∃ p vs,v=.ref p/\SqT W.K H p vs/\yt W M H xs vs
 | .d kvs,v=>∃ p es,v=.ref p/\M p/\Rd H p (.dK es)/\jK W M H kvs es
 | .sc ns,v=>∃ p,v=.ref p/\fL W.K M H p (ns.map V.int)
 | .dt kvs,v=>∃ p,v=.ref p/\M p/\Rd H p (.dT (dtV kvs))
 | .o c fs,v=>∃ p dx es,v=.ref p/\M p/\H p=some (.ins (W.cls c) dx es)/\kW W M H fs es
 | .x c fs,v=>∃ p dx es,v=.ref p/\H p=some (XC p (W.cls c) dx)/\H dx=some (XD dx es)/\kW W M H fs es
def yt (W:RC) (M:MY) (H:Hp):List PV->List V->Prop
 | [],vs=>vs=[]
 | x :: xs,vs=>∃ v r,vs=v :: r/\Rep W M H x v/\yt W M H xs r
def jK (W:RC) (M:MY) (H:Hp):List (Key × PV)->List (Key × V)->Prop
 | [],es=>es=[]
 | kx :: r,es=>∃ v q,es=(kx.1,v) :: q/\Rep W M H kx.2 v/\jK W M H r q
def kW (W:RC) (M:MY) (H:Hp):List (Str × PV)->List (Str × V)->Prop
 | [],es=>es=[]
 | kx :: r,es=>∃ v q,es=(kx.1,v) :: q/\Rep W M H kx.2 v/\kW W M H r q
end
def Imm:HO->Prop
 | .lst _=>False | .dK _=>False | .dT _=>False | .set _ _=>False | .ins _ _ _=>False
 | _=>True
def Fr (M:MY) (H H':Hp):Prop:=∀ a o,H a=some o->(M a\/Imm o)->H' a=some o
def Fr.rd (f:Fr M H H') (h:Rd H p u) (m:M p):Rd H' p u:=
 h.elim (fun z=>.inl (f _ _ z (.inl m))) fun ⟨o,z⟩=>.inr ⟨o,f _ _ z (.inl m)⟩
def Fr.sqT {M:MY}{K:Ny}{H H':Hp}(f:Fr M H H') {p:Addr}{u:Nb}(h:SqT K H p u):SqT K H' p u:=
 h.elim (fun h=>.inl (h.elim (fun z=>.inl (f _ _ z (.inr trivial))) fun ⟨o,z⟩=>.inr ⟨o,f _ _ z (.inr trivial)⟩)) .inr
def fL.frame {K:Ny}{N:MY}{H H':Hp}(f:Fr N H H') {p:Addr}{vs:Nb}(h:fL K N H p vs):fL K N H' p vs:=h.elim (fun z=>.inl ⟨z.1,f.rd z.2 z.1⟩) .inr
def ju (h:Rd H p u):H p≠none:=by rcases h with z | ⟨_,z⟩ <;> rw [z] <;> intro e <;> cases e
section
variable {W:RC}{M M':MY}{H H':Hp}
mutual
def Rep.gen (f:Fr M H H') (s:∀ a,M a->H a≠none->M' a):∀ {x:PV}{v:V},Rep W M H x v->Rep W M' H' x v
 | .i n,v,h=>h
 | .s x,v,h=>h
 | .b c,v,h=>h
 | .n,v,h=>h
 | .l xs,v,h=>by
  unfold Rep at h ⊢
  obtain ⟨p,vs,e,m,r,q⟩:=h
  exact ⟨p,vs,e,s p m (by rw [r];intro e;cases e),f _ _ r (.inl m),yt.gen f s q⟩
 | .sc ns,v,h=>by
  unfold Rep at h ⊢
  obtain ⟨p,e,r⟩:=h
  exact ⟨p,e,r.elim (fun z=>.inl ⟨s p z.1 (by rcases z.2 with z | ⟨_,z⟩ <;> rw [z] <;> intro e <;> cases e),f.rd z.2 z.1⟩) .inr⟩
 | .dt kvs,v,h=>by
  unfold Rep at h ⊢
  obtain ⟨p,e,m,r⟩:=h
  exact ⟨p,e,s p m (ju r),f.rd r m⟩
 | .t xs,v,h=>by
  unfold Rep at h ⊢
  obtain ⟨p,vs,e,r,q⟩:=h
  exact ⟨p,vs,e,f.sqT r,yt.gen f s q⟩
 | .d kvs,v,h=>by
  unfold Rep at h ⊢
  obtain ⟨p,vs,e,m,r,q⟩:=h
  exact ⟨p,vs,e,s p m (ju r),f.rd r m,jK.gen f s q⟩
 | .o c fs,v,h=>by
  unfold Rep at h ⊢
  obtain ⟨p,dx,es,e,m,r,q⟩:=h
  exact ⟨p,dx,es,e,s p m (by rw [r];intro e;cases e),f _ _ r (.inl m),kW.gen f s q⟩
 | .x c fs,v,h=>by
  unfold Rep at h ⊢
  obtain ⟨p,dx,es,e,r,r2,q⟩:=h
  exact ⟨p,dx,es,e,f _ _ r (.inr trivial),f _ _ r2 (.inr trivial),kW.gen f s q⟩
def yt.gen (f:Fr M H H') (s:∀ a,M a->H a≠none->M' a):∀ {x:Nj}{v:Nb},yt W M H x v->yt W M' H' x v
 | [],v,h=>h
 | x :: xs,vs,h=>by
  unfold yt at h ⊢
  obtain ⟨v,r,e,h1,h2⟩:=h
  exact ⟨v,r,e,Rep.gen f s h1,yt.gen f s h2⟩
def jK.gen (f:Fr M H H') (s:∀ a,M a->H a≠none->M' a):∀ {x:Nn}{v:Ng},jK W M H x v->jK W M' H' x v
 | [],v,h=>h
 | (k,x) :: xs,vs,h=>by
  unfold jK at h ⊢
  obtain ⟨v,r,e,h1,h2⟩:=h
  exact ⟨v,r,e,Rep.gen f s h1,jK.gen f s h2⟩
def kW.gen (f:Fr M H H') (s:∀ a,M a->H a≠none->M' a):∀ {x:Np}{v:Nu},kW W M H x v->kW W M' H' x v
 | [],v,h=>h
 | (k,x) :: xs,vs,h=>by
  unfold kW at h ⊢
  obtain ⟨v,r,e,h1,h2⟩:=h
  exact ⟨v,r,e,Rep.gen f s h1,kW.gen f s h2⟩
end
end
def Fr.refl:Fr M H H:=fun _ _ h _=>h
def zE.fr (s:zE H H'):Fr M H H':=fun a o h _=>s a o h
def Rep.same (h:Rep W M H x v) (s:zE H H'):Rep W M H' x v:=Rep.gen s.fr (fun _ m _=>m) h
def yt.same (h:yt W M H x v) (s:zE H H'):yt W M H' x v:=yt.gen s.fr (fun _ m _=>m) h
def jK.same (h:jK W M H x v) (s:zE H H'):jK W M H' x v:=jK.gen s.fr (fun _ m _=>m) h
def Rep.sub (h:Rep W M H x v) (s:∀ a,M a->H a≠none->M' a):Rep W M' H x v:=Rep.gen Fr.refl s h
def yt.sub (h:yt W M H x v) (s:∀ a,M a->H a≠none->M' a):yt W M' H x v:=yt.gen Fr.refl s h
def jK.sub (h:jK W M H x v) (s:∀ a,M a->H a≠none->M' a):jK W M' H x v:=jK.gen Fr.refl s h
def kW.sub (h:kW W M H x v) (s:∀ a,M a->H a≠none->M' a):kW W M' H x v:=kW.gen Fr.refl s h
def qe (W:RC) (N M:MY) (H:Hp):PV->V->Prop
 | .l xs,v=>∃ p vs,v=.ref p/\N p/\H p=some (.lst vs)/\yt W M H xs vs
 | .d kvs,v=>∃ p es,v=.ref p/\N p/\Rd H p (.dK es)/\jK W M H kvs es
 | .sc ns,v=>∃ p,v=.ref p/\fL W.K N H p (ns.map V.int)
 | .dt kvs,v=>∃ p,v=.ref p/\N p/\Rd H p (.dT (dtV kvs))
 | .o c fs,v=>∃ p dx es,v=.ref p/\N p/\H p=some (.ins (W.cls c) dx es)/\kW W M H fs es
 | x,v=>Rep W M H x v
def qe.iff:qe W M M H x v↔Rep W M H x v:=by
 cases x <;> simp only [qe,Rep]
def qe.gen {W:RC}{N M N' M':MY}{H H':Hp}{x:PV}{v:V}(fN:Fr N H H') (f:Fr M H H') (sN:∀ a,N a->H a≠none->N' a) (s:∀ a,M a->H a≠none->M' a) (h:qe W N M H x v):qe W N' M' H' x v:=by
 cases x with
 | l xs=>obtain ⟨p,vs,e,m,r,q⟩:=h;exact ⟨p,vs,e,sN p m (by rw [r];intro e;cases e),fN _ _ r (.inl m),q.gen f s⟩
 | d kvs=>obtain ⟨p,es,e,m,r,q⟩:=h;exact ⟨p,es,e,sN p m (ju r),fN.rd r m,q.gen f s⟩
 | sc ns=>obtain ⟨p,e,r⟩:=h;exact ⟨p,e,r.elim (fun z=>.inl ⟨sN p z.1 (ju z.2),fN.rd z.2 z.1⟩) .inr⟩
 | dt kvs=>obtain ⟨p,e,m,r⟩:=h;exact ⟨p,e,sN p m (ju r),fN.rd r m⟩
 | o c fs=>obtain ⟨p,dx,es,e,m,r,q⟩:=h;exact ⟨p,dx,es,e,sN p m (by rw [r];intro e;cases e),fN _ _ r (.inl m),q.gen f s⟩
 | i n=>exact Rep.gen f s h
 | s n=>exact Rep.gen f s h
 | b n=>exact Rep.gen f s h
 | n=>exact Rep.gen f s h
 | t n=>exact Rep.gen f s h
 | x c n=>exact Rep.gen f s h
def qe.same (h:qe W N M H x v) (s:zE H H'):qe W N M H' x v:=qe.gen s.fr s.fr (fun _ m _=>m) (fun _ m _=>m) h
def qe.sub (h:qe W N M H x v) (sN:∀ a,N a->H a≠none->N' a) (s:∀ a,M a->H a≠none->M' a):qe W N' M' H x v:=qe.gen Fr.refl Fr.refl sN s h
def Rep.weak (h:Rep W M H x v):qe W (fun _=>True) M H x v:=qe.sub (qe.iff.mpr h) (fun _ _ _=>trivial) (fun _ m _=>m)
def bj (W:RC) (M:MY) (H:Hp) (p:Addr):PV->Prop
 | .l xs=>∃ vs,H p=some (.lst vs)/\yt W M H xs vs
 | .d kvs=>∃ es,H p=some (.dK es)/\jK W M H kvs es
 | .dt kvs=>H p=some (.dT (dtV kvs))
 | .o c fs=>∃ dx es,H p=some (.ins (W.cls c) dx es)/\kW W M H fs es
 | _=>False
def bj.Im (h:bj W M H p x) (n:N p):qe W N M H x (.ref p):=by
 cases x with
 | l xs=>obtain ⟨vs,e,q⟩:=h;exact ⟨p,vs,rfl,n,e,q⟩
 | d kvs=>obtain ⟨es,e,q⟩:=h;exact ⟨p,es,rfl,n,.inl e,q⟩
 | dt kvs=>exact ⟨p,rfl,n,.inl h⟩
 | o c fs=>obtain ⟨dx,es,e,q⟩:=h;exact ⟨p,dx,es,rfl,n,e,q⟩
 | i n=>exact h.elim
 | s n=>exact h.elim
 | b n=>exact h.elim
 | n=>exact h.elim
 | t n=>exact h.elim
 | x c n=>exact h.elim
 | sc n=>exact h.elim
def bj.gen (h:bj W M H p x) (hp:H' p=H p) (f:Fr M H H') (s:∀ a,M a->H a≠none->M' a):bj W M' H' p x:=by
 cases x with
 | l xs=>obtain ⟨vs,e,q⟩:=h;exact ⟨vs,hp.trans e,q.gen f s⟩
 | d kvs=>obtain ⟨es,e,q⟩:=h;exact ⟨es,hp.trans e,q.gen f s⟩
 | dt kvs=>exact hp.trans h
 | o c fs=>obtain ⟨dx,es,e,q⟩:=h;exact ⟨dx,es,hp.trans e,q.gen f s⟩
 | i n=>exact h.elim
 | s n=>exact h.elim
 | b n=>exact h.elim
 | n=>exact h.elim
 | t n=>exact h.elim
 | x c n=>exact h.elim
 | sc n=>exact h.elim
def bj.some {W:RC}{M:MY}{H:Hp}{p:Addr}{x:PV}(h:bj W M H p x):∃ o,H p=some o/\¬ Imm o:=by
 cases x with
 | l xs=>obtain ⟨vs,e,q⟩:=h;exact ⟨_,e,id⟩
 | d kvs=>obtain ⟨es,e,q⟩:=h;exact ⟨_,e,id⟩
 | dt kvs=>exact ⟨_,h,id⟩
 | o c fs=>obtain ⟨dx,es,e,q⟩:=h;exact ⟨_,e,id⟩
 | i n=>exact h.elim
 | s n=>exact h.elim
 | b n=>exact h.elim
 | n=>exact h.elim
 | t n=>exact h.elim
 | x c n=>exact h.elim
 | sc n=>exact h.elim
def bj.same (h:bj W M H p x) (s:zE H H'):bj W M H' p x:=by
 obtain ⟨o,e,_⟩:=h.some
 exact h.gen ((s _ _ e).trans e.symm) s.fr fun _ m _=>m
structure Bs where
 H0:Hp
 M0:Addr->Prop
 N0:Addr->Prop
 nz:∀ a,N0 a->H0 a≠none
 pin:Option Addr
 xc:Addr->Prop
structure LC where
 W:RC
 E:XK
 fr:Bool
abbrev Sto:=List (Option PV)
def Bs.Mt (B:Bs):Addr->Prop:=fun a=>B.M0 a\/B.H0 a=none
def Mof (B:Bs) (S:MV) (P:Na):Addr->Prop:=fun a=>(B.Mt a/\¬ B.xc a)/\∀ i,S[i]? = some 2->P i≠a
structure Rel (W:RC) (B:Bs) (S:MV) (P:Na) (H:Hp) (σ:St) (ρ:Sto):Prop where
 same:zE B.H0 H
 len:σ.length=ρ.length
 var:∀ (i:Nat) x,ρ[i]? = some (some x)->∃ v,σ[i]? = some (some v)/\(S[i]? = some 2->v=.ref (P i)/\bj W (Mof B S P) H (P i) x)/\(S[i]? = some 1->qe W B.N0 (Mof B S P) H x v)/\(S[i]?≠some 2->S[i]?≠some 1->Rep W (Mof B S P) H x v)
 act:∀ i,S[i]? = some 2->B.H0 (P i)=none/\∃ o,H (P i)=some o/\¬ Imm o
 inj:∀ i j,S[i]? = some 2->S[j]? = some 2->P i=P j->i=j
 pin:S[0]? = some 2->∀ p,B.pin=some p->P 0=p
 exc:∀ a,B.xc a->∃ o,H a=some o/\¬ Imm o/\B.H0 a=none
 axc:∀ i,S[i]? = some 2->¬ B.xc (P i)
def Rel.keep {W:RC}{B:Bs}{S:MV}{P:Na}{H H':Hp}{σ:St}{ρ:Sto}(R:Rel W B S P H σ ρ) (s:zE H H'):Rel W B S P H' σ ρ where
 same:=R.same.trans s
 len:=R.len
 var:=fun i x e=>by
  obtain ⟨v,h1,h2,h3,h4⟩:=R.var i x e
  exact ⟨v,h1,fun z=>⟨(h2 z).1,(h2 z).2.same s⟩,fun z=>(h3 z).same s,fun z z'=>(h4 z z').same s⟩
 act:=fun i h=>⟨(R.act i h).1,let ⟨o,e,n⟩:=(R.act i h).2;⟨o,s _ _ e,n⟩⟩
 inj:=R.inj
 pin:=R.pin
 exc:=fun a h=>let ⟨o,e,n⟩:=R.exc a h;⟨o,s _ _ e,n⟩
 axc:=R.axc
def Rel.wr (R:Rel W B S P H σ ρ) (hi:S[i]? = some 2) (hl:i < ρ.length) (hσ:σ[i]? = some (some (.ref (P i)))) (hn:¬ Imm o) (hx:bj W (Mof B S P) (upd H (P i) o) (P i) x'):Rel W B S P (upd H (P i) o) σ (ρ.set i (some x')):=by
 obtain ⟨h0,o0,e0,n0⟩:=R.act i hi
 have fM:Fr (Mof B S P) H (upd H (P i) o):=fun a q e m=>by
  have:a≠P i:=fun z=>by
   rcases m with m | m
   .exact m.2 i hi z.symm
   .rw [z,e0] at e;cases e;exact n0 m
  rw [zj this];exact e
 have fN:Fr B.N0 H (upd H (P i) o):=fun a q e m=>by
  have:a≠P i:=fun z=>by
   rcases m with m | m
   .exact B.nz a m (z ▸ h0)
   .rw [z,e0] at e;cases e;exact n0 m
  rw [zj this];exact e
 refine ⟨fun a q e=>?_,by rw [T5];exact R.len,fun j x e=>?_,fun j hj=>?_,R.inj,R.pin,fun a h=>?_,R.axc⟩
 .have:a≠P i:=fun z=>by rw [z,h0] at e;cases e
  rw [zj this];exact R.same a q e
 .by_cases hij:i=j
  .subst hij
   rw [R9 hl] at e
   cases e
   exact ⟨_,hσ,fun _=>⟨rfl,hx⟩,(fun z=>by rw [hi] at z;cases z),fun z=>absurd hi z⟩
  .rw [P8 hij] at e
   obtain ⟨v,h1,h2,h3,h4⟩:=R.var j x e
   refine ⟨v,h1,fun z=>⟨(h2 z).1, ?_⟩,fun z=>qe.gen fN fM (fun _ m _=>m) (fun _ m _=>m) (h3 z),fun z z'=>Rep.gen fM (fun _ m _=>m) (h4 z z')⟩
   have:P j≠P i:=fun q=>hij (R.inj i j hi z q.symm)
   exact (h2 z).2.gen (zj this) fM fun _ m _=>m
 .by_cases hij:j=i
  .subst hij;exact ⟨h0,o,zh,hn⟩
  .obtain ⟨g0,o1,e1,n1⟩:=R.act j hj
   have:P j≠P i:=fun q=>hij (R.inj j i hj hi q)
   exact ⟨g0,o1,by rw [zj this];exact e1,n1⟩
 .obtain ⟨o1,e1,n1⟩:=R.exc a h
  by_cases e:a=P i
  .subst e;exact ⟨o,zh,hn,n1.2⟩
  .exact ⟨o1,by rw [zj e];exact e1,n1⟩
def vZ {S:MV}{i j c:Nat}(h:(S.set i 0)[j]? = some 2):S[j]? = some 2/\j≠i:=by
 by_cases e:i=j
 .subst e
  rw [List.getElem?_set] at h
  rw [if_pos rfl] at h
  split at h <;> cases h
 .rw [P8 e] at h;exact ⟨h,fun z=>e z.symm⟩
def Rel.set (R:Rel W B S P H σ ρ) (hx:Rep W (Mof B S P) H x v):Rel W B (S.set i 0) P H (σ.set i (some v)) (ρ.set i (some x)):=by
 have sM:∀ a,Mof B S P a->H a≠none->Mof B (S.set i 0) P a:=fun a m _=>⟨m.1,fun j hj=>m.2 j (vZ (c:=0) hj).1⟩
 refine ⟨R.same,by rw [T5,T5];exact R.len,fun j y e=>?_,fun j hj=>R.act j (vZ (c:=0) hj).1,fun j k hj hk=>R.inj j k (vZ (c:=0) hj).1 (vZ (c:=0) hk).1,fun h0=>R.pin (vZ (c:=0) h0).1,R.exc,fun j hj=>R.axc j (vZ (c:=0) hj).1⟩
 by_cases hij:i=j
 .subst hij
  have hl:i < ρ.length:=by
   have:=(O2.mp e).1
   rwa [T5] at this
  rw [R9 hl] at e
  cases e
  refine ⟨v,by rw [R9 (by rw [R.len];exact hl)],fun z=>absurd rfl (vZ (c:=0) z).2,fun z=>?_,fun _ _=>hx.sub sM⟩
  rw [List.getElem?_set,if_pos rfl] at z
  split at z <;> cases z
 .rw [P8 hij] at e
  obtain ⟨w,h1,h2,h3,h4⟩:=R.var j y e
  rw [P8 hij,P8 hij]
  exact ⟨w,h1,fun z=>⟨(h2 z).1,(h2 z).2.gen rfl Fr.refl sM⟩,fun z=>(h3 z).sub (fun _ m _=>m) sM,fun z z'=>(h4 z z').sub sM⟩
def Rel.MD (R:Rel W B S P H σ ρ) (s:zE H H') (hp:H p=none) (hi:i < S.length) (hi0:i≠0) (hx:bj W (fun a=>Mof B S P a/\a≠p) H' p x):Rel W B (S.set i 2) (fun j=>if j=i then p else P j) H' (σ.set i (some (.ref p))) (ρ.set i (some x)):=by
 have s0:B.H0 p=none:=zE.none R.same hp
 have hS:∀ {j},(S.set i 2)[j]? = some 2->j≠i->S[j]? = some 2:=fun {j} h n=>by rwa [P8 (fun z=>n z.symm)] at h
 have sM:∀ a,Mof B S P a->a≠p->Mof B (S.set i 2) (fun j=>if j=i then p else P j) a:=fun a m hn=>⟨m.1,fun j hj=>by
  by_cases e:j=i
  .simp only [e,if_true];exact fun z=>hn z.symm
  .simp only [e,if_false];exact m.2 j (hS hj e)⟩
 have sMH:∀ a,Mof B S P a->H a≠none->Mof B (S.set i 2) (fun j=>if j=i then p else P j) a:=fun a m hn=>sM a m fun z=>hn (z ▸ hp)
 have pj:∀ {j},S[j]? = some 2->P j≠p:=fun {j} hj z=>by obtain ⟨_,o,e,_⟩:=R.act j hj;rw [z,hp] at e;cases e
 refine ⟨R.same.trans s,by rw [T5,T5];exact R.len,fun j y e=>?_,fun j hj=>?_,fun j k hj hk e=>?_,fun h0 q hq=>?_,fun a h=>let ⟨o,e,n⟩:=R.exc a h;⟨o,s _ _ e,n⟩,fun j hj=>?_⟩
 .by_cases hij:i=j
  .subst hij
   have hl:i < ρ.length:=by
    have:=(O2.mp e).1
    rwa [T5] at this
   rw [R9 hl] at e
   cases e
   rw [R9 (by rw [R.len];exact hl),R9 hi]
   refine ⟨.ref p,rfl,fun _=>⟨by simp, ?_⟩,(fun z=>by cases z),fun z=>absurd rfl z⟩
   simp only [if_true]
   exact hx.gen rfl Fr.refl fun a m _=>sM a m.1 m.2
  .rw [P8 hij] at e
   obtain ⟨w,h1,h2,h3,h4⟩:=R.var j y e
   rw [P8 hij,P8 hij]
   have nij:¬ j=i:=fun z=>hij z.symm
   simp only [nij,if_false]
   exact ⟨w,h1,fun z=>⟨(h2 z).1,((h2 z).2.gen (H':=H) rfl Fr.refl sMH).same s⟩,fun z=>((h3 z).sub (fun _ m _=>m) sMH).same s,fun z z'=>((h4 z z').sub sMH).same s⟩
 .by_cases hij:j=i
  .subst hij;simp only [if_true];exact ⟨s0,hx.some⟩
  .simp only [hij,if_false]
   obtain ⟨g0,o,e,n⟩:=R.act j (hS hj hij)
   exact ⟨g0,o,s _ _ e,n⟩
 .by_cases h1:j=i
  .by_cases h2:k=i
   .rw [h1,h2]
   .simp only [h1,h2,if_true,if_false] at e;exact absurd e.symm (pj (hS hk h2))
  .by_cases h2:k=i
   .simp only [h1,h2,if_true,if_false] at e;exact absurd e (pj (hS hj h1))
   .simp only [h1,h2,if_false] at e;exact R.inj j k (hS hj h1) (hS hk h2) e
 .rw [P8 hi0] at h0
  rw [if_neg (fun z=>hi0 z.symm)]
  exact R.pin h0 q hq
 .by_cases e:j=i
  .rw [if_pos e];exact fun z=>by obtain ⟨o,q,_⟩:=R.exc p z;rw [hp] at q;cases q
  .rw [if_neg e];exact R.axc j (hS hj e)
def Rel.wrx (R:Rel W B S P H σ ρ) (ha:B.xc a) (hn:¬ Imm o):Rel W B S P (upd H a o) σ ρ:=by
 obtain ⟨o0,e0,n0,h0⟩:=R.exc a ha
 have fM:Fr (Mof B S P) H (upd H a o):=fun c q e m=>by
  have:c≠a:=fun z=>by
   rcases m with m | m
   .exact m.1.2 (z ▸ ha)
   .rw [z,e0] at e;cases e;exact n0 m
  rw [zj this];exact e
 have fN:Fr B.N0 H (upd H a o):=fun c q e m=>by
  have:c≠a:=fun z=>by
   rcases m with m | m
   .exact B.nz c m (z ▸ h0)
   .rw [z,e0] at e;cases e;exact n0 m
  rw [zj this];exact e
 have pa:∀ {i},S[i]? = some 2->P i≠a:=fun {i} hi z=>R.axc i hi (z ▸ ha)
 refine ⟨fun c q e=>?_,R.len,fun j x e=>?_,fun j hj=>?_,R.inj,R.pin,fun c h=>?_,R.axc⟩
 .have:c≠a:=fun z=>by rw [z,h0] at e;cases e
  rw [zj this];exact R.same c q e
 .obtain ⟨v,h1,h2,h3,h4⟩:=R.var j x e
  exact ⟨v,h1,fun z=>⟨(h2 z).1,(h2 z).2.gen (zj (pa z)) fM fun _ m _=>m⟩,fun z=>qe.gen fN fM (fun _ m _=>m) (fun _ m _=>m) (h3 z),fun z z'=>Rep.gen fM (fun _ m _=>m) (h4 z z')⟩
 .obtain ⟨g0,o1,e1,n1⟩:=R.act j hj
  exact ⟨g0,o1,by rw [zj (pa hj)];exact e1,n1⟩
 .by_cases e:c=a
  .subst e;exact ⟨o,zh,hn,h0⟩
  .obtain ⟨o1,e1,n1⟩:=R.exc c h
   exact ⟨o1,by rw [zj e];exact e1,n1⟩
abbrev ME:=Sto->Out PV
abbrev MT:=Sto->Out Bool
abbrev MA:=Sto->Out (List PV)
inductive Fw where
 | nx (ρ:Sto) | rt (x:PV) | bk (ρ:Sto) | ct (ρ:Sto)
abbrev MS:=Sto->Out Fw
def XPo (C:LC) (B:Bs) (c:Nat) (fs:Np):Prop:=∀ e dx es H2,zE B.H0 H2->H2 e=some (XC e (C.W.cls c) dx)->H2 dx=some (XD dx es)->kW C.W B.Mt H2 fs es->C.E (.ref e) (some dx) H2
def yi (C:LC) (B:Bs) (H:Hp) (R:Hp->PV->V->Prop) (Q:VK):Out PV->Prop
 | .ok r=>∀ v H2,zE H H2->R H2 r v->Q v H2
 | .exc c fs=>XPo C B c fs
 | .wall=>False
def dy (C:LC) (B:Bs) (H:Hp) (Q:Bool->Hp->Prop):Out Bool->Prop
 | .ok r=>∀ H2,zE H H2->Q r H2
 | .exc c fs=>XPo C B c fs
 | .wall=>False
def RV (C:LC) (B:Bs) (S:MV) (P:Na) (w:Bool) (H:Hp) (x:PV) (v:V):Prop:=qe C.W (if w=true then fun _=>True else Mof B S P) (Mof B S P) H x v
def RV.rep (h:RV C B S P false H x v):Rep C.W (Mof B S P) H x v:=qe.iff.mp h
def RV.of (h:Rep C.W (Mof B S P) H x v):RV C B S P false H x v:=qe.iff.mpr h
def RV.weak (h:RV C B S P w H x v):qe C.W (fun _=>True) (Mof B S P) H x v:=qe.sub h (fun _ _ _=>trivial) fun _ m _=>m
def RV.same (h:RV C B S P w H x v) (s:zE H H'):RV C B S P w H' x v:=qe.same h s
def LE (C:LC) (S:MV) (w:Bool) (te:TE) (m:ME):Prop:=∀ B P H σ ρ,Rel C.W B S P H σ ρ->∀ Q,yi C B H (RV C B S P w) Q (m ρ)->te σ H Q
def LT (C:LC) (S:MV) (tt:TT) (m:MT):Prop:=∀ B P H σ ρ,Rel C.W B S P H σ ρ->∀ Q,dy C B H Q (m ρ)->tt σ H Q
def EM (X:Cx) (C:LC) (S:MV) (w:Bool) (e:Nh) (m:ME):Prop:=X.K=C.W.K->∃ te,PE X e te/\LE C S w te m
def TM (X:Cx) (C:LC) (S:MV) (e:Nh) (m:MT):Prop:=X.K=C.W.K->∃ tt,PT X e tt/\LT C S tt m
def TWM (X:Cx) (C:LC) (S:MV) (e:Nh) (m:MT):Prop:=X.K=C.W.K->∃ tt,PW X e tt/\LT C S tt m
def yi.bind (h:yi C B H R Q (o.bind f)) (k:∀ r,o=.ok r->∀ v H2,zE H H2->R0 H2 r v->yi C B H2 R Q (f r)->Q' v H2) (hR:∀ H2,zE H H2->∀ x v,R H2 x v->R H2 x v):yi C B H R0 Q' o:=by
 cases o with
 | ok r=>exact fun v H2 s hr=>k r rfl v H2 s hr (by
   show yi C B H2 R Q (f r)
   have h:yi C B H R Q (f r):=h
   revert h
   cases f r with
   | ok x=>exact fun h v H3 s3 hx=>h v H3 (s.trans s3) hx
   | exc c fs=>exact id
   | wall=>exact id)
 | exc c fs=>exact h
 | wall=>exact h
def yw (h:yi C B H R Q (o.bind f)) (k:∀ r v H2,zE H H2->R0 H2 r v->yi C B H2 R Q (f r)->Q' v H2):yi C B H R0 Q' o:=
 yi.bind h (fun r _ v H2 s hr hp=>k r v H2 s hr hp) fun _ _ _ _ h=>h
def Zg (h:yi C B H R Q o) (s:zE H H2):yi C B H2 R Q o:=by
 cases o with
 | ok x=>exact fun v H3 s3 hx=>h v H3 (s.trans s3) hx
 | exc c fs=>exact h
 | wall=>exact h
def W3 (h:dy C B H Q o) (s:zE H H2):dy C B H2 Q o:=by
 cases o with
 | ok x=>exact fun H3 s3=>h H3 (s.trans s3)
 | exc c fs=>exact h
 | wall=>exact h
def mf (h:dy C B H Q (o.bind f)) (k:∀ r v H2,zE H H2->R0 H2 r v->dy C B H2 Q (f r)->Q' v H2):yi C B H R0 Q' o:=by
 cases o with
 | ok r=>exact fun v H2 s hr=>k r v H2 s hr (W3 (o:=f r) h s)
 | exc c fs=>exact h
 | wall=>exact h
def Js (h:dy C B H Q (o.bind f)) (k:∀ r H2,zE H H2->dy C B H2 Q (f r)->Q' r H2):dy C B H Q' o:=by
 cases o with
 | ok r=>exact fun H2 s=>k r H2 s (W3 (o:=f r) h s)
 | exc c fs=>exact h
 | wall=>exact h
def zc (i:Nat):ME:=fun ρ=>match ρ[i]? with | some (some x)=>.ok x | _=>.wall
def mC (x:PV):ME:=fun _=>.ok x
section
variable {X:Cx}{C:LC}{S:MV}{e a b:Nh}{w w1 w2:Bool}{m m1 m2:ME}{t1 t2:MT}
def EM.weak (h:EM X C S w e m):EM X C S true e m:=fun hK=>by
 obtain ⟨te,h1,h2⟩:=h hK
 refine ⟨te,h1,fun B P H σ ρ R Q q=>h2 B P H σ ρ R Q ?_⟩
 revert q
 cases m ρ with
 | ok r=>exact fun q v H2 s hr=>q v H2 s (by unfold RV;rw [if_pos rfl];exact hr.weak)
 | exc c fs=>exact id
 | wall=>exact id
def lv (R:Rel C.W B S P H σ ρ) (q:yi C B H R' Q (zc i ρ)) (k:∀ x v,σ[i]? = some (some v)->ρ[i]? = some (some x)->R' H x v):ng i σ H Q:=by
 unfold zc at q
 cases e:ρ[i]? with
 | none=>rw [e] at q;exact q.elim
 | some o=>
  cases o with
  | none=>rw [e] at q;exact q.elim
  | some x=>
   rw [e] at q
   obtain ⟨v,hv,_⟩:=R.var i x e
   exact ⟨v,hv,q v H (zE.refl _) (k x v hv e)⟩
def zi (h:PE X e (ng i)) (hS:S[i]?≠some 2/\S[i]?≠some 1:=by decide):EM X C S false e (zc i):=fun _=>⟨_,h,fun B P H σ ρ R Q q=>lv R q fun x v hv e=>by
 obtain ⟨v',hv',_,_,h4⟩:=R.var i x e
 rw [hv] at hv';cases hv'
 exact RV.of (h4 hS.1 hS.2)⟩
def ES (h:PE X e (ng i)):EM X C S true e (zc i):=fun _=>⟨_,h,fun B P H σ ρ R Q q=>lv R q fun x v hv e=>by
 obtain ⟨v',hv',h2,h3,h4⟩:=R.var i x e
 rw [hv] at hv';cases hv'
 show qe C.W (if true=true then _ else _) _ _ _ _
 rw [if_pos rfl]
 by_cases c2:S[i]? = some 2
 .obtain ⟨rfl,z⟩:=h2 c2;exact z.Im trivial
 .by_cases c1:S[i]? = some 1
  .exact (h3 c1).sub (fun _ _ _=>trivial) fun _ m _=>m
  .exact (h4 c2 c1).weak⟩
def G9 (h:PE X e (tC v)) (hx:∀ M H,Rep C.W M H x v):EM X C S false e (mC x):=fun _=>⟨_,h,fun B P H σ ρ R Q q=>q v H (zE.refl _) (RV.of (hx _ _))⟩
def yq (h:PE X e (tC (.int i))):EM X C S false e (mC (.i i)):=G9 h fun _ _=>rfl
def kR (h:PE X e (tC (.str i))):EM X C S false e (mC (.s i)):=G9 h fun _ _=>rfl
def Wb (h:PE X e (tC (.bl i))):EM X C S false e (mC (.b i)):=G9 h fun _ _=>rfl
def Vs (h:PE X e (tC .non)):EM X C S false e (mC .n):=G9 h fun _ _=>rfl
def mOp (p:PV->PV->Out PV) (m1 m2:ME):ME:=fun ρ=>(m1 ρ).bind fun x=>(m2 ρ).bind fun y=>p x y
def mUn (p:PV->Out PV) (m1:ME):ME:=fun ρ=>(m1 ρ).bind p
def New (M:MY) (H:Hp):Prop:=∀ p,H p=none->M p
def Rel.new (R:Rel W B S P H σ ρ):New (Mof B S P) H:=fun p h=>⟨⟨.inr (zE.none R.same h),fun z=>by obtain ⟨o,q,_⟩:=R.exc p z;rw [h] at q;cases q⟩,fun i hi e=>by obtain ⟨_,o,q,_⟩:=R.act i hi;rw [e,h] at q;cases q⟩
def RV.eq:RV C B S P false=Rep C.W (Mof B S P):=by
 funext H x v;exact propext qe.iff
def Lf2 (W:RC) (r:R2) (p:PV->PV->Out PV):Prop:=∀ (M:MY) (C:LC) (B:Bs) H x y v u Q,New M H->qe W (fun _=>True) M H x v->qe W (fun _=>True) M H y u->yi C B H (Rep W M) Q (p x y)->r v u H Q
def Lf1 (W:RC) (r:V->Hp->VK->Prop) (p:PV->Out PV):Prop:=∀ (M:MY) (C:LC) (B:Bs) H x v Q,New M H->qe W (fun _=>True) M H x v->yi C B H (Rep W M) Q (p x)->r v H Q
def uB (L:Lf2 C.W r p) (h1:LE C S w1 ta m1) (h2:LE C S w2 tb m2):LE C S false (tOp r ta tb) (mOp p m1 m2):=fun B P H σ ρ R Q q=>
 h1 B P H σ ρ R _ (yw q fun x v H1 s1 r1 q1=>h2 B P H1 σ ρ (R.keep s1) _ (yw q1 fun y u H2 s2 r2 q2=>L _ C B H2 x y v u Q ((R.keep s1).keep s2).new (r1.same s2).weak r2.weak (RV.eq ▸ q2)))
def zC (o:OpR X (binaryOp op) r) (L:Lf2 C.W r p) (h1:EM X C S w1 a m1) (h2:EM X C S w2 b m2):EM X C S false (.BinOp a op b pos) (mOp p m1 m2):=fun hK=>by
 obtain ⟨ta,a1,a2⟩:=h1 hK
 obtain ⟨tb,b1,b2⟩:=h2 hK
 exact ⟨_,Eh o a1 b1,uB L a2 b2⟩
def uC (o:UnR X (unaryOp op) r) (L:Lf1 C.W r p) (h1:EM X C S w1 a m1):EM X C S false (.UnaryOp op a pos) (mUn p m1):=fun hK=>by
 obtain ⟨ta,a1,a2⟩:=h1 hK
 exact ⟨_,HD o a1,fun B P H σ ρ R Q q=>a2 B P H σ ρ R _ (yw q fun x v H1 s1 r1 q1=>L _ C B H1 x v Q (R.keep s1).new r1.weak (RV.eq ▸ q1))⟩
def ie (o:OpR X (compareOp op) r) (L:Lf2 C.W r p) (h1:EM X C S w1 a m1) (h2:EM X C S w2 b m2) (hm:behindInMarks op b=false):EM X C S false (.Compare a [op] [b] pos) (mOp p m1 m2):=fun hK=>by
 obtain ⟨ta,a1,a2⟩:=h1 hK
 obtain ⟨tb,b1,b2⟩:=h2 hK
 exact ⟨_,BF o a1 b1 hm,uB L a2 b2⟩
def asB:PV->Out Bool
 | .b c=>.ok c
 | _=>.wall
def yK (m:ME):MT:=fun ρ=>(m ρ).bind asB
def bo (h:LE C S w te m):LT C S (Em te) (yK m):=fun B P H σ ρ R Q q=>
 h B P H σ ρ R _ (mf q fun x v H1 s1 r1 q1=>by
  cases x with
  | b c=>exact ⟨c,(show v=.bl c from r1),q1 H1 (zE.refl _)⟩
  | _=>exact q1.elim)
def yN (o:OpR X (compareOp op) r) (L:Lf2 C.W r p) (h1:EM X C S w1 a m1) (h2:EM X C S w2 b m2) (hm:behindInMarks op b=false):TM X C S (.Compare a [op] [b] pos) (yK (mOp p m1 m2)):=fun hK=>by
 obtain ⟨ta,a1,a2⟩:=h1 hK
 obtain ⟨tb,b1,b2⟩:=h2 hK
 exact ⟨_,fu o a1 b1 hm,bo (uB L a2 b2)⟩
variable {c:Nh}{w3:Bool}{m3:ME}
end
def pI (g:Int->Int->PV):PV->PV->Out PV
 | .i a,.i b=>.ok (g a b)
 | _,_=>.wall
def pU (g:Int->PV):PV->Out PV
 | .i a=>.ok (g a)
 | _=>.wall
def ET (hg:∀ a b M H,Rep W M H (g a b) (gv a b)):Lf2 W (rI0 gv) (pI g):=fun M C B H x y v u Q hM hx hy q=>by
 cases x with
 | i a=>
  cases y with
  | i b=>exact ⟨a,b,hx,hy,q _ H (zE.refl _) (hg a b _ _)⟩
  | _=>exact q.elim
 | _=>exact q.elim
def MF (hg:∀ a M H,Rep W M H (g a) (gv a)):Lf1 W (rU gv) (pU g):=fun M C B H x v Q hM hx q=>by
 cases x with
 | i a=>exact ⟨a,hx,q _ H (zE.refl _) (hg a _ _)⟩
 | _=>exact q.elim
abbrev ig:=pI fun a b=>.i (a - b)
abbrev pLt:=pI fun a b=>.b (decide (a < b))
abbrev pLe:=pI fun a b=>.b (decide (a<=b))
abbrev pGt:=pI fun a b=>.b (decide (b < a))
abbrev pGe:=pI fun a b=>.b (decide (b<=a))
abbrev nq:=pU fun a=>.i (-a)
def Yz:Lf2 W (rI0 fun i j=>.int (i - j)) ig:=ET fun _ _ _ _=>rfl
def ij:Lf1 W (rU fun i=>.int (-i)) nq:=MF fun _ _ _=>rfl
section
variable {W:RC}{M:MY}{H:Hp}
def yt.nil:yt W M H [] []:=rfl
def yt.cons (h:Rep W M H x v) (t:yt W M H xs vs):yt W M H (x :: xs) (v :: vs):=⟨v,vs,rfl,h,t⟩
def yt.len:∀ {xs:Nj}{vs:Nb},yt W M H xs vs->vs.length=xs.length
 | [],_,h=>by cases (show _=_ from h);rfl
 | x :: xs,_,h=>by obtain ⟨v,r,rfl,_,h2⟩:=h;rw [v0,v0,yt.len h2]
def yt.get:∀ {xs:Nj}{vs:Nb}{i:Nat}{x:PV},yt W M H xs vs->xs[i]? = some x->∃ v,vs[i]? = some v/\Rep W M H x v
 | [],_,_,_,_,e=>by simp at e
 | x :: xs,_,0,y,h,e=>by obtain ⟨v,r,rfl,h1,h2⟩:=h;simp at e;subst e;exact ⟨v,rfl,h1⟩
 | x :: xs,_,i + 1,y,h,e=>by obtain ⟨v,r,rfl,h1,h2⟩:=h;simp only [List.getElem?_cons_succ] at e ⊢;exact yt.get h2 e
def yt.DS:∀ {xs:Nj}{vs:Nb}{i:Nat}{v:V},yt W M H xs vs->vs[i]? = some v->∃ x,xs[i]? = some x/\Rep W M H x v
 | [],_,_,_,h,e=>by cases (show _=_ from h);simp at e
 | x :: xs,_,0,y,h,e=>by obtain ⟨v,r,rfl,h1,h2⟩:=h;simp at e;subst e;exact ⟨x,rfl,h1⟩
 | x :: xs,_,i + 1,y,h,e=>by obtain ⟨v,r,rfl,h1,h2⟩:=h;simp only [List.getElem?_cons_succ] at e ⊢;exact yt.DS h2 e
def yt.append:∀ {xs ys:Nj}{vs us:Nb},yt W M H xs vs->yt W M H ys us->yt W M H (xs++ys) (vs++us)
 | [],_,_,_,h,k=>by cases (show _=_ from h);exact k
 | x :: xs,_,_,_,h,k=>by obtain ⟨v,r,rfl,h1,h2⟩:=h;exact ⟨v,_,rfl,h1,yt.append h2 k⟩
def yt.take:∀ {xs:Nj}{vs:Nb}(n:Nat),yt W M H xs vs->yt W M H (xs.take n) (vs.take n)
 | [],_,_,h=>by cases (show _=_ from h);simp;exact yt.nil
 | x :: xs,_,0,h=>yt.nil
 | x :: xs,_,n + 1,h=>by obtain ⟨v,r,rfl,h1,h2⟩:=h;exact ⟨v,_,rfl,h1,yt.take n h2⟩
def yt.drop:∀ {xs:Nj}{vs:Nb}(n:Nat),yt W M H xs vs->yt W M H (xs.drop n) (vs.drop n)
 | [],_,_,h=>by cases (show _=_ from h);simp;exact yt.nil
 | x :: xs,_,0,h=>h
 | x :: xs,_,n + 1,h=>by obtain ⟨v,r,rfl,h1,h2⟩:=h;exact yt.drop n h2
def yt.ints:∀ {ns:Nz},yt W M H (ns.map PV.i) (ns.map V.int)
 | []=>rfl
 | n :: ns=>⟨_,_,rfl,rfl,yt.ints⟩
def yt.at (h:yt W M H xs vs) (e:atI xs i=some x):∃ v,atI vs i=some v/\Rep W M H x v:=by
 unfold atI at e ⊢
 rw [h.len]
 cases q:ixN xs.length i with
 | none=>rw [q] at e;cases e
 | some j=>rw [q] at e;exact h.get e
def yt.cut {xs:Nj}{vs:Nb}{lo hi:NO}(h:yt W M H xs vs):yt W M H ((xs.drop (HT.sIx xs.length 0 lo)).take (HT.sIx xs.length xs.length hi - HT.sIx xs.length 0 lo)) (Ah vs lo hi):=by
 unfold Ah;rw [h.len];exact (h.drop _).take _
def jK.iff:∀ {kvs:Nn}{es:Ng},jK W M H kvs es↔es.map (·.1)=kvs.map (·.1)/\yt W M H (kvs.map (·.2)) (es.map (·.2))
 | [],es=>⟨fun h=>by cases (show _=_ from h);exact ⟨rfl,rfl⟩,fun h=>by cases es with | nil=>rfl | cons a r=>cases h.1⟩
 | kx :: r,es=>by
  constructor
  .rintro ⟨v,q,rfl,h1,h2⟩
   obtain ⟨e,t⟩:=jK.iff.mp h2
   exact ⟨by simp only [List.map_cons,e],v,_,rfl,h1,t⟩
  .rintro ⟨e,v,q,e2,h1,h2⟩
   cases es with
   | nil=>cases e2
   | cons a es=>
    simp only [List.map_cons,List.cons.injEq] at e e2
    refine ⟨a.2,es,by rw [<- e.1],by rw [e2.1];exact h1,jK.iff.mpr ⟨e.2,by rw [e2.2];exact h2⟩⟩
def kW.iff:∀ {kvs:Np}{es:Nu},kW W M H kvs es↔es.map (·.1)=kvs.map (·.1)/\yt W M H (kvs.map (·.2)) (es.map (·.2))
 | [],es=>⟨fun h=>by cases (show _=_ from h);exact ⟨rfl,rfl⟩,fun h=>by cases es with | nil=>rfl | cons a r=>cases h.1⟩
 | kx :: r,es=>by
  constructor
  .rintro ⟨v,q,rfl,h1,h2⟩
   obtain ⟨e,t⟩:=kW.iff.mp h2
   exact ⟨by simp only [List.map_cons,e],v,_,rfl,h1,t⟩
  .rintro ⟨e,v,q,e2,h1,h2⟩
   cases es with
   | nil=>cases e2
   | cons a es=>
    simp only [List.map_cons,List.cons.injEq] at e e2
    refine ⟨a.2,es,by rw [<- e.1],by rw [e2.1];exact h1,kW.iff.mpr ⟨e.2,by rw [e2.2];exact h2⟩⟩
def kW.lookup:∀ {kvs:Np}{es:Nu}{f:Str}{x:PV},kW W M H kvs es->kvs.lookup f=some x->∃ v,es.lookup f=some v/\Rep W M H x v
 | [],_,_,_,_,e=>by cases e
 | kx :: r,_,f,x,h,e=>by
  obtain ⟨v,q,rfl,h1,h2⟩:=h
  rw [R7] at e ⊢
  by_cases c:(f == kx.1)=true
  .simp only [c] at e ⊢;cases e;exact ⟨v,rfl,h1⟩
  .simp only [c] at e ⊢;exact kW.lookup h2 e
def kW.oA:∀ {kvs:Np}{es:Nu}{f:Str},kW W M H kvs es->kvs.lookup f=none->es.lookup f=none
 | [],_,_,h,_=>by cases (show _=_ from h);rfl
 | kx :: r,_,f,h,e=>by
  obtain ⟨v,q,rfl,h1,h2⟩:=h
  rw [R7] at e ⊢
  by_cases c:(f == kx.1)=true
  .simp only [c] at e;cases e
  .simp only [c] at e ⊢;exact kW.oA h2 e
def oB (n:New M H) (hp:H p=none) (h:yt W M H xs vs):Rep W M (upd H p (.lst vs)) (.l xs) (.ref p):=⟨p,vs,rfl,n p hp,zh,h.same (zE.upd hp)⟩
def B8 (hp:H p=none) (h:yt W M H xs vs):Rep W M (upd H p (.tup vs)) (.t xs) (.ref p):=⟨p,vs,rfl,SqT.of zh,h.same (zE.upd hp)⟩
end
def EU:R2:=fun x y H Q=>(rI0 (fun i j=>.int (i + j)) x y H Q\/∃ i j,x=.str i/\y=.str j/\i.length + j.length<=sizeLine/\Q (.str (i++j)) H)\/Lz x y H Q
def zG:OpR X (binaryOp .Add) EU:=(Ej.or lU).or Al
def yj:PV->PV->Out PV
 | .i a,.i b=>.ok (.i (a + b))
 | .s a,.s b=>if a.length + b.length<=sizeLine then .ok (.s (a++b)) else .wall
 | .l a,.l b=>if a.length + b.length<=sizeLine then .ok (.l (a++b)) else .wall
 | _,_=>.wall
def zH:Lf2 W EU yj:=fun M C B H x y v u Q n hx hy q=>by
 unfold yj at q
 split at q
 .exact .inl (.inl ⟨_,_,hx,hy,q _ H (zE.refl _) rfl⟩)
 .split at q
  .rename_i h;exact .inl (.inr ⟨_,_,hx,hy,h,q _ H (zE.refl _) rfl⟩)
  .exact q.elim
 .split at q
  .rename_i h
   obtain ⟨p,vs,rfl,_,e,r⟩:=hx
   obtain ⟨p',vs',rfl,_,e',r'⟩:=hy
   exact .inr ⟨p,p',vs,vs',rfl,rfl,e,e',by rw [r.len,r'.len];exact h,fun z hz=>q _ _ (zE.upd hz) (oB n hz (r.append r'))⟩
  .exact q.elim
 .exact q.elim
def EV:R2:=fun x y H Q=>(rI Ad (fun i j=>.int (i * j)) x y H Q\/rI ux (fun i j=>.int (i * j)) x y H Q)\/(EL x y H Q\/LB x y H Q)
def yy:OpR X (binaryOp .Mult) EV:=(Ek.or B4).or (l_.or Et)
instance {i j:Int}:Decidable (Ad i j):=by unfold Ad;infer_instance
instance {i j:Int}:Decidable (DR i j):=by unfold DR;infer_instance
instance {i j:Int}:Decidable (Ei i j):=by unfold Ei;infer_instance
def jd:PV->PV->Out PV
 | .i a,.i b=>if Ad a b\/(a.natAbs < 2 ^ 8192/\b.natAbs < 2 ^ 8192) then .ok (.i (a * b)) else .wall
 | .s a,.i b=>if a.length<=16/\-2 ^ 63<=b/\b<=1048576 then .ok (.s (Txt.mul a b)) else .wall
 | .l a,.i b=>if -(2 ^ 63)<=b/\b < 2 ^ 63/\a.length * b.toNat<=sizeLine then .ok (.l (List.replicate b.toNat a).flatten) else .wall
 | _,_=>.wall
def yt.rep {W:RC}{M:MY}{H:Hp}{xs:Nj}{vs:Nb}(h:yt W M H xs vs):∀ n,yt W M H (List.replicate n xs).flatten (List.replicate n vs).flatten
 | 0=>rfl
 | n + 1=>by rw [a0l,a0l,a0c,a0c];exact h.append (h.rep n)
def yz:Lf2 W EV jd:=fun M C B H x y v u Q n hx hy q=>by
 unfold jd at q
 split at q
 .split at q
  .rename_i h
   rcases h with h | h
   .exact .inl (.inl ⟨_,_,hx,hy,h,q _ H (zE.refl _) rfl⟩)
   .exact .inl (.inr ⟨_,_,hx,hy,h,q _ H (zE.refl _) rfl⟩)
  .exact q.elim
 .split at q
  .rename_i h;exact .inr (.inl ⟨_,_,hx,hy,h.1,h.2.1,h.2.2,q _ H (zE.refl _) rfl⟩)
  .exact q.elim
 .split at q
  .rename_i h
   obtain ⟨p,vs,rfl,_,e,r⟩:=hx
   exact .inr (.inr ⟨p,_,vs,rfl,hy,e,h.1,h.2.1,by rw [r.len];exact h.2.2,fun z hz=>q _ _ (zE.upd hz) (oB n hz (r.rep _))⟩)
  .exact q.elim
 .exact q.elim
def EW:R2:=fun x y H Q=>rI DR (fun i j=>.int (i / j)) x y H Q\/rI EO (fun i j=>.int (i.fdiv j)) x y H Q
def oC:OpR X (binaryOp .FloorDiv) EW:=BB.or uz
def mj:PV->PV->Out PV
 | .i a,.i b=>if DR a b then .ok (.i (a / b)) else if b≠0/\b.natAbs < 2 ^ 8192 then .ok (.i (a.fdiv b)) else .wall
 | _,_=>.wall
def oE:Lf2 W EW mj:=fun M C B H x y v u Q n hx hy q=>by
 unfold mj at q
 split at q
 .split at q
  .rename_i h;exact .inl ⟨_,_,hx,hy,h,q _ H (zE.refl _) rfl⟩
  .split at q
   .rename_i h;exact .inr ⟨_,_,hx,hy,h,q _ H (zE.refl _) rfl⟩
   .exact q.elim
 .exact q.elim
def EX:R2:=fun x y H Q=>rI (fun _ j=>0 < j) (fun i j=>.int (i % j)) x y H Q\/rI (fun _ j=>j≠0) (fun i j=>.int (i.fmod j)) x y H Q
def Zv:OpR X (binaryOp .Mod) EX:=El.or BC
def Jt:PV->PV->Out PV
 | .i a,.i b=>if 0 < b then .ok (.i (a % b)) else if b≠0 then .ok (.i (a.fmod b)) else .wall
 | _,_=>.wall
def Zw:Lf2 W EX Jt:=fun M C B H x y v u Q n hx hy q=>by
 unfold Jt at q
 split at q
 .split at q
  .rename_i h;exact .inl ⟨_,_,hx,hy,h,q _ H (zE.refl _) rfl⟩
  .split at q
   .rename_i h;exact .inr ⟨_,_,hx,hy,h,q _ H (zE.refl _) rfl⟩
   .exact q.elim
 .exact q.elim
def fO:PV->PV->Out PV
 | .i a,.i b=>if Ei a b then .ok (.i (a ^ b.toNat)) else .wall
 | _,_=>.wall
def fP:Lf2 W (rI Ei fun i j=>.int (i ^ j.toNat)) fO:=fun M C B H x y v u Q n hx hy q=>by
 unfold fO at q
 split at q
 .split at q
  .rename_i h;exact ⟨_,_,hx,hy,h,q _ H (zE.refl _) rfl⟩
  .exact q.elim
 .exact q.elim
def dz:Lf2 W (rI0 fun i j=>.bl (decide (i < j))) pLt:=ET fun _ _ _ _=>rfl
def B9:Lf2 W (rI0 fun i j=>.bl (decide (i<=j))) pLe:=ET fun _ _ _ _=>rfl
def Wc:Lf2 W (rI0 fun i j=>.bl (decide (j < i))) pGt:=ET fun _ _ _ _=>rfl
def Io:Lf2 W (rI0 fun i j=>.bl (decide (j<=i))) pGe:=ET fun _ _ _ _=>rfl
def isN:PV->Bool
 | .n=>true
 | _=>false
def uD (neg:Bool):PV->PV->Out PV
 | x,.n=>.ok (.b (xor neg (isN x)))
 | _,_=>.wall
def EY (h:qe W N M H x v):decide (v=.non)=isN x:=by
 cases x with
 | n=>cases (show v=_ from h);rfl
 | i a=>cases (show v=_ from h);rfl
 | s a=>cases (show v=_ from h);rfl
 | b a=>cases (show v=_ from h);rfl
 | l a=>obtain ⟨p,_,rfl,_⟩:=h;rfl
 | t a=>obtain ⟨p,_,rfl,_⟩:=h;rfl
 | d a=>obtain ⟨p,_,rfl,_⟩:=h;rfl
 | o c a=>obtain ⟨p,_,_,rfl,_⟩:=h;rfl
 | x c a=>obtain ⟨p,_,_,rfl,_⟩:=h;rfl
 | sc a=>obtain ⟨p,rfl,_⟩:=h;rfl
 | dt a=>obtain ⟨p,rfl,_⟩:=h;rfl
def oF:Lf2 W (fun x y H Q=>y=.non/\Q (.bl (decide (x=.non))) H) (uD false):=fun M C B H x y v u Q n hx hy q=>by
 unfold uD at q
 split at q
 .refine ⟨hy, ?_⟩
  rw [EY hx]
  exact q _ H (zE.refl _) (by rw [a1h];rfl)
 .exact q.elim
def B_:Lf2 W (fun x y H Q=>y=.non/\Q (.bl (!decide (x=.non))) H) (uD true):=fun M C B H x y v u Q n hx hy q=>by
 unfold uD at q
 split at q
 .refine ⟨hy, ?_⟩
  rw [EY hx]
  exact q _ H (zE.refl _) (by rw [a1O];rfl)
 .exact q.elim
def fh.rk (e:Rd H a (.dK kvs)):fh H a (kV k) (Uu kvs k):=.inl ⟨kvs,k,e,rfl,rfl⟩
def RFr (W:RC) (M:MY) (H:Hp) (H2:Hp) (x:PV) (v:V):Prop:=∃ p,v=.ref p/\H p=none/\bj W (fun a=>M a/\a≠p) H2 p x
def RFr.rep (n:New M H) (h:RFr W M H H2 x v):Rep W M H2 x v:=by
 obtain ⟨p,rfl,hp,h⟩:=h
 exact qe.iff.mp ((h.Im (N:=M) (n p hp)).sub (fun _ m _=>m) fun _ m _=>m.1)
def LFr (C:LC) (S:MV) (te:TE) (m:ME):Prop:=∀ B P H σ ρ,Rel C.W B S P H σ ρ->∀ Q,yi C B H (RFr C.W (Mof B S P) H) Q (m ρ)->te σ H Q
def FM (X:Cx) (C:LC) (S:MV) (e:Nh) (m:ME):Prop:=X.K=C.W.K->∃ te,PE X e te/\LFr C S te m
def JO (h:yi C B H R Q o) (k:∀ x v H2,zE H H2->R' H2 x v->R H2 x v):yi C B H R' Q o:=by
 cases o with
 | ok r=>exact fun v H2 s hr=>h v H2 s (k _ _ _ s hr)
 | exc c fs=>exact h
 | wall=>exact h
def FM.em (h:FM X C S e m):EM X C S false e m:=fun hK=>by
 obtain ⟨te,h1,h2⟩:=h hK
 exact ⟨te,h1,fun B P H σ ρ R Q q=>h2 B P H σ ρ R Q (JO q fun x v H2 s hr=>RV.of (hr.rep R.new))⟩
def RVs (C:LC) (B:Bs) (S:MV) (P:Na) (H:Hp):List Bool->List PV->List V->Prop
 | [],xs,vs=>xs=[]/\vs=[]
 | w :: ws,xs,vs=>∃ x v xr vr,xs=x :: xr/\vs=v :: vr/\RV C B S P w H x v/\RVs C B S P H ws xr vr
def mq (C:LC) (B:Bs) (H:Hp) (R:Hp->List PV->List V->Prop) (Q:List V->Hp->Prop):Out (List PV)->Prop
 | .ok r=>∀ v H2,zE H H2->R H2 r v->Q v H2
 | .exc c fs=>XPo C B c fs
 | .wall=>False
def LA (C:LC) (S:MV) (ws:Nf) (ta:TA) (m:MA):Prop:=∀ B P H σ ρ,Rel C.W B S P H σ ρ->∀ Q,mq C B H (fun H2=>RVs C B S P H2 ws) Q (m ρ)->ta σ H Q
def AM (X:Cx) (C:LC) (S:MV) (ws:Nf) (es:Nc) (m:MA):Prop:=X.K=C.W.K->∃ ta,PA X es ta/\LA C S ws ta m
def zr:MA:=fun _=>.ok []
def zb (m:ME) (ms:MA):MA:=fun ρ=>(m ρ).bind fun x=>(ms ρ).bind fun xs=>.ok (x :: xs)
def mr {α:Type}{f:PV->Out α}{T:Hp->Out α->Prop}(hT:∀ H H2 o,zE H H2->T H o->T H2 o) (hx:∀ c fs,T H (.exc c fs)->XPo C B c fs) (hw:T H .wall->False)
  (h:T H (o.bind f)) (k:∀ r v H2,zE H H2->R H2 r v->T H2 (f r)->Q' v H2):yi C B H R Q' o:=by
 cases o with
 | ok r=>exact fun v H2 s hr=>k r v H2 s hr (hT _ _ _ s h)
 | exc c fs=>exact hx _ _ h
 | wall=>exact hw h
def fQ (s:zE H H2) (h:mq C B H R Q o):mq C B H2 R Q o:=by
 cases o with
 | ok x=>exact fun v H3 s3 hx=>h v H3 (s.trans s3) hx
 | exc c fs=>exact h
 | wall=>exact h
def qt (h:yi C B H R Q (o.bind f)) (k:∀ r v H2,zE H H2->R' H2 r v->yi C B H2 R Q (f r)->Q' v H2):mq C B H R' Q' o:=by
 cases o with
 | ok r=>exact fun v H2 s hr=>k r v H2 s hr (Zg (o:=f r) h s)
 | exc c fs=>exact h
 | wall=>exact h
section
variable {X:Cx}{C:LC}{S:MV}{e a b:Nh}{es:Nc}{w w1 w2:Bool}{ws:Nf}{m m1 m2:ME}{ms:MA}{t1 t2:MT}{pos:Pos}
def ze:AM X C S [] [] zr:=fun _=>⟨_,aj,fun B P H σ ρ R Q q=>q [] H (zE.refl _) ⟨rfl,rfl⟩⟩
def za (h:EM X C S w e m) (hr:AM X C S ws es ms) (hs:starEach (e :: es) X.env=(false,eval e X.env) :: starEach es X.env:=by rfl):AM X C S (w :: ws) (e :: es) (zb m ms):=fun hK=>by
 obtain ⟨te,a1,a2⟩:=h hK
 obtain ⟨ta,b1,b2⟩:=hr hK
 refine ⟨_,Yx a1 b1 hs,fun B P H σ ρ R Q q=>a2 B P H σ ρ R _ (mr (T:=fun H o=>mq C B H (fun H2=>RVs C B S P H2 (w :: ws)) Q o) (fun _ _ _ s h=>fQ s h) (fun _ _ h=>h) (fun h=>h) q fun x v H1 s1 r1 q1=>?_)⟩
 refine b2 B P H1 σ ρ (R.keep s1) _ ?_
 revert q1
 cases ms ρ with
 | ok xs=>exact fun q1 vs H2 s2 r2=>q1 (v :: vs) H2 s2 ⟨x,v,xs,vs,rfl,rfl,r1.same s2,r2⟩
 | exc c fs=>exact id
 | wall=>exact id
def RVs.G_ {B:Bs}{P:Na}{H:Hp}:∀ {ws:Nf}{xs:Nj}{vs:Nb},RVs C B S P H ws xs vs->ws.all (!·)=true->yt C.W (Mof B S P) H xs vs
 | [],_,_,⟨e1,e2⟩,_=>by subst e1;subst e2;rfl
 | w :: ws,_,_,⟨x,v,xr,vr,e1,e2,h1,h2⟩,hw=>by
  subst e1;subst e2
  simp only [List.all_cons,Bool.and_eq_true,Bool.not_eq_true'] at hw
  rw [hw.1] at h1
  exact ⟨v,vr,rfl,h1.rep,RVs.G_ h2 hw.2⟩
def W4 (ms:MA):ME:=fun ρ=>(ms ρ).bind fun xs=>if xs.length<=sizeLine then .ok (.l xs) else .wall
def W5 (ms:MA):ME:=fun ρ=>(ms ρ).bind fun xs=>if xs.length<=sizeLine then .ok (.t xs) else .wall
def v5 (h:AM X C S ws es ms) (hw:ws.all (!·)=true:=by rfl):FM X C S (.List es pos) (W4 ms):=fun hK=>by
 obtain ⟨ta,a1,a2⟩:=h hK
 refine ⟨_,Ag a1,fun B P H σ ρ R Q q=>a2 B P H σ ρ R _ (qt q fun xs vs H1 s1 r1 q1=>?_)⟩
 have rs:=r1.G_ hw
 split at q1
 .rename_i hl
  exact ⟨by rw [rs.len];exact hl,fun p hp=>q1 _ _ (zE.upd hp) ⟨p,rfl,zE.none s1 hp,vs,zh,(rs.sub fun a m n=>⟨m,fun z=>n (z ▸ hp)⟩).same (zE.upd hp)⟩⟩
 .exact q1.elim
def jL {x1} (h:AM X C S ws es ms) (hw:ws.all (!·)=true:=by rfl):EM X C S false (.Tuple es x1 pos) (W5 ms):=fun hK=>by
 obtain ⟨ta,a1,a2⟩:=h hK
 refine ⟨_,WU a1,fun B P H σ ρ R Q q=>a2 B P H σ ρ R _ (qt q fun xs vs H1 s1 r1 q1=>?_)⟩
 have rs:=r1.G_ hw
 split at q1
 .rename_i hl
  exact ⟨by rw [rs.len];exact hl,fun p hp=>q1 _ _ (zE.upd hp) (RV.of (B8 hp rs))⟩
 .exact q1.elim
def tN (t u:MT):MT:=fun ρ=>(t ρ).bind fun c=>if c=true then u ρ else .ok false
def mOr (t u:MT):MT:=fun ρ=>(t ρ).bind fun c=>if c=true then .ok true else u ρ
def uE (t:MT):MT:=fun ρ=>(t ρ).bind fun c=>.ok (!c)
def uF (m1 m2:ME):ME:=fun ρ=>(m1 ρ).bind fun x=>(asB x).bind fun c=>if c=true then m2 ρ else .ok (.b false)
def Ip (m1 m2:ME):ME:=fun ρ=>(m1 ρ).bind fun x=>(asB x).bind fun c=>if c=true then .ok (.b true) else m2 ρ
def TWM.tm (h:TWM X C S e t1):TM X C S e t1:=fun hK=>let ⟨tt,a1,a2⟩:=h hK;⟨tt,a1.pt,a2⟩
def fR (h:TM X C S a t1):TWM X C S (.BoolOp .And [a] pos) t1:=fun hK=>let ⟨tt,a1,a2⟩:=h hK;⟨tt,pw_and1 a1,a2⟩
def QI (h:TM X C S a t1):TWM X C S (.BoolOp .Or [a] pos) t1:=fun hK=>let ⟨tt,a1,a2⟩:=h hK;⟨tt,pw_or1 a1,a2⟩
variable {rest:Nc}
def oG (h:TM X C S a t1) (h2:TWM X C S (.BoolOp .And (b :: rest) pos) t2):TWM X C S (.BoolOp .And (a :: b :: rest) pos) (tN t1 t2):=fun hK=>by
 obtain ⟨tt,a1,a2⟩:=h hK
 obtain ⟨tu,b1,b2⟩:=h2 hK
 refine ⟨_,pw_and a1 b1,fun B P H σ ρ R Q q=>a2 B P H σ ρ R _ (Js q fun c H1 s1 q1=>?_)⟩
 cases c with
 | true=>exact BY (b2 B P H1 σ ρ (R.keep s1) _ q1)
 | false=>exact BX (q1 H1 (zE.refl _))
def Uw (h:TM X C S a t1) (h2:TWM X C S (.BoolOp .Or (b :: rest) pos) t2):TWM X C S (.BoolOp .Or (a :: b :: rest) pos) (mOr t1 t2):=fun hK=>by
 obtain ⟨tt,a1,a2⟩:=h hK
 obtain ⟨tu,b1,b2⟩:=h2 hK
 refine ⟨_,pw_or a1 b1,fun B P H σ ρ R Q q=>a2 B P H σ ρ R _ (Js q fun c H1 s1 q1=>?_)⟩
 cases c with
 | true=>exact BY (q1 H1 (zE.refl _))
 | false=>exact BX (b2 B P H1 σ ρ (R.keep s1) _ q1)
def dA (h:TM X C S a t1):TM X C S (.UnaryOp .Not a pos) (uE t1):=fun hK=>by
 obtain ⟨tt,a1,a2⟩:=h hK
 exact ⟨_,Eb a1,fun B P H σ ρ R Q q=>a2 B P H σ ρ R _ (Js q fun c H1 s1 q1=>q1 H1 (zE.refl _))⟩
def Vt (h:EM X C S w e m) (he:∀ whole,isTrue e X.env whole=(do let v <- whole;standAt e.pos;holding [v] (truthy v)):=by intro _;rfl):TM X C S e (yK m):=fun hK=>by
 obtain ⟨te,a1,a2⟩:=h hK
 exact ⟨_,Ea a1 he,bo a2⟩
def Ar {op} (h:EM X C S w a m):EM X C S w (.BoolOp op [a] pos) m:=fun hK=>let ⟨tt,a1,a2⟩:=h hK;⟨tt,Ec a1,a2⟩
def EZ (h:EM X C S w1 a m1) (h2:EM X C S false (.BoolOp .And (b :: rest) pos) m2):EM X C S false (.BoolOp .And (a :: b :: rest) pos) (uF m1 m2):=fun hK=>by
 obtain ⟨tt,a1,a2⟩:=h hK
 obtain ⟨tu,b1,b2⟩:=h2 hK
 refine ⟨_,Ed a1 b1,fun B P H σ ρ R Q q=>a2 B P H σ ρ R _ (yw q fun x v H1 s1 r1 q1=>?_)⟩
 cases x with
 | b c=>
  refine ⟨c,(show v=.bl c from r1), ?_⟩
  cases c with
  | true=>exact BY (b2 B P H1 σ ρ (R.keep s1) _ q1)
  | false=>exact BX (q1 _ H1 (zE.refl _) (RV.of rfl))
 | _=>exact q1.elim
def E4 (h:EM X C S w1 a m1) (h2:EM X C S false (.BoolOp .Or (b :: rest) pos) m2):EM X C S false (.BoolOp .Or (a :: b :: rest) pos) (Ip m1 m2):=fun hK=>by
 obtain ⟨tt,a1,a2⟩:=h hK
 obtain ⟨tu,b1,b2⟩:=h2 hK
 refine ⟨_,Hu a1 b1,fun B P H σ ρ R Q q=>a2 B P H σ ρ R _ (yw q fun x v H1 s1 r1 q1=>?_)⟩
 cases x with
 | b c=>
  refine ⟨c,(show v=.bl c from r1), ?_⟩
  cases c with
  | true=>exact BY (q1 _ H1 (zE.refl _) (RV.of rfl))
  | false=>exact BX (b2 B P H1 σ ρ (R.keep s1) _ q1)
 | _=>exact q1.elim
end
def zS {κ α:Type}[DecidableEq κ] (kvs:List (κ × α)) (k:κ):Option α:=(kvs.find? fun kv=>decide (kv.1=k)).map (·.2)
def jK.get {W:RC}{M:MY}{H:Hp}:∀ {kvs:Nn}{es:Ng}{k:Key}{x:PV},jK W M H kvs es->zS kvs k=some x->∃ v,Uu es k=some v/\Rep W M H x v
 | [],_,_,_,_,e=>by cases e
 | kx :: r,_,k,x,h,e=>by
  obtain ⟨v,q,rfl,h1,h2⟩:=h
  unfold zS at e
  unfold Uu
  rw [a0Q] at e ⊢
  by_cases c:kx.1=k
  .simp only [c,decide_true] at e ⊢;cases e;exact ⟨v,rfl,h1⟩
  .simp only [c,decide_false] at e ⊢;exact jK.get h2 e
def jK.Ha {W:RC}{M:MY}{H:Hp}:∀ {kvs:Nn}{es:Ng}{k:Key},jK W M H kvs es->zS kvs k=none->Uu es k=none
 | [],_,_,h,_=>by cases (show _=_ from h);rfl
 | kx :: r,_,k,h,e=>by
  obtain ⟨v,q,rfl,h1,h2⟩:=h
  unfold zS at e
  unfold Uu
  rw [a0Q] at e ⊢
  by_cases c:kx.1=k
  .simp only [c,decide_true] at e;cases e
  .simp only [c,decide_false] at e ⊢;exact jK.Ha h2 e
def jK.MH (h:jK W M H kvs es):(Uu es k).isSome=(zS kvs k).isSome:=by
 cases e:zS kvs k with
 | none=>rw [h.Ha e];rfl
 | some x=>obtain ⟨v,q,_⟩:=h.get e;rw [q];rfl
def pk:PV->Option Key
 | .i n=>some (.inl n)
 | .s x=>some (.inr x)
 | _=>none
def W6 (h:qe W N M H x v) (e:pk x=some k):v=kV k:=by
 cases x with
 | i n=>cases e;exact h
 | s n=>cases e;exact h
 | _=>cases e
def LD:R2:=fun x y H Q=>∃ a v,x=.ref a/\fh H a y (some v)/\Q v H
def fS (hu:X.A.units + 1 < cLine):IxR X LD:=by
 intro value slice pins s σ H x y v u Q I rx ry h hs
 obtain ⟨a,w',rfl,g,q⟩:=h
 cases rx
 have hT:=fE I g
 unfold subscriptTail
 refine f8 ?_
 rw [getitemInPython_of_ne hT.not_modules]
 refine f8 (a1A hT PySem.F.slot_dict_getitem.lookup ?_)
 have fin:wpAny (Oc X) X.A (subscripted slice false (.ref a) u) (fun r s₃=>wpAny (Oc X) X.A (letTemporaryGo value (.ref a) r >>= fun _=>pure r) (EP X pins σ Q) X.xe s₃) X.xe s:=by
  rw [hs]
  exact wpAny_operating (S4 (n5 hu I g ry fun w' s3 I3 rw'=>⟨_,H,I3,rw',q⟩) (fun r s₃ h₃=>f8 (wpAny_letTemporaryGo (N5 h₃))) fun _ _ x=>x)
 first
  | exact N5 (f8 fin)
  | exact f8 (N5 (f8 fin))
  | exact f8 fin
def LF (K:Ny):R2:=fun x y H Q=>rIx K x y H Q\/LD x y H Q
def v7 {α:Type}:Option α->Out α
 | some a=>.ok a
 | none=>.wall
def pIx:PV->PV->Out PV
 | .l xs,.i k=>v7 (atI xs k)
 | .t xs,.i k=>v7 (atI xs k)
 | .sc ns,.i k=>v7 ((atI ns k).map PV.i)
 | .s z,.i k=>if z.length<=sizeLine then v7 ((atI z.cps.toList k).map fun c=>.s ⟨#[c]⟩) else .wall
 | .d kvs,y=>v7 ((pk y).bind fun k=>zS kvs k)
 | _,_=>.wall
def qq (h:yi C B H R Q (v7 o)):∃ x,o=some x/\∀ v H2,zE H H2->R H2 x v->Q v H2:=by
 cases o with
 | none=>exact h.elim
 | some x=>exact ⟨x,rfl,h⟩
def E5:Lf2 W (LF W.K) pIx:=fun M C B H x y v u Q n hx hy q=>by
 unfold pIx at q
 split at q
 .obtain ⟨x,e,q⟩:=qq q
  obtain ⟨p,vs,rfl,_,hl,r⟩:=hx
  obtain ⟨v,hv,rv⟩:=r.at e
  exact .inl (.inl ⟨p,vs,_,v,rfl,hy,SqL.of hl,hv,q v H (zE.refl _) rv⟩)
 .obtain ⟨x,e,q⟩:=qq q
  obtain ⟨p,vs,rfl,hl,r⟩:=hx
  obtain ⟨v,hv,rv⟩:=r.at e
  exact .inl (.inr (.inl ⟨p,vs,_,v,rfl,hy,hl,hv,q v H (zE.refl _) rv⟩))
 .obtain ⟨x,e,q⟩:=qq q
  obtain ⟨p,rfl,hl⟩:=hx
  obtain ⟨z,hz,rfl⟩:=M3.mp e
  refine .inl (.inl ⟨p,_,_,.int z,rfl,hy,hl.sq, ?_,q _ H (zE.refl _) rfl⟩)
  unfold atI at hz ⊢
  rw [u8]
  cases c:ixN _ _ with
  | none=>rw [c] at hz;cases hz
  | some j=>
   rw [c,Option.bind_some] at hz
   show (List.map V.int _)[j]? = _
   rw [P0,hz];rfl
 .split at q
  .rename_i hl
   obtain ⟨x,e,q⟩:=qq q
   obtain ⟨z,hz,rfl⟩:=M3.mp e
   exact .inl (.inr (.inr ⟨_,_,z,hx,hy,hl,hz,q _ H (zE.refl _) rfl⟩))
  .exact q.elim
 .obtain ⟨x,e,q⟩:=qq q
  obtain ⟨p,es,rfl,_,hl,r⟩:=hx
  obtain ⟨k,hk,e⟩:=O8.mp e
  obtain ⟨v,hv,rv⟩:=r.get e
  exact .inr ⟨p,v,rfl,by rw [W6 hy hk,<- hv];exact fh.rk hl,q v H (zE.refl _) rv⟩
 .exact q.elim
def zW (hu:X.A.units + 1 < cLine) (h1:EM X C S w1 a m1) (h2:EM X C S w2 b m2) (hs:ba b:=by intro _ _;rfl):EM X C S false (.Subscript a b pos) (mOp pIx m1 m2):=fun hK=>by
 obtain ⟨ta,a1,a2⟩:=h1 hK
 obtain ⟨tb,b1,b2⟩:=h2 hK
 exact ⟨_,BO (Ai.or (fS hu)) a1 b1 hs,uB (by rw [hK];exact E5) a2 b2⟩
def toV:PV->Option V
 | .i a=>some (.int a)
 | .s a=>some (.str a)
 | .b a=>some (.bl a)
 | .n=>some .non
 | _=>none
def W7 (h:qe W N M H x v) (e:toV x=some u):v=u/\Wa u=true:=by
 cases x <;> first | (cases e;exact ⟨h,rfl⟩) | cases e
def E6:Option Bool->Option Bool->Option Bool
 | some a,some b=>some (a && b)
 | _,_=>none
def tO (f:NP):List PV->List PV->Option Bool
 | [],[]=>some true
 | x :: xs,y :: ys=>E6 (f x y) (tO f xs ys)
 | _,_=>some false
def DT (f:NP) (b:Nn):List (Key × PV)->Option Bool
 | []=>some true
 | kx :: r=>match zS b kx.1 with
  | none=>some false
  | some y=>E6 (f kx.2 y) (DT f b r)
def E7 (x y:PV):Option Bool:=match toV x,toV y with | some a,some b=>some (eqV a b) | _,_=>none
def fj:Nat->PV->PV->Option Bool
 | n + 1,.l xs,.l ys=>tO (fj n) xs ys
 | n + 1,.t xs,.t ys=>tO (fj n) xs ys
 | _,x,y=>E7 x y
def DU (n:Nat):PV->PV->Option Bool
 | .d a,.d b=>if a.length=b.length then DT (fj n) b a else some false
 | x,y=>fj n x y
def JP (h:E6 a b=some c):∃ p q,a=some p/\b=some q/\c=(p && q):=by
 cases a <;> cases b <;> first | (cases h;done) | (cases h;exact ⟨_,_,rfl,rfl,rfl⟩)
def ik {f:NP}:∀ {xs ys:Nj}{b:Bool},tO f xs ys=some b->xs.length≠ys.length->b=false
 | [],[],_,_,h=>absurd rfl h
 | [],_ :: _,_,h,_=>by cases h;rfl
 | _ :: _,[],_,h,_=>by cases h;rfl
 | x :: xs,y :: ys,b,h,n=>by
  obtain ⟨p,q,_,h2,rfl⟩:=JP h
  rw [ik h2 (fun z=>n (by rw [v0,v0,z])),a2A]
def fT {f:NP}:∀ {xs ys:Nj}{b:Bool},tO f xs ys=some b->∃ e:Nat->Bool,(∀ j x y,xs[j]? = some x->ys[j]? = some y->f x y=some (e j))/\b=((List.range (min xs.length ys.length)).all e && xs.length == ys.length)
 | [],[],b,h=>⟨fun _=>true,(fun j x y h=>by simp at h),by cases h;rfl⟩
 | [],_ :: _,b,h=>⟨fun _=>true,(fun j x y h=>by simp at h),by cases h;simp⟩
 | _ :: _,[],b,h=>⟨fun _=>true,(fun j x y _ h=>by simp at h),by cases h;simp⟩
 | x :: xs,y :: ys,b,h=>by
  obtain ⟨p,q,h1,h2,rfl⟩:=JP h
  obtain ⟨e,he,rfl⟩:=fT h2
  refine ⟨fun j=>match j with | 0=>p | j + 1=>e j,fun j a c ha hc=>?_, ?_⟩
  .cases j with
   | zero=>simp only [List.getElem?_cons_zero,Option.some.injEq] at ha hc;subst ha;subst hc;exact h1
   | succ j=>simp only [List.getElem?_cons_succ] at ha hc;exact he j a c ha hc
  .simp only [List.length_cons,Nat.add_min_add_right,List.range_succ_eq_map,List.all_cons,List.all_map,Bool.and_assoc]
   congr 1
   simp [Function.comp_def]
section
variable {X:Cx}{pins:MR}{σ:St}{H:Hp}{s:MZ}{W:RC}
def Ca (I:Inv X pins σ H s) (hK:W.K=X.K):∀ {n:Nat}{x y:PV}{b:Bool}{v:V}{N M N' M':MY},fj n x y=some b->qe W N M H x v->qe W N' M' H y v->b=true:=by
 have fl:∀ {x y:PV}{b:Bool}{v:V}{N M N' M':MY},E7 x y=some b->qe W N M H x v->qe W N' M' H y v->b=true:=by
  intro x y b v N M N' M' h h1 h2
  unfold E7 at h
  cases ex:toV x with
  | none=>rw [ex] at h;cases h
  | some a=>
   cases ey:toV y with
   | none=>rw [ex,ey] at h;cases h
   | some c=>
    rw [ex,ey] at h
    obtain ⟨e1,f1⟩:=W7 h1 ex
    obtain ⟨e2,_⟩:=W7 h2 ey
    cases h
    rw [<- e1] at f1 ⊢;rw [<- e2]
    cases v <;> first | rfl | (cases f1;done) | (simp [eqV];done)
 intro n
 induction n with
 | zero=>intro x y b v N M N' M' h;exact fl (by cases x <;> cases y <;> exact h)
 | succ n ih=>
  have its:∀ {xs ys:Nj}{vs:Nb}{b:Bool}{M M':MY},tO (fj n) xs ys=some b->yt W M H xs vs->yt W M' H ys vs->b=true:=by
   intro xs
   induction xs with
   | nil=>intro ys vs b M M' h h1 h2;cases (show _=_ from h1);cases ys with
    | nil=>cases h;rfl
    | cons y ys=>obtain ⟨_,_,e,_⟩:=h2;cases e
   | cons x xs ihx=>
    intro ys vs b M M' h h1 h2
    obtain ⟨v,r,rfl,hx,hr⟩:=h1
    cases ys with
    | nil=>cases (show _=_ from h2)
    | cons y ys=>
     obtain ⟨v',r',e,hy,hr'⟩:=h2
     cases e
     obtain ⟨p,q,hp,hq,rfl⟩:=JP h
     rw [ih hp (qe.iff.mpr hx) (qe.iff.mpr hy),ihx hq hr hr'];rfl
  intro x y b v N M N' M' h h1 h2
  cases x with
  | l xs=>
   cases y with
   | l ys=>
    obtain ⟨p,vs,rfl,_,e,r⟩:=h1
    obtain ⟨p',vs',e2,_,e',r'⟩:=h2
    cases e2
    rw [e] at e';cases e'
    exact its h r r'
   | _=>exact fl h h1 h2
  | t xs=>
   cases y with
   | t ys=>
    obtain ⟨p,vs,rfl,e,r⟩:=h1
    obtain ⟨p',vs',e2,e',r'⟩:=h2
    cases e2
    rw [hK] at e e'
    cases I.cY e e'
    exact its h r r'
   | _=>exact fl h h1 h2
  | _=>exact fl (by cases y <;> exact h) h1 h2
def As (ry:RelV y u) (rx:RelV x v) (fy:Wa y=true) (fx:Wa x=true):SeqAt.RcAt A s u v (eqV y x)/\SeqAt.RcNeAt A s u v (!eqV y x):=by
 cases y with
 | non=>
  cases ry
  cases x with
  | non=>cases rx;exact ⟨SeqAt.RcAt.none_none,SeqAt.RcNeAt.none_none⟩
  | bl b=>cases rx;exact ⟨SeqAt.RcAt.none_bool b,SeqAt.RcNeAt.none_bool b⟩
  | int b=>obtain ⟨t,rfl⟩:=rx;exact ⟨SeqAt.RcAt.none_int b t,SeqAt.RcNeAt.none_int b t⟩
  | str b=>obtain ⟨t,rfl⟩:=rx;exact ⟨SeqAt.RcAt.none_str b t,SeqAt.RcNeAt.none_str b t⟩
  | _=>exact absurd (show false=true from fx) O3
 | bl a=>
  cases ry
  cases x with
  | non=>cases rx;exact ⟨SeqAt.RcAt.bool_none a,SeqAt.RcNeAt.bool_none a⟩
  | bl b=>cases rx;exact ⟨SeqAt.RcAt.bool_bool a b,SeqAt.RcNeAt.bool_bool a b⟩
  | int b=>obtain ⟨t,rfl⟩:=rx;exact ⟨SeqAt.RcAt.bool_int a b t,SeqAt.RcNeAt.bool_int a b t⟩
  | str b=>obtain ⟨t,rfl⟩:=rx;exact ⟨SeqAt.RcAt.bool_str a b t,SeqAt.RcNeAt.bool_str a b t⟩
  | _=>exact absurd (show false=true from fx) O3
 | int a=>
  obtain ⟨t',rfl⟩:=ry
  cases x with
  | non=>cases rx;exact ⟨SeqAt.RcAt.int_none a t',SeqAt.RcNeAt.int_none a t'⟩
  | bl b=>cases rx;exact ⟨SeqAt.RcAt.int_bool a t' b,SeqAt.RcNeAt.int_bool a t' b⟩
  | int b=>obtain ⟨t,rfl⟩:=rx;exact ⟨SeqAt.RcAt.int_int a t' b t,SeqAt.RcNeAt.int_int a t' b t⟩
  | str b=>obtain ⟨t,rfl⟩:=rx;exact ⟨SeqAt.RcAt.int_str a t' b t,SeqAt.RcNeAt.int_str a t' b t⟩
  | _=>exact absurd (show false=true from fx) O3
 | str a=>
  obtain ⟨t',rfl⟩:=ry
  cases x with
  | non=>cases rx;exact ⟨SeqAt.RcAt.str_none a t',SeqAt.RcNeAt.str_none a t'⟩
  | bl b=>cases rx;exact ⟨SeqAt.RcAt.str_bool a t' b,SeqAt.RcNeAt.str_bool a t' b⟩
  | int b=>obtain ⟨t,rfl⟩:=rx;exact ⟨SeqAt.RcAt.str_int a t' b t,SeqAt.RcNeAt.str_int a t' b t⟩
  | str b=>obtain ⟨t,rfl⟩:=rx;exact ⟨SeqAt.RcAt.str_str a t' b t,SeqAt.RcNeAt.str_str a t' b t⟩
  | _=>exact absurd (show false=true from fx) O3
 | _=>exact absurd (show false=true from fy) O3
def bp (h:E7 x y=some b) (h1:qe W N M H x xv) (h2:qe W N' M' H y yv) (ru:RelV xv u) (rv:RelV yv v):
  SeqAt.EqAt A s u v b/\SeqAt.RcAt A s u v b/\SeqAt.RcNeAt A s u v (!b):=by
 unfold E7 at h
 cases ex:toV x with
 | none=>rw [ex] at h;cases h
 | some a=>
  cases ey:toV y with
  | none=>rw [ex,ey] at h;cases h
  | some c=>
   rw [ex,ey] at h
   cases h
   obtain ⟨rfl,f1⟩:=W7 h1 ex
   obtain ⟨rfl,f2⟩:=W7 h2 ey
   exact ⟨Aj ru rv f1 f2,(As ru rv f1 f2).1,(As ru rv f1 f2).2⟩
def Cb (I:Inv X pins σ H s) (hK:W.K=X.K):∀ (n:Nat) {A:Nt}{x y:PV}{b:Bool}{xv yv:V}{u v:Value}{N M N' M':MY},fj n x y=some b->qe W N M H x xv->qe W N' M' H y yv->RelV xv u->RelV yv v->A.units + n < cLine->
  SeqAt.EqAt A s u v b/\SeqAt.RcAt A s u v b/\SeqAt.RcNeAt A s u v (!b):=by
 intro n
 induction n with
 | zero=>intro A x y b xv yv u v N M N' M' h h1 h2 ru rv _;exact bp (by cases x <;> cases y <;> exact h) h1 h2 ru rv
 | succ n ih=>
  intro A x y b xv yv u v N M N' M' h h1 h2 ru rv hu
  have top:∀ {p q:Addr},u=.ref p->v=.ref q->xv=.ref p->yv=.ref q->SeqAt.RcAt A s u v b/\SeqAt.RcNeAt A s u v (!b)->SeqAt.EqAt A s u v b/\SeqAt.RcAt A s u v b/\SeqAt.RcNeAt A s u v (!b):=fun {p q} e1 e2 e3 e4 hr=>by
   refine ⟨?_,hr⟩
   by_cases c:p=q
   .subst c;rw [e1,e2]
    rw [Ca I hK h (e3 ▸ h1) (e4 ▸ h2)]
    exact SeqAt.EqAt.same _
   .rw [e1,e2] at hr ⊢;exact SeqAt.EqAt.of_refs c hr.1
  cases x with
  | l xs=>
   cases y with
   | l ys=>
    obtain ⟨p,vs,rfl,_,e,r⟩:=h1
    obtain ⟨p',vs',rfl,_,e',r'⟩:=h2
    cases ru;cases rv
    refine top rfl rfl rfl rfl ?_
    obtain ⟨us,r1,p1,_⟩:=I.list (SqL.of e)
    obtain ⟨ws,r2,p2,_⟩:=I.list (SqL.of e')
    have l1:us.toArray.size=xs.length:=by rw [O4,<- r1.length,r.len]
    have l2:ws.toArray.size=ys.length:=by rw [O4,<- r2.length,r'.len]
    by_cases hl:xs.length=ys.length
    .obtain ⟨f,hf,rfl⟩:=fT h
     rw [hl,a0Z,Bool.and_true,Nat.min_self,<- hl,<- l1]
     have it:=ic (A:=A.in1) (e:=f) (s:=s) r1 r2 fun j x y u v hx hy ru rv=>by
      obtain ⟨x',hx',rx'⟩:=r.DS hx
      obtain ⟨y',hy',ry'⟩:=r'.DS hy
      exact (ih (A:=A.in1) (hf j x' y' hx' hy') (qe.iff.mpr rx') (qe.iff.mpr ry') ru rv (by show A.units + 1 + n < cLine;omega)).1
     exact ⟨SeqAt.RcAt.lists p1.isList p2.isList (by rw [l1,l2,hl]) (by omega) it,SeqAt.RcNeAt.lists p1.isList p2.isList (by rw [l1,l2,hl]) (by omega) it⟩
    .rw [ik h hl]
     exact ⟨SeqAt.RcAt.lists_lengths p1.isList p2.isList (by rw [l1,l2];simpa using hl) (by omega),SeqAt.RcNeAt.lists_lengths p1.isList p2.isList (by rw [l1,l2];simpa using hl) (by omega)⟩
   | _=>exact bp h h1 h2 ru rv
  | t xs=>
   cases y with
   | t ys=>
    obtain ⟨p,vs,rfl,e,r⟩:=h1
    obtain ⟨p',vs',rfl,e',r'⟩:=h2
    cases ru;cases rv
    refine top rfl rfl rfl rfl ?_
    rw [hK] at e e'
    obtain ⟨us,r1,p1,_⟩:=I.tuple e
    obtain ⟨ws,r2,p2,_⟩:=I.tuple e'
    have l1:us.toArray.size=xs.length:=by rw [O4,<- r1.length,r.len]
    have l2:ws.toArray.size=ys.length:=by rw [O4,<- r2.length,r'.len]
    obtain ⟨f,hf,rfl⟩:=fT h
    have it:=ic (A:=A.in1) (e:=f) (s:=s) r1 r2 fun j x y u v hx hy ru rv=>by
     obtain ⟨x',hx',rx'⟩:=r.DS hx
     obtain ⟨y',hy',ry'⟩:=r'.DS hy
     exact (ih (A:=A.in1) (hf j x' y' hx' hy') (qe.iff.mpr rx') (qe.iff.mpr ry') ru rv (by show A.units + 1 + n < cLine;omega)).1
    rw [<- l1,<- l2]
    exact ⟨SeqAt.RcAt.tuples p1 p2 (by omega) it,SeqAt.RcNeAt.tuples p1 p2 (by omega) it⟩
   | _=>exact bp h h1 h2 ru rv
  | _=>exact bp (by cases y <;> exact h) h1 h2 ru rv
def E8 {es:Ng}{vs:NK}(r:KV es vs) {k:Key}{v:V}(h:Uu es k=some v):∃ u,valueAt vs k=some u/\RelV v u:=V8.some_of (v:=v) (o:=valueAt vs k) (by rw [<- h];exact KV.val r k)
def Cc {es:Ng}{vs:NK}(r:KV es vs) {k:Key}(h:Uu es k=none):valueAt vs k=none:=by
 have:=KV.val r k
 rw [h] at this
 cases e:valueAt vs k with
 | none=>rfl
 | some u=>rw [e] at this;exact this.elim
def fU (I:Inv X pins σ H s) (hK:W.K=X.K) {n:Nat}{A:Nt}(hu:A.units + n < cLine) {b:Nn}{eb:Ng}{vb:NK}{M M':MY}(rb:jK W M' H b eb) (kb:KV eb vb):
  ∀ {a:Nn}{ea:Ng}{va:NK}{r:Bool},jK W M H a ea->KV ea va->DT (fj n) b a=some r->KeqHits A s vb va r
 | [],_,_,_,h,k,e=>by cases (show _=_ from h);cases k;cases e;exact .nil
 | kx :: a,_,_,r,h,k,e=>by
  obtain ⟨v,q,rfl,h1,h2⟩:=h
  cases k with
  | @cons _ u _ us rr kk=>
   obtain ⟨k',u⟩:=u
   obtain ⟨e1,ru⟩:=rr
   cases e1
   unfold DT at e
   cases hy:zS b kx.1 with
   | none=>rw [hy] at e;cases e;exact .miss (Cc kb (rb.Ha hy))
   | some y=>
    rw [hy] at e
    obtain ⟨p,q,hp,hq,rfl⟩:=JP e
    obtain ⟨yv,hyv,ry⟩:=rb.get hy
    obtain ⟨yu,hyu,ryu⟩:=E8 kb hyv
    exact .hit hyu (Cb I hK n hp (qe.iff.mpr h1) (qe.iff.mpr ry) ru ryu hu).1 (fU I hK hu rb kb h2 kk hq)
end
def Iq (W:RC) (neg:Bool):R2:=fun xv yv H Q=>∃ M x y b,qe W (fun _=>True) M H x xv/\qe W (fun _=>True) M H y yv/\DU 8 x y=some b/\Q (.bl (xor neg b)) H
def oH:(∃ a b,x=.d a/\y=.d b)\/DU n x y=fj n x y:=by
 cases x with
 | d a=>cases y with
  | d b=>exact .inl ⟨a,b,rfl,rfl⟩
  | _=>exact .inr rfl
 | _=>exact .inr rfl
def Au (hK:W.K=X.K) (hu:X.A.units + 64 < cLine):OpR X (compareOp .Eq) (Iq W false):=by
 intro pins s σ H xv yv u v Q I ru rv h
 obtain ⟨M,x,y,b,h1,h2,e,q⟩:=h
 rw [a1h] at q
 rcases oH (n:=8) (x:=x) (y:=y) with ⟨a,c,rfl,rfl⟩ | z
 .obtain ⟨p,es,rfl,_,ha,ra⟩:=h1
  obtain ⟨p',es',rfl,_,hb,rb⟩:=h2
  cases ru;cases rv
  obtain ⟨_,na,va,ka,da⟩:=QF I.hok ha
  obtain ⟨_,nb,vb,kb,db⟩:=QF I.hok hb
  have l1:va.length=a.length:=by rw [<- a0K ka];have:=S0 List.length (jK.iff.mp ra).1;simpa using this
  have l2:vb.length=c.length:=by rw [<- a0K kb];have:=S0 List.length (jK.iff.mp rb).1;simpa using this
  have e:(if a.length=c.length then DT (fj 8) c a else some false)=some b:=e
  by_cases hl:a.length=c.length
  .rw [if_pos hl] at e
   refine keq_eq na nb da db (by omega) (fun _=>fU I hK (A:=X.A.in1) (by show X.A.units + 1 + 8 < cLine;omega) rb kb ra ka e) ?_
   rw [l1,l2,hl,a0Z,a2N]
   exact ⟨.bl b,H,I,rfl,q⟩
  .rw [if_neg hl] at e
   cases e
   refine keq_eq (r:=false) na nb da db (by omega) (fun z=>absurd (by rw [<- l1,<- l2,z]) hl) ?_
   rw [a2A]
   exact ⟨.bl false,H,I,rfl,q⟩
 .rw [z] at e
  exact (Cb I hK 8 e h1 h2 ru rv (by omega)).2.1 _ _ _ _ ⟨.bl b,H,I,rfl,q⟩
def E9 (hK:W.K=X.K) (hu:X.A.units + 64 < cLine):OpR X (compareOp .NotEq) (Iq W true):=by
 intro pins s σ H xv yv u v Q I ru rv h
 obtain ⟨M,x,y,b,h1,h2,e,q⟩:=h
 rw [a1O] at q
 rcases oH (n:=8) (x:=x) (y:=y) with ⟨a,c,rfl,rfl⟩ | z
 .obtain ⟨p,es,rfl,_,ha,ra⟩:=h1
  obtain ⟨p',es',rfl,_,hb,rb⟩:=h2
  cases ru;cases rv
  obtain ⟨_,na,va,ka,da⟩:=QF I.hok ha
  obtain ⟨_,nb,vb,kb,db⟩:=QF I.hok hb
  have l1:va.length=a.length:=by rw [<- a0K ka];have:=S0 List.length (jK.iff.mp ra).1;simpa using this
  have l2:vb.length=c.length:=by rw [<- a0K kb];have:=S0 List.length (jK.iff.mp rb).1;simpa using this
  have e:(if a.length=c.length then DT (fj 8) c a else some false)=some b:=e
  by_cases hl:a.length=c.length
  .rw [if_pos hl] at e
   refine keq_ne na nb da db (by omega) (fun _=>fU I hK (A:=X.A.in1) (by show X.A.units + 1 + 8 < cLine;omega) rb kb ra ka e) ?_
   rw [l1,l2,hl,a0Z,a2N]
   exact ⟨.bl (!b),H,I,rfl,q⟩
  .rw [if_neg hl] at e
   cases e
   refine keq_ne (r:=false) na nb da db (by omega) (fun z=>absurd (by rw [<- l1,<- l2,z]) hl) ?_
   rw [a2A]
   exact ⟨.bl (!false),H,I,rfl,q⟩
 .rw [z] at e
  exact (Cb I hK 8 e h1 h2 ru rv (by omega)).2.2 _ _ _ _ ⟨.bl (!b),H,I,rfl,q⟩
def JQ (neg:Bool) (x y:PV):Out PV:=match DU 8 x y with | some b=>.ok (.b (xor neg b)) | none=>.wall
def oI:Lf2 W (Iq W neg) (JQ neg):=fun M C B H x y v u Q n hx hy q=>by
 unfold JQ at q
 cases e:DU 8 x y with
 | none=>rw [e] at q;exact q.elim
 | some b=>rw [e] at q;exact ⟨M,x,y,b,hx,hy,e,q _ H (zE.refl _) rfl⟩
def Ir (hu:X.A.units + 64 < cLine) (h1:EM X C S w1 a m1) (h2:EM X C S w2 b m2):EM X C S false (.Compare a [.Eq] [b] pos) (mOp (JQ false) m1 m2):=fun hK=>ie (Au hK.symm hu) oI h1 h2 (aY _ (by decide) (by decide)) hK
def oJ (hu:X.A.units + 64 < cLine) (h1:EM X C S w1 a m1) (h2:EM X C S w2 b m2):TM X C S (.Compare a [.Eq] [b] pos) (yK (mOp (JQ false) m1 m2)):=fun hK=>yN (Au hK.symm hu) oI h1 h2 (aY _ (by decide) (by decide)) hK
def Cd (hu:X.A.units + 64 < cLine) (h1:EM X C S w1 a m1) (h2:EM X C S w2 b m2):TM X C S (.Compare a [.NotEq] [b] pos) (yK (mOp (JQ true) m1 m2)):=fun hK=>yN (E9 hK.symm hu) oI h1 h2 (aY _ (by decide) (by decide)) hK
def inP (v:V):List PV->Option Bool
 | []=>some false
 | y :: r=>match toV y,inP v r with
  | some u,some b=>some (eqV u v || b)
  | _,_=>none
def oK {W:RC}{M:MY}{H:Hp}{v:V}:∀ {ys:Nj}{vs:Nb}{b:Bool},yt W M H ys vs->inP v ys=some b->vs.all Wa=true/\inV v vs=b
 | [],_,_,h,e=>by cases (show _=_ from h);cases e;exact ⟨rfl,rfl⟩
 | y :: ys,_,b,h,e=>by
  obtain ⟨u,r,rfl,h1,h2⟩:=h
  unfold inP at e
  cases hy:toV y with
  | none=>rw [hy] at e;cases e
  | some u'=>
   cases hr:inP v ys with
   | none=>rw [hy,hr] at e;cases e
   | some b'=>
    rw [hy,hr] at e
    cases e
    obtain ⟨rfl,f⟩:=W7 (qe.iff.mpr h1) hy
    obtain ⟨f2,e2⟩:=oK h2 hr
    exact ⟨by rw [a2M,f,f2];rfl,by unfold inV at e2 ⊢;rw [T7,e2]⟩
def Hb (K:Ny) (neg:Bool):R2:=fun x y H Q=>(rIn K neg x y H Q\/∃ i j,x=.str i/\y=.str j/\Q (.bl (xor neg (!(Builtin.Str.occurrences j i 0 j.length 1).isEmpty))) H)\/∃ a o,y=.ref a/\fh H a x o/\Q (.bl (xor neg o.isSome)) H
def Av (hu:X.A.units + 1 < cLine):OpR X (compareOp .In) (Hb X.K false):=by
 intro pins s σ H x y v u Q I rx ry h
 rcases h with (h | ⟨i,j,e1,e2,q⟩) | ⟨a,o,rfl,g,q⟩
 .exact nZ pins s σ H x y v u Q I rx ry h
 .exact nQ pins s σ H x y v u Q I rx ry ⟨i,j,e1,e2,by rw [a1h] at q;exact q⟩
 .obtain rfl:u=Value.ref a:=ry
  exact Mw hu I g rx fun s3 I3=>⟨.bl o.isSome,H,I3,rfl,by rw [a1h] at q;exact q⟩
def dB (hu:X.A.units + 1 < cLine):OpR X (compareOp .NotIn) (Hb X.K true):=by
 intro pins s σ H x y v u Q I rx ry h
 rcases h with (h | ⟨i,j,e1,e2,q⟩) | ⟨a,o,rfl,g,q⟩
 .exact de pins s σ H x y v u Q I rx ry h
 .exact df pins s σ H x y v u Q I rx ry ⟨i,j,e1,e2,by rw [a1O] at q;exact q⟩
 .obtain rfl:u=Value.ref a:=ry
  exact BS hu I g rx fun s3 I3=>⟨.bl (!o.isSome),H,I3,rfl,by rw [a1O] at q;exact q⟩
def pIn (neg:Bool):PV->PV->Out PV
 | x,.l ys=>v7 (((toV x).bind fun v=>inP v ys).map fun b=>.b (xor neg b))
 | x,.t ys=>v7 (((toV x).bind fun v=>inP v ys).map fun b=>.b (xor neg b))
 | .s i,.s j=>.ok (.b (xor neg (!(Builtin.Str.occurrences j i 0 j.length 1).isEmpty)))
 | x,.d kvs=>v7 ((pk x).map fun k=>.b (xor neg (zS kvs k).isSome))
 | _,_=>.wall
def oM:(if neg=true then !b else b)=xor neg b:=by cases neg <;> simp
def E_:Lf2 W (Hb W.K neg) (pIn neg):=fun M C B H x y v u Q n hx hy q=>by
 unfold pIn at q
 split at q
 .obtain ⟨z,e,q⟩:=qq q
  obtain ⟨b,hb,rfl⟩:=M3.mp e
  obtain ⟨xv,hxv,hb⟩:=O8.mp hb
  obtain ⟨p,vs,rfl,_,hl,r⟩:=hy
  obtain ⟨rfl,f⟩:=W7 hx hxv
  obtain ⟨f2,e2⟩:=oK r hb
  exact .inl (.inl ⟨p,vs,rfl,.inl (SqL.of hl),f,f2,by rw [e2,oM];exact q _ H (zE.refl _) rfl⟩)
 .obtain ⟨z,e,q⟩:=qq q
  obtain ⟨b,hb,rfl⟩:=M3.mp e
  obtain ⟨xv,hxv,hb⟩:=O8.mp hb
  obtain ⟨p,vs,rfl,hl,r⟩:=hy
  obtain ⟨rfl,f⟩:=W7 hx hxv
  obtain ⟨f2,e2⟩:=oK r hb
  exact .inl (.inl ⟨p,vs,rfl,.inr hl,f,f2,by rw [e2,oM];exact q _ H (zE.refl _) rfl⟩)
 .exact .inl (.inr ⟨_,_,hx,hy,q _ H (zE.refl _) rfl⟩)
 .obtain ⟨z,e,q⟩:=qq q
  obtain ⟨k,hk,rfl⟩:=M3.mp e
  obtain ⟨p,es,rfl,_,hl,r⟩:=hy
  exact .inr ⟨p,_,rfl,by rw [W6 hx hk];exact fh.rk hl,by rw [r.MH];exact q _ H (zE.refl _) rfl⟩
 .exact q.elim
section
variable {X:Cx}{C:LC}{S:MV}{e a b:Nh}{es:Nc}{w w1 w2:Bool}{ws:Nf}{m m1 m2:ME}{ms:MA}{pos p:Pos}{x:Str}
def Fb (hu:X.A.units + 1 < cLine) (h1:EM X C S w1 a m1) (h2:EM X C S w2 b m2) (hm:behindInMarks .In b=false:=by with_unfolding_all rfl):TM X C S (.Compare a [.In] [b] pos) (yK (mOp (pIn false) m1 m2)):=fun hK=>yN (Av hu) (by rw [hK];exact E_) h1 h2 hm hK
def WJ (hu:X.A.units + 1 < cLine) (h1:EM X C S w1 a m1) (h2:EM X C S w2 b m2) (hm:behindInMarks .NotIn b=false:=by with_unfolding_all rfl):TM X C S (.Compare a [.NotIn] [b] pos) (yK (mOp (pIn true) m1 m2)):=fun hK=>yN (dB hu) (by rw [hK];exact E_) h1 h2 hm hK
def uG (W:RC) (M:MY) (H:Hp):List PV->List V->Prop
 | [],vs=>vs=[]
 | x :: xs,vs=>∃ v r,vs=v :: r/\qe W (fun _=>True) M H x v/\uG W M H xs r
def RVs.weak {B:Bs}{P:Na}{H:Hp}:∀ {ws:Nf}{xs:Nj}{vs:Nb},RVs C B S P H ws xs vs->uG C.W (Mof B S P) H xs vs
 | [],_,_,⟨e1,e2⟩=>by subst e1;subst e2;rfl
 | w :: ws,_,_,⟨x,v,xr,vr,e1,e2,h1,h2⟩=>by subst e1;subst e2;exact ⟨v,vr,rfl,h1.weak,RVs.weak h2⟩
def LfC (W:RC) (r:List V->Hp->VK->Prop) (p:Nl):Prop:=∀ (M:MY) (C:LC) (B:Bs) H xs vs Q,New M H->uG W M H xs vs->yi C B H (Rep W M) Q (p xs)->r vs H Q
def LfF (W:RC) (r:List V->Hp->VK->Prop) (p:Nl):Prop:=∀ (M:MY) (C:LC) (B:Bs) H xs vs Q,New M H->uG W M H xs vs->yi C B H (RFr W M H) Q (p xs)->r vs H Q
def zm (g:Nl) (ms:MA):ME:=fun ρ=>(ms ρ).bind g
def Iu (L:LfC C.W r g) (h:LA C S ws ta ms):LE C S false (tCB r ta) (zm g ms):=fun B P H σ ρ R Q q=>
 h B P H σ ρ R _ (qt q fun xs vs H1 s1 r1 q1=>L _ C B H1 xs vs Q (R.keep s1).new r1.weak (RV.eq ▸ q1))
def Ju (h:yi C B H (RFr W M H) Q o) (s:zE H H2):yi C B H2 (RFr W M H2) Q o:=by
 cases o with
 | ok x=>exact fun v H3 s3 hx=>h v H3 (s.trans s3) (let ⟨p,e,hp,hr⟩:=hx;⟨p,e,zE.none s hp,hr⟩)
 | exc c fs=>exact h
 | wall=>exact h
def Zy (h:yi C B H (RFr W M H) Q (o.bind f)) (k:∀ r v H2,zE H H2->R' H2 r v->yi C B H2 (RFr W M H2) Q (f r)->Q' v H2):mq C B H R' Q' o:=by
 cases o with
 | ok r=>exact fun v H2 s hr=>k r v H2 s hr (Ju (o:=f r) h s)
 | exc c fs=>exact h
 | wall=>exact h
def fV (h:yi C B H (RFr W M H) Q (o.bind f)) (k:∀ r v H2,zE H H2->R' H2 r v->yi C B H2 (RFr W M H2) Q (f r)->Q' v H2):yi C B H R' Q' o:=by
 cases o with
 | ok r=>exact fun v H2 s hr=>k r v H2 s hr (Ju (o:=f r) h s)
 | exc c fs=>exact h
 | wall=>exact h
def Fc (L:LfF C.W r g) (h:LA C S ws ta ms):LFr C S (tCB r ta) (zm g ms):=fun B P H σ ρ R Q q=>
 h B P H σ ρ R _ (Zy q fun xs vs H1 s1 r1 q1=>L _ C B H1 xs vs Q (R.keep s1).new r1.weak q1)
def il {id:String}{r:List V->Hp->VK->Prop}{g:Nl}(hc:X.K=C.W.K->Yu X (.builtin id) r) (L:LfC C.W r g) (hg:Gl X x) (hm:X.mg x=none) (hv:bootBuiltins x=some (.builtin id)) (ha:AM X C S ws (e :: es) ms) (hn:x ≠ "__name__" := by decide) (hdb:(x == ("__debug__" : Str))=false:=by decide)
  (he:starEach (e :: es) X.env=(false,eval e X.env) :: starEach es X.env:=by rfl) (hpl:(backTo pos (starEach es X.env)).any (·.1)=false:=by rfl):EM X C S false (.Call (.Name x p) (e :: es) [] pos) (zm g ms):=fun hK=>by
 obtain ⟨ta,a1,a2⟩:=ha hK
 exact ⟨_,g8 (hc hK) hg hm hv a1 hn hdb he hpl,Iu L a2⟩
def ip {id:String}{r:List V->Hp->VK->Prop}{g:Nl}(hc:X.K=C.W.K->Yu X (.type id) r) (L:LfF C.W r g) (hg:Gl X x) (hm:X.mg x=none) (hv:bootBuiltins x=some (.type id)) (ha:AM X C S ws (e :: es) ms) (hn:x ≠ "__name__" := by decide) (hdb:(x == ("__debug__" : Str))=false:=by decide)
  (he:starEach (e :: es) X.env=(false,eval e X.env) :: starEach es X.env:=by rfl) (hpl:(backTo pos (starEach es X.env)).any (·.1)=false:=by rfl):FM X C S (.Call (.Name x p) (e :: es) [] pos) (zm g ms):=fun hK=>by
 obtain ⟨ta,a1,a2⟩:=ha hK
 exact ⟨_,nY (hc hK) hg hm hv a1 hn hdb he hpl,Fc L a2⟩
end
def Ze:List PV->Out PV
 | [.l xs]=>.ok (.i xs.length)
 | [.t xs]=>.ok (.i xs.length)
 | [.sc xs]=>.ok (.i xs.length)
 | [.d xs]=>.ok (.i xs.length)
 | [.s z]=>if z.length<=sizeLine then .ok (.i z.length) else .wall
 | _=>.wall
def jK.len (h:jK W M H a es):es.length=a.length:=by have:=S0 List.length (jK.iff.mp h).1;simpa using this
def Fd (K:Ny):List V->Hp->VK->Prop:=fun xs H Q=>(∃ x n,xs=[x]/\Lu K x H n/\Q (.int n) H)\/∃ a kvs,xs=[V.ref a]/\Rd H a (.dK kvs)/\Q (.int kvs.length) H
def oN:Yu X (.builtin "len") (fun xs H Q=>∃ a kvs,xs=[V.ref a]/\Rd H a (.dK kvs)/\Q (.int kvs.length) H):=by
 intro pins s σ H xs us Q I r h
 obtain ⟨a,kvs,rfl,e,q⟩:=h
 obtain ⟨u,rfl,ru⟩:=vals1 r
 cases ru
 exact HY I e fun t s' I'=>⟨.int _,H,I',⟨t,rfl⟩,q⟩
def Fe:LfC W (Fd W.K) Ze:=fun M C B H xs vs Q n h q=>by
 unfold Ze at q
 split at q
 .obtain ⟨v,r,rfl,⟨p,vs,rfl,_,hl,rr⟩,hr⟩:=h
  cases (show _=_ from hr)
  exact .inl ⟨_,vs.length,rfl,.inl ⟨vs,SqL.of hl,rfl⟩,q _ H (zE.refl _) (by rw [rr.len];rfl)⟩
 .obtain ⟨v,r,rfl,⟨p,vs,rfl,hl,rr⟩,hr⟩:=h
  cases (show _=_ from hr)
  exact .inl ⟨_,vs.length,rfl,.inr ⟨vs,hl,rfl⟩,q _ H (zE.refl _) (by rw [rr.len];rfl)⟩
 .obtain ⟨v,r,rfl,⟨p,rfl,hl⟩,hr⟩:=h
  cases (show _=_ from hr)
  exact .inl ⟨_,_,rfl,.inl ⟨_,hl.sq,rfl⟩,q _ H (zE.refl _) (by rw [u8];rfl)⟩
 .obtain ⟨v,r,rfl,⟨p,es,rfl,_,hl,rr⟩,hr⟩:=h
  cases (show _=_ from hr)
  exact .inr ⟨_,es,rfl,hl,q _ H (zE.refl _) (by rw [rr.len];rfl)⟩
 .split at q
  .rename_i hz
   obtain ⟨v,r,rfl,hx,hr⟩:=h
   cases (show _=_ from hr)
   cases (show _=_ from hx)
   exact .inl ⟨_,_,rfl,⟨hz,rfl⟩,q _ H (zE.refl _) rfl⟩
  .exact q.elim
 .exact q.elim
def qQ (hg:Gl X "len") (hm:X.mg "len" = none) (ha:AM X C S ws [e] ms) (he:starEach [e] X.env=[(false,eval e X.env)]:=by rfl):EM X C S false (.Call (.Name "len" p) [e] [] pos) (zm Ze ms):=
 il (r:=Fd C.W.K) (fun hK=>hK ▸ t4.or oN) Fe hg hm PySem.boot_len ha (he:=he)
def Ce:List PV->Out PV
 | [.l xs]=>.ok (.l xs)
 | [.t xs]=>.ok (.l xs)
 | [.sc xs]=>.ok (.l (xs.map PV.i))
 | _=>.wall
def Vu (r:yt W M H xs vs) (hl:H l=none):RFr W M H (upd H l (.lst vs)) (.l xs) (.ref l):=
 ⟨l,rfl,hl,vs,zh,(r.sub fun a m n=>⟨m,fun z=>n (z ▸ hl)⟩).same (zE.upd hl)⟩
def Cf (r:jK W M H xs vs) (hl:H l=none):RFr W M H (upd H l (.dK vs)) (.d xs) (.ref l):=
 ⟨l,rfl,hl,vs,zh,(r.sub fun a m n=>⟨m,fun z=>n (z ▸ hl)⟩).same (zE.upd hl)⟩
def Cg:LfF W (fun xs H Q=>∃ p ys,xs=[.ref p]/\(SqL W.K H p ys\/SqT W.K H p ys)/\∀ l,H l=none->Q (.ref l) (upd H l (.lst ys))) Ce:=fun M C B H xs vs Q n h q=>by
 unfold Ce at q
 split at q
 .obtain ⟨v,r,rfl,⟨p,vs,rfl,_,hl,rr⟩,hr⟩:=h
  cases (show _=_ from hr)
  exact ⟨p,vs,rfl,.inl (SqL.of hl),fun l hl=>q _ _ (zE.upd hl) (Vu rr hl)⟩
 .obtain ⟨v,r,rfl,⟨p,vs,rfl,hl,rr⟩,hr⟩:=h
  cases (show _=_ from hr)
  exact ⟨p,vs,rfl,.inr hl,fun l hl=>q _ _ (zE.upd hl) (Vu rr hl)⟩
 .obtain ⟨v,r,rfl,⟨p,rfl,hl⟩,hr⟩:=h
  cases (show _=_ from hr)
  exact ⟨p,_,rfl,.inl hl.sq,fun l hl=>q _ _ (zE.upd hl) (Vu yt.ints hl)⟩
 .exact q.elim
def toI:PV->Option Int
 | .i a=>some a
 | _=>none
def Aw:List PV->Option (List Int)
 | []=>some []
 | x :: r=>match toI x,Aw r with | some a,some b=>some (a :: b) | _,_=>none
def oO {W:RC}{M:MY}{H:Hp}:∀ {xs:Nj}{vs:Nb}{ns:Nz},yt W M H xs vs->Aw xs=some ns->vs=ns.map V.int
 | [],_,_,h,e=>by cases (show _=_ from h);cases e;rfl
 | x :: xs,_,ns,h,e=>by
  obtain ⟨v,r,rfl,h1,h2⟩:=h
  unfold Aw at e
  cases x with
  | i a=>
   cases hr:Aw xs with
   | none=>rw [hr] at e;cases e
   | some b=>rw [hr] at e;cases e;rw [N9,<- oO h2 hr,(show v=_ from h1)]
  | _=>cases e
def iq:∀ {ns:Nz},Aw (ns.map PV.i)=some ns
 | []=>rfl
 | n :: ns=>by show (match toI (.i n),Aw (ns.map PV.i) with | some a,some b=>some (a :: b) | _,_=>none)=_;rw [iq];rfl
def mw:List Int->Int
 | []=>0
 | [a]=>a
 | a :: r=>max a (mw r)
def bq:∀ {ns:Nz},ns≠[]->mw ns∈ns
 | [],h=>absurd rfl h
 | [a],_=>by simp [mw]
 | a :: b :: r,_=>by
  have ih:=bq (ns:=b :: r) (by simp)
  show max a (mw (b :: r))∈_
  rcases Int.le_total a (mw (b :: r)) with h | h
  .rw [Int.max_eq_right h];exact M9 _ ih
  .rw [Int.max_eq_left h];exact v4
def oP:∀ {ns:Nz}{a:Int},a∈ns->a<=mw ns
 | [],_,h=>by cases h
 | [b],a,h=>by simp at h;subst h;exact a0h _
 | b :: c :: r,a,h=>by
  show a<=max b (mw (c :: r))
  rcases O5.mp h with rfl | h
  .exact Int.le_max_left ..
  .exact Int.le_trans (oP h) (Int.le_max_right ..)
def Ax:List PV->Out PV
 | [.i a,.i b]=>.ok (.i (max a b))
 | [.l xs]=>v7 ((Aw xs).bind fun ns=>if ns=[] then none else some (.i (mw ns)))
 | _=>.wall
def Ff:LfC W (fun xs H Q=>(∃ i j,xs=[.int i,.int j]/\Q (.int (if j > i then j else i)) H)\/ER W.K xs H Q) Ax:=fun M C B H xs vs Q n h q=>by
 unfold Ax at q
 split at q
 .obtain ⟨v,r,rfl,hx,v2,r2,rfl,hx2,hr⟩:=h
  cases (show _=_ from hr);cases (show _=_ from hx);cases (show _=_ from hx2)
  exact .inl ⟨_,_,rfl,q _ H (zE.refl _) (by show V.int _=V.int _;congr 1;omega)⟩
 .obtain ⟨z,e,q⟩:=qq q
  obtain ⟨ns,hn,e⟩:=O8.mp e
  by_cases hz:ns=[]
  .rw [if_pos hz] at e;cases e
  .rw [if_neg hz] at e;cases e
   obtain ⟨v,r,rfl,⟨p,vs,rfl,_,hl,rr⟩,hr⟩:=h
   cases (show _=_ from hr)
   rw [oO rr hn] at hl
   refine .inr ⟨p,ns,rfl,SqL.of hl,hz,fun M hM hM2=>?_⟩
   have:M=mw ns:=Int.le_antisymm (oP hM) (hM2 _ (bq hz))
   rw [this];exact q _ H (zE.refl _) rfl
 .exact q.elim
def oQ (hc:X.calm=true) (hg:Gl X "max") (hm:X.mg "max" = none) (ha:AM X C S ws (e :: es) ms) (he:starEach (e :: es) X.env=(false,eval e X.env) :: starEach es X.env:=by rfl) (hpl:(backTo pos (starEach es X.env)).any (·.1)=false:=by rfl):EM X C S false (.Call (.Name "max" p) (e :: es) [] pos) (zm Ax ms):=
 il (fun hK=>hK ▸ (nS hc).or (oy hc)) Ff hg hm PyProof.Rows.boot_max ha (he:=he) (hpl:=hpl)
def jM (W:RC) (M:MY) (H:Hp):List Bool->List PV->List V->Prop
 | [],xs,vs=>xs=[]/\vs=[]
 | w :: ws,xs,vs=>∃ x v xr vr,xs=x :: xr/\vs=v :: vr/\qe W (if w=true then fun _=>True else M) M H x v/\jM W M H ws xr vr
def RVs.args {C:LC}{B:Bs}{S:MV}{P:Na}{H:Hp}:∀ {ws:Nf}{xs:Nj}{vs:Nb},RVs C B S P H ws xs vs->jM C.W (Mof B S P) H ws xs vs
 | [],_,_,h=>h
 | w :: ws,_,_,⟨x,v,xr,vr,e1,e2,h1,h2⟩=>⟨x,v,xr,vr,e1,e2,h1,RVs.args h2⟩
def jM.len {W:RC}{M:MY}{H:Hp}:∀ {ws:Nf}{xs:Nj}{vs:Nb},jM W M H ws xs vs->vs.length=ws.length/\xs.length=ws.length
 | [],_,_,⟨e1,e2⟩=>by subst e1;subst e2;exact ⟨rfl,rfl⟩
 | w :: ws,_,_,⟨x,v,xr,vr,e1,e2,h1,h2⟩=>by
  subst e1;subst e2
  exact ⟨by rw [v0,v0,(jM.len h2).1],by rw [v0,v0,(jM.len h2).2]⟩
def jM.same {W:RC}{M:MY}{H H':Hp}(s:zE H H'):∀ {ws:Nf}{xs:Nj}{vs:Nb},jM W M H ws xs vs->jM W M H' ws xs vs
 | [],_,_,h=>h
 | w :: ws,_,_,⟨x,v,xr,vr,e1,e2,h1,h2⟩=>⟨x,v,xr,vr,e1,e2,h1.same s,jM.same s h2⟩
def RtV (W:RC) (fr:Bool) (M:MY) (H H2:Hp) (r:PV) (v:V):Prop:=if fr=true then RFr W (fun a=>M a\/H a=none) H H2 r v else Rep W (fun a=>M a\/H a=none) H2 r v
def Iv (W:RC) (fr:Bool) (M:MY) (H:Hp) (Q:VK) (E:XK):Out PV->Prop
 | .ok r=>∀ v H2,zE H H2->RtV W fr M H H2 r v->Q v H2
 | .exc c fs=>∀ e dx es H2,zE H H2->H2 e=some (XC e (W.cls c) dx)->H2 dx=some (XD dx es)->kW W (fun a=>M a\/H a=none) H2 fs es->E (.ref e) (some dx) H2
 | .wall=>False
def lsp (W:RC) (fr:Bool) (ws:Nf) (g:Nl):Sp:=fun vs H Q E=>∃ M xs,jM W M H ws xs vs/\Iv W fr M H Q E (g xs)
def Ci {W:RC}{fr:Bool}{ws:Nf}{g:Nl}{n:Nat}(h:ws.length=n):∀ vs H Q E,lsp W fr ws g vs H Q E->vs.length=n:=fun vs H Q E ⟨M,xs,a,_⟩=>a.len.1.trans h
def RFr.sub (h:RFr W M H H2 x v) (s:∀ a,M a->M' a):RFr W M' H H2 x v:=by
 obtain ⟨p,e,hp,h⟩:=h
 exact ⟨p,e,hp,h.gen rfl Fr.refl fun a m _=>⟨s a m.1,m.2⟩⟩
section
variable {X:Cx}{C:LC}{S:MV}{e a b o:Nh}{es:Nc}{w w1 w2 fr:Bool}{ws:Nf}{m m1 m2:ME}{ms:MA}{pos p kA:Pos}{x mn:Str}{k:Nat}{f:Addr}{fd:Nr}{ps:MX}{g:Nl}
def oR (R:Rel C.W B S P H σ ρ) (q:XPo C B c fs):∀ e dx es H2,zE H H2->H2 e=some (XC e (C.W.cls c) dx)->H2 dx=some (XD dx es)->kW C.W (fun a=>Mof B S P a\/H a=none) H2 fs es->C.E (.ref e) (some dx) H2:=
 fun e dx es H2 s h1 h2 h3=>q e dx es H2 (R.same.trans s) h1 h2 (h3.sub fun a m _=>m.elim (fun m=>m.1.1) fun n=>.inr (zE.none R.same n))
def Ay {B:Bs}{P:Na}{H:Hp}{σ:St}{ρ:Sto}{Q:VK}{o:Out PV}(R:Rel C.W B S P H σ ρ) (q:yi C B H (RV C B S P false) Q o):Iv C.W fr (Mof B S P) H Q C.E o:=by
 have sM:∀ a,(Mof B S P a\/H a=none)->Mof B S P a:=fun a m=>m.elim id fun n=>R.new a n
 cases o with
 | ok r=>
  intro v H2 s hr
  refine q v H2 s (RV.of ?_)
  unfold RtV at hr
  cases fr with
  | true=>rw [if_pos rfl] at hr;exact (hr.sub sM).rep R.new
  | false=>rw [if_neg O3] at hr;exact hr.sub fun a m _=>sM a m
 | exc c fs=>exact oR R q
 | wall=>exact q
def oU {B:Bs}{P:Na}{H:Hp}{σ:St}{ρ:Sto}{Q:VK}{o:Out PV}(R:Rel C.W B S P H σ ρ) (q:yi C B H (RFr C.W (Mof B S P) H) Q o):Iv C.W true (Mof B S P) H Q C.E o:=by
 have sM:∀ a,(Mof B S P a\/H a=none)->Mof B S P a:=fun a m=>m.elim id fun n=>R.new a n
 cases o with
 | ok r=>
  intro v H2 s hr
  unfold RtV at hr
  rw [if_pos rfl] at hr
  exact q v H2 s (hr.sub sM)
 | exc c fs=>exact oR R q
 | wall=>exact q
def zp (F:y3 X.prog X.w X.K X.mg X.base (CXe X.prog X.w) k f fd ps (lsp C.W fr ws g)) (hr:k_ k X.A) (hg:Gl X x) (hm:X.mg x=some (.ref f)) (hk:keepIn X.K (.ref f)=true) (hb:Binds X.K fd ps []) (hx:Passes (CXe X.prog X.w) X C.E) (ha:AM X C S ws (e :: es) ms)
  (hdb:(x == ("__debug__" : Str))=false:=by decide) (he:starEach (e :: es) X.env=(false,eval e X.env) :: starEach es X.env:=by rfl) (hpl:(backTo pos (starEach es X.env)).any (·.1)=false:=by rfl):EM X C S false (.Call (.Name x p) (e :: es) [] pos) (zm g ms):=fun hK=>by
 obtain ⟨ta,a1,a2⟩:=ha hK
 refine ⟨_,fz F hr hg hm hk hb .nil hx a1 hdb he hpl,fun B P H σ ρ R Q q=>a2 B P H σ ρ R _ (qt q fun xs vs H1 s1 r1 q1=>?_)⟩
 rw [O9]
 exact ⟨_,xs,r1.args,Ay (R.keep s1) q1⟩
def W8 (F:y3 X.prog X.w X.K X.mg X.base (CXe X.prog X.w) k f fd ps (lsp C.W true ws g)) (hr:k_ k X.A) (hg:Gl X x) (hm:X.mg x=some (.ref f)) (hk:keepIn X.K (.ref f)=true) (hb:Binds X.K fd ps []) (hx:Passes (CXe X.prog X.w) X C.E) (ha:AM X C S ws (e :: es) ms)
  (hdb:(x == ("__debug__" : Str))=false:=by decide) (he:starEach (e :: es) X.env=(false,eval e X.env) :: starEach es X.env:=by rfl) (hpl:(backTo pos (starEach es X.env)).any (·.1)=false:=by rfl):FM X C S (.Call (.Name x p) (e :: es) [] pos) (zm g ms):=fun hK=>by
 obtain ⟨ta,a1,a2⟩:=ha hK
 refine ⟨_,fz F hr hg hm hk hb .nil hx a1 hdb he hpl,fun B P H σ ρ R Q q=>a2 B P H σ ρ R _ (Zy q fun xs vs H1 s1 r1 q1=>?_)⟩
 rw [O9]
 exact ⟨_,xs,r1.args,oU (R.keep s1) q1⟩
def JR (cs:MV) (f:Str) (m:ME):ME:=fun ρ=>(m ρ).bind fun x=>match x with
 | .o c fs=>if c∈cs then v7 (fs.lookup f) else .wall
 | _=>.wall
def fW (cs:MV) (f:Str) (m:ME):ME:=fun ρ=>(m ρ).bind fun x=>match x with
 | .x c fs=>if c∈cs then v7 (fs.lookup f) else .wall
 | _=>.wall
def Zh (h:EM X C S w e m) (hc:∀ c∈cs,Cls X.K (C.W.cls c)/\kQ X.K (C.W.cls c) fn) (hb:attributeBase e fn X.env (eval e X.env)=eval e X.env:=by rfl):EM X C S false (.Attribute e fn pos) (JR cs fn m):=fun hK=>by
 obtain ⟨te,a1,a2⟩:=h hK
 refine ⟨_,Ae a1 hb,fun B P H σ ρ R Q q=>a2 B P H σ ρ R _ (yw q fun x v H1 s1 r1 q1=>?_)⟩
 cases x with
 | o c fs=>
  obtain ⟨p,dx,es,rfl,_,hp,hf⟩:=r1
  by_cases hcs:c∈cs
  .have q1:yi C B H1 (RV C B S P false) Q (if c∈cs then v7 (fs.lookup fn) else .wall):=q1
   rw [if_pos hcs] at q1
   obtain ⟨y,e,q1⟩:=qq q1
   obtain ⟨v,hv,rv⟩:=hf.lookup e
   exact ⟨p,_,dx,es,v,rfl,hp,(hc c hcs).1,(hc c hcs).2,hv,q1 v H1 (zE.refl _) (RV.of rv)⟩
  .have q1:yi C B H1 (RV C B S P false) Q (if c∈cs then v7 (fs.lookup fn) else .wall):=q1
   rw [if_neg hcs] at q1
   exact q1.elim
 | _=>exact q1.elim
def fX (h:EM X C S w e m) (hc:∀ c∈cs,Zu X.K (C.W.cls c)/\findIn X.K (.ref (C.W.cls c)) fn=some none) (hb:attributeBase e fn X.env (eval e X.env)=eval e X.env:=by rfl):EM X C S false (.Attribute e fn pos) (fW cs fn m):=fun hK=>by
 obtain ⟨te,a1,a2⟩:=h hK
 refine ⟨_,B0 a1 hb,fun B P H σ ρ R Q q=>a2 B P H σ ρ R _ (yw q fun x v H1 s1 r1 q1=>?_)⟩
 cases x with
 | x c fs=>
  obtain ⟨p,dx,es,rfl,hp,hd,hf⟩:=r1
  by_cases hcs:c∈cs
  .have q1:yi C B H1 (RV C B S P false) Q (if c∈cs then v7 (fs.lookup fn) else .wall):=q1
   rw [if_pos hcs] at q1
   obtain ⟨y,e,q1⟩:=qq q1
   obtain ⟨v,hv,rv⟩:=hf.lookup e
   exact ⟨p,_,dx,es,v,rfl,(hc c hcs).1,(hc c hcs).2,.inl hp,hd,hv,q1 v H1 (zE.refl _) (RV.of rv)⟩
  .have q1:yi C B H1 (RV C B S P false) Q (if c∈cs then v7 (fs.lookup fn) else .wall):=q1
   rw [if_neg hcs] at q1
   exact q1.elim
 | _=>exact q1.elim
def vi (tab:List (Nat × (List PV->Out PV))) (mn:Str) (m:ME) (ms:MA):ME:=fun ρ=>(m ρ).bind fun x=>match x with
 | .o c fs=>match tab.lookup c with
  | some g=>if (fs.lookup mn).isSome=true then .wall else (ms ρ).bind fun xs=>g (x :: xs)
  | none=>.wall
 | _=>.wall
def Iw (W:RC) (fr:Bool) (ws:Nf) (tab:List (Nat × (List PV->Out PV))) (K:Addr) (sp:Sp):Prop:=∃ q∈tab,K=W.cls q.1/\sp=lsp W fr (true :: ws) q.2
def lookup_mem {α:Type}:∀ {tab:List (Nat × α)}{c:Nat}{g:α},tab.lookup c=some g->(c,g)∈tab
 | [],_,_,h=>by cases h
 | q :: r,c,g,h=>by
  rw [R7] at h
  by_cases e:(c == q.1)=true
  .simp only [e] at h;cases h;rw [P7.mp e];exact v4
  .simp only [e] at h;exact M9 _ (lookup_mem h)
def oV {B:Bs}{P:Na}{H:Hp}{σ:St}{ρ:Sto}{Q:VK}{c:Nat}{fs:Np}{v:V}{tab:List (Nat × (List PV->Out PV))}{t:TA}(R:Rel C.W B S P H σ ρ) (r1:RV C B S P w H (.o c fs) v)
  (ht:∀ g,tab.lookup c=some g->fs.lookup mn=none->t σ H fun vs H2=>lsp C.W fr (true :: ws) g (v :: vs) H2 Q C.E)
  (q:(∃ g,tab.lookup c=some g/\fs.lookup mn=none)):∃ a dx es K sp,Iw C.W fr ws tab K sp/\v=.ref a/\H a=some (.ins K dx es)/\es.lookup mn=none/\t σ H fun vs H2=>sp (v :: vs) H2 Q C.E:=by
 obtain ⟨g,hg,hn⟩:=q
 have h:=ht g hg hn
 obtain ⟨p,dx,es,rfl,_,hp,hf⟩:=r1
 exact ⟨p,dx,es,_,_,⟨(c,g),lookup_mem hg,rfl,rfl⟩,rfl,hp,hf.oA hn,h⟩
def RVs.consW {B:Bs}{P:Na}{H:Hp}{x:PV}{v:V}{xs:Nj}{vs:Nb}(h:RV C B S P w H x v) (t:RVs C B S P H ws xs vs):jM C.W (Mof B S P) H (true :: ws) (x :: xs) (v :: vs):=⟨x,v,xs,vs,rfl,rfl,by rw [if_pos rfl];exact h.weak,t.args⟩
def vj (h:EM X C S w o m) (hal:∀ K sp,Iw C.W fr ws tab K sp->G8 X.prog X.w X.K X.mg X.base X.A mn K sp) (hx:Passes (CXe X.prog X.w) X C.E) (ha:AM X C S ws (e :: es) ms)
  (hst:starEach (e :: es) X.env=(false,eval e X.env) :: starEach es X.env:=by rfl) (hpl:(backTo pos (starEach es X.env)).any (·.1)=false:=by rfl)
  (ht:eval (.Call (.Attribute o mn kA) (e :: es) [] pos) X.env=(do
   let ov <- eval o X.env
   standAt kA.atName
   let (f,first) <- holding [ov] (getMethod ov mn pl)
   callWith pos f first (backTo pos (starEach (e :: es) X.env)) (backToKw pos (keywordEach [] X.env))):=by rfl):EM X C S false (.Call (.Attribute o mn kA) (e :: es) [] pos) (vi tab mn m ms):=fun hK=>by
 obtain ⟨to,o1,o2⟩:=h hK
 obtain ⟨ta,a1,a2⟩:=ha hK
 refine ⟨_,uA (pl:=pl) o1 hal hx a1 hst hpl ht,fun B P H σ ρ R Q q=>o2 B P H σ ρ R _ (yw q fun x v H1 s1 r1 q1=>?_)⟩
 cases x with
 | o c fs=>
  dsimp only at q1
  cases hg:tab.lookup c with
  | none=>rw [hg] at q1;exact q1.elim
  | some g=>
   rw [hg] at q1
   dsimp only at q1
   cases hn:fs.lookup mn with
   | some z=>rw [hn] at q1;exact q1.elim
   | none=>
    rw [hn] at q1
    have q1:yi C B H1 (RV C B S P false) Q ((ms ρ).bind fun xs=>g (.o c fs :: xs)):=q1
    refine oV (R.keep s1) r1 (fun g' hg' _=>?_) ⟨g,hg,hn⟩
    rw [hg] at hg';cases hg'
    exact a2 B P H1 σ ρ (R.keep s1) _ (qt q1 fun xs vs H2 s2 r2 q2=>⟨_,_,RVs.consW (RV.same r1 s2) r2,Ay ((R.keep s1).keep s2) q2⟩)
 | _=>exact q1.elim
def uH (h:EM X C S w o m) (hal:∀ K sp,Iw C.W true [] tab K sp->G8 X.prog X.w X.K X.mg X.base X.A mn K sp) (hx:Passes (CXe X.prog X.w) X C.E)
  (ht:eval (.Call (.Attribute o mn kA) [] [] pos) X.env=(do
   let ov <- eval o X.env
   standAt kA.atName
   let (f,first) <- holding [ov] (getMethod ov mn pl)
   callWith pos f first (backTo pos (starEach [] X.env)) (backToKw pos (keywordEach [] X.env))):=by rfl):FM X C S (.Call (.Attribute o mn kA) [] [] pos) (vi tab mn m zr):=fun hK=>by
 obtain ⟨to,o1,o2⟩:=h hK
 refine ⟨_,oz (pl:=pl) o1 hal hx ht,fun B P H σ ρ R Q q=>o2 B P H σ ρ R _ (fV q fun x v H1 s1 r1 q1=>?_)⟩
 cases x with
 | o c fs=>
  dsimp only at q1
  cases hg:tab.lookup c with
  | none=>rw [hg] at q1;exact q1.elim
  | some g=>
   rw [hg] at q1
   dsimp only at q1
   cases hn:fs.lookup mn with
   | some z=>rw [hn] at q1;exact q1.elim
   | none=>
    rw [hn] at q1
    refine oV (R.keep s1) r1 (fun g' hg' _=>?_) ⟨g,hg,hn⟩
    rw [hg] at hg';cases hg'
    exact ⟨_,_,RVs.consW (ws:=[]) r1 ⟨rfl,rfl⟩,oU (R.keep s1) q1⟩
 | _=>exact q1.elim
def erase (H:Hp) (x:Addr):Hp:=fun a=>if a=x then none else H a
def LH (W:RC) (M:MY) (H:Hp) (x:Addr) (Q:VK) (E:XK):Out PV->Prop
 | .ok r=>∀ H2,zE (erase H x) H2->bj W (fun a=>(M a\/erase H x a=none)/\a≠x) H2 x r->Q .non H2
 | .exc c fs=>∀ e dx es H2,zE (erase H x) H2->H2 e=some (XC e (W.cls c) dx)->H2 dx=some (XD dx es)->kW W (fun a=>M a\/erase H x a=none) H2 fs es->E (.ref e) (some dx) H2
 | .wall=>False
def Hc (W:RC) (c:Nat) (ws:Nf) (g:Nl):Sp:=fun vs H Q E=>∃ M x dx xs avs,vs=.ref x :: avs/\H x=some (.ins (W.cls c) dx [])/\jM W M (erase H x) ws xs avs/\LH W M H x Q E (g xs)
def uI (h:ws.length + 1=n):∀ vs H Q E,Hc W c ws g vs H Q E->vs.length=n:=fun vs H Q E ⟨M,x,dx,xs,avs,e,_,a,_⟩=>by rw [e,v0,a.len.1,h]
def oW {H:Hp}{x dx K:Addr}(hx:H x=none) (hd:H dx=none) (hne:dx≠x):zE H (erase (upd (upd H dx (.own x)) x (.ins K dx [])) x):=fun b o hb=>by
 unfold erase
 have n1:b≠x:=zX hb hx
 rw [if_neg n1,zj n1,zj (zX hb hd)];exact hb
def oX {H:Hp}{x dx K a:Addr}(hx:H x=none) (h:erase (upd (upd H dx (.own x)) x (.ins K dx [])) x a=none):H a=none:=by
 by_cases e:a=x
 .rw [e];exact hx
 .unfold erase at h
  rw [if_neg e,zj e] at h
  by_cases e2:a=dx
  .subst e2;rw [zh] at h;cases h
  .rwa [zj e2] at h
def oY (M:Mk X.K (C.W.cls c) f) (F:y3 X.prog X.w X.K X.mg X.base (CXe X.prog X.w) k f fd ps (Hc C.W c ws g)) (hr:k_ (k + 1) X.A) (hg:Gl X x) (hm:X.mg x=some (.ref (C.W.cls c))) (hb:Binds X.K fd ps []) (hx:Passes (CXe X.prog X.w) X C.E) (ha:AM X C S ws (e :: es) ms)
  (hdb:(x == ("__debug__" : Str))=false:=by decide) (he:starEach (e :: es) X.env=(false,eval e X.env) :: starEach es X.env:=by rfl) (hpl:(backTo pos (starEach es X.env)).any (·.1)=false:=by rfl):FM X C S (.Call (.Name x p) (e :: es) [] pos) (zm g ms):=fun hK=>by
 obtain ⟨ta,a1,a2⟩:=ha hK
 refine ⟨_,nW M F hr hg hm hb .nil hx a1 hdb he hpl,fun B P H σ ρ R Q q=>a2 B P H σ ρ R _ (Zy q fun xs vs H1 s1 r1 q1=>?_)⟩
 intro x dx hx hd hne
 rw [O9]
 have R1:=R.keep s1
 have sm:=oW (K:=C.W.cls c) hx hd hne
 refine ⟨_,x,dx,xs,vs,rfl,zh,r1.args.same sm, ?_⟩
 have sM:∀ a,(Mof B S P a\/erase (upd (upd H1 dx (.own x)) x (.ins (C.W.cls c) dx [])) x a=none)->Mof B S P a:=fun a m=>m.elim id fun n=>R1.new a (oX hx n)
 revert q1
 cases g xs with
 | ok r=>exact fun q1 H2 s2 hr=>⟨rfl,q1 _ H2 (sm.trans s2) ⟨x,rfl,hx,hr.gen rfl Fr.refl fun a m _=>⟨sM a m.1,m.2⟩⟩⟩
 | exc c fs=>exact fun q1 e dx' es H2 s2 h1 h2 h3=>q1 e dx' es H2 ((R1.same.trans sm).trans s2) h1 h2 (h3.sub fun a m _=>(sM a m).1.1)
 | wall=>exact id
inductive Kd where
 | int | str | bool | none | list | tuple | dict | obj (c:Nat) | exc (c:Nat)
 deriving DecidableEq
def kd:PV->Option Kd
 | .i _=>some .int | .s _=>some .str | .b _=>some .bool | .n=>some .none | .l _=>some .list | .t _=>some .tuple | .d _=>some .dict | .o c _=>some (.obj c) | .x c _=>some (.exc c)
 | .sc _=>Option.none
 | .dt _=>Option.none
def tyK (W:RC):Kd->Value
 | .int=>.type "int" | .str=>.type "str" | .bool=>.type "bool" | .none=>.type "NoneType" | .list=>.type "list" | .tuple=>.type "tuple" | .dict=>.type "dict" | .obj c=>.ref (W.cls c) | .exc c=>.ref (W.cls c)
def Hd (W:RC):Kd->Prop
 | .obj c=>Cls W.K (W.cls c)/\findIn W.K (.ref (W.cls c)) "__class__" = some (some (.builtin "object.__class__"))/\specialIn W.K (.builtin "object.__class__") "__get__" = some (some (.builtin "getset_descriptor.__get__"))/\takesIn W.K (.builtin "object.__class__")=some true/\mroIn W.K (W.cls c) (.type "object")=some true
 | .exc c=>Zu W.K (W.cls c)/\XIs W.K (W.cls c)
 | _=>True
def oZ (W:RC) (f:NW):List (Kd × Bool)->Prop
 | []=>True
 | q :: r=>(Hd W q.1/\f (tyK W q.1)=some q.2)/\oZ W f r
def oZ.get {W:RC}{f:NW}:∀ {tab:List (Kd × Bool)}{k:Kd}{b:Bool},oZ W f tab->tab.lookup k=some b->Hd W k/\f (tyK W k)=some b
 | [],_,_,_,h=>by cases h
 | q :: r,k,b,t,h=>by
  rw [R7] at h
  by_cases e:(k == q.1)=true
  .simp only [e] at h;cases h;rw [P7.mp e];exact t.1
  .simp only [e] at h;exact oZ.get t.2 h
def Az (tab:List (Kd × Bool)) (x:PV):Out PV:=v7 (((kd x).bind fun k=>tab.lookup k).map PV.b)
def MJ (W:RC) (f:NW) (cv:V):List V->Hp->VK->Prop:=fun vs H Q=>∃ (M:MY) (x:PV) (v:V) (k:Kd) (b:Bool),vs=[v,cv]/\qe W (fun _=>True) M H x v/\kd x=some k/\Hd W k/\f (tyK W k)=some b/\Q (.bl b) H
def Fg {pins:MR}{σ:St}{H:Hp}{s:MZ}{W:RC}{N M:MY}{x:PV}{v:V}{u:Value}{k:Kd}(hK:X.K=W.K) (I:Inv X pins σ H s) (h:qe W N M H x v) (ru:RelV v u) (hk:kd x=some k) (ok:Hd W k):∃ P,KitX X.K u (tyK W k) P/\P s.heap/\u≠.builtin "__main__.__loader__#opaque" := by
 cases x with
 | i a=>cases hk;exact fI I ru (.inl (by rw [(show v=_ from h)];exact .int a))
 | s a=>cases hk;exact fI I ru (.inl (by rw [(show v=_ from h)];exact .str a))
 | b a=>cases hk;exact fI I ru (.inl (by rw [(show v=_ from h)];exact .bl a))
 | n=>cases hk;exact fI I ru (.inl (by rw [(show v=_ from h)];exact .non))
 | l a=>cases hk;obtain ⟨p,vs,rfl,_,hl,_⟩:=h;exact fI I ru (.inl (.lst hl))
 | t a=>
  cases hk
  obtain ⟨p,vs,rfl,hl,_⟩:=h
  cases (show u=Value.ref p from ru)
  rw [<- hK] at hl
  obtain ⟨its,_,⟨o,h1,h2,_⟩,_⟩:=I.tuple hl
  exact ⟨_,kitx_tuple,⟨o,h1,h2⟩,fun z=>nomatch z⟩
 | d a=>cases hk;obtain ⟨p,vs,rfl,_,hl,_⟩:=h;cases (show u=Value.ref p from ru);obtain ⟨_,_,ws,_,dd⟩:=QF I.hok hl;obtain ⟨o,es,ep,h1,h2,_⟩:=dd;exact ⟨_,kitx_dict,⟨o,h1,h2.1⟩,fun z=>nomatch z⟩
 | o c a=>cases hk;obtain ⟨p,dx,es,rfl,_,hl,_⟩:=h;obtain ⟨o1,o2,o3,o4,o5⟩:=ok;rw [<- hK] at o1 o2 o3 o4 o5;exact fI I ru (.inl (.ins hl o1 o2 o3 o4 o5))
 | x c a=>cases hk;obtain ⟨p,dx,es,rfl,hl,hd,_⟩:=h;obtain ⟨o1,o2⟩:=ok;rw [<- hK] at o1 o2;exact fI I ru (.inr ⟨p,_,dx,es,rfl,rfl,o1,o2,.inl hl,hd⟩)
 | sc a=>cases hk
 | dt a=>cases hk
def uJ (hK:X.K=W.K) (hc:Ij cv=some cl):Yu X (.builtin "isinstance") (MJ W (fun t=>kitOne W.K t cl) cv):=by
 intro pins s σ H xs us Q I r h
 obtain ⟨M,x,v,k,b,rfl,hx,hk,ok,hb,q⟩:=h
 obtain ⟨u,c,rfl,rx,rc⟩:=vals2 r
 obtain ⟨P,kx,hP,hne⟩:=Fg hK I hx rx hk ok
 rw [uu rc hc]
 rw [<- hK] at hb
 exact kia_one kx I.kIn hP hb hne fun tk=>⟨.bl b,H,I.tok _,rfl,q⟩
def aq (hg:Gl X "isinstance") (hm:X.mg "isinstance" = none) (h:EM X C S w e m) (hc:PE X ce (tC cv)) (hcl:Ij cv=some cl) (tb:oZ C.W (fun t=>kitOne C.W.K t cl) tab)
  (he:starEach [e,ce] X.env=[(false,eval e X.env),(false,eval ce X.env)]:=by rfl) (he2:starEach [ce] X.env=[(false,eval ce X.env)]:=by rfl):EM X C S false (.Call (.Name "isinstance" p) [e,ce] [] pos) (mUn (Az tab) m):=fun hK=>by
 obtain ⟨te,a1,a2⟩:=h hK
 refine ⟨_,g8 (uJ hK hcl) hg hm PyProof.Rows.boot_isinstance (Yx a1 (Yx hc aj he2) (by rw [he,he2])) (by decide) (by decide) (by rw [he,he2]) (by rw [he2];rfl),fun B P H σ ρ R Q q=>a2 B P H σ ρ R _ (yw q fun x v H1 s1 r1 q1=>?_)⟩
 obtain ⟨z,ez,q1⟩:=qq q1
 obtain ⟨b,hb,rfl⟩:=M3.mp ez
 obtain ⟨k,hk,hb⟩:=O8.mp hb
 obtain ⟨ok,hv⟩:=tb.get hb
 exact ⟨_,x,v,k,b,rfl,r1.weak,hk,ok,hv,q1 _ H1 (zE.refl _) (RV.of rfl)⟩
abbrev MO:=Sto->Out (Option Int)
def LO (C:LC) (S:MV) (to:TO) (m:MO):Prop:=∀ B P H σ ρ,Rel C.W B S P H σ ρ->∀ Q:Option Int->Hp->Prop,(match m ρ with | .ok r=>∀ H2,zE H H2->Q r H2 | .exc c fs=>XPo C B c fs | .wall=>False)->to σ H Q
def OM (X:Cx) (C:LC) (S:MV) (e:NV) (m:MO):Prop:=X.K=C.W.K->∃ to,PO X e to/\LO C S to m
def Iy:MO:=fun _=>.ok none
def asI:PV->Out (Option Int)
 | .i a=>.ok (some a)
 | _=>.wall
def vW (m:ME):MO:=fun ρ=>(m ρ).bind asI
def Cj:OM X C S none Iy:=fun _=>⟨_,BK,fun B P H σ ρ R Q q=>q H (zE.refl _)⟩
def Zz (h:EM X C S w e m):OM X C S (some e) (vW m):=fun hK=>by
 obtain ⟨te,a1,a2⟩:=h hK
 refine ⟨_,BL a1,fun B P H σ ρ R Q q=>a2 B P H σ ρ R _ ?_⟩
 unfold vW at q
 revert q
 cases m ρ with
 | ok x=>
  intro q v H2 s r
  cases x with
  | i a=>exact ⟨a,r,q H2 s⟩
  | _=>exact q.elim
 | exc c fs=>exact id
 | wall=>exact id
def Ux {α:Type}(xs:List α) (lo hi:NO):List α:=(xs.drop (HT.sIx xs.length 0 lo)).take (HT.sIx xs.length xs.length hi - HT.sIx xs.length 0 lo)
def pSl:PV->Option Int->Option Int->Out PV
 | .l xs,lo,hi=>.ok (.l (Ux xs lo hi))
 | .sc ns,lo,hi=>.ok (.l ((Ux ns lo hi).map PV.i))
 | .s z,lo,hi=>if z.length<=sizeLine then .ok (.s (Txt.slice z lo hi)) else .wall
 | _,_,_=>.wall
def mSl (pp:PV->Option Int->Option Int->Out PV) (m:ME) (lo hi:MO):ME:=fun ρ=>(m ρ).bind fun x=>(lo ρ).bind fun l=>(hi ρ).bind fun h=>pp x l h
def uK {ns:Nz}{lo hi:NO}:Ah (ns.map V.int) lo hi=(Ux ns lo hi).map V.int:=by
 unfold Ah Ux;rw [u8,List.map_take,List.map_drop]
variable {lo hi:NV}{ml mh:MO}{p2:Pos}
def JS (h:EM X C S w e m) (hl:OM X C S lo ml) (hh:OM X C S hi mh):EM X C S false (.Subscript e (.Slice lo hi none p2) pos) (mSl pSl m ml mh):=fun hK=>by
 obtain ⟨te,a1,a2⟩:=h hK
 obtain ⟨tl,b1,b2⟩:=hl hK
 obtain ⟨th,c1,c2⟩:=hh hK
 refine ⟨_,ua (BQ.or EJ) a1 b1 c1,fun B P H σ ρ R Q q=>a2 B P H σ ρ R _ (yw q fun x v H1 s1 r1 q1=>b2 B P H1 σ ρ (R.keep s1) _ ?_)⟩
 revert q1
 cases ml ρ with
 | exc c fs=>exact id
 | wall=>exact id
 | ok l=>
  intro q1 H2 s2
  refine c2 B P H2 σ ρ ((R.keep s1).keep s2) _ ?_
  have q1:yi C B H1 (RV C B S P false) Q ((mh ρ).bind fun h=>pSl x l h):=q1
  have q1:=Zg q1 s2
  revert q1
  cases mh ρ with
  | exc c fs=>exact id
  | wall=>exact id
  | ok h=>
   intro q1 H3 s3
   have q1:=Zg (o:=pSl x l h) q1 s3
   have r3:=(r1.same s2).same s3
   have N3:=(((R.keep s1).keep s2).keep s3).new
   cases x with
   | l xs=>
    obtain ⟨p,vs,rfl,_,hp,rr⟩:=r3
    exact .inl ⟨p,vs,rfl,SqL.of hp,fun z hz=>q1 _ _ (zE.upd hz) (RV.of ((Vu rr.cut hz).rep N3))⟩
   | sc ns=>
    obtain ⟨p,rfl,hp⟩:=r3
    exact .inl ⟨p,_,rfl,hK ▸ hp.sq,fun z hz=>q1 _ _ (zE.upd hz) (by rw [uK];exact RV.of ((Vu yt.ints hz).rep N3))⟩
   | s z=>
    unfold pSl at q1
    by_cases hz:z.length<=sizeLine
    .simp only [hz,if_true] at q1
     exact .inr ⟨z,r3,hz,q1 _ H3 (zE.refl _) (RV.of rfl)⟩
    .simp only [hz,if_false] at q1;exact q1.elim
   | _=>exact q1.elim
end
def Ck (C:LC) (B:Bs) (H:Hp) (x:PV) (v:V):Prop:=if C.fr=true then RFr C.W B.Mt B.H0 H x v else Rep C.W B.Mt H x v
def ZA (C:LC) (B:Bs) (S' Sb Sc:MV) (D:Ends):Out Fw->Prop
 | .ok (.nx ρ')=>∀ P' H' σ',Rel C.W B S' P' H' σ' ρ'->D.nx σ' H'
 | .ok (.rt x)=>∀ v H',zE B.H0 H'->Ck C B H' x v->D.rt v H'
 | .ok (.bk ρ')=>∀ P' H' σ',Rel C.W B Sb P' H' σ' ρ'->D.bk σ' H'
 | .ok (.ct ρ')=>∀ P' H' σ',Rel C.W B Sc P' H' σ' ρ'->D.ct σ' H'
 | .exc c fs=>XPo C B c fs
 | .wall=>False
def LS (C:LC) (S S' Sb Sc:MV) (ts:TS) (m:MS):Prop:=∀ B P H σ ρ,Rel C.W B S P H σ ρ->∀ D,ZA C B S' Sb Sc D (m ρ)->ts D σ H
def SM (X:Cx) (C:LC) (S S' Sb Sc:MV) (st:NF) (m:MS):Prop:=X.K=C.W.K->∃ ts,PS X st ts/\LS C S S' Sb Sc ts m
def SsM (X:Cx) (C:LC) (S S' Sb Sc:MV) (st:Nx) (m:MS):Prop:=X.K=C.W.K->∃ ts,PSs X st ts/\LS C S S' Sb Sc ts m
def yA:MS:=fun ρ=>.ok (.nx ρ)
def yk (a b:MS):MS:=fun ρ=>(a ρ).bind fun f=>match f with
 | .nx ρ'=>b ρ'
 | .rt x=>.ok (.rt x)
 | .bk ρ'=>.ok (.bk ρ')
 | .ct ρ'=>.ok (.ct ρ')
def qW (i:Nat) (m:ME):MS:=fun ρ=>(m ρ).bind fun x=>.ok (.nx (ρ.set i (some x)))
def jv (m:ME):MS:=fun ρ=>(m ρ).bind fun _=>.ok (.nx ρ)
def vk (m:ME):MS:=fun ρ=>(m ρ).bind fun x=>.ok (.rt x)
def sIf (t:MT) (a b:MS):MS:=fun ρ=>(t ρ).bind fun c=>if c=true then a ρ else b ρ
section
variable {X:Cx}{C:LC}{S S' S1 Sb Sc:MV}{e a b o:Nh}{es:Nc}{w w1 w2:Bool}{ws:Nf}{m m1 m2:ME}{ms:MA}{t1:MT}{s1 s2:MS}{pos p pos':Pos}{x:Str}{st:NF}{sts stt:Nx}{i:Nat}
def ym:SsM X C S S Sb Sc [] yA:=fun _=>⟨_,nF,fun B P H σ ρ R D q=>q P H σ R⟩
def Fh (h1:LS C S S1 Sb Sc t s1) (h2:LS C S1 S' Sb Sc u s2):LS C S S' Sb Sc (Hw t u) (yk s1 s2):=fun B P H σ ρ R D q=>by
 refine h1 B P H σ ρ R _ ?_
 unfold yk at q
 revert q
 cases s1 ρ with
 | ok f=>
  cases f with
  | nx ρ'=>exact fun q P' H' σ' R'=>h2 B P' H' σ' ρ' R' D q
  | rt x=>exact id
  | bk ρ'=>exact id
  | ct ρ'=>exact id
 | exc c fs=>exact id
 | wall=>exact id
def zg (h1:SM X C S S1 Sb Sc st s1) (h2:SsM X C S1 S' Sb Sc sts s2):SsM X C S S' Sb Sc (st :: sts) (yk s1 s2):=fun hK=>by
 obtain ⟨t,a1,a2⟩:=h1 hK
 obtain ⟨u,b1,b2⟩:=h2 hK
 exact ⟨_,WG a1 b1,Fh a2 b2⟩
def zq (h1:SM X C S S' Sb Sc st s1):SsM X C S S' Sb Sc [st] s1:=fun hK=>by
 obtain ⟨t,a1,a2⟩:=h1 hK
 exact ⟨_,jP a1,a2⟩
def Fi (h:LE C S false te m):LS C S (S.set i 0) Sb Sc (DP te (ft i)) (qW i m):=fun B P H σ ρ R D q=>by
 refine h B P H σ ρ R _ ?_
 unfold qW at q
 revert q
 cases m ρ with
 | ok x=>exact fun q v H2 s r=>q P H2 _ ((R.keep s).set r.rep)
 | exc c fs=>exact id
 | wall=>exact id
def z_ (hN:X.N.Nodup) (hi:X.N[i]? = some x) (hx:Loc X.env.scope x) (h:EM X C S false e m) (hs:swapsWith e (some (.Name x pos')) pos.line X.env=pure false:=by rfl) (hf:X.fn x=true\/X.env.scope.names.lookup x=some .local:=by first | exact .inl rfl | exact .inr rfl | assumption):
  SM X C S (S.set i 0) Sb Sc (.Assign [.Name x pos'] e pos) (qW i m):=fun hK=>by
 obtain ⟨te,a1,a2⟩:=h hK
 exact ⟨_,nI hN hi hx a1 hs hf,Fi a2⟩
def Cm (h:LFr C S te m) (hl:i < S.length) (h0:i≠0):LS C S (S.set i 2) Sb Sc (DP te (ft i)) (qW i m):=fun B P H σ ρ R D q=>by
 refine h B P H σ ρ R _ ?_
 unfold qW at q
 revert q
 cases m ρ with
 | ok x=>exact fun q v H2 s ⟨p,e,hp,r⟩=>by subst e;exact q _ H2 _ (R.MD s hp hl h0 r)
 | exc c fs=>exact id
 | wall=>exact id
def KW (hN:X.N.Nodup) (hi:X.N[i]? = some x) (hx:Loc X.env.scope x) (h:FM X C S e m) (hl:i < S.length:=by decide) (h0:i≠0:=by decide) (hs:swapsWith e (some (.Name x pos')) pos.line X.env=pure false:=by rfl) (hf:X.fn x=true\/X.env.scope.names.lookup x=some .local:=by first | exact .inl rfl | exact .inr rfl | assumption):
  SM X C S (S.set i 2) Sb Sc (.Assign [.Name x pos'] e pos) (qW i m):=fun hK=>by
 obtain ⟨te,a1,a2⟩:=h hK
 exact ⟨_,nI hN hi hx a1 hs hf,Cm a2 hl h0⟩
def yH (h:EM X C S w e m) (hs:swapsWith e none pos.line X.env=pure false:=by rfl):SM X C S S Sb Sc (.Expr e pos) (jv m):=fun hK=>by
 obtain ⟨te,a1,a2⟩:=h hK
 refine ⟨_,aZ a1 hs,fun B P H σ ρ R D q=>a2 B P H σ ρ R _ ?_⟩
 unfold jv at q
 revert q
 cases m ρ with
 | ok x=>exact fun q v H2 s r=>q P H2 σ (R.keep s)
 | exc c fs=>exact id
 | wall=>exact id
def yX (h:EM X C S false e m) (hf:C.fr=false:=by rfl):SM X C S S' Sb Sc (.Return (some e) pos) (vk m):=fun hK=>by
 obtain ⟨te,a1,a2⟩:=h hK
 refine ⟨_,gY a1,fun B P H σ ρ R D q=>a2 B P H σ ρ R _ ?_⟩
 unfold vk at q
 revert q
 cases m ρ with
 | ok x=>exact fun q v H2 s r=>q v H2 (R.same.trans s) (by unfold Ck;rw [hf,if_neg O3];exact r.rep.sub fun a m _=>m.1.1)
 | exc c fs=>exact id
 | wall=>exact id
def Cn (h:FM X C S e m) (hf:C.fr=true:=by rfl):SM X C S S' Sb Sc (.Return (some e) pos) (vk m):=fun hK=>by
 obtain ⟨te,a1,a2⟩:=h hK
 refine ⟨_,gY a1,fun B P H σ ρ R D q=>a2 B P H σ ρ R _ ?_⟩
 unfold vk at q
 revert q
 cases m ρ with
 | ok x=>exact fun q v H2 s r=>q v H2 (R.same.trans s) (by
   unfold Ck;rw [if_pos hf]
   obtain ⟨p,e,hp,r⟩:=r
   exact ⟨p,e,zE.none R.same hp,r.gen rfl Fr.refl fun a m _=>⟨m.1.1.1,m.2⟩⟩)
 | exc c fs=>exact id
 | wall=>exact id
def W9 (h:PE X e (ng i)) (hi:S[i]? = some 2:=by rfl) (hf:C.fr=true:=by rfl):SM X C S S' Sb Sc (.Return (some e) pos) (vk (zc i)):=fun hK=>by
 refine ⟨_,gY h,fun B P H σ ρ R D q=>?_⟩
 unfold vk zc at q
 cases hρ:ρ[i]? with
 | none=>rw [hρ] at q;exact q.elim
 | some o=>
  cases o with
  | none=>rw [hρ] at q;exact q.elim
  | some y=>
   rw [hρ] at q
   obtain ⟨v,hv,h2,_,_⟩:=R.var i y hρ
   obtain ⟨rfl,ra⟩:=h2 hi
   refine ⟨_,hv,q _ H R.same ?_⟩
   unfold Ck;rw [if_pos hf]
   exact ⟨P i,rfl,(R.act i hi).1,ra.gen rfl Fr.refl fun a m _=>⟨m.1.1,fun z=>m.2 i hi z.symm⟩⟩
def qr (h:TM X C S c t1) (h1:SsM X C S S' Sb Sc sts s1) (h2:SsM X C S S' Sb Sc stt s2):SM X C S S' Sb Sc (.If c sts stt pos) (sIf t1 s1 s2):=fun hK=>by
 obtain ⟨tt,a1,a2⟩:=h hK
 obtain ⟨t,b1,b2⟩:=h1 hK
 obtain ⟨u,c1,c2⟩:=h2 hK
 refine ⟨_,Ee a1 b1 c1,fun B P H σ ρ R D q=>a2 B P H σ ρ R _ ?_⟩
 unfold sIf at q
 revert q
 cases t1 ρ with
 | ok k=>
  intro q H2 s
  cases k with
  | true=>exact BY (b2 B P H2 σ ρ (R.keep s) D q)
  | false=>exact BX (c2 B P H2 σ ρ (R.keep s) D q)
 | exc c fs=>exact id
 | wall=>exact id
def Rel.at2 (R:Rel W B S P H σ ρ) (hi:S[i]? = some 2) (e:ρ[i]? = some (some y)):σ[i]? = some (some (.ref (P i)))/\bj W (Mof B S P) H (P i) y/\i < ρ.length:=by
 obtain ⟨v,hv,h2,_,_⟩:=R.var i y e
 obtain ⟨rfl,ra⟩:=h2 hi
 exact ⟨hv,ra,(O2.mp e).1⟩
def Mof.wr {W:RC}{B:Bs}{P:Na}{H:Hp}{σ:St}{ρ:Sto}{o:HO}(R:Rel W B S P H σ ρ) (hi:S[i]? = some 2):Fr (Mof B S P) H (upd H (P i) o):=fun a q e m=>by
 obtain ⟨_,o0,e0,n0⟩:=R.act i hi
 have:a≠P i:=fun z=>by
  rcases m with m | m
  .exact m.2 i hi z.symm
  .rw [z,e0] at e;cases e;exact n0 m
 rw [zj this];exact e
def uL (i:Nat) (m:ME):MS:=fun ρ=>match ρ[i]? with
 | some (some (.l xs))=>(m ρ).bind fun y=>if xs.length < sizeLine then .ok (.nx (ρ.set i (some (.l (xs++[y]))))) else .wall
 | _=>.wall
def JT (ho:PE X o (ng i)) (h:EM X C S false e m) (hi:S[i]? = some 2:=by rfl) (tJ:attributeBase o "append" X.env (eval o X.env)=eval o X.env:=by rfl)
  (GZ:((backTo p (starEach [e] X.env)).all (fun x=>!x.1) && (backToKw p (keywordEach [] X.env)).all (fun x=>x.1.isSome) && decide ([e].length + ([]:List Keyword).length + (if ([]:List Keyword).isEmpty then 0 else 1) < 30))=true:=by rfl)
  (tI:(kA.endLine == p.line)=true:=by rfl) (hs:starEach [e] X.env=[(false,eval e X.env)]:=by rfl) (hsw:swapsWith (.Call (.Attribute o "append" kA) [e] [] p) none pos.line X.env=pure false:=by rfl):
  SM X C S S Sb Sc (.Expr (.Call (.Attribute o "append" kA) [e] [] p) pos) (uL i m):=fun hK=>by
 obtain ⟨te,a1,a2⟩:=h hK
 refine ⟨_,aZ (Es a2m a2b a2c WX ho (Yx a1 aj hs) tJ GZ tI hs rfl) hsw,fun B P H σ ρ R D q=>?_⟩
 unfold uL at q
 split at q
 .rename_i xs hx
  obtain ⟨hσ,⟨vs,hp,rr⟩,hl⟩:=R.at2 hi hx
  refine ⟨_,hσ,.inl ⟨rfl,_,SqL.of hp⟩,a2 B P H σ ρ R _ ?_⟩
  revert q
  cases m ρ with
  | ok y=>
   intro q v H2 s r
   have q:ZA C B S Sb Sc D (if xs.length < sizeLine then .ok (.nx (ρ.set i (some (.l (xs++[y]))))) else .wall):=q
   split at q
   .rename_i hz
    have R2:=R.keep s
    refine ⟨_,vs,v,rfl,rfl,s _ _ hp,by rw [rr.len];exact hz,q P _ σ (R2.wr hi hl hσ (by exact id) ?_)⟩
    have f:=Mof.wr (o:=.lst (vs++[v])) R2 hi
    exact ⟨_,zh,((rr.same s).append (.cons r.rep .nil)).gen f fun _ m _=>m⟩
   .exact q.elim
  | exc c fs=>exact id
  | wall=>exact id
 .exact q.elim
def dput {κ α:Type}[DecidableEq κ] (kvs:List (κ × α)) (k:κ) (v:α):List (κ × α):=
 if kvs.any (fun kv=>decide (kv.1=k))=true then kvs.map (fun kv=>if kv.1=k then (kv.1,v) else kv) else kvs++[(k,v)]
end
def jK.put (h:jK W M H a es) (hx:Rep W M H x v):jK W M H (dput a k x) (putK es k v):=by
 have key:∀ {a:Nn}{es:Ng},jK W M H a es->a.any (fun kv=>decide (kv.1=k))=es.any (fun kv=>decide (kv.1=k))/\jK W M H (a.map fun kv=>if kv.1=k then (kv.1,x) else kv) (es.map fun kv=>if kv.1=k then (kv.1,v) else kv)/\jK W M H (a++[(k,x)]) (es++[(k,v)]):=by
  intro a
  induction a with
  | nil=>intro es h;cases (show _=_ from h);exact ⟨rfl,rfl,v,[],rfl,hx,rfl⟩
  | cons kx a ih=>
   intro es h
   obtain ⟨u,q,rfl,h1,h2⟩:=h
   obtain ⟨i1,i2,i3⟩:=ih h2
   refine ⟨by rw [T7,T7,i1], ?_,⟨u,_,rfl,h1,i3⟩⟩
   rw [N9,N9]
   by_cases e:kx.1=k
   .rw [if_pos e,if_pos e];exact ⟨v,_,rfl,hx,i2⟩
   .rw [if_neg e,if_neg e];exact ⟨u,_,rfl,h1,i2⟩
 obtain ⟨i1,i2,i3⟩:=key h
 unfold dput putK
 rw [i1]
 split
 .exact i2
 .exact i3
section
variable {X:Cx}{C:LC}{S S' S1 Sb Sc:MV}{e a b o:Nh}{es:Nc}{w w1 w2:Bool}{ws:Nf}{m m1 m2:ME}{ms:MA}{t1:MT}{s1 s2:MS}{pos p pos':Pos}{x:Str}{st:NF}{sts stt:Nx}{i:Nat}
def Co (i:Nat) (mk mv:ME):MS:=fun ρ=>(mv ρ).bind fun v=>match ρ[i]? with
 | some (some (.d kvs))=>(mk ρ).bind fun y=>match pk y with
  | some k=>if kvs.length < sizeLine then .ok (.nx (ρ.set i (some (.d (dput kvs k v))))) else .wall
  | none=>.wall
 | _=>.wall
def AA (hu:X.A.units + 1 < cLine) (ho:PE X o (ng i)) (hk:EM X C S w a m1) (hv:EM X C S false e m2) (hi:S[i]? = some 2:=by rfl) (hs:swapsWith e (some (.Subscript o a pos')) pos.line X.env=pure false:=by rfl):
  SM X C S S Sb Sc (.Assign [.Subscript o a pos'] e pos) (Co i m1 m2):=fun hK=>by
 obtain ⟨ta,a1,a2⟩:=hk hK
 obtain ⟨tv,b1,b2⟩:=hv hK
 refine ⟨_,fF hu ho a1 b1 hs,fun B P H σ ρ R D q=>b2 B P H σ ρ R _ ?_⟩
 unfold Co at q
 revert q
 cases m2 ρ with
 | ok y=>
  intro q v H1 sm1 rv
  have R1:=R.keep sm1
  have q:ZA C B S Sb Sc D (match ρ[i]? with
   | some (some (.d kvs))=>(m1 ρ).bind fun z=>match pk z with
    | some k=>if kvs.length < sizeLine then .ok (.nx (ρ.set i (some (.d (dput kvs k y))))) else .wall
    | none=>.wall
   | _=>.wall):=q
  split at q
  .rename_i kvs hx
   obtain ⟨hσ,⟨es,hp,rr⟩,hl⟩:=R1.at2 hi hx
   refine ⟨_,hσ,a2 B P H1 σ ρ R1 _ ?_⟩
   revert q
   cases m1 ρ with
   | ok z=>
    intro q u H2 sm2 ru
    have R2:=R1.keep sm2
    have q:ZA C B S Sb Sc D (match pk z with
     | some k=>if kvs.length < sizeLine then .ok (.nx (ρ.set i (some (.d (dput kvs k y))))) else .wall
     | none=>.wall):=q
    split at q
    .rename_i k hk
     split at q
     .rename_i hz
      have hp2:=sm2 _ _ hp
      refine ⟨_,_,rfl,by rw [W6 ru.weak hk];exact uc.k hp2 (by rw [jK.len rr];exact hz),q P _ σ (R2.wr hi hl hσ (by exact id) ?_)⟩
      have f:=Mof.wr (o:=.dK (putK es k v)) R2 hi
      exact ⟨_,zh,((rr.same sm2).put (rv.rep.same sm2)).gen f fun _ m _=>m⟩
     .exact q.elim
    .exact q.elim
   | exc c fs=>exact id
   | wall=>exact id
  .exact q.elim
 | exc c fs=>exact id
 | wall=>exact id
def tQ (fs:Np) (f:Str) (v:PV):List (Str × PV):=match fs with
 | []=>[(f,v)]
 | kx :: r=>if kx.1=f then (f,v) :: r else kx :: tQ r f v
end
def kW.put {W:RC}{M:MY}{H:Hp}{f:Str}{x:PV}{v:V}(hx:Rep W M H x v):∀ {a:Np}{es:Nu},kW W M H a es->kW W M H (tQ a f x) (JL f v es)
 | [],_,h=>by cases (show _=_ from h);exact ⟨v,[],rfl,hx,rfl⟩
 | kx :: a,_,h=>by
  obtain ⟨u,q,rfl,h1,h2⟩:=h
  unfold tQ JL
  by_cases e:kx.1=f
  .rw [if_pos e,if_pos e,e];exact ⟨v,q,rfl,hx,h2⟩
  .rw [if_neg e,if_neg e];exact ⟨u,_,rfl,h1,kW.put hx h2⟩
def kW.len (h:kW W M H a es):es.length=a.length:=by have:=S0 List.length (kW.iff.mp h).1;simpa using this
section
variable {X:Cx}{C:LC}{S S' S1 Sb Sc:MV}{e a b o:Nh}{es:Nc}{w w1 w2:Bool}{ws:Nf}{m m1 m2:ME}{ms:MA}{t1:MT}{s1 s2:MS}{pos p pos':Pos}{x:Str}{st:NF}{sts stt:Nx}{i:Nat}
def fY (i:Nat) (cs:MV) (f:Str) (m:ME):MS:=fun ρ=>(m ρ).bind fun v=>match ρ[i]? with
 | some (some (.o c fs))=>if c∈cs/\fs.length < 1000 then .ok (.nx (ρ.set i (some (.o c (tQ fs f v))))) else .wall
 | _=>.wall
def o6 (ho:PE X o (ng i)) (hv:EM X C S false e m) (hc:∀ c∈cs,Cls X.K (C.W.cls c)/\kQ X.K (C.W.cls c) fn) (hi:S[i]? = some 2:=by rfl) (hs:swapsWith e (some (.Attribute o fn pos')) pos.line X.env=pure false:=by rfl):
  SM X C S S Sb Sc (.Assign [.Attribute o fn pos'] e pos) (fY i cs fn m):=fun hK=>by
 obtain ⟨tv,b1,b2⟩:=hv hK
 refine ⟨_,Af ho b1 hs,fun B P H σ ρ R D q=>b2 B P H σ ρ R _ ?_⟩
 unfold fY at q
 revert q
 cases m ρ with
 | ok y=>
  intro q v H1 sm1 rv
  have R1:=R.keep sm1
  have q:ZA C B S Sb Sc D (match ρ[i]? with
   | some (some (.o c fs))=>if c∈cs/\fs.length < 1000 then .ok (.nx (ρ.set i (some (.o c (tQ fs fn y))))) else .wall
   | _=>.wall):=q
  split at q
  .rename_i c fs hx
   split at q
   .rename_i hz
    obtain ⟨hσ,⟨dx,es,hp,rr⟩,hl⟩:=R1.at2 hi hx
    refine ⟨_,hσ,_,_,dx,es,rfl,hp,(hc c hz.1).1,(hc c hz.1).2,by rw [rr.len];exact hz.2,q P _ σ (R1.wr hi hl hσ (by exact id) ?_)⟩
    have f:=Mof.wr (o:=.ins (C.W.cls c) dx (JL fn v es)) R1 hi
    exact ⟨dx,_,zh,(kW.put rv.rep rr).gen f fun _ m _=>m⟩
   .exact q.elim
  .exact q.elim
 | exc c fs=>exact id
 | wall=>exact id
def Fj (i:Nat) (g:PV->PV->Out PV) (m:ME):MS:=fun ρ=>match ρ[i]? with
 | some (some x)=>(m ρ).bind fun y=>(g x y).bind fun z=>.ok (.nx (ρ.set i (some z)))
 | _=>.wall
def Cp (hN:X.N.Nodup) (hi:X.N[i]? = some x) (hx:Loc X.env.scope x) (h:EM X C S w e m) (ho:PIp X op (ipI f)) (hS:S[i]?≠some 2/\S[i]?≠some 1:=by decide) (hf:X.fn x=true\/X.env.scope.names.lookup x=some .local:=by first | exact .inl rfl | exact .inr rfl | assumption):
  SM X C S (S.set i 0) Sb Sc (.AugAssign (.Name x pos') op e pos) (Fj i (pI fun a b=>.i (f a b)) m):=fun hK=>by
 obtain ⟨te,a1,a2⟩:=h hK
 refine ⟨_,Ef hN hi hx a1 ho hf,fun B P H σ ρ R D q=>?_⟩
 unfold Fj at q
 split at q
 .rename_i y hy
  obtain ⟨v,hv,_,_,h4⟩:=R.var i y hy
  refine ⟨v,hv,a2 B P H σ ρ R _ ?_⟩
  have r0:=h4 hS.1 hS.2
  revert q
  cases m ρ with
  | ok z=>
   intro q u H2 s r
   have R2:=R.keep s
   have q:ZA C B (S.set i 0) Sb Sc D ((pI (fun a b=>.i (f a b)) y z).bind fun z=>.ok (.nx (ρ.set i (some z)))):=q
   cases y with
   | i a=>
    cases z with
    | i b=>exact ⟨a,b,r0,r,q P H2 _ (R2.set (x:=.i (f a b)) (v:=.int (f a b)) rfl)⟩
    | _=>exact q.elim
   | _=>exact q.elim
  | exc c fs=>exact id
  | wall=>exact id
 .exact q.elim
abbrev MG:=PV->Sto->Option Sto
def LG (C:LC) (S S':MV) (g:TG) (mg:MG):Prop:=∀ B P H σ ρ x v,Rel C.W B S P H σ ρ->Rep C.W (Mof B S P) H x v->∀ Q:St->Hp->Prop,(∃ ρ',mg x ρ=some ρ'/\∀ σ',Rel C.W B S' P H σ' ρ'->Q σ' H)->g v σ H Q
def GM (X:Cx) (C:LC) (S S':MV) (tg:Nh) (mg:MG):Prop:=X.K=C.W.K->∃ g,PG X tg g/\LG C S S' g mg
def gNm (i:Nat):MG:=fun x ρ=>some (ρ.set i (some x))
def zQ (hN:X.N.Nodup) (hi:X.N[i]? = some x) (hx:Loc X.env.scope x) (hf:X.fn x=true\/X.env.scope.names.lookup x=some .local:=by first | exact .inl rfl | exact .inr rfl | assumption):GM X C S (S.set i 0) (.Name x pos) (gNm i):=
 fun _=>⟨_,nG hN hi hx hf,fun B P H σ ρ x v R r Q ⟨ρ',e,k⟩=>by cases e;exact k _ (R.set r)⟩
abbrev MGs:=List PV->Sto->Option Sto
def LGs (C:LC) (S S':MV) (g:TGs) (mg:MGs):Prop:=∀ B P H σ ρ xs vs,Rel C.W B S P H σ ρ->yt C.W (Mof B S P) H xs vs->∀ Q:St->Hp->Prop,(∃ ρ',mg xs ρ=some ρ'/\∀ σ',Rel C.W B S' P H σ' ρ'->Q σ' H)->g vs σ H Q
def GsM (X:Cx) (C:LC) (S S':MV) (tgs:Nc) (mg:MGs):Prop:=X.K=C.W.K->∃ g,PGs X tgs g/\LGs C S S' g mg
def my:MGs:=fun xs ρ=>match xs with
 | []=>some ρ
 | _=>none
def jN (g:MG) (gs:MGs):MGs:=fun xs ρ=>match xs with
 | x :: r=>(g x ρ).bind fun ρ'=>gs r ρ'
 | []=>none
def dC:GsM X C S S [] my:=fun _=>⟨_,nH,fun B P H σ ρ xs vs R r Q ⟨ρ',e,k⟩=>by
 cases xs with
 | nil=>cases e;cases (show _=_ from r);exact ⟨rfl,k _ R⟩
 | cons x xs=>cases e⟩
def Mof.le {B:Bs}{S S':MV}{P:Na}(h:∀ j:Nat,S'[j]? = some 2->S[j]? = some 2) {a:Addr}(m:Mof B S P a):Mof B S' P a:=⟨m.1,fun j hj=>m.2 j (h j hj)⟩
def qu (h1:GM X C S S1 e g) (h2:GsM X C S1 S' es gs) (hS:∀ j:Nat,S1[j]? = some 2->S[j]? = some 2) (hs:(assignEach (e :: es) X.env).map (·.2)=assign e X.env :: (assignEach es X.env).map (·.2):=by rfl):GsM X C S S' (e :: es) (jN g gs):=fun hK=>by
 obtain ⟨t,a1,a2⟩:=h1 hK
 obtain ⟨u,b1,b2⟩:=h2 hK
 refine ⟨_,gZ a1 b1 hs,fun B P H σ ρ xs vs R r Q ⟨ρ',e,k⟩=>?_⟩
 cases xs with
 | nil=>cases e
 | cons x xs=>
  obtain ⟨v,vr,rfl,rx,rr⟩:=r
  have e:(g x ρ).bind (fun ρ'=>gs xs ρ')=some ρ':=e
  cases hg:g x ρ with
  | none=>rw [hg] at e;cases e
  | some ρ1=>
   rw [hg] at e
   exact ⟨v,vr,rfl,a2 B P H σ ρ x v R rx _ ⟨ρ1,hg,fun σ' R'=>b2 B P H σ' ρ1 xs vr R' (rr.sub fun a m _=>Mof.le hS m) Q ⟨ρ',e,k⟩⟩⟩
def gTp (n:Nat) (gs:MGs):MG:=fun x ρ=>match x with
 | .t xs=>if xs.length=n then gs xs ρ else none
 | _=>none
def dD (hc:X.calm=true) (h:GsM X C S S' es gs) (hn:(assignEach es X.env).length=n:=by rfl) (hst:(assignEach es X.env).findIdx? (·.1)=none:=by rfl):GM X C S S' (.Tuple es k pos) (gTp n gs):=fun hK=>by
 obtain ⟨t,a1,a2⟩:=h hK
 refine ⟨_,Aa hc a1 hn hst,fun B P H σ ρ x v R r Q ⟨ρ',e,k⟩=>?_⟩
 cases x with
 | t xs=>
  obtain ⟨p,vs,rfl,hp,rr⟩:=r
  have e:(if xs.length=n then gs xs ρ else none)=some ρ':=e
  by_cases hl:xs.length=n
  .rw [if_pos hl] at e
   exact ⟨p,vs,rfl,hK ▸ hp,by rw [rr.len];exact hl,a2 B P H σ ρ xs vs R rr Q ⟨ρ',e,k⟩⟩
  .rw [if_neg hl] at e;cases e
 | _=>cases e
def He (g:MG) (m:ME):MS:=fun ρ=>(m ρ).bind fun x=>(v7 (g x ρ)).bind fun ρ'=>.ok (.nx ρ')
def Fm (h:EM X C S false e m) (hg:GM X C S S' tg g) (hs:swapsWithSole [tg] e pos.line X.env=pure false:=by rfl) (hw:swappedStores [tg] e X.env=pure none:=by rfl) (h1:(assignEach [tg] X.env).map (·.2)=[assign tg X.env]:=by rfl):SM X C S S' Sb Sc (.Assign [tg] e pos) (He g m):=fun hK=>by
 obtain ⟨te,a1,a2⟩:=h hK
 obtain ⟨t,b1,b2⟩:=hg hK
 refine ⟨_,Ab a1 b1 hs hw h1,fun B P H σ ρ R D q=>a2 B P H σ ρ R _ ?_⟩
 unfold He at q
 revert q
 cases m ρ with
 | ok x=>
  intro q v H2 s r
  have q:ZA C B S' Sb Sc D ((v7 (g x ρ)).bind fun ρ'=>.ok (.nx ρ')):=q
  cases hgx:g x ρ with
  | some ρ1=>rw [hgx] at q;exact b2 B P H2 σ ρ x v (R.keep s) r.rep _ ⟨ρ1,hgx,fun σ' R'=>q P H2 σ' R'⟩
  | none=>rw [hgx] at q;exact q.elim
 | exc c fs=>exact id
 | wall=>exact id
def NA (B:Bs) (S:MV) (P:Na):Addr->Prop:=fun a=>¬ B.xc a/\∀ i,S[i]? = some 2->P i≠a
def Cq (W:RC) (M N:MY) (H2:Hp) (J:It) (xs:Nj):Prop:=∀ H',Fr N H2 H'->
 (∀ i x,xs[i]? = some x->J.go i H'/\∀ v H'',J.yld i H' v H''->zE H' H''/\∀ M':Addr->Prop,(∀ a,M a->H2 a≠none->M' a)->Rep W M' H'' x v)/\J.stop xs.length H'
abbrev MI:=Sto->Out (List PV)
def NAc (c:Bool) (B:Bs) (S:MV) (P:Na):Addr->Prop:=if c=true then fun _=>True else NA B S P
def o7 (C:LC) (B:Bs) (S:MV) (P:Na) (c:Bool) (H:Hp) (R:It->Hp->Prop):Out (List PV)->Prop
 | .ok xs=>∀ J H2,zE H H2->Cq C.W (Mof B S P) (NAc c B S P) H2 J xs->R J H2
 | .exc c fs=>XPo C B c fs
 | .wall=>False
def LI (C:LC) (S:MV) (c:Bool) (wi:TI) (mi:MI):Prop:=∀ B P H σ ρ,Rel C.W B S P H σ ρ->∀ R:It->Hp->Prop,o7 C B S P c H R (mi ρ)->wi σ H R
def IM (X:Cx) (C:LC) (S:MV) (c:Bool) (tg j9:Nh) (mi:MI):Prop:=X.K=C.W.K->∃ wi,PI X tg j9 wi/\LI C S c wi mi
def QG (g:MG) (b:MS):List PV->Sto->Out Fw
 | [],ρ=>.ok (.nx ρ)
 | x :: xs,ρ=>(v7 (g x ρ)).bind fun ρ1=>(b ρ1).bind fun f=>match f with
  | .nx ρ2=>QG g b xs ρ2
  | .ct ρ2=>QG g b xs ρ2
  | .bk ρ2=>.ok (.nx ρ2)
  | .rt v=>.ok (.rt v)
def Wd (mi:MI) (g:MG) (b:MS):MS:=fun ρ=>(mi ρ).bind fun xs=>QG g b xs ρ
end
open Classical in
def Bs.loop (B:Bs) (S:MV) (P:Na) (H:Hp) (hz:∀ a,B.N0 a->(¬ ((∃ i,S[i]? = some 2/\P i=a)\/B.xc a))/\H a≠none):Bs where
 H0:=fun a=>if (∃ i,S[i]? = some 2/\P i=a)\/B.xc a then none else H a
 M0:=B.Mt
 N0:=B.N0
 nz:=fun a h=>by rw [if_neg (hz a h).1];exact (hz a h).2
 pin:=B.pin
 xc:=B.xc
section
variable {W:RC}{B:Bs}{S S':MV}{P P':Na}{H H':Hp}{σ σ':St}{ρ ρ':Sto}
def Rel.hz (R:Rel W B S P H σ ρ):∀ a,B.N0 a->(¬ ((∃ i,S[i]? = some 2/\P i=a)\/B.xc a))/\H a≠none:=fun a h=>by
 have h0:=B.nz a h
 refine ⟨fun z=>z.elim (fun ⟨i,hi,e⟩=>h0 (e ▸ (R.act i hi).1)) (fun z=>h0 (R.exc a z).choose_spec.2.2),fun z=>?_⟩
 cases q:B.H0 a with
 | none=>exact h0 q
 | some o=>rw [R.same a o q] at z;cases z
def JU (R:Rel W B S P H σ ρ) (h:(B.loop S P H R.hz).H0 a=none):B.H0 a=none:=by
 cases q:B.H0 a with
 | none=>rfl
 | some o=>
  have n:¬ ((∃ i,S[i]? = some 2/\P i=a)\/B.xc a):=fun z=>z.elim (fun ⟨i,hi,e⟩=>by rw [<- e,(R.act i hi).1] at q;cases q) (fun z=>by rw [(R.exc a z).choose_spec.2.2] at q;cases q)
  unfold Bs.loop at h
  dsimp only at h
  rw [if_neg n,R.same a o q] at h;cases h
def W_ (R:Rel W B S P H σ ρ):zE B.H0 (B.loop S P H R.hz).H0:=fun a o h=>by
 have n:¬ ((∃ i,S[i]? = some 2/\P i=a)\/B.xc a):=fun z=>z.elim (fun ⟨i,hi,e⟩=>by rw [<- e,(R.act i hi).1] at h;cases h) (fun z=>by rw [(R.exc a z).choose_spec.2.2] at h;cases h)
 unfold Bs.loop;dsimp only;rw [if_neg n];exact R.same a o h
def br (R:Rel W B S P H σ ρ) (h:(B.loop S P H R.hz).Mt a):B.Mt a:=h.elim id fun z=>.inr (JU R z)
def Rel.loop (R:Rel W B S P H σ ρ):Rel W (B.loop S P H R.hz) S P H σ ρ:=by
 have sM:∀ a,Mof B S P a->H a≠none->Mof (B.loop S P H R.hz) S P a:=fun a m _=>⟨⟨.inl m.1.1,m.1.2⟩,m.2⟩
 refine ⟨fun a o h=>?_,R.len,fun i x e=>?_,fun i hi=>⟨?_,(R.act i hi).2⟩,R.inj,R.pin,fun a h=>?_,R.axc⟩
 .unfold Bs.loop at h;dsimp only at h
  split at h
  .cases h
  .exact h
 .obtain ⟨v,h1,h2,h3,h4⟩:=R.var i x e
  exact ⟨v,h1,fun z=>⟨(h2 z).1,(h2 z).2.gen rfl Fr.refl sM⟩,fun z=>(h3 z).sub (fun _ m _=>m) sM,fun z z'=>(h4 z z').sub sM⟩
 .unfold Bs.loop;dsimp only;rw [if_pos (.inl ⟨i,hi,rfl⟩)]
 .obtain ⟨o,e,n,_⟩:=R.exc a h
  exact ⟨o,e,n,by unfold Bs.loop;dsimp only;rw [if_pos (.inr h)]⟩
def Rel.AB (R:Rel W B S P H σ ρ) (R':Rel W (B.loop S P H R.hz) S' P' H' σ' ρ'):Rel W B S' P' H' σ' ρ':=by
 have sM:∀ a,Mof (B.loop S P H R.hz) S' P' a->H' a≠none->Mof B S' P' a:=fun a m _=>⟨⟨br R m.1.1,m.1.2⟩,m.2⟩
 refine ⟨(W_ R).trans R'.same,R'.len,fun i x e=>?_,fun i hi=>⟨JU R (R'.act i hi).1,(R'.act i hi).2⟩,R'.inj,R'.pin,fun a h=>let ⟨o,e,n⟩:=R'.exc a h;⟨o,e,n.1,JU R n.2⟩,R'.axc⟩
 obtain ⟨v,h1,h2,h3,h4⟩:=R'.var i x e
 exact ⟨v,h1,fun z=>⟨(h2 z).1,(h2 z).2.gen rfl Fr.refl sM⟩,fun z=>(h3 z).sub (fun _ m _=>m) sM,fun z z'=>(h4 z z').sub sM⟩
def Cr (R:Rel W B S P H σ ρ) (s:zE (B.loop S P H R.hz).H0 H'):Fr (NA B S P) H H':=fun a o h m=>by
 have n:¬ ((∃ i,S[i]? = some 2/\P i=a)\/B.xc a):=fun z=>by
  rcases z with ⟨i,hi,e⟩ | z
  .rcases m with m | m
   .exact m.2 i hi e
   .obtain ⟨_,o0,e0,n0⟩:=R.act i hi
    rw [e,h] at e0;cases e0;exact n0 m
  .rcases m with m | m
   .exact m.1 z
   .obtain ⟨o0,e0,n0,_⟩:=R.exc a z
    rw [h] at e0;cases e0;exact n0 m
 refine s a o ?_
 unfold Bs.loop;dsimp only;rw [if_neg n];exact h
def uM (hW:C.W=W) (R:Rel W B S P H σ ρ) (q:XPo C B c fs):XPo C (B.loop S P H R.hz) c fs:=fun e dx es H2 s h1 h2 h3=>q e dx es H2 ((W_ R).trans s) h1 h2 (h3.sub fun a m _=>br R m)
def Cs (hW:C.W=W) (R:Rel W B S P H σ ρ) (h:Ck C (B.loop S P H R.hz) H' x v):Ck C B H' x v:=by
 unfold Ck at h ⊢
 by_cases f:C.fr=true
 .rw [if_pos f] at h ⊢
  obtain ⟨p,e,hp,r⟩:=h
  exact ⟨p,e,JU R hp,r.gen rfl Fr.refl fun a m _=>⟨br R m.1,m.2⟩⟩
 .rw [if_neg f] at h ⊢
  exact h.sub fun a m _=>br R m
end
section
variable {X:Cx}{C:LC}{S S' S1 Sb Sc:MV}{pos:Pos}
def uN (hi:∀ R:It->Hp->Prop,o7 C B S P false H R (mi ρ)->wi σ H R) (hg:LG C S S1 g mg) (hb:LS C S1 S S S tb mb) (R:Rel C.W B S P H σ ρ) (D:Ends) (q:ZA C B S Sb Sc D (Wd mi mg mb ρ)):G5 wi g tb D σ H:=by
 refine hi _ ?_
 unfold Wd at q
 revert q
 cases mi ρ with
 | exc c fs=>exact id
 | wall=>exact id
 | ok xs=>
  intro q J H2 s2 io
  have R2:=R.keep s2
  have q:ZA C B S Sb Sc D (QG mg mb xs ρ):=q
  refine ⟨fun i n σ' H'=>n=xs.length - i/\i<=xs.length/\∃ ρ' P',Rel C.W (B.loop S P H2 R2.hz) S P' H' σ' ρ'/\ZA C B S Sb Sc D (QG mg mb (xs.drop i) ρ'),⟨_,rfl,S7 _,ρ,P,R2.loop,q⟩, ?_⟩
  rintro i n σ' H' ⟨rfl,hle,ρ',P',R',q'⟩
  have io':=io H' (Cr R2 R'.same)
  by_cases hlt:i < xs.length
  .have hx:xs[i]? = some xs[i]:=N8 hlt
   obtain ⟨go,yl⟩:=io'.1 i _ hx
   refine .inr ⟨go,fun σ2 H2'=>i + 1<=xs.length/\∃ ρ' P',Rel C.W (B.loop S P H2 R2.hz) S P' H2' σ2 ρ'/\ZA C B S Sb Sc D (QG mg mb (xs.drop (i + 1)) ρ'),fun σ2 H2' h=>⟨xs.length - (i + 1),by omega,rfl,h.1,h.2⟩,fun v H'' hy=>?_⟩
   obtain ⟨sy,ry⟩:=yl v H'' hy
   have Ry:=R'.keep sy
   have rx:=ry (Mof (B.loop S P H2 R2.hz) S P') fun a m hn=>⟨⟨.inl m.1.1,m.1.2⟩,fun j hj e=>by
    have z:=(R'.act j hj).1
    rw [e] at z
    unfold Bs.loop at z;dsimp only at z
    rw [if_neg (fun z=>z.elim (fun ⟨k,hk,ek⟩=>m.2 k hk ek) m.1.2)] at z
    exact hn z⟩
   rw [a04 hlt] at q'
   have q':ZA C B S Sb Sc D ((v7 (mg xs[i] ρ')).bind fun ρ1=>(mb ρ1).bind fun f=>match f with
    | .nx ρ2=>QG mg mb (xs.drop (i + 1)) ρ2
    | .ct ρ2=>QG mg mb (xs.drop (i + 1)) ρ2
    | .bk ρ2=>.ok (.nx ρ2)
    | .rt v=>.ok (.rt v)):=q'
   cases hgx:mg xs[i] ρ' with
   | none=>rw [hgx] at q';exact q'.elim
   | some ρ1=>
    rw [hgx] at q'
    refine hg _ P' H'' σ' ρ' _ v Ry rx _ ⟨ρ1,hgx,fun σ1 R1=>hb _ P' H'' σ1 ρ1 R1 _ ?_⟩
    have q':ZA C B S Sb Sc D ((mb ρ1).bind fun f=>match f with
     | .nx ρ2=>QG mg mb (xs.drop (i + 1)) ρ2
     | .ct ρ2=>QG mg mb (xs.drop (i + 1)) ρ2
     | .bk ρ2=>.ok (.nx ρ2)
     | .rt v=>.ok (.rt v)):=q'
    revert q'
    cases mb ρ1 with
    | exc c fs=>exact fun q'=>uM rfl R2 q'
    | wall=>exact id
    | ok f=>
     cases f with
     | nx ρ2=>exact fun q' P3 H3 σ3 R3=>⟨hlt,ρ2,P3,R3,q'⟩
     | ct ρ2=>exact fun q' P3 H3 σ3 R3=>⟨hlt,ρ2,P3,R3,q'⟩
     | bk ρ2=>exact fun q' P3 H3 σ3 R3=>q' P3 H3 σ3 (R2.AB R3)
     | rt x=>exact fun q' v H3 s3 h3=>q' v H3 ((W_ R2).trans s3) (Cs rfl R2 h3)
  .have e:i=xs.length:=by omega
   subst e
   rw [a2d] at q'
   exact .inl ⟨io'.2,q' P' H' σ' (R2.AB R')⟩
def Fn (hi:LI C S false wi mi) (hg:LG C S S1 g mg) (hb:LS C S1 S S S tb mb):LS C S S Sb Sc (G5 wi g tb) (Wd mi mg mb):=fun B P H σ ρ R D q=>uN (hi B P H σ ρ R) hg hb R D q
def jw (hp:PassesOwn (Oc X) X.A X.env X.xe) (hc:X.calm=true) (hi:IM X C S false tg j9 mi) (hg:GM X C S S1 tg mg) (hb:SsM X C S1 S S S body mb) (hs:∀ x,foldedSetIterable j9 X.env x=pure x:=by intro _;rfl):
  SM X C S S Sb Sc (.For tg j9 body [] pos) (Wd mi mg mb):=fun hK=>by
 obtain ⟨wi,a1,a2⟩:=hi hK
 obtain ⟨g,b1,b2⟩:=hg hK
 obtain ⟨tb,c1,c2⟩:=hb hK
 exact ⟨_,nN hp hc a1 b1 c1 hs,Fn a2 b2 c2⟩
def jO (c:MT) (b:MS):Nat->Sto->Out Fw
 | 0,_=>.wall
 | n + 1,ρ=>(c ρ).bind fun t=>if t=true then (b ρ).bind fun f=>match f with
   | .nx ρ2=>jO c b n ρ2
   | .ct ρ2=>jO c b n ρ2
   | .bk ρ2=>.ok (.nx ρ2)
   | .rt v=>.ok (.rt v)
  else .ok (.nx ρ)
open Classical in
def ar (c:MT) (b:MS):MS:=fun ρ=>if h:∃ n,jO c b n ρ≠.wall then jO c b (choose h) ρ else .wall
def uO (hc:LT C S tc c) (hb:LS C S S S S tb b):LS C S S Sb Sc (Ac tc tb) (ar c b):=fun B P H σ ρ R D q=>by
 unfold ar at q
 split at q
 .rename_i h
  generalize Classical.choose h=n0 at q
  refine ⟨fun n σ' H'=>∃ ρ' P',Rel C.W B S P' H' σ' ρ'/\ZA C B S Sb Sc D (jO c b n ρ'),⟨n0,ρ,P,R,q⟩, ?_⟩
  rintro n σ' H' ⟨ρ',P',R',q'⟩
  cases n with
  | zero=>exact q'.elim
  | succ n=>
   refine hc B P' H' σ' ρ' R' _ ?_
   unfold jO at q'
   revert q'
   cases c ρ' with
   | exc c fs=>exact id
   | wall=>exact id
   | ok k=>
    intro q' H1 s1
    cases k with
    | false=>exact BX (q' P' H1 σ' (R'.keep s1))
    | true=>
     refine BY ⟨fun σ2 H2=>∃ ρ' P',Rel C.W B S P' H2 σ2 ρ'/\ZA C B S Sb Sc D (jO c b n ρ'),fun σ2 H2 h=>⟨n,a0a n,h⟩,hb B P' H1 σ' ρ' (R'.keep s1) _ ?_⟩
     have q':ZA C B S Sb Sc D ((b ρ').bind fun f=>match f with
      | .nx ρ2=>jO c b n ρ2
      | .ct ρ2=>jO c b n ρ2
      | .bk ρ2=>.ok (.nx ρ2)
      | .rt v=>.ok (.rt v)):=q'
     revert q'
     cases b ρ' with
     | exc c fs=>exact id
     | wall=>exact id
     | ok f=>
      cases f with
      | nx ρ2=>exact fun q' P3 H3 σ3 R3=>⟨ρ2,P3,R3,q'⟩
      | ct ρ2=>exact fun q' P3 H3 σ3 R3=>⟨ρ2,P3,R3,q'⟩
      | bk ρ2=>exact fun q'=>q'
      | rt x=>exact fun q'=>q'
 .exact q.elim
def uP (hp:PassesOwn (Oc X) X.A X.env X.xe) (hc:TM X C S c mc) (hb:SsM X C S S S S body mb):SM X C S S Sb Sc (.While c body [] pos) (ar mc mb):=fun hK=>by
 obtain ⟨tc,a1,a2⟩:=hc hK
 obtain ⟨tb,c1,c2⟩:=hb hK
 exact ⟨_,tY hp a1 c1,uO a2 c2⟩
end
def LEn (C:LC) (S:MV) (te:TE) (m:ME):Prop:=∀ B P H σ ρ,Rel C.W B S P H σ ρ->∀ Q,yi C B H (fun H2=>qe C.W (NA B S P) (Mof B S P) H2) Q (m ρ)->te σ H Q
def EN (X:Cx) (C:LC) (S:MV) (e:Nh) (m:ME):Prop:=X.K=C.W.K->∃ te,PE X e te/\LEn C S te m
section
variable {X:Cx}{C:LC}{S S' S1 Sb Sc:MV}{e a b o j9 tg:Nh}{es:Nc}{w w1 w2:Bool}{ws:Nf}{m m1 m2:ME}{ms:MA}{t1:MT}{s1 s2:MS}{pos p pos':Pos}{x:Str}{st:NF}{sts stt:Nx}{i:Nat}
def Mof.na {B:Bs}{P:Na}{a:Addr}(m:Mof B S P a):NA B S P a:=⟨m.1.2,m.2⟩
def EM.en (h:EM X C S false e m):EN X C S e m:=fun hK=>by
 obtain ⟨te,a1,a2⟩:=h hK
 exact ⟨te,a1,fun B P H σ ρ R Q q=>a2 B P H σ ρ R Q (JO q fun x v H2 s hr=>qe.sub hr (fun a m _=>Mof.na m) fun _ m _=>m)⟩
def Zi (h:PE X e (ng i)) (hS:S[i]? = some 1:=by rfl):EN X C S e (zc i):=fun _=>⟨_,h,fun B P H σ ρ R Q q=>lv R q fun x v hv e=>by
 obtain ⟨v',hv',_,h3,_⟩:=R.var i x e
 rw [hv] at hv';cases hv'
 refine qe.sub (h3 hS) (fun a n _=>?_) fun _ m _=>m
 have h0:=B.nz a n
 exact ⟨fun z=>h0 (R.exc a z).choose_spec.2.2,fun j hj e=>h0 (e ▸ (R.act j hj).1)⟩⟩
def LJ (K:Ny) (tl:TE):TI:=fun σ H R=>tl σ H fun x H1=>(∃ a,x=.ref a/\(∃ xs,SqL K H1 a xs)/\R (Itl K a) H1)\/∃ a,x=.ref a/\(∃ xs,SqT K H1 a xs)/\R (Itt K a) H1
def o8 (hl:PE X l tl):PI X tg l (LJ X.K tl):=by
 intro pins s σ H R I h
 refine thn (hl pins s σ H _ I h) fun v s1 ⟨x,H1,I1,r1,q1⟩=>?_
 rcases q1 with ⟨a,e,⟨xs,hq⟩,q⟩ | ⟨a,e,⟨xs,hq⟩,q⟩
 .subst e
  cases r1
  obtain ⟨its,rv,p,hz⟩:=I1.list hq
  refine wpAny_pyIter_list p.isList ?_
  refine ⟨s1.heap.objs.size,[s1.heap.objs.size],_,_,H1,rfl,I1.kept (t':=s1.toks) fun b o e=>M7 _ e,nJ a _,⟨_,O7 _ rfl,rfl,rfl⟩,fun b hb=>?_,q⟩
  have e:b=s1.heap.objs.size:=by simpa using hb
  subst e
  exact I1.DQ (N1 _) (I1.hok.fresh (N1 _))
 .subst e
  cases r1
  obtain ⟨its,rv,p,hz⟩:=I1.tuple hq
  refine wpAny_pyIter_tuple (show s1.heap.IsTuple a its.toArray from p) ?_
  refine ⟨s1.heap.objs.size,[s1.heap.objs.size],_,_,H1,rfl,I1.kept (t':=s1.toks) fun b o e=>M7 _ e,lQ a _,⟨_,O7 _ rfl,rfl,rfl⟩,fun b hb=>?_,q⟩
  have e:b=s1.heap.objs.size:=by simpa using hb
  subst e
  exact I1.DQ (N1 _) (I1.hok.fresh (N1 _))
def o9 {W:RC}{K:Ny}{M N:MY}{H2:Hp}{a:Addr}{xs:Nj}{vs:Nb}(hMN:∀ a,M a->N a) (h:∀ H',Fr N H2 H'->SqL K H' a vs) (r:yt W M H2 xs vs):Cq W M N H2 (Itl K a) xs:=fun H' f=>by
 refine ⟨fun i x hx=>?_,vs,h H' f,by rw [r.len];exact N1 _⟩
 obtain ⟨v,hv,rv⟩:=r.get hx
 refine ⟨⟨vs,v,h H' f,hv⟩,fun v' H'' hy=>?_⟩
 obtain ⟨rfl,y⟩:=hy
 have:=y vs (h _ f)
 rw [hv] at this
 cases this
 exact ⟨zE.refl _,fun M' sM=>Rep.gen (fun a o h m=>f a o h (m.imp (hMN a) id)) (fun a m n=>sM a m n) rv⟩
def Fo {W:RC}{K:Ny}{M N:MY}{H2:Hp}{a:Addr}{xs:Nj}{vs:Nb}(hMN:∀ a,M a->N a) (h:∀ H',Fr N H2 H'->SqT K H' a vs) (r:yt W M H2 xs vs):Cq W M N H2 (Itt K a) xs:=fun H' f=>by
 refine ⟨fun i x hx=>?_,vs,h H' f,by rw [r.len];exact N1 _⟩
 obtain ⟨v,hv,rv⟩:=r.get hx
 refine ⟨⟨vs,v,h H' f,hv⟩,fun v' H'' hy=>?_⟩
 obtain ⟨rfl,y⟩:=hy
 have:=y vs (h _ f)
 rw [hv] at this
 cases this
 exact ⟨zE.refl _,fun M' sM=>Rep.gen (fun a o h m=>f a o h (m.imp (hMN a) id)) (fun a m n=>sM a m n) rv⟩
def items:PV->Out (List PV)
 | .l xs=>.ok xs
 | .t xs=>.ok xs
 | .sc ns=>.ok (ns.map PV.i)
 | _=>.wall
def yV (m:ME):MI:=fun ρ=>(m ρ).bind items
variable {cc:Bool}
def Mof.nac {B:Bs}{P:Na}{a:Addr}(m:Mof B S P a):NAc cc B S P a:=by
 unfold NAc;cases cc with
 | true=>rw [if_pos rfl];trivial
 | false=>rw [if_neg O3];exact Mof.na m
def o_ (hK:X.K=C.W.K) (a2:∀ B P H σ ρ,Rel C.W B S P H σ ρ->∀ Q,yi C B H (fun H2=>qe C.W (NAc cc B S P) (Mof B S P) H2) Q (m ρ)->te σ H Q):LI C S cc (LJ X.K te) (yV m):=fun B P H σ ρ R Q q=>by
 refine a2 B P H σ ρ R _ ?_
 unfold yV at q
 revert q
 cases m ρ with
 | exc c fs=>exact id
 | wall=>exact id
 | ok y=>
  intro q v H2 s r
  cases y with
  | l xs=>
   obtain ⟨p,vs,rfl,n,hp,rr⟩:=r
   exact .inl ⟨p,rfl,⟨vs,SqL.of hp⟩,q _ H2 s (o9 (fun a m=>Mof.nac m) (fun H' f=>SqL.of (f _ _ hp (.inl n))) rr)⟩
  | t xs=>
   obtain ⟨p,vs,rfl,hp,rr⟩:=r
   rw [<- hK] at hp
   exact .inr ⟨p,rfl,⟨vs,hp⟩,q _ H2 s (Fo (fun a m=>Mof.nac m) (fun H' f=>f.sqT hp) rr)⟩
  | sc ns=>
   obtain ⟨p,rfl,hp⟩:=r
   rw [<- hK] at hp
   exact .inl ⟨p,rfl,⟨_,hp.sq⟩,q _ H2 s (o9 (vs:=ns.map V.int) (fun a m=>Mof.nac m) (fun H' f=>(hp.frame f).sq) yt.ints)⟩
  | _=>exact q.elim
def Zj (h:EN X C S e m):IM X C S false tg e (yV m):=fun hK=>by
 obtain ⟨te,a1,a2⟩:=h hK
 exact ⟨_,o8 a1,o_ hK a2⟩
def KY (h:EM X C S w e m):IM X C S true tg e (yV m):=fun hK=>by
 obtain ⟨te,a1,a2⟩:=h hK
 exact ⟨_,o8 a1,o_ hK fun B P H σ ρ R Q q=>a2 B P H σ ρ R Q (JO q fun x v H2 s r=>r.weak)⟩
def ir (lo:Int) (n:Nat):List PV:=(List.range n).map fun k=>.i (lo + (k:Nat))
def Ct {lo:Int}{n i:Nat}{x:PV}(h:(ir lo n)[i]? = some x):i < n/\x=.i (lo + i):=by
 unfold ir at h
 rw [P0] at h
 obtain ⟨k,hk,rfl⟩:=M3.mp h
 rw [O2] at hk
 obtain ⟨h1,h2⟩:=hk
 rw [T4] at h1
 rw [a1b] at h2
 subst h2
 exact ⟨h1,rfl⟩
def Cu {lo:Int}{n:Nat}:(ir lo n).length=n:=by unfold ir;rw [u8,T4]
def Fp {W:RC}{M N:MY}{H2:Hp}{lo:Int}{n:Nat}:Cq W M N H2 (Itr lo n) (ir lo n):=fun H' f=>by
 refine ⟨fun i x hx=>?_,by rw [Cu];exact N1 _⟩
 obtain ⟨hi,rfl⟩:=Ct hx
 refine ⟨hi,fun v H'' hy=>?_⟩
 obtain ⟨rfl,rfl⟩:=hy
 exact ⟨zE.refl _,fun _ _=>rfl⟩
def pb:List PV->Out (List PV)
 | [.i n]=>if -(2 ^ 62)<=n/\n < 2 ^ 62 then .ok (ir 0 n.toNat) else .wall
 | _=>.wall
def Xa (ms:MA):MI:=fun ρ=>(ms ρ).bind pb
def KZ (hg:Gl X "range") (hm:X.mg "range" = none) (ha:AM X C S ws [a] ms) (hs:starEach [a] X.env=[(false,eval a X.env)]:=by rfl):IM X C S cc tg (.Call (.Name "range" p) [a] [] pos) (Xa ms):=fun hK=>by
 obtain ⟨ta,a1,a2⟩:=ha hK
 refine ⟨_,nK hg hm a1 hs,fun B P H σ ρ R Q q=>a2 B P H σ ρ R _ ?_⟩
 unfold Xa at q
 revert q
 cases ms ρ with
 | exc c fs=>exact id
 | wall=>exact id
 | ok xs=>
  intro q vs H2 s r
  have r:=r.weak
  have q:o7 C B S P cc H Q (pb xs):=q
  unfold pb at q
  split at q
  .split at q
   .rename_i hn
    obtain ⟨v,r',rfl,hx,hr⟩:=r
    cases (show _=_ from hr)
    cases (show _=_ from hx)
    exact ⟨_,rfl,hn.1,hn.2,q _ H2 s Fp⟩
   .exact q.elim
  .exact q.elim
end
def noX {α:Type}:Out α->Out α
 | .exc _ _=>.wall
 | o=>o
def lcP (g:MG) (c:MT) (e:ME):List PV->Sto->List PV->Out PV
 | [],_,acc=>.ok (.l acc)
 | x :: xs,ρ,acc=>(v7 (g x ρ)).bind fun ρ1=>(noX (c ρ1)).bind fun t=>if t=true then (noX (e ρ1)).bind fun y=>if acc.length < sizeLine then lcP g c e xs ρ1 (acc++[y]) else .wall else lcP g c e xs ρ1 acc
def fZ (ρ:Sto) (fr:Ni):Sto:=fr.map fun o=>match o with | none=>none | some j=>(ρ[j]?).join
def mLC (mi:MI) (fr:Ni) (g:MG) (c:MT) (e:ME):ME:=fun ρ=>(mi ρ).bind fun xs=>lcP g c e xs (fZ ρ fr) []
def pd:MT:=fun _=>.ok true
def inS (S:MV) (fr:Ni):List Nat:=fr.map fun o=>match o with | none=>0 | some j=>if S[j]? = some 2\/S[j]? = some 1 then 1 else 0
def lcB (B:Bs) (S:MV) (P:Na) (H:Hp) (acc:Addr):Bs:=⟨H,Mof B S P,fun a=>H a≠none,fun _ h=>h,none,fun a=>a=acc⟩
def pe {S:MV}{fr:Ni}{k c:Nat}(h:(inS S fr)[k]? = some c):c≠2:=by
 unfold inS at h
 rw [P0] at h
 obtain ⟨o,ho,e⟩:=M3.mp h
 intro z
 rw [z] at e
 cases o with
 | none=>cases e
 | some j=>dsimp only at e;split at e <;> cases e
section
variable {X:Cx}{C:LC}{S S' S1 Sb Sc:MV}{e a b o j9 tg elt:Nh}{es ifs:Nc}{w w1 w2:Bool}{ws:Nf}{m m1 m2 me:ME}{ms:MA}{t1 mc:MT}{mg:MG}{mi:MI}{s1 s2:MS}{pos p pos':Pos}{x:Str}{st:NF}{sts stt:Nx}{i:Nat}{scope:Scope}
def Rel.comp {W:RC}{B:Bs}{P:Na}{H H':Hp}{σ:St}{ρ:Sto}{acc:Addr}{fr:Ni}{ys:Nb}(R:Rel W B S P H σ ρ) (ha:H acc=none) (s:zE H H') (hy:H' acc=some (.lst ys)):Rel W (lcB B S P H acc) (inS S fr) (fun _=>0) H' (tM σ fr) (fZ ρ fr):=by
 have n2:∀ {k:Nat},(inS S fr)[k]? = some 2->False:=fun {k} h=>pe h rfl
 have sM:∀ a,Mof B S P a->H a≠none->Mof (lcB B S P H acc) (inS S fr) (fun _=>0) a:=fun a m n=>⟨⟨.inl m,fun z=>n ((show a=acc from z) ▸ ha)⟩,fun i hi=>(n2 hi).elim⟩
 refine ⟨s,by unfold tM fZ;rw [u8,u8],fun k x e=>?_,fun i hi=>(n2 hi).elim,fun i j hi=>(n2 hi).elim,fun hi=>(n2 hi).elim,fun a h=>?_,fun i hi=>(n2 hi).elim⟩
 .unfold fZ at e
  rw [P0] at e
  obtain ⟨o,ho,e⟩:=M3.mp e
  cases o with
  | none=>cases e
  | some j=>
   have e:(ρ[j]?).join=some x:=e
   have hj:ρ[j]? = some (some x):=by
    cases q:ρ[j]? with
    | none=>rw [q] at e;cases e
    | some z=>rw [q] at e;cases z with
     | none=>cases e
     | some z=>cases e;rfl
   obtain ⟨v,hv,h2,h3,h4⟩:=R.var j x hj
   have hS:(inS S fr)[k]? = some (if S[j]? = some 2\/S[j]? = some 1 then 1 else 0):=by unfold inS;rw [P0,ho];rfl
   refine ⟨v,by unfold tM;rw [P0,ho];show some ((σ[j]?).join)=_;rw [hv];rfl,fun z=>(n2 z).elim,fun z=>?_,fun z z'=>?_⟩
   .rw [hS] at z
    by_cases c2:S[j]? = some 2
    .obtain ⟨rfl,ra⟩:=h2 c2
     obtain ⟨_,o,eo,_⟩:=R.act j c2
     exact ((ra.Im (N:=fun a=>H a≠none) (by rw [eo];intro z;cases z)).sub (fun _ m _=>m) sM).same s
    .by_cases c1:S[j]? = some 1
     .exact ((h3 c1).sub (fun a n q=>(R.hz a n).2) sM).same s
     .rw [if_neg (by rintro (q | q);exact c2 q;exact c1 q)] at z;cases z
   .rw [hS] at z'
    by_cases c:S[j]? = some 2\/S[j]? = some 1
    .rw [if_pos c] at z';exact absurd rfl z'
    .exact ((h4 (fun q=>c (.inl q)) (fun q=>c (.inr q))).sub sM).same s
 .cases (show a=acc from h)
  exact ⟨_,hy,id,ha⟩
def TsM (X:Cx) (C:LC) (S:MV) (ifs:Nc) (m:MT):Prop:=X.K=C.W.K->∃ tt,PTs X ifs tt/\LT C S tt m
def Xb:TsM X C S [] pd:=fun _=>⟨_,B6,fun B P H σ ρ R Q q=>q H (zE.refl _)⟩
def f6 {ι:Type}{Y:ι->Cx}(h:∀ z,EM (Y z) C S w e m) (hK:∀ z,(Y z).K=C.W.K):∃ te,(∀ z,PE (Y z) e te)/\LE C S w te m:=
 ⟨fun σ H Q=>∀ z,(Classical.choose (h z (hK z))) σ H Q,fun z pins s σ H Q I q=>(R4 (h z (hK z))).1 pins s σ H Q I (q z),fun B P H σ ρ R Q q z=>(R4 (h z (hK z))).2 B P H σ ρ R Q q⟩
def f7 {ι:Type}{Y:ι->Cx}(h:∀ z,TsM (Y z) C S ifs mc) (hK:∀ z,(Y z).K=C.W.K):∃ te,(∀ z,PTs (Y z) ifs te)/\LT C S te mc:=
 ⟨fun σ H Q=>∀ z,(Classical.choose (h z (hK z))) σ H Q,fun z pins s σ H Q I q=>(R4 (h z (hK z))).1 pins s σ H Q I (q z),fun B P H σ ρ R Q q z=>(R4 (h z (hK z))).2 B P H σ ρ R Q q⟩
def f9 {ι:Type}{Y:ι->Cx}(h:∀ z,GM (Y z) C S S1 tg mg) (hK:∀ z,(Y z).K=C.W.K):∃ g,(∀ z,PG (Y z) tg g)/\LG C S S1 g mg:=
 ⟨fun v σ H Q=>∀ z,(Classical.choose (h z (hK z))) v σ H Q,fun z pins s σ H v u Q I r q=>(R4 (h z (hK z))).1 pins s σ H v u Q I r (q z),fun B P H σ ρ x v R r Q q z=>(R4 (h z (hK z))).2 B P H σ ρ x v R r Q q⟩
def Cv {wi:TI}{g:TG}{tc:TT}{te:TE}{fr:Ni}{Si:MV}{W:RC}{B:Bs}{P:Na}{H:Hp}{σ:St}{ρ:Sto}(hi:∀ R:It->Hp->Prop,o7 C B S P true H R (mi ρ)->wi σ H R) (hW:W=C.W) (hS:Si=inS S fr) (hg:LG ⟨W,E0,false⟩ Si Si g mg) (ht:LT ⟨W,E0,false⟩ Si tc mc) (he:LE ⟨W,E0,false⟩ Si false te me) (R:Rel C.W B S P H σ ρ) (Q:VK) (q:yi C B H (RFr C.W (Mof B S P) H) Q (mLC mi fr mg mc me ρ)):tLC wi g tc te fr σ H Q:=by
 subst hW hS
 refine hi _ ?_
 unfold mLC at q
 revert q
 cases mi ρ with
 | exc c fs=>exact id
 | wall=>exact id
 | ok xs=>
  intro q J H1 s1 io acc ha
  have R1:=R.keep s1
  have q:yi C B H (RFr C.W (Mof B S P) H) Q (lcP mg mc me xs (fZ ρ fr) []):=q
  have sM:∀ a,Mof (lcB B S P H1 acc) (inS S fr) (fun _=>0) a->Mof B S P a/\a≠acc:=fun a m=>⟨m.1.1.elim id fun n=>R1.new a n,m.1.2⟩
  refine ⟨fun i n σ' H'=>n=xs.length - i/\i<=xs.length/\∃ ρ' ys vs,Rel C.W (lcB B S P H1 acc) (inS S fr) (fun _=>0) H' σ' ρ'/\H' acc=some (.lst vs)/\yt C.W (Mof (lcB B S P H1 acc) (inS S fr) (fun _=>0)) H' ys vs/\yi C B H (RFr C.W (Mof B S P) H) Q (lcP mg mc me (xs.drop i) ρ' ys),
   ⟨_,rfl,S7 _,fZ ρ fr,[],[],R1.comp ha (zE.upd ha) zh,zh,rfl,q⟩, ?_⟩
  rintro i n σ' H' ⟨rfl,hle,ρ',ys,vs,R',hacc,rys,q'⟩
  have io':=io H' (zE.fr R'.same)
  by_cases hlt:i < xs.length
  .have hx:xs[i]? = some xs[i]:=N8 hlt
   obtain ⟨go,yl⟩:=io'.1 i _ hx
   refine .inr ⟨go,fun σ2 H2'=>i + 1<=xs.length/\∃ ρ' ys vs,Rel C.W (lcB B S P H1 acc) (inS S fr) (fun _=>0) H2' σ2 ρ'/\H2' acc=some (.lst vs)/\yt C.W (Mof (lcB B S P H1 acc) (inS S fr) (fun _=>0)) H2' ys vs/\yi C B H (RFr C.W (Mof B S P) H) Q (lcP mg mc me (xs.drop (i + 1)) ρ' ys),fun σ2 H2' h=>⟨xs.length - (i + 1),by omega,rfl,h.1,h.2⟩,fun v H'' hy=>?_⟩
   obtain ⟨sy,ry⟩:=yl v H'' hy
   have Ry:=R'.keep sy
   have rx:=ry (Mof (lcB B S P H1 acc) (inS S fr) (fun _=>0)) fun a m hn=>⟨⟨.inl m,fun z=>hn ((show a=acc from z) ▸ ha)⟩,fun j hj=>(pe hj rfl).elim⟩
   rw [a04 hlt] at q'
   unfold lcP at q'
   cases hgx:mg xs[i] ρ' with
   | none=>rw [hgx] at q';exact q'.elim
   | some ρ1=>
    rw [hgx] at q'
    refine hg _ _ H'' σ' ρ' _ v Ry rx _ ⟨ρ1,hgx,fun σ1 R1'=>ht _ _ H'' σ1 ρ1 R1' _ ?_⟩
    have q':yi C B H (RFr C.W (Mof B S P) H) Q ((noX (mc ρ1)).bind fun t=>if t=true then (noX (me ρ1)).bind fun y=>if ys.length < sizeLine then lcP mg mc me (xs.drop (i + 1)) ρ1 (ys++[y]) else .wall else lcP mg mc me (xs.drop (i + 1)) ρ1 ys):=q'
    revert q'
    cases mc ρ1 with
    | exc c fs=>exact fun q'=>q'.elim
    | wall=>exact id
    | ok t=>
     intro q' H5 s5
     have R5:=R1'.keep s5
     have hacc5:=s5 _ _ (sy _ _ hacc)
     have rys5:=(rys.same sy).same s5
     cases t with
     | false=>exact BX ⟨hlt,ρ1,ys,vs,R5,hacc5,rys5,q'⟩
     | true=>
      refine BY (he _ _ H5 σ1 ρ1 R5 _ ?_)
      have q':yi C B H (RFr C.W (Mof B S P) H) Q ((noX (me ρ1)).bind fun y=>if ys.length < sizeLine then lcP mg mc me (xs.drop (i + 1)) ρ1 (ys++[y]) else .wall):=q'
      revert q'
      cases me ρ1 with
      | exc c fs=>exact fun q'=>q'.elim
      | wall=>exact id
      | ok y=>
       intro q' v6 H6 s6 r6
       have q':yi C B H (RFr C.W (Mof B S P) H) Q (if ys.length < sizeLine then lcP mg mc me (xs.drop (i + 1)) ρ1 (ys++[y]) else .wall):=q'
       split at q'
       .rename_i hz
        have R6:=R5.keep s6
        have fr6:Fr (Mof (lcB B S P H1 acc) (inS S fr) (fun _=>0)) H6 (upd H6 acc (.lst (vs++[v6]))):=fun a o h m=>by
         have:a≠acc:=fun z=>by
          rcases m with m | m
          .exact m.1.2 z
          .rw [z,s6 _ _ hacc5] at h;cases h;exact m
         rw [zj this];exact h
        exact ⟨vs,s6 _ _ hacc5,by rw [rys5.len];exact hz,hlt,ρ1,ys++[y],vs++[v6],R6.wrx (show (lcB B S P H1 acc).xc acc from rfl) (by exact id),zh,((rys5.same s6).append (.cons r6.rep .nil)).gen fr6 fun _ m _=>m,q'⟩
       .exact q'.elim
  .have e:i=xs.length:=by omega
   subst e
   rw [a2d] at q'
   exact .inl ⟨io'.2,q' _ H' (s1.trans R'.same) ⟨acc,rfl,zE.none s1 ha,vs,hacc,rys.sub fun a m _=>sM a m⟩⟩
def Cw {wi:TI}{g:TG}{tc:TT}{te:TE}{fr:Ni}{Si:MV}{W:RC}(hi:LI C S true wi mi) (hW:W=C.W) (hS:Si=inS S fr) (hg:LG ⟨W,E0,false⟩ Si Si g mg) (ht:LT ⟨W,E0,false⟩ Si tc mc) (he:LE ⟨W,E0,false⟩ Si false te me):LFr C S (tLC wi g tc te fr) (mLC mi fr mg mc me):=fun B P H σ ρ R Q q=>Cv (hi B P H σ ρ R) hW hS hg ht he R Q q
abbrev CI:=List Addr × List (Addr × Obj) × Shared × Hp × Addr
abbrev cxI (X:Cx) (scope:Scope) (N:MX) (z:CI):Cx:=qP X scope N z.1 z.2.1 z.2.2.1 z.2.2.2.1 z.2.2.2.2
def pf (N:MX) (fr:Ni) (Si:MV) (hc:X.calm=true) (hok:tL X scope N fr=true) (hi:IM X C S true tg j9 mi) (hg:∀ z:CI,GM (cxI X scope N z) ⟨C.W,E0,false⟩ Si Si tg mg) (ht:∀ z:CI,TsM (cxI X scope N z) ⟨C.W,E0,false⟩ Si ifs mc) (he:∀ z:CI,EM (cxI X scope N z) ⟨C.W,E0,false⟩ Si false elt me) (hS:Si=inS S fr:=by rfl)
  (hs:∀ x,foldedSetIterable j9 X.env x=pure x:=by intro _;rfl):FM X C S (.ListComp elt [⟨tg,j9,ifs,0⟩] scope pos) (mLC mi fr mg mc me):=fun hK=>by
 obtain ⟨wi,a1,a2⟩:=hi hK
 obtain ⟨g,b1,b2⟩:=f9 hg fun _=>hK
 obtain ⟨tc,c1,c2⟩:=f7 ht fun _=>hK
 obtain ⟨te,d1,d2⟩:=f6 he fun _=>hK
 exact ⟨_,Il N fr hc hok a1 (fun fp pn s H L=>b1 ⟨fp,pn,s,H,L⟩) (fun fp pn s H L=>c1 ⟨fp,pn,s,H,L⟩) (fun fp pn s H L=>d1 ⟨fp,pn,s,H,L⟩) hs,Cw a2 rfl hS b2 c2 d2⟩
variable {y:Str}{tK py:Pos}
end
def Zs (fr:Bool) (n:Nat) (ms:MS) (xs:Nj):Out PV:=match ms (xs.map some++List.replicate (n - xs.length) none) with
 | .ok (.nx _)=>if fr=true then .wall else .ok .n
 | .ok (.rt x)=>.ok x
 | .ok (.bk _)=>.wall
 | .ok (.ct _)=>.wall
 | .exc c fs=>.exc c fs
 | .wall=>.wall
def JV (ws:Nf) (n:Nat):List Nat:=ws.map (fun w=>if w=true then 1 else 0)++List.replicate (n - ws.length) 0
def dE {ws:Nf}{n k:Nat}:(JV ws n)[k]?≠some 2:=by
 unfold JV
 rw [a1B]
 split
 .rw [P0]
  intro h
  obtain ⟨w,_,e⟩:=M3.mp h
  split at e <;> cases e
 .rw [a0t]
  intro h
  split at h <;> cases h
def jM.get {W:RC}{M:MY}{H:Hp}:∀ {ws:Nf}{xs:Nj}{vs:Nb}{k:Nat}{x:PV},jM W M H ws xs vs->xs[k]? = some x->∃ v w,vs[k]? = some v/\ws[k]? = some w/\qe W (if w=true then fun _=>True else M) M H x v
 | [],_,_,_,_,⟨e1,e2⟩,h=>by subst e1;simp at h
 | w :: ws,_,_,0,x,⟨y,v,xr,vr,e1,e2,h1,h2⟩,h=>by subst e1;subst e2;simp at h;subst h;exact ⟨v,w,rfl,rfl,h1⟩
 | w :: ws,_,_,k + 1,x,⟨y,v,xr,vr,e1,e2,h1,h2⟩,h=>by subst e1;subst e2;simp only [List.getElem?_cons_succ] at h ⊢;exact jM.get h2 h
def dF {xs:Nj}{n k:Nat}{x:PV}(h:(xs.map some++List.replicate (n - xs.length) none)[k]? = some (some x)):xs[k]? = some x:=by
 rw [a1B] at h
 split at h
 .rw [P0] at h
  obtain ⟨y,hy,e⟩:=M3.mp h
  cases e;exact hy
 .rw [a0t] at h
  split at h <;> cases h
def uQ (H:Hp) (M:MY):Bs:=⟨H,M,fun a=>H a≠none,fun _ h=>h,none,fun _=>False⟩
def ph (h:jM W M H ws xs vs) (hn:ws.length<=N.length):Rel W (uQ H M) (JV ws N.length) (fun _=>0) H (start N vs) (xs.map some++List.replicate (N.length - xs.length) none):=by
 have n2:∀ {k:Nat},(JV ws N.length)[k]? = some 2->False:=fun {k} h=>dE h
 have sM:∀ a,M a->H a≠none->Mof (uQ H M) (JV ws N.length) (fun _=>0) a:=fun a m _=>⟨⟨.inl m,id⟩,fun i hi=>(n2 hi).elim⟩
 obtain ⟨l1,l2⟩:=h.len
 refine ⟨zE.refl _, ?_,fun k x e=>?_,fun i hi=>(n2 hi).elim,fun i j hi=>(n2 hi).elim,fun hi=>(n2 hi).elim,fun a h=>h.elim,fun i hi=>(n2 hi).elim⟩
 .unfold start
  rw [M6,M6,u8,u8,a0y,a0y,l1,l2]
 .obtain ⟨v,w,hv,hw,r⟩:=h.get (dF e)
  have hk:k < vs.length:=(O2.mp hv).1
  have hS:(JV ws N.length)[k]? = some (if w=true then 1 else 0):=by
   unfold JV
   rw [S8 (by rw [u8,<- l1];exact hk),P0,hw];rfl
  refine ⟨v, ?_,fun z=>(n2 z).elim,fun z=>?_,fun _ z=>?_⟩
  .unfold L2.start
   rw [S8 (by rw [u8];exact hk),P0,hv];rfl
  .rw [hS] at z
   refine qe.sub r (fun a _ n=>n) sM
  .rw [hS] at z
   cases w with
   | true=>exact absurd rfl z
   | false=>exact (qe.iff.mp r).sub sM
section
variable {P:Nk}{w:Nq}{K:Ny}{mg:MU}{base:Heap}
def zO {x qual:Str}{st:NF}{f:Addr}{fd:Nr}{N ps:MX}{k n:Nat}{W:RC}{fr:Bool}{ws:Nf}{ms:MS}{S' Sb Sc:MV}(F:Fun K x qual st f fd) (S:zu N ps (zk st)) (hW:K=W.K) (hl:ws.length=ps.length) (hN:N.length=n) (hn:ws.length<=n)
  (h:∀ (cdv:Value) (A:Nt) (outer:List Env) (s:MZ) (H:Hp) (E:XK),k_ k (A.deeper (envOfC qual (zk st) s.heap.objs.size f cdv))->SsM (thr (l4 (CXe P w) P w K mg base N qual (zk st) f cdv A outer s H E) E) ⟨W,E,fr⟩ (JV ws n) S' Sb Sc (Zt st) ms):
  y3 P w K mg base (CXe P w) (k + 1) f fd ps (lsp W fr ws (Zs fr n ms)):=by
 subst hN
 refine F.okX S (Ci hl) fun cdv A outer s H vs Q E hr ⟨M,xs,ha,q⟩=>?_
 obtain ⟨ts,t1,t2⟩:=h cdv A outer s H E hr hW
 refine ⟨ts,t1,t2 (uQ H M) _ H _ _ (ph ha hn) _ ?_⟩
 unfold Zs at q
 revert q
 cases ms (xs.map some++List.replicate (N.length - xs.length) none) with
 | exc c fs=>exact fun q e dx es H2 s h1 h2 h3=>q e dx es H2 s h1 h2 h3
 | wall=>exact id
 | ok fl=>
  cases fl with
  | nx ρ'=>
   intro q P' H' σ' R'
   cases fr with
   | true=>exact q.elim
   | false=>exact q .non H' R'.same rfl
  | rt y=>exact fun q v H' s r=>q v H' s r
  | bk ρ'=>exact fun q=>q.elim
  | ct ρ'=>exact fun q=>q.elim
def Iz (c:Nat) (n:Nat) (ms:MS) (xs:Nj):Out PV:=match ms (some (.o c []) :: (xs.map some++List.replicate (n - xs.length) none)) with
 | .ok (.nx ρ)=>match ρ[0]? with
  | some (some x)=>.ok x
  | _=>.wall
 | .ok (.rt _)=>.wall
 | .ok (.bk _)=>.wall
 | .ok (.ct _)=>.wall
 | .exc c fs=>.exc c fs
 | .wall=>.wall
def bsI (H:Hp) (M:MY) (x:Addr):Bs:=⟨erase H x,M,fun a=>erase H x a≠none,fun _ h=>h,some x,fun _=>False⟩
def Qu:zE (erase H x) H:=fun a o h=>by
 unfold erase at h
 split at h
 .cases h
 .exact h
def mz (h:jM W M (erase H x) ws xs vs) (hx:H x=some (.ins (W.cls c) dx [])) (hN:N.length=n + 1) (hn:ws.length<=n):
  Rel W (bsI H M x) (2 :: JV ws n) (fun _=>x) H (start N (.ref x :: vs)) (some (.o c []) :: (xs.map some++List.replicate (n - xs.length) none)):=by
 have e0:erase H x x=none:=by unfold erase;rw [if_pos rfl]
 have n2:∀ {k:Nat},(2 :: JV ws n)[k]? = some 2->k=0:=fun {k} h=>by
  cases k with
  | zero=>rfl
  | succ k=>rw [P9] at h;exact (dE h).elim
 have sM:∀ a,M a->erase H x a≠none->Mof (bsI H M x) (2 :: JV ws n) (fun _=>x) a:=fun a m z=>⟨⟨.inl m,id⟩,fun i hi q=>z (q ▸ e0)⟩
 obtain ⟨l1,l2⟩:=h.len
 refine ⟨Qu, ?_,fun k y e=>?_,fun i hi=>⟨e0,_,hx,id⟩,fun i j hi hj _=>(n2 hi).trans (n2 hj).symm,fun hi p hp=>(T1 hp),fun a h=>h.elim,fun i hi=>id⟩
 .unfold L2.start
  simp only [List.length_cons,List.length_append,List.length_map,List.length_replicate,l1,l2,hN]
  omega
 .cases k with
  | zero=>
   cases e
   exact ⟨.ref x,rfl,fun _=>⟨rfl,dx,[],hx,rfl⟩,(fun z=>by cases z),fun z=>absurd rfl z⟩
  | succ k=>
   rw [P9] at e
   obtain ⟨v,w,hv,hw,r⟩:=h.get (dF e)
   have hk:k < vs.length:=(O2.mp hv).1
   have hS:(2 :: JV ws n)[k + 1]? = some (if w=true then 1 else 0):=by
    rw [P9]
    unfold JV
    rw [S8 (by rw [u8,<- l1];exact hk),P0,hw];rfl
   have r2:qe W (if w=true then fun _=>True else M) M H y v:=qe.same r Qu
   refine ⟨v, ?_,(fun z=>by cases (n2 z)),fun z=>?_,fun _ z=>?_⟩
   .unfold L2.start
    rw [N9,a2e,P9,S8 (by rw [u8];exact hk),P0,hv];rfl
   .exact qe.same (qe.sub r (fun a _ n=>n) sM) Qu
   .rw [hS] at z
    cases w with
    | true=>exact absurd rfl z
    | false=>exact Rep.same ((qe.iff.mp r).sub sM) Qu
def pq {x qual:Str}{st:NF}{f:Addr}{fd:Nr}{N ps:MX}{k n c:Nat}{W:RC}{ws:Nf}{ms:MS}{S' Sb Sc:MV}(F:Fun K x qual st f fd) (S:zu N ps (zk st)) (hW:K=W.K) (hl:ws.length + 1=ps.length) (hN:N.length=n + 1) (hn:ws.length<=n) (h2:S'[0]? = some 2)
  (h:∀ (cdv:Value) (A:Nt) (outer:List Env) (s:MZ) (H:Hp) (E:XK),k_ k (A.deeper (envOfC qual (zk st) s.heap.objs.size f cdv))->SsM (thr (l4 (CXe P w) P w K mg base N qual (zk st) f cdv A outer s H E) E) ⟨W,E,false⟩ (2 :: JV ws n) S' Sb Sc (Zt st) ms):
  y3 P w K mg base (CXe P w) (k + 1) f fd ps (Hc W c ws (Iz c n ms)):=by
 refine F.okX S (uI hl) fun cdv A outer s H vs Q E hr ⟨M,x,dx,xs,avs,e,hx,ha,q⟩=>?_
 subst e
 obtain ⟨ts,t1,t2⟩:=h cdv A outer s H E hr hW
 refine ⟨ts,t1,t2 (bsI H M x) _ H _ _ (mz ha hx hN hn) _ ?_⟩
 unfold Iz at q
 revert q
 cases ms (some (.o c []) :: (xs.map some++List.replicate (n - xs.length) none)) with
 | exc c fs=>exact fun q e dx es H2 s h1 h2 h3=>q e dx es H2 s h1 h2 h3
 | wall=>exact id
 | ok fl=>
  cases fl with
  | nx ρ'=>
   intro q P' H' σ' R'
   have q:LH W M H x Q E (match ρ'[0]? with | some (some x)=>.ok x | _=>.wall):=q
   split at q
   .rename_i y hy
    obtain ⟨_,ra,_⟩:=R'.at2 h2 hy
    have e:=R'.pin h2 x rfl
    rw [e] at ra
    exact q H' R'.same (ra.gen rfl Fr.refl fun a m _=>⟨m.1.1,fun z=>m.2 0 h2 (e.trans z.symm)⟩)
   .exact q.elim
  | rt y=>exact fun q=>q.elim
  | bk ρ'=>exact fun q=>q.elim
  | ct ρ'=>exact fun q=>q.elim
end
def nr (C:Addr) (fs:MX):Sp:=fun vs H Q _=>∃ e us,vs=.ref e :: us/\us.length=fs.length/\H e=some (XO e C none .none)/\∀ dx,H dx=none->Q .non (upd (upd H dx (XD dx (fs.zip us))) e (XO e C (some dx) .none))
def vm (c:Nat) (fns:MX) (ms:MA):MS:=fun ρ=>(ms ρ).bind fun xs=>if xs.length=fns.length/\xs.length<=1000 then .exc c (fns.zip xs) else .wall
def kW.zip {W:RC}{M:MY}{H:Hp}:∀ {fns:MX}{xs:Nj}{vs:Nb},yt W M H xs vs->xs.length=fns.length->kW W M H (fns.zip xs) (fns.zip vs)
 | [],[],_,h,_=>by cases (show _=_ from h);rfl
 | f :: fns,x :: xs,_,h,e=>by
  obtain ⟨v,r,rfl,h1,h2⟩:=h
  exact ⟨v,_,rfl,h1,kW.zip h2 (by simpa using e)⟩
 | [],_ :: _,_,_,e=>by cases e
 | _ :: _,[],_,_,e=>by cases e
def qC (hh:X.calm=true) (M:XMk X.K (C.W.cls c) f) (xc:Zu X.K (C.W.cls c)) (F:y3 X.prog X.w X.K X.mg X.base (CXe X.prog X.w) k f fd ps (nr (C.W.cls c) fns)) (hr:k_ (k + 1) X.A) (hg:Gl X x) (hm:X.mg x=some (.ref (C.W.cls c))) (hb:Binds X.K fd ps [])
  (ha:AM (thr X C.E) C S ws (e :: es) ms) (hw:ws.all (!·)=true:=by rfl) (hdb:(x == ("__debug__" : Str))=false:=by decide) (he:starEach (e :: es) X.env=(false,eval e X.env) :: starEach es X.env:=by rfl) (hpl:(backTo Yq (starEach es X.env)).any (·.1)=false:=by rfl):
  SM (thr X C.E) C S S' Sb Sc (.Raise (some (.Call (.Name x p) (e :: es) [] Yq)) none pos) (vm c fns ms):=fun hK=>by
 obtain ⟨ta,a1,a2⟩:=ha hK
 refine ⟨_,ur hh (uq (X:=thr X C.E) M F hr hg hm hb zK a1 hdb he hpl),fun B P H σ ρ R D q=>?_⟩
 show ta σ H _
 refine a2 B P H σ ρ R _ ?_
 unfold vm at q
 revert q
 cases ms ρ with
 | exc c fs=>exact id
 | wall=>exact id
 | ok xs=>
  intro q vs H1 s1 r1
  have rs:=r1.G_ hw
  have q:ZA C B S' Sb Sc D (if xs.length=fns.length/\xs.length<=1000 then .exc c (fns.zip xs) else .wall):=q
  split at q
  .rename_i hz
   refine ⟨by rw [rs.len];exact hz.2,fun y hy=>⟨y,vs,rfl,by rw [rs.len];exact hz.1,zh,fun dx hdx=>⟨rfl,y,_,dx,rfl,hK ▸ xc,zh, ?_⟩⟩⟩
   have ne:dx≠y:=fun z=>by rw [z,zh] at hdx;cases hdx
   rw [zj ne] at hdx
   rw [vg]
   have sm:zE H1 (upd (upd (upd H1 y (XO y (C.W.cls c) none .none)) dx (XD dx (fns.zip vs))) y (XC y (C.W.cls c) dx)):=fun b q hb=>by
    rw [zj (zX hb hy),zj (zX hb hdx),zj (zX hb hy)];exact hb
   exact q y dx (fns.zip vs) _ (R.same.trans (s1.trans sm)) zh (by rw [zj ne,zh]) ((kW.zip rs hz.1).gen sm.fr fun a m _=>m.1.1)
  .exact q.elim
def ki {S:MV}{i:Nat}:∀ j:Nat,(S.set i 0)[j]? = some 2->S[j]? = some 2:=fun _ h=>(vZ (c:=0) h).1
section
variable {X:Cx}{C:LC}{S:MV}{e a b:Nh}{w w1 w2:Bool}{m m1 m2:ME}{pos:Pos}
def uR:ME:=fun _=>.ok (.d [])
def pw:FM X C S (.Dict [] [] pos) uR:=fun hK=>⟨_,ue,fun B P H σ ρ R Q q=>fun p hp=>q _ _ (zE.upd hp) (Cf (xs:=[]) (vs:=[]) rfl hp)⟩
end
section
variable {α β:Type}
def vn {a:α}{f:α->Out β}:(Out.ok a).bind f=f a:=rfl
def v8 (h1:-(2 ^ 64) < a) (h2:a < 2 ^ 64):jd (.i a) (.i b)=.ok (.i (a * b)):=by
 show (if Ad a b\/_ then _ else _)=_
 rw [if_pos (.inl (.inl ⟨h1,h2⟩))]
def AD (h1:0 < b) (h2:b < 1073741824):mj (.i a) (.i b)=.ok (.i (a / b)):=by
 show (if DR a b then _ else _)=_
 rw [if_pos ⟨h1,h2⟩]
def dG (h1:0 < b):Jt (.i a) (.i b)=.ok (.i (a % b)):=by
 show (if 0 < b then _ else _)=_
 rw [if_pos h1]
def Cy:pIx (.l xs) (.i a)=v7 (atI xs a):=rfl
def dH {a:α}:v7 (some a)=.ok a:=rfl
def Fq (h:z.length<=sizeLine):Ze [.s z]=.ok (.i z.length):=by show (if _ then _ else _)=_;rw [if_pos h]
def IA {xs:List α}{x:α}:atI (x :: xs) 0=some x:=by unfold atI ixN;rw [if_pos (a0h _),if_pos (by simp)];rfl
def px {xs:List α}(h:0<=k):atI xs k=xs[k.toNat]?:=by
 unfold atI ixN
 rw [if_pos h]
 by_cases c:k < xs.length
 .rw [if_pos c];rfl
 .rw [if_neg c]
  symm
  exact a1W.mpr (by omega)
def iu {xs:List α}:atI xs (-1)=xs.getLast?:=by
 unfold atI ixN
 rw [if_neg (by decide)]
 cases xs with
 | nil=>rfl
 | cons x xs=>
  rw [if_pos (by simp only [List.length_cons];omega)]
  rw [List.getLast?_eq_getElem?]
  show (x :: xs)[((-1:Int) + ((xs.length + 1:Nat):Int)).toNat]? = (x :: xs)[xs.length + 1 - 1]?
  congr 1;omega
def pA (h:jO c b n ρ=o) (hw:o≠.wall):ar c b ρ=o:=by
 have mono:∀ (n k:Nat) (ρ:Sto),jO c b n ρ≠.wall->jO c b (n + k) ρ=jO c b n ρ:=by
  intro n
  induction n with
  | zero=>intro k ρ h;exact absurd rfl h
  | succ n ih=>
   intro k ρ h
   rw [show n + 1 + k=(n + k) + 1 by omega]
   unfold jO at h ⊢
   cases hc:c ρ with
   | exc c fs=>rfl
   | wall=>rfl
   | ok t=>
    rw [hc] at h
    cases t with
    | false=>rfl
    | true=>
     simp only [vn,if_true] at h ⊢
     cases hb:b ρ with
     | exc c fs=>rfl
     | wall=>rfl
     | ok f=>
      rw [hb] at h
      cases f with
      | nx ρ2=>exact ih k ρ2 h
      | ct ρ2=>exact ih k ρ2 h
      | bk ρ2=>rfl
      | rt v=>rfl
 have ex:∃ n,jO c b n ρ≠.wall:=⟨n,h ▸ hw⟩
 unfold ar
 rw [dif_pos ex]
 have hs:=R4 ex
 generalize Classical.choose ex=n0 at hs
 rcases Nat.le_total n n0 with g | g
 .obtain ⟨k,rfl⟩:=Nat.le.dest g
  rw [mono n k ρ (h ▸ hw)];exact h
 .obtain ⟨k,rfl⟩:=Nat.le.dest g
  rw [<- mono n0 k ρ hs];exact h
def pB:QG g b (x :: xs) ρ=(v7 (g x ρ)).bind fun ρ1=>(b ρ1).bind fun f=>match f with
  | .nx ρ2=>QG g b xs ρ2
  | .ct ρ2=>QG g b xs ρ2
  | .bk ρ2=>.ok (.nx ρ2)
  | .rt v=>.ok (.rt v):=rfl
def pC {α:Type}[BEq α] [LawfulBEq α] [DecidableEq α] {a b:α}:(a == b)=decide (a=b):=by
 by_cases h:a=b
 .subst h;simp
 .simp [h]
def Fs:JQ n (.i a) (.i b)=.ok (.b (xor n (decide (a=b)))):=by
 show Out.ok (PV.b (xor n (a == b)))=_;rw [pC]
def AE:fj n (.s x) (.s y)=some (decide (x=y)):=by cases n <;> (show some (x == y)=_;rw [pC])
def yc {fr:Bool}{n:Nat}{ms:MS}{xs:Nj}{x:PV}(h:ms (xs.map some++List.replicate (n - xs.length) none)=.ok (.rt x)):Zs fr n ms xs=.ok x:=by unfold Zs;rw [h]
def Cz (h:s ρ=.ok (.nx ρ')):yk s t ρ=t ρ':=by unfold yk;rw [h];rfl
def YA (h:s ρ=.ok (.rt x)):yk s t ρ=.ok (.rt x):=by unfold yk;rw [h];rfl
def Vv {k:Str}{v:PV}{r:Np}:List.lookup k ((k,v) :: r)=some v:=by simp [List.lookup]
def vo {k j:Str}{v:PV}{r:Np}(h:(k == j)=false):List.lookup k ((j,v) :: r)=List.lookup k r:=by simp [List.lookup,h]
def AF:List.lookup k ([]:List (Str × PV))=none:=rfl
def bu:tQ [] k v=[(k,v)]:=rfl
def Xc (h:(j == k)=false):tQ ((j,x) :: r) k v=(j,x) :: tQ r k v:=by
 show (if j=k then _ else _)=_;rw [if_neg (by simpa using h)]
end
def AG {α:Type}{a:α}:noX (.ok a)=.ok a:=rfl
def f_ {α:Type}{g:MG}{c:MT}{e:ME}(it:α->PV) (keep:α->Bool) (out:α->PV) (J:Sto->Prop):∀ (xs:List α) (ρ:Sto) (acc:Nj),J ρ->(∀ x∈xs,∀ ρ,J ρ->∃ ρ1,g (it x) ρ=some ρ1/\J ρ1/\c ρ1=.ok (keep x)/\(keep x=true->e ρ1=.ok (out x)))->acc.length + xs.length<=100000->lcP g c e (xs.map it) ρ acc=.ok (.l (acc++(xs.filter keep).map out))
 | [],ρ,acc,_,_,_=>by simp [lcP]
 | x :: xs,ρ,acc,hJ,h,hl=>by
  obtain ⟨ρ1,h1,h2,h3,h4⟩:=h x v4 ρ hJ
  rw [v0] at hl
  rw [N9]
  unfold lcP
  rw [h1,dH,vn,h3,AG,vn]
  cases hk:keep x with
  | true=>
   rw [if_pos rfl,h4 hk,AG,vn,if_pos (O0 (show acc.length < 100000 by omega) (by decide)),List.filter_cons_of_pos hk,N9]
   rw [f_ it keep out J xs ρ1 (acc++[out x]) h2 (fun z hz=>h z (M9 _ hz)) (by rw [M6];show acc.length + 1 + _<=_;omega),P2];rfl
  | false=>
   rw [if_neg O3,List.filter_cons_of_neg (by rw [hk];exact O3)]
   exact f_ it keep out J xs ρ1 acc h2 (fun z hz=>h z (M9 _ hz)) (by omega)
def K1 {α:Type}(it:α->PV) (out:α->PV) (J:Sto->Prop) (xs:List α) (ρ:Sto) (hJ:J ρ) (h:∀ x∈xs,∀ ρ,J ρ->∃ ρ1,g (it x) ρ=some ρ1/\J ρ1/\e ρ1=.ok (out x)) (hl:xs.length<=100000):lcP g pd e (xs.map it) ρ []=.ok (.l (xs.map out)):=by
 rw [f_ (c:=pd) it (fun _=>true) out J xs ρ [] hJ (fun x hx ρ hρ=>let ⟨ρ1,a,b,c⟩:=h x hx ρ hρ;⟨ρ1,a,b,rfl,fun _=>c⟩) (by simpa using hl)]
 rw [List.filter_eq_self.mpr fun _ _=>rfl];rfl
end L2
namespace L2
open PySem
end L2
namespace L2
open PySem PySem.Spec PyProof.Rows PySem.W
section
variable {X:Cx}
def Ft (X:Cx) (T:String) (r:List V->Hp->VK->Prop):Prop:=
 ∀ (pins:MR) (s:MZ) (σ:St) (H:Hp) (vs:Nb) (us:M_) (Q:VK),Inv X pins σ H s->Vals vs us->r vs H Q->
  wpAny (Oc X) X.A (call (.type T) us) (fun v s1=>wpAny (Oc X) X.A (call (.type "list") [v]) (EP X pins σ Q) X.xe s1) X.xe s
def pD (hc:Ft X T r) (hgl:Gl X "list") (hml:X.mg "list" = none) (hg:Gl X x) (hm:X.mg x=none) (hv:bootBuiltins x=some (.type T)) (ha:PA X (e :: es) t)
  (hn:x ≠ "__name__" := by decide) (hdb:(x == ("__debug__" : Str))=false:=by decide)
  (he:starEach (e :: es) X.env=(false,eval e X.env) :: starEach es X.env:=by rfl) (hpl:(backTo pos' (starEach es X.env)).any (·.1)=false:=by rfl):
  PE X (.Call (.Name "list" p) [.Call (.Name x p') (e :: es) [] pos'] [] pos) (tCB r t):=by
 intro pins s σ H Q I h
 refine T9 (Vp I hgl hml a2v ?_ (by decide) (by decide))
 refine a0k ?_ rfl rfl
 show wpAny _ _ (spliced [(false,eval (.Call (.Name x p') (e :: es) [] pos') X.env)]) _ _ s
 refine a0M ?_
 refine T9 (Vp I hg hm hv ?_ hn hdb)
 refine a0k (thn (ha pos' pins s σ H _ I h) fun us s1 ⟨vs,H1,I1,r1,q1⟩=>thn (hc pins s1 σ H1 vs us Q I1 r1 q1) fun v s2 h2=>?_) he hpl
 exact a1k h2
def Xd:∀ {xs:Nb}{us:M_},xs.length=us.length->(∀ (j:Nat) x u,xs[j]? = some x->us[j]? = some u->RelV x u)->Vals xs us
 | [],[],_,_=>.nil
 | x :: xs,u :: us,hl,h=>.cons (h 0 x u rfl rfl) (Xd (by simpa using hl) fun j y v e1 e2=>h (j + 1) y v (by simpa using e1) (by simpa using e2))
def iw (I:Inv X pins σ H s) (hs:s.heap.objs.size<=l) (hk:∀ b o,s.heap.get? b=some o->h'.get? b=some o)
  (hl:h'.get? l=some { cls:=.type "list",dict:=none,data:=.seq acc c,slots:=#[] }) (hz:ys.length<=sizeLine) (hy:ys.length=acc.size) (hv:∀ (j:Nat) x u,ys[j]? = some x->acc[j]? = some u->RelV x u) (q:∀ l,H l=none->Q (.ref l) (upd H l (.lst ys))):
  EP X pins σ Q (.ref l) { s with heap:=h',toks:=tk }:=
 ⟨.ref l,_,I.laid (t':=tk) hk hs (show qp X.prog X.w _ h' _ (.lst ys) from ⟨hz,acc.toList,c,Xd (by rw [a0H];exact hy) (fun j x u e1 e2=>hv j x u e1 (by simpa using e2)),by rw [Array.toArray_toList];exact hl⟩),rfl,q _ (I.hok.fresh hs)⟩
end
def pE:typeLookup (.type "list_reverseiterator") "__len__" = pure none:=by rw [a05,a0A];kernel_rfl
def uS:typeLookup (.type "list_reverseiterator") "__length_hint__" = pure (some (.builtin "list_reverseiterator.__length_hint__")):=by rw [a05,a0A];kernel_rfl
def CA (hT:s.TypeIs (.ref it) "list_reverseiterator") (h:Q false s):wpAny (model prog w) A (Builtin.List.listLengthHint (.ref it)) Q E s:=by
 unfold Builtin.List.listLengthHint
 refine f8 (a1A hT pE ?_)
 show wpAny _ _ (specialOf (Value.ref it) (Str.ofString "__length_hint__") >>= _) _ _ _
 refine f8 (a1A hT uS ?_)
 generalize hid:("list_reverseiterator.__length_hint__" : String)=id0
 (fail_if_success (clear hid id0));wp_delta
 rw [show splitId id0=some ("list_reverseiterator","__length_hint__") from by subst hid;decide +kernel]
 subst hid
 refine f8 (a00 (b:=true) hT (by rw [a2B];kernel_rfl) ?_)
 exact N5 h
def CB {Q:MW}{it l:Addr}{items:NR}(hh:A.handled=none) (hne:l≠it) (hit:s.heap.IsRevIter it l ((items.size:Int) - 1)) (hli:s.heap.IsList l items) (hn:items.size<=sizeLine)
  (hQ:∀ h' tk acc' c',(∀ b o,b≠it->s.heap.get? b=some o->h'.get? b=some o)->h'.get? s.heap.objs.size=some { cls:=.type "list",dict:=none,data:=.seq acc' c',slots:=#[] }->ItemsOf (fun i v=>items[items.size - 1 - i]? = some v) acc' items.size->Q (.ref s.heap.objs.size) { s with heap:=h',toks:=tk }):
  wpAny (model prog w) A (call (.type "list") [.ref it]) Q E s:=by
 have l1:it < s.heap.objs.size:=by obtain ⟨o,ho,_⟩:=hit;exact N4 ho
 have l2:l < s.heap.objs.size:=by obtain ⟨o,ho,_⟩:=hli;exact N4 ho
 refine a2C (Q₁:=fun obj s₁=>obj=.ref s.heap.objs.size/\s₁ = { s with heap:=s.heap.push { cls:=.type "list",data:=.seq #[] } }) a2Q (a2n _) a2o
  (code_list_new _ ⟨rfl,rfl⟩) fun obj s₁ h₁=>?_
 obtain ⟨rfl,rfl⟩:=h₁
 have hS:(s.heap.push { cls:=.type "list",data:=.seq #[] }).get? s.heap.objs.size=some { cls:=.type "list",data:=.seq #[] }:=O7 _ rfl
 refine ⟨⟨_,hS,rfl⟩,a2f _ _, ?_⟩
 show wpAny _ _ (do let old <- Builtin.List.listItems (.ref s.heap.objs.size);Builtin.List.listUpdate (.ref s.heap.objs.size) (fun _=>#[]);letGo old.toList.reverse;Builtin.List.listExtendWith (.ref s.heap.objs.size) (.ref it) .none) _ _ _
 refine f8 ?_
 unfold Builtin.List.listItems
 refine f8 (wpAny_seqItems hS rfl (N5 ?_))
 show wpAny _ _ (updateSeq s.heap.objs.size (fun _=>#[]) >>= fun _=>letGo (#[]:Array Value).toList.reverse >>= fun _=>Builtin.List.listExtendWith (.ref s.heap.objs.size) (.ref it) .none) _ _ _
 refine f8 (a1C hS rfl ?_)
 have hS₂:=a0d (Obj.mapSeq (fun _=>(#[]:Array Value))) hS rfl
 refine f8 (a22 ?_)
 have kp:∀ b o,s.heap.get? b=some o->((s.heap.push { cls:=.type "list",data:=.seq #[] }).update s.heap.objs.size (Obj.mapSeq (fun _=>(#[]:Array Value)))).get? b=some o:=fun b o e=>
  (P5 _ _ (a0r (N4 e))).trans (M7 _ e)
 generalize ((s.heap.push { cls:=.type "list",data:=.seq #[] }).update s.heap.objs.size (Obj.mapSeq (fun _=>(#[]:Array Value))))=h2 at hS₂ kp
 have hit2:h2.IsRevIter it l ((items.size:Int) - 1):=by obtain ⟨o,ho,z⟩:=hit;exact ⟨o,kp _ _ ho,z⟩
 have hli2:h2.IsList l items:=by obtain ⟨o,ho,z⟩:=hli;exact ⟨o,kp _ _ ho,z⟩
 unfold Builtin.List.listExtendWith
 refine f8 (a0V (T := "list_reverseiterator") hit2.typeIs ?_)
 have hne1:s.heap.objs.size≠it:=a0r l1
 have hne2:s.heap.objs.size≠l:=a0r l2
 have h1:Builtin.List.listSameRef (.ref s.heap.objs.size) (.ref it)=false:=by simp [Builtin.List.listSameRef,hne1]
 rw [if_neg (by rw [h1];decide)]
 refine f8 (wpAny_pyIter_revIter hit2 ?_)
 refine f8 (T8 (CA hit2.typeIs ?_))
 rw [if_neg (by decide)]
 refine N5 ⟨a1P a1X _,a2J (Walks.listRev (A:=A.in1.in1) hh it l hne items).toS hn s.heap.objs.size (by simp [hne1,hne2]) _ items.size 0 _ _ _ rfl (S7 _) (show _/\Heap.IsRevIter h2 _ _ _/\_ from ⟨S7 _,by simpa using hit2,hli2⟩) hS₂ (ItemsOf.nil _) fun s' acc' c' hm hS' hacc=>?_⟩
 rw [a2O hm]
 refine ⟨rfl,hQ s'.heap s'.toks acc' c' (fun b o hb e=>hm.heap b o (fun hmem=>?_) (kp b o e)) hS' hacc⟩
 rcases O5.mp hmem with e' | hmem
 .exact absurd (N4 e) (by rw [e'];exact T6 _)
 .exact hb (M8.mp hmem)
section
variable {X:Cx}
def Fu (K:Ny) (vs:Nb) (H:Hp) (Q:VK):Prop:=∃ p ys,vs=[.ref p]/\SqL K H p ys/\∀ l,H l=none->Q (.ref l) (upd H l (.lst ys.reverse))
def pF (hc:X.calm=true):Ft X "reversed" (Fu X.K):=by
 intro pins s σ H vs us Q I r h
 obtain ⟨p,ys,rfl,hq,q⟩:=h
 obtain ⟨u,rfl,rx⟩:=vals1 r
 cases rx
 obtain ⟨its,r',pl,hz⟩:=I.list hq
 have hlen:=r'.length
 have hlt:p < s.heap.objs.size:=by obtain ⟨o,ho,_⟩:=pl.isList;exact N4 ho
 refine call_reversed_list pl.isList ?_
 have pk:∀ b o,s.heap.get? b=some o->(s.heap.push (revObj p ((its.toArray.size:Int) - 1))).get? b=some o:=fun b o e=>M7 _ e
 refine CB (items:=its.toArray) (I.ok.hd hc) (O1 hlt) ⟨_,O7 _ rfl,rfl,rfl⟩ (by obtain ⟨o,ho,z⟩:=pl.isList;exact ⟨o,pk _ _ ho,z⟩) (by simp;omega) fun h' tk acc' c' hk hl hi=>?_
 refine iw (s:=s) (tk:=tk) I ?_ (fun b o e=>hk b o (O1 (N4 e)) (pk b o e)) hl ?_ ?_ ?_ q
 .simp [Heap.push]
 .rw [a1J];exact hz
 .rw [a1J,hi.1];simpa using hlen
 .intro k x u e1 e2
  have h3:=hi.2 k u e2
  have hk':k < ys.length:=by have:=(O2.mp e1).1;simpa using this
  rw [a1t hk'] at e1
  obtain ⟨u',e3,e4⟩:=r'.get e1
  have:its[ys.length - 1 - k]? = some u:=by simpa [hlen] using h3
  rw [this] at e3
  cases e3
  exact e4
end
def Qv:List PV->Out PV
 | [.l xs]=>.ok (.l xs.reverse)
 | _=>.wall
def yt.of_get {W:RC}{M:MY}{H:Hp}:∀ {xs:Nj}{vs:Nb},xs.length=vs.length->(∀ (j:Nat) x v,xs[j]? = some x->vs[j]? = some v->Rep W M H x v)->yt W M H xs vs
 | [],[],_,_=>rfl
 | x :: xs,v :: vs,hl,h=>⟨v,vs,rfl,h 0 x v rfl rfl,yt.of_get (by simpa using hl) fun j y u e1 e2=>h (j + 1) y u (by simpa using e1) (by simpa using e2)⟩
def yt.reverse (h:yt W M H xs vs):yt W M H xs.reverse vs.reverse:=by
 have hl:=h.len
 refine yt.of_get (by simp [hl]) fun j x v e1 e2=>?_
 have hj:j < xs.length:=by have:=(O2.mp e1).1;simpa using this
 rw [a1t hj] at e1
 rw [a1t (by omega),hl] at e2
 obtain ⟨u,h1,h2⟩:=h.get e1
 rw [h1] at e2;cases e2;exact h2
def CC:LfF W (Fu W.K) Qv:=fun M C B H xs vs Q n h q=>by
 unfold Qv at q
 split at q
 .obtain ⟨v,r,rfl,⟨p,vs,rfl,_,hl,rr⟩,hr⟩:=h
  cases (show _=_ from hr)
  exact ⟨p,vs,rfl,SqL.of hl,fun l hl=>q _ _ (zE.upd hl) (Vu (yt.reverse rr) hl)⟩
 .exact q.elim
def gc (hc:X.calm=true) (hgl:Gl X "list") (hml:X.mg "list" = none) (hg:Gl X "reversed") (hm:X.mg "reversed" = none) (ha:AM X C S ws [e] ms) (he:starEach [e] X.env=[(false,eval e X.env)]:=by rfl):FM X C S (.Call (.Name "list" p) [.Call (.Name "reversed" p') [e] [] pos'] [] pos) (zm Qv ms):=fun hK=>by
 obtain ⟨ta,a1,a2⟩:=ha hK
 exact ⟨_,pD (hK ▸ pF hc) hgl hml hg hm PyProof.Rows.boot_reversed a1 (he:=he),Fc CC a2⟩
section
variable {X:Cx}{C:LC}{S S' S1 S2 Sb Sc:MV}{e:Nh}{es:Nc}{ws:Nf}{ms:MA}{pos p pos':Pos}{x y:Str}{k i j:Nat}{f:Addr}{fd:Nr}{ps:MX}{fr:Bool}{g:Nl}{m1 m2:MS}
end
section
variable {P:Nk}{w:Nq}{K:Ny}{mg:MU}{base:Heap}
end
section
variable {X:Cx}{pins:MR}{σ:St}{H:Hp}{s:MZ}{a:Addr}{u u':HO}
end
def Fv (h:KV es vs):∀ {i:Nat}{k:Key}{v:V},es[i]? = some (k,v)->∃ w,vs[i]? = some (k,w):=by
 induction h with
 | nil=>intro i k v e;simp at e
 | @cons p q _ _ hp _ ih=>
  intro i k v e
  cases i with
  | zero=>simp at e;subst e;exact ⟨q.2,by simp;exact Prod.ext hp.1.symm rfl⟩
  | succ i=>simp at e ⊢;exact ih e
def pG (h:(yG P w).is k u=true):RelV (kV k) u:=by
 rw [lN] at h
 rcases yR h with ⟨i,t,rfl,rfl⟩ | ⟨x,t,rfl,rfl⟩
 .exact ⟨t,rfl⟩
 .exact ⟨t,rfl⟩
section
variable {W:RC}{M:MY}{H H':Hp}{a:Addr}{es:Ng}
end
section
variable {W:RC}{B:Bs}{S S':MV}{P P':Na}{H H':Hp}{σ σ':St}{ρ ρ':Sto}{a:Addr}{es:Ng}{u u':HO}
end
def kP:Key->PV
 | .inl i=>.i i
 | .inr x=>.s x
def Fx {W:RC}{M:MY}{H:Hp}:∀ k:Key,Rep W M H (kP k) (kV k)
 | .inl _=>rfl
 | .inr _=>rfl
section
variable {X:Cx}{W:RC}{E:XK}{fr:Bool}{S S1 Sb Sc:MV}{tg j9:Nh}{body:Nx}{mg:MG}{mb:MS}{pos:Pos}{i:Nat}
end
section
variable {X:Cx}{C:LC}{S:MV}{j9 tg elt:Nh}{ifs:Nc}{me:ME}{mc:MT}{mg:MG}{pos:Pos}{i:Nat}{scope:Scope}
end
def Fy:List V->Hp->VK->Prop:=fun vs H Q=>∃ (p:Addr) (es:Ng),vs=[.ref p]/\Rd H p (.dK es)/\∀ l,H l=none->Q (.ref l) (upd H l (.dK es))
def mB:Yu X (.type "dict") Fy:=by
 intro pins s σ H xs us Q I r h
 obtain ⟨p,es,rfl,hS,q⟩:=h
 obtain ⟨u,rfl,ru⟩:=vals1 r
 cases ru
 exact uj I hS fun l s' hl I'=>⟨.ref l,_,I',rfl,q l hl⟩
section
variable {X:Cx}{C:LC}{S Sb Sc:MV}{o e a:Nh}{es:Nc}{w w1 w2:Bool}{ws:Nf}{m m1 m2:ME}{ms:MA}{pos p Yq kA:Pos}{i:Nat}
end
section
variable {X:Cx}{pins:MR}{σ:St}{H:Hp}{s:MZ}{W:RC}
end
section
variable {X:Cx}{C:LC}{S:MV}{e a b:Nh}{es:Nc}{w:Bool}{m m1 m2:ME}{ms:MA}{pos:Pos}
end
section
variable {X:Cx}{elt j9 tg:Nh}{ifs:Nc}{scope:Scope}{pos tK py:Pos}{N:MX}{fr:Ni}{g:TG}{tc:TT}{te:TEx}{wi:TI}{y:Str}{i:Nat}
end
section
variable {X:Cx}{C:LC}{S Si:MV}{e j9 tg elt:Nh}{es ifs:Nc}{w:Bool}{ws:Nf}{m me:ME}{ms:MA}{mc:MT}{mg:MG}{mi:MI}{pos p:Pos}{x:Str}{scope:Scope}{k:Nat}{f:Addr}{fd:Nr}{ps:MX}{fr':Bool}{g:Nl}
end
end L2
namespace L2
open PySem
def IB {α:Type}{P:List α->Prop}{us:List α}(hl:us.length=1) (h:∀ a,P [a]):P us:=by
 rcases us with _ | ⟨a,_ | ⟨b,us⟩⟩ <;> first | exact h _ | cases hl
def IC {α:Type}{P:List α->Prop}{us:List α}(hl:us.length=2) (h:∀ a b,P [a,b]):P us:=by
 rcases us with _ | ⟨a,_ | ⟨b,_ | ⟨c,us⟩⟩⟩ <;> first | exact h _ _ | cases hl
def ID {α:Type}{P:List α->Prop}{us:List α}(hl:us.length=3) (h:∀ a b c,P [a,b,c]):P us:=by
 rcases us with _ | ⟨a,_ | ⟨b,_ | ⟨c,_ | ⟨d,us⟩⟩⟩⟩ <;> first | exact h _ _ _ | cases hl
def IE {α:Type}{P:List α->Prop}{us:List α}(hl:us.length=4) (h:∀ a b c d,P [a,b,c,d]):P us:=by
 rcases us with _ | ⟨a,_ | ⟨b,_ | ⟨c,_ | ⟨d,_ | ⟨e,us⟩⟩⟩⟩⟩ <;> first | exact h _ _ _ _ | cases hl
def IF {α:Type}{P:List α->Prop}{us:List α}(hl:us.length=5) (h:∀ a b c d e,P [a,b,c,d,e]):P us:=by
 rcases us with _ | ⟨a,_ | ⟨b,_ | ⟨c,_ | ⟨d,_ | ⟨e,_ | ⟨f,us⟩⟩⟩⟩⟩⟩ <;> first | exact h _ _ _ _ _ | cases hl
def dI (z:CXe P w outer H s (fun _ _ _=>False) v s'):False:=by
 obtain ⟨_,_,_,_,_,_,_,_,_,_,_,_,_,_,_,_,_,_,q⟩:=z
 exact q
def okb {α β:Type}{a:α}{f:α->Out β}:(Out.ok a).bind f=f a:=Eq.trans (Eq.refl _) (Eq.refl _)
section
variable {α β σ:Type}{g:MG}{b:MS}{c:MT}{e:ME}{ρ ρ':Sto}{s t:MS}{m:ME}{x:PV}{mi:MI}{o:Out Fw}{i:Nat}
def zf (h:∃ ρ',s ρ=.ok (.nx ρ')/\t ρ' = o):yk s t ρ=o:=let ⟨_,a,b⟩:=h;(Cz a).trans b
def Uy {fr:Ni}{xs:Nj}(h:mi ρ=.ok xs) (h2:lcP g c e xs (fZ ρ fr) []=.ok x):mLC mi fr g c e ρ=.ok x:=by unfold mLC;rw [h,vn,h2]
def yn (h:m ρ=.ok x):qW i m ρ=.ok (.nx (ρ.set i (some x))):=by unfold qW;rw [h,vn]
def jj (h:mi ρ=.ok xs) (h2:QG g b xs ρ=o):Wd mi g b ρ=o:=by unfold Wd;rw [h,vn,h2]
def uT {n:Nat}(h:n<=1000000):pb [.i (n:Int)]=.ok (ir 0 n):=by
 unfold pb;exact (if_pos ⟨by omega,by omega⟩).trans (by rw [a1o])
def pH (h:ms ρ=.ok [.i (n:Int)]) (hn:n<=1000000):Xa ms ρ=.ok (ir 0 n):=by unfold Xa;rw [h,vn,uT hn]
def bw (h:ms ρ=.ok [.i n]) (h0:0<=n) (hn:n<=1000000):Xa ms ρ=.ok (ir 0 n.toNat):=pH (n:=n.toNat) (by rw [h];congr 3;omega) (by omega)
def yh (h:m ρ=.ok (.l xs)):yV m ρ=.ok xs:=by unfold yV;rw [h,vn];rfl
def ix:ir 0 n=(List.range n).map fun k=>PV.i ((k:Nat):Int):=by
 unfold ir;exact a0I fun k _=>by congr 1;omega
def iy (it:α->PV) (J:Nat->Sto->Prop):∀ (xs:List α) (j:Nat) (ρ:Sto),J j ρ->(∀ (k:Nat) (h:k < xs.length) (ρ:Sto),J (j + k) ρ->∃ ρ1,g (it xs[k]) ρ=some ρ1/\∃ ρ2,J (j + k + 1) ρ2/\(b ρ1=.ok (.nx ρ2)\/b ρ1=.ok (.ct ρ2)))->∃ ρ',J (j + xs.length) ρ'/\QG g b (xs.map it) ρ=.ok (.nx ρ')
 | [],j,ρ,h,_=>⟨ρ,h,rfl⟩
 | x :: xs,j,ρ,h,hs=>by
  obtain ⟨ρ1,h1,ρ2,h2,h3⟩:=hs 0 (Nat.zero_lt_succ _) ρ h
  obtain ⟨ρ3,h4,h5⟩:=iy it J xs (j + 1) ρ2 h2 fun k hk ρ hρ=>by
   have:=hs (k + 1) (Nat.succ_lt_succ hk) ρ (by rw [show j + (k + 1)=j + 1 + k by omega];exact hρ)
   rw [show j + (k + 1) + 1=j + 1 + k + 1 by omega] at this
   exact this
  refine ⟨ρ3,by rw [v0,show j + (xs.length + 1)=j + 1 + xs.length by omega];exact h4, ?_⟩
  rw [N9,pB,show g (it x) ρ=some ρ1 from h1,dH,vn]
  rcases h3 with h3 | h3 <;> (rw [h3,vn];exact h5)
def YB (it:α->PV) (J:Nat->Sto->Prop) (xs:List α) (ρ:Sto) (h:J 0 ρ) (hs:∀ (k:Nat) (h:k < xs.length) (ρ:Sto),J k ρ->∃ ρ1,g (it xs[k]) ρ=some ρ1/\∃ ρ2,J (k + 1) ρ2/\(b ρ1=.ok (.nx ρ2)\/b ρ1=.ok (.ct ρ2))):∃ ρ',J xs.length ρ'/\QG g b (xs.map it) ρ=.ok (.nx ρ'):=by
 have:=iy (g:=g) (b:=b) it J xs 0 ρ h fun k hk ρ hρ=>by
  have:=hs k hk ρ (by rwa [a2g] at hρ);rwa [a2g]
 rwa [a2g] at this
def JW (J:Nat->Sto->Prop) (n:Nat) (ρ:Sto) (h:J 0 ρ) (hs:∀ (k:Nat),k < n->∀ (ρ:Sto),J k ρ->∃ ρ1,g (.i (k:Int)) ρ=some ρ1/\∃ ρ2,J (k + 1) ρ2/\(b ρ1=.ok (.nx ρ2)\/b ρ1=.ok (.ct ρ2))):∃ ρ',J n ρ'/\QG g b (ir 0 n) ρ=.ok (.nx ρ'):=by
 have:=YB (g:=g) (b:=b) (fun k:Nat=>PV.i (k:Int)) J (List.range n) ρ h fun k hk ρ hρ=>by
  rw [a1b];exact hs k (by rwa [T4] at hk) ρ hρ
 rwa [T4,<- ix] at this
end
end L2
namespace L2
open PySem PySem.Spec PyProof.Rows PySem.W
section
variable {prog:Nk}{w:Nq}{A:Nt}{E:MW}{h:Heap}{g:Array GenState}{d:Drawn}{t:Nat}{os:OsState}{a:Addr}{its:NR}{n:Nat}{sl:NC}
def dJ:typeLookup (.type "list") "keys" = pure none:=by rw [a05,a0A];kernel_rfl
def Xe:typeLookup (.type "list") "__getattr__" = pure none:=by rw [a05,a0A];kernel_rfl
def pJ:isSubtype (.type "AttributeError") (.type "AttributeError")=pure true:=by rw [a2B];kernel_rfl
def CD (he:h.get? e=some ⟨.type "AttributeError",none,.fields #[T,.none,.none,.none,.bool false,X,rawInt 0,rawInt 0],#[]⟩)
  (hQ:∀ h',(∀ b o,b≠e->h.get? b=some o->h'.get? b=some o)->(∃ oe,h'.get? e=some oe/\oe.cls=.type "AttributeError")->Q () ⟨h',g,d,t,os⟩):
  wpAny (model prog w) A (noteAttr (.ref e) o name) Q E ⟨h,g,d,t,os⟩:=by
 have hT:(⟨h,g,d,t,os⟩:Shared).TypeIs (.ref e) "AttributeError" := ⟨_,he,rfl⟩
 unfold noteAttr lacksNameAndObj
 refine f8 ?_
 refine f8 (a00 (b:=true) hT pJ ?_)
 rw [if_neg (by decide)]
 refine f8 (a2G he ?_)
 dsimp only
 rw [if_neg (fun z=>by cases (show false=true from z))]
 rw [if_neg (fun z=>by cases (show false=true from z))]
 refine N5 ?_
 rw [if_pos rfl]
 refine f8 (a2K ?_)
 refine f8 (a0V (T := "AttributeError") hT ?_)
 dsimp only
 unfold layMembers
 refine f8 (a2G he ?_)
 dsimp only
 refine wpAny_update he ?_
 refine hQ _ (fun b o hb e'=>(P5 _ _ (Ne.symm hb)).trans e') ⟨_,a0d _ he rfl,rfl⟩
def mD (hh:A.handled=none) (hx:h.get? a=some ⟨.type "list",none,.seq its n,sl⟩)
  (hE:∀ h' tk e,(∀ b o,h.get? b=some o->h'.get? b=some o)->(∃ oe,h'.get? e=some oe/\oe.cls=.type "AttributeError")->E (.ref e) ⟨h',g,d,tk,os⟩):
  wpAny (model prog w) A (Builtin.«object.__getattribute__» ⟨[.ref a,.str "keys" tk],[]⟩) Q E ⟨h,g,d,t,os⟩:=by
 have hT:(⟨h,g,d,t,os⟩:Shared).TypeIs (.ref a) "list" := ⟨_,hx,rfl⟩
 have f4:=dJ
 repeat (any_goals (first | assumption | wp_step))
 unfold raiseAttrError
 refine f8 (wpAny_mkStr (f8 ?_) (by decide +kernel))
 unfold newExc newTuple
 refine f8 (a1l ?_)
 refine f8 (m:=firstArgMember _ _) (a2w (a:=Value.none) (by simp only [firstArgMember];kernel_rfl) ?_)
 refine a1l ?_
 refine f8 (a18 (f8 ?_))
 refine CD (O7 _ rfl) fun h' hk he=>?_
 unfold raiseNew
 refine f8 (wpAny_handled ?_)
 rw [hh]
 first
  | refine a23 ?_
  | refine f8 (N5 (a23 ?_))
 exact hE _ _ _ (fun b o e=>hk b o (O1 (O0 (N4 e) (by simp))) (M7 _ (M7 _ e))) he
def pK (hh:A.handled=none) (hx:h.get? a=some ⟨.type "list",none,.seq its n,sl⟩)
  (hE:∀ h' tk e,(∀ b o,h.get? b=some o->h'.get? b=some o)->(∃ oe,h'.get? e=some oe/\oe.cls=.type "AttributeError")->R (.error (.ref e)) ⟨h',g,d,tk,os⟩):
  codeAny (model prog w) A (.call (.builtin "list.__getattribute__") ⟨[.ref a,.str "keys" tk],[]⟩) R ⟨h,g,d,t,os⟩:=
 a0Y F.slot_list_getattribute.plain F.entry_list_ga (F.slot_list_getattribute.check _ _ _ _ _ _ _ _ (show (⟨h,g,d,t,os⟩:Shared).TypeIs (.ref a) "list" from ⟨_,hx,rfl⟩) (F.args_list_getattribute_2 _ _) (mD hh hx hE))
def CF (hh:A.handled=none) (hx:h.get? a=some ⟨.type "list",none,.seq its n,sl⟩) (hQ:∀ h' tk,(∀ b o,h.get? b=some o->h'.get? b=some o)->Q none ⟨h',g,d,tk,os⟩):
  wpAny (model prog w) A (getAttr? (.ref a) "keys") Q E ⟨h,g,d,t,os⟩:=by
 have hT:∀ t,(⟨h,g,d,t,os⟩:Shared).TypeIs (.ref a) "list" := fun t=>⟨_,hx,rfl⟩
 have f2:=F.slot_list_getattribute.lookup
 have f3:=F.slot_list_getattribute.bind (.ref a)
 unfold getAttr? getAttrBy?
 refine f8 (a18 ?_)
 refine f8 (a02 ?_)
 unfold getAttrBy
 refine T8 ?_
 refine f8 (a0V (T := "list") (hT _) ?_)
 refine f8 (a2w f2 ?_)
 dsimp only
 rw [if_neg (fun z=>by cases (show false=true from z))]
 unfold getAttrByItsOwn hookBefore
 rw [if_neg (fun z=>by cases (show false=true from z))]
 refine f8 (N5 ?_)
 refine f8 (a02 ?_)
 refine T8 ?_
 unfold callGetattribute
 rw [if_neg (fun z=>by cases (show false=true from z))]
 unfold boundAndCalled
 refine f8 (a2w f3 ?_)
 dsimp only
 refine a0C (pK hh hx fun h' tk e hk he=>?_)
 obtain ⟨oe,he,hc⟩:=he
 have hTe:(⟨h',g,d,tk,os⟩:Shared).TypeIs (.ref e) "AttributeError" := ⟨_,he,hc⟩
 dsimp only
 unfold getattributeRaised
 refine f8 (a00 (b:=true) hTe pJ ?_)
 rw [if_pos rfl]
 unfold hookBehind
 rw [if_neg (fun z=>by cases (show false=true from z))]
 refine f8 (a2w Xe ?_)
 unfold hookOrError attributeErrorLeaves
 dsimp only
 rw [if_pos (show (!false)=true from rfl)]
 refine f8 (a23 ?_)
 refine f8 (a00 (b:=true) hTe pJ ?_)
 rw [if_pos rfl]
 exact N5 (hQ h' tk hk)
end
def QJ:entryFor table "dict.update.loop" = some Builtin.«dict.update.loop»:=entryFor_of_tree (by kernel_rfl)
def j_:plainId "dict.update.loop" = true:=by decide +kernel
section
variable {prog:Nk}{w:Nq}{A:Nt}{R:Result->Shared->Prop}{I:Addr}{fp wr:NG}{G:Array GenState->Array GenState->Prop}{n:Nat}{P:Nat->Value->Prop}{St:Nat->Shared->Prop}{K:Type}[DecidableEq K] {knd:KeyKind prog w K}
def TupAt (h:Heap) (a:Addr) (k v:Value):Prop:=∃ o m,h.get? a=some o/\o.cls=.type "tuple" /\ o.data=.seq #[k,v] m
def tR (key:Nat->K) (val:NX):Nat->List (K × Value)
 | 0=>[]
 | i + 1=>stored (tR key val i) (key i) (val i)
def bx (key:Nat->K) (val:NX):∀ i,(tR key val i).length<=i
 | 0=>N1 _
 | i + 1=>by
  have:=bx key val i
  unfold tR stored
  split
  .rw [u8];omega
  .rw [M6];show _ + 1<=_;omega
def uU (W:WalksS prog w A.in1 I fp wr G n P St) (D:Addr) (hDf:D∉fp) (key:Nat->K) (kv val:NX) (ad:Na) (hP:∀ i v,P i v->v=.ref (ad i)) (hk:∀ i,i < n->knd.is (key i) (kv i)=true) (hw:∀ i,i < n->ad i∉D :: wr) (hn:n<=sizeLine):
  ∀ (k i:Nat) (tk:Tok) (s:MZ),n - i=k->i<=n->St i s->(∀ j,j < n->TupAt s.heap (ad j) (kv j) (val j))->s.heap.DictOf knd D (tR key val i)->
   (∀ s',Moved (D :: wr) G s s'->s'.heap.DictOf knd D (tR key val n)->R (.ok (.ret .none)) s')->
   codeAny (model prog w) A (.builtin "dict.update.loop" ⟨[.ref D,.ref I,.int (i:Int) tk,.none],[]⟩) R s:=by
 have hDw:D∉wr:=fun h=>hDf (W.sub _ h)
 have hsub:∀ b∈wr,b∈D :: wr:=fun b hb=>M9 _ hb
 have tmv:∀ {s s':MZ},Moved (D :: wr) G s s'->(∀ j,j < n->TupAt s.heap (ad j) (kv j) (val j))->∀ j,j < n->TupAt s'.heap (ad j) (kv j) (val j):=fun hm h j hj=>by
  obtain ⟨o,m,h1,h2,h3⟩:=h j hj
  exact ⟨o,m,hm.heap _ _ (hw j hj) h1,h2,h3⟩
 intro k
 induction k with
 | zero=>
  intro i tk s hk' hi hst ht hD hR
  have hin:i=n:=by omega
  subst hin
  refine codeAny_builtin QJ ?_
  rw [a2L j_ _]
  show wpAny _ A.in1 (pyNext (.ref I) >>= _) _ _ s
  refine f8 (W.done s _ _ hst fun s' hm=>?_)
  dsimp only
  refine f8 (m:=Builtin.Dict.addKeywords D []) ?_
  refine N5 ?_
  exact N5 (hR s' (hm.mono hsub) (by
   obtain ⟨o,es,ep,ho,rest⟩:=hD
   exact ⟨o,es,ep,hm.heap D _ hDw ho,rest⟩))
 | succ k ih=>
  intro i tk s hk' hi hst ht hD hR
  have hlt:i < n:=by omega
  refine codeAny_builtin QJ ?_
  rw [a2L j_ _]
  show wpAny _ A.in1 (pyNext (.ref I) >>= _) _ _ s
  refine f8 (W.item i s _ _ hlt hst fun v s' hPv hst' hm=>?_)
  cases hP i v hPv
  have hm2:=hm.mono hsub
  have ht':=tmv hm2 ht
  obtain ⟨o,m,h1,h2,h3⟩:=ht' i hlt
  have hD':s'.heap.DictOf knd D (tR key val i):=by
   obtain ⟨o,es,ep,ho,rest⟩:=hD
   exact ⟨o,es,ep,hm.heap D _ hDw ho,rest⟩
  have hT:s'.TypeIs (.ref (ad i)) "tuple" := ⟨o,h1,h2⟩
  dsimp only
  refine f8 (T8 (f8 (wpAny_tryCatch ?_)))
  unfold Builtin.Dict.pairItems
  refine f8 (a0V (T := "tuple") hT ?_)
  rw [if_pos (by decide)]
  unfold seqItems?
  refine f8 (f8 (a2G h1 ?_))
  rw [h3]
  dsimp only
  refine N5 (N5 ?_)
  show wpAny _ _ (holding [kv i,val i] (dictSet D (kv i) (val i))) _ _ _
  refine T8 (wpAny_dictSet_pairs (hsz:=P6 (bx key val i) (P6 hi hn)) (hk i hlt) hD' fun h' hD2 hsb=>?_)
  have e1:((i:Int) + 1)=((i + 1:Nat):Int):=by omega
  have hm3:Moved (D :: wr) G s { s' with heap:=h',toks:=s'.toks + 1 }:=hm2.then_heap (a0m _) fun b o hb e=>by
   rw [hsb.2 b (fun h:b=D=>hb (by rw [h];exact v4))];exact e
  refine N5 ⟨a1P j_ _, ?_⟩
  rw [show rawInt ((i:Int) + 1)=Value.int ((i + 1:Nat):Int) 0 by rw [e1];rfl]
  refine ih (i + 1) 0 _ (by omega) hlt (W.frame _ s' _ _ hst' (a0m _) fun b hb o e=>?_) (tmv hm3 ht) hD2 fun s'' hm'' hD''=>hR s'' (Moved.trans W.gtrans hm3 hm'') hD''
  rw [hsb.2 b (fun h:b=D=>hDf (by rw [<- h];exact hb))];exact e
end
section
variable {prog:Nk}{w:Nq}{A:Nt}{E:MW}{s:MZ}{K:Type}[DecidableEq K] {knd:KeyKind prog w K}
def bz {l:Addr}{items:NR}{m:Nat}{sl:NC}{Q:MW}{key:Nat->K}{kv val:NX}{ad:Na}(hh:A.handled=none) (hl:s.heap.get? l=some ⟨.type "list",none,.seq items m,sl⟩)
  (hP:∀ i,i < items.size->items[i]? = some (.ref (ad i))) (ht:∀ i,i < items.size->TupAt s.heap (ad i) (kv i) (val i)) (hk:∀ i,i < items.size->knd.is (key i) (kv i)=true) (hn:items.size<=sizeLine)
  (h:∀ h' tk,(∀ b o,s.heap.get? b=some o->h'.get? b=some o)->h'.DictOf knd s.heap.objs.size (tR key val items.size)->Q (.ref s.heap.objs.size) { s with heap:=h',toks:=tk }):
  wpAny (model prog w) A (call (.type "dict") [.ref l]) Q E s:=by
 refine a2C (Q₁:=fun obj s₁=>obj=.ref s.heap.objs.size/\s₁ = { s with heap:=s.heap.push { cls:=.type "dict",data:=.dict #[] } }) F.kt_called_dict (F.kt_typeCall_dict_1 _) F.entry_dict_init (kt_code_dict_new _ ⟨rfl,rfl⟩) ?_
 rintro obj s₁ ⟨rfl,rfl⟩
 have hnew:(s.heap.push { cls:=.type "dict",data:=.dict #[] }).DictOf knd s.heap.objs.size []:=Heap.DictOf.new s.heap
 have hl':(s.heap.push { cls:=.type "dict",data:=.dict #[] }).get? l=some ⟨.type "list",none,.seq items m,sl⟩:=M7 _ hl
 refine ⟨hnew.typeIs,F.args_dict_init_2 _ _, ?_⟩
 unfold Builtin.«dict.__init__»
 refine f8 ?_
 unfold Builtin.Dict.selfAndRest
 refine f8 (wpAny_notOrdered_dict hnew.typeIs ?_)
 show wpAny _ _ (pure (s.heap.objs.size,[Value.ref l])) _ _ _
 refine N5 ?_
 show wpAny _ _ (Builtin.Dict.updateFrom "dict.__init__" s.heap.objs.size (.ref l) [] .none) _ _ _
 unfold Builtin.Dict.updateFrom
 refine f8 (a0V (T := "list") ⟨_,hl',rfl⟩ ?_)
 rw [if_pos (by decide)]
 refine f8 ?_
 refine CF hh hl' fun h1 t1 k1=>?_
 rw [if_pos (show (none:Option Value).isNone=true from rfl)]
 refine f8 (a2K ?_)
 have hl1:h1.get? l=some ⟨.type "list",none,.seq items m,sl⟩:=k1 _ _ hl'
 have hil:h1.IsList l items:=⟨_,hl1,rfl,m,rfl⟩
 refine f8 (wpAny_pyIter_list hil ?_)
 have D1:h1.DictOf knd s.heap.objs.size []:=by
  obtain ⟨o,es,ep,ho,rest⟩:=hnew
  exact ⟨o,es,ep,k1 _ _ ho,rest⟩
 have ls:l < s.heap.objs.size:=N4 hl
 have l1:l < h1.objs.size:=N4 hl1
 have ds:s.heap.objs.size < h1.objs.size:=by obtain ⟨o,_,_,ho,_⟩:=D1;exact N4 ho
 have hne:l≠h1.objs.size:=O1 l1
 have kp:∀ b o,h1.get? b=some o->(h1.push { cls:=.type "list_iterator",data:=.fields #[.ref l,.int 0 0] }).get? b=some o:=fun b o e=>M7 _ e
 have tl:∀ j,j < items.size->ad j < s.heap.objs.size:=fun j hj=>by obtain ⟨o,_,h1,_⟩:=ht j hj;exact N4 h1
 refine N5 ⟨a1P j_ _,uU (knd:=knd) (Walks.list (A:=A.in1.in1) hh h1.objs.size l hne items).toS s.heap.objs.size (by simp;exact ⟨O1 ds,a0r ls⟩) key kv val ad (fun i v hv=>?_) hk (fun i hi=>?_) hn items.size 0 0 _ (by omega) (S7 _) ⟨⟨_,O7 _ rfl,rfl,rfl⟩, ?_⟩ (fun j hj=>?_) ?_ fun s' hm hD=>?_⟩
 .have hi:i < items.size:=by
   by_cases c:i < items.size
   .exact c
   .rw [a2u (by omega)] at hv;cases hv
  rw [hP i hi] at hv;cases hv;rfl
 .have:=tl i hi
  intro hm
  rcases O5.mp hm with e | hm
  .exact O1 this e
  .exact O1 (a1z this ds) (M8.mp hm)
 .exact ⟨_,kp _ _ hl1,rfl,m,rfl⟩
 .obtain ⟨o,q,e1,e2,e3⟩:=ht j hj
  exact ⟨o,q,kp _ _ (k1 _ _ (M7 _ e1)),e2,e3⟩
 .obtain ⟨o,es,ep,ho,rest⟩:=D1
  exact ⟨o,es,ep,kp _ _ ho,rest⟩
 .rw [a2O hm]
  refine ⟨rfl,h s'.heap s'.toks (fun b o e=>hm.heap b o (fun hmem=>?_) (kp _ _ (k1 _ _ (M7 _ e)))) hD⟩
  have:=N4 e
  rcases O5.mp hmem with e' | hm
  .exact O1 this e'
  .exact O1 (a1z this ds) (M8.mp hm)
end
section
variable {X:Cx}
def bA (K:Ny) (H:Hp):List V->List (Key × V)->Prop
 | [],es=>es=[]
 | x :: xs,es=>∃ a k v r,x=.ref a/\es=(k,v) :: r/\SqT K H a [kV k,v]/\bA K H xs r
def pL (es:Ng):List (Key × V):=es.foldl (fun acc kv=>putK acc kv.1 kv.2) []
def AI (K:Ny):List V->Hp->VK->Prop:=fun vs H Q=>∃ (p:Addr) (xs:Nb) (es:Ng),vs=[.ref p]/\SqL K H p xs/\bA K H xs es/\∀ l,H l=none->Q (.ref l) (upd H l (.dK (pL es)))
def iz {pins:MR}{σ:St}{H:Hp}{s:MZ}(I:Inv X pins σ H s):∀ {xs:Nb}{es:Ng}{its:M_},bA X.K H xs es->Vals xs its->∃ ps:List (Addr × Value × Value),its=ps.map (fun p=>Value.ref p.1)/\ps.length=es.length/\(∀ p∈ps,TupAt s.heap p.1 p.2.1 p.2.2)/\∀ (i:Nat) p e,ps[i]? = some p->es[i]? = some e->RelV (kV e.1) p.2.1/\RelV e.2 p.2.2
 | [],_,its,h,r=>by
  cases (show _=_ from h)
  cases r
  exact ⟨[],rfl,rfl,(fun _ h=>by cases h),fun _ _ _ h=>by cases h⟩
 | x :: xs,_,its,h,r=>by
  obtain ⟨a,k,v,es,rfl,rfl,ht,hr⟩:=h
  cases r with
  | cons rx r=>
   cases rx
   obtain ⟨ps,e1,e2,e3,e4⟩:=iz I hr r
   obtain ⟨us,ru,⟨o,h1,h2,m,h3⟩,_⟩:=I.tuple ht
   obtain ⟨u1,u2,rfl,r1,r2⟩:=vals2 ru
   refine ⟨(a,u1,u2) :: ps,by rw [e1];rfl,by rw [v0,v0,e2],fun p hp=>?_,fun i p e hp he=>?_⟩
   .rcases O5.mp hp with rfl | hp
    .exact ⟨o,m,h1,h2,h3⟩
    .exact e3 p hp
   .cases i with
    | zero=>rw [List.getElem?_cons_zero] at hp he;cases hp;cases he;exact ⟨r1,r2⟩
    | succ i=>rw [P9] at hp he;exact e4 i p e hp he
def pM {es:Ng}{key:Nat->Key}{val:NX}:∀ n,n<=es.length->(∀ i e,i < n->es[i]? = some e->key i=e.1/\RelV e.2 (val i))->KV ((es.take n).foldl (fun acc kv=>putK acc kv.1 kv.2) []) (tR key val n)
 | 0,_,_=>.nil
 | n + 1,hn,h=>by
  have hlt:n < es.length:=hn
  have hx:=N8 hlt
  rw [List.take_succ,hx,List.foldl_append]
  obtain ⟨e1,e2⟩:=h n _ (a0a n) hx
  show KV (putK _ _ _) (stored (tR key val n) (key n) (val n))
  rw [e1]
  exact (pM n (a1v hlt) fun i e hi he=>h i e (a1m hi) he).put _ e2
def mE (hc:X.calm=true):Yu X (.type "dict") (AI X.K):=by
 intro pins s σ H xs us Q I r h
 obtain ⟨p,xs,es,rfl,hS,hp,q⟩:=h
 obtain ⟨u,rfl,ru⟩:=vals1 r
 cases ru
 obtain ⟨its,rv,⟨o,m,h1,h2,h3,h4⟩,hz⟩:=I.list hS
 obtain ⟨ps,e1,e2,e3,e4⟩:=iz I hp rv
 have hlen:its.length=es.length:=by rw [e1,u8,e2]
 have hx:∀ i,i < es.length->∃ a,ps[i]? = some a/\es[i]? = some (es.getD i (.inl 0,.non))/\ps.getD i (0,.none,.none)=a:=fun i hi=>by
  have hi2:i < ps.length:=by rw [e2];exact hi
  refine ⟨ps[i],N8 hi2,by rw [a0o,N8 hi];rfl,by rw [a0o,N8 hi2];rfl⟩
 have hsz:its.toArray.size=es.length:=by simpa using hlen
 obtain ⟨cls,dict,data,slots⟩:=o
 dsimp only at h2 h3 h4
 subst h2 h3 h4
 refine bz (knd:=yG X.prog X.w) (key:=fun i=>(es.getD i (.inl 0,.non)).1) (kv:=fun i=>(ps.getD i (0,.none,.none)).2.1) (val:=fun i=>(ps.getD i (0,.none,.none)).2.2) (ad:=fun i=>(ps.getD i (0,.none,.none)).1) (I.ok.hd hc) h1 (fun i hi=>?_) (fun i hi=>?_) (fun i hi=>?_) ?_ fun h' tk hk hD=>?_
 .rw [hsz] at hi
  obtain ⟨a,ha,_,hg⟩:=hx i hi
  rw [hg]
  simp [e1,ha]
 .rw [hsz] at hi
  obtain ⟨a,ha,_,hg⟩:=hx i hi
  rw [hg]
  exact e3 a (a0X ha)
 .rw [hsz] at hi
  obtain ⟨a,ha,he,hg⟩:=hx i hi
  rw [hg]
  exact bc (e4 i a _ ha he).1
 .rw [hsz,<- hlen,<- rv.length];exact hz
 .rw [hsz] at hD
  have kvr:KV (pL es) (tR (fun i=>(es.getD i (.inl 0,.non)).1) (fun i=>(ps.getD i (0,.none,.none)).2.2) es.length):=by
   have:=pM (es:=es) (key:=fun i=>(es.getD i (.inl 0,.non)).1) (val:=fun i=>(ps.getD i (0,.none,.none)).2.2) es.length (N1 _) fun i e hi he=>?_
   .rwa [a0p] at this
   .obtain ⟨a,ha,he',hg⟩:=hx i hi
    rw [he] at he'
    cases he'
    rw [hg]
    exact ⟨by rw [a0o,he],(e4 i a _ ha he).2⟩
  have hfr:=I.hok.fresh (N1 s.heap.objs.size)
  refine ⟨.ref s.heap.objs.size,_,I.laid (a:=s.heap.objs.size) (o:=.dK (pL es)) (t':=tk) hk (N1 _) (g_ ?_ (S6.mpr (Ne.symm (O1 I.big))) kvr hD),rfl,q _ hfr⟩
  rw [kvr.length]
  refine P6 (bx _ _ _) ?_
  rw [<- hlen,<- rv.length];exact hz
end
def CG:List PV->Option (List (Key × PV))
 | []=>some []
 | .t [k,v] :: xs=>(pk k).bind fun q=>(CG xs).map ((q,v) :: ·)
 | _=>none
def iA (es:Nn):List (Key × PV):=es.foldl (fun acc kv=>dput acc kv.1 kv.2) []
def dM:List PV->Out PV
 | [.d xs]=>.ok (.d xs)
 | [.l xs]=>v7 ((CG xs).map fun es=>.d (iA es))
 | _=>.wall
section
variable {W:RC}{M:MY}{H:Hp}
def pN:∀ {xs:Nj}{vs:Nb}{es:Nn},yt W M H xs vs->CG xs=some es->∃ ev,bA W.K H vs ev/\jK W M H es ev
 | [],_,_,h,e=>by cases e;cases (show _=_ from h);exact ⟨[],rfl,rfl⟩
 | x :: xs,_,es,h,e=>by
  obtain ⟨v,r,rfl,h1,h2⟩:=h
  unfold CG at e
  split at e
  .cases ‹_ :: _=[]›
  .rename_i k y ys heq
   cases heq
   obtain ⟨q,hq,e⟩:=O8.mp e
   obtain ⟨zs,hz,rfl⟩:=M3.mp e
   obtain ⟨ev,i1,i2⟩:=pN h2 hz
   obtain ⟨p,us,rfl,hp,u1,r1,rfl,hk,u2,r2,rfl,hv,hr⟩:=h1
   cases (show _=_ from hr)
   cases W6 (qe.iff.mpr hk) hq
   exact ⟨(q,u2) :: ev,⟨p,q,u2,ev,rfl,rfl,hp,i1⟩,⟨u2,ev,rfl,hv,i2⟩⟩
  .cases e
def au:∀ {es:Nn}{ev:Ng}{a:Nn}{av:Ng},jK W M H a av->jK W M H es ev->jK W M H (es.foldl (fun acc kv=>dput acc kv.1 kv.2) a) (ev.foldl (fun acc kv=>putK acc kv.1 kv.2) av)
 | [],_,_,_,h,e=>by cases (show _=_ from e);exact h
 | kx :: es,_,a,av,h,⟨v,q,e,h1,h2⟩=>by
  subst e
  rw [a0O,a0O]
  exact au (a:=dput a kx.1 kx.2) (av:=putK av kx.1 v) (h.put h1) h2
def uV:LfF W (fun vs H Q=>Fy vs H Q\/AI W.K vs H Q) dM:=fun M C B H xs vs Q n h q=>by
 unfold dM at q
 split at q
 .obtain ⟨v,r,rfl,⟨p,es,rfl,_,hl,rr⟩,hr⟩:=h
  cases (show _=_ from hr)
  exact .inl ⟨p,es,rfl,hl,fun l hl=>q _ _ (zE.upd hl) (Cf rr hl)⟩
 .obtain ⟨z,e,q⟩:=qq q
  obtain ⟨es,he,rfl⟩:=M3.mp e
  obtain ⟨v,r,rfl,⟨p,ws,rfl,_,hl,rr⟩,hr⟩:=h
  cases (show _=_ from hr)
  obtain ⟨ev,i1,i2⟩:=pN rr he
  exact .inr ⟨p,ws,ev,rfl,SqL.of hl,i1,fun l hl=>q _ _ (zE.upd hl) (Cf (au (show jK W M H [] [] from rfl) i2) hl)⟩
 .exact q.elim
end
def uW (hc:X.calm=true) (hg:Gl X "dict") (hm:X.mg "dict" = none) (ha:AM X C S ws [e] ms) (he:starEach [e] X.env=[(false,eval e X.env)]:=by rfl):FM X C S (.Call (.Name "dict" p) [e] [] pos) (zm dM ms):=
 ip (fun hK=>hK ▸ mB.or (mE hc)) uV hg hm PyProof.Rows.boot_dict ha (he:=he)
section
variable {prog:Nk}{w:Nq}{A:Nt}{E:MW}{s:MZ}
def len_dict:typeLookup (.type "dict") "__len__" = pure (some (.builtin "dict.__len__")):=by rw [a05,a0A];kernel_rfl
def CH (hT:s.TypeIs (.ref d) "dict") (h:Q false s):wpAny (model prog w) A (Builtin.List.listLengthHint (.ref d)) Q E s:=by
 unfold Builtin.List.listLengthHint
 refine f8 (a1A hT len_dict ?_)
 generalize hid:("dict.__len__" : String)=id0
 (fail_if_success (clear hid id0));wp_delta
 rw [show splitId id0=some ("dict","__len__") from by subst hid;decide +kernel]
 dsimp only
 refine f8 (a00 (b:=true) hT (by rw [a2B];kernel_rfl) ?_)
 subst hid
 rw [if_neg (by decide)]
 rw [if_pos (by decide +kernel)]
 refine f8 (a0V (T := "dict") hT ?_)
 exact N5 h
variable {K:Type}[DecidableEq K] {knd:KeyKind prog w K}
def CJ {Q:MW}{d:Addr}{kvs:List (K × Value)}{ep:Nat}(hh:A.handled=none) (hd:(d == sysModules)=false) (hm:s.heap.DictAt knd d kvs ep) (hn:kvs.length<=sizeLine)
  (hQ:∀ h' tk acc' c',(∀ b o,s.heap.get? b=some o->h'.get? b=some o)->h'.get? s.heap.objs.size=some { cls:=.type "list",dict:=none,data:=.seq acc' c',slots:=#[] }->ItemsOf (fun i v=>∃ k x,kvs[i]? = some (k,x)/\knd.is k v=true) acc' kvs.length->Q (.ref s.heap.objs.size) { s with heap:=h',toks:=tk }):
  wpAny (model prog w) A (call (.type "list") [.ref d]) Q E s:=by
 have l1:d < s.heap.objs.size:=by obtain ⟨o,_,ho,_⟩:=hm;exact N4 ho
 refine a2C (Q₁:=fun obj s₁=>obj=.ref s.heap.objs.size/\s₁ = { s with heap:=s.heap.push { cls:=.type "list",data:=.seq #[] } }) a2Q (a2n _) a2o
  (code_list_new _ ⟨rfl,rfl⟩) fun obj s₁ h₁=>?_
 obtain ⟨rfl,rfl⟩:=h₁
 have hS:(s.heap.push { cls:=.type "list",data:=.seq #[] }).get? s.heap.objs.size=some { cls:=.type "list",data:=.seq #[] }:=O7 _ rfl
 refine ⟨⟨_,hS,rfl⟩,a2f _ _, ?_⟩
 show wpAny _ _ (do let old <- Builtin.List.listItems (.ref s.heap.objs.size);Builtin.List.listUpdate (.ref s.heap.objs.size) (fun _=>#[]);letGo old.toList.reverse;Builtin.List.listExtendWith (.ref s.heap.objs.size) (.ref d) .none) _ _ _
 refine f8 ?_
 unfold Builtin.List.listItems
 refine f8 (wpAny_seqItems hS rfl (N5 ?_))
 show wpAny _ _ (updateSeq s.heap.objs.size (fun _=>#[]) >>= fun _=>letGo (#[]:Array Value).toList.reverse >>= fun _=>Builtin.List.listExtendWith (.ref s.heap.objs.size) (.ref d) .none) _ _ _
 refine f8 (a1C hS rfl ?_)
 have hS₂:=a0d (Obj.mapSeq (fun _=>(#[]:Array Value))) hS rfl
 refine f8 (a22 ?_)
 have kp:∀ b o,s.heap.get? b=some o->((s.heap.push { cls:=.type "list",data:=.seq #[] }).update s.heap.objs.size (Obj.mapSeq (fun _=>(#[]:Array Value)))).get? b=some o:=fun b o e=>
  (P5 _ _ (a0r (N4 e))).trans (M7 _ e)
 generalize ((s.heap.push { cls:=.type "list",data:=.seq #[] }).update s.heap.objs.size (Obj.mapSeq (fun _=>(#[]:Array Value))))=h2 at hS₂ kp
 have hm2:h2.DictAt knd d kvs ep:=hm.at' fun o e=>kp _ _ e
 have hT2:∀ {s':MZ},s'.heap.DictAt knd d kvs ep->s'.TypeIs (.ref d) "dict" := fun z=>z.dictOf.typeIs
 unfold Builtin.List.listExtendWith
 refine f8 (a0V (T := "dict") (hT2 hm2) ?_)
 have hne1:s.heap.objs.size≠d:=a0r l1
 have h1:Builtin.List.listSameRef (.ref s.heap.objs.size) (.ref d)=false:=by simp [Builtin.List.listSameRef,hne1]
 rw [if_neg (by rw [h1];decide)]
 refine f8 (wpAny_pyIter_dict hd hm2 ?_)
 have kp2:∀ b o,h2.get? b=some o->(h2.push { cls:=.type "dict_keyiterator",data:=.fields #[.ref d,.int 0 0,.int kvs.length 0,.int ep 0] }).get? b=some o:=fun b o e=>M7 _ e
 have hm3:(h2.push { cls:=.type "dict_keyiterator",data:=.fields #[.ref d,.int 0 0,.int kvs.length 0,.int ep 0] }).DictAt knd d kvs ep:=hm2.at' fun o e=>kp2 _ _ e
 refine f8 (T8 (CH (hT2 hm3) ?_))
 rw [if_pos (by decide)]
 refine f8 (a2K ?_)
 unfold Builtin.List.listTouch Builtin.List.listUpdate
 have s2:s.heap.objs.size < h2.objs.size:=N4 hS₂
 have dn:d≠h2.objs.size:=O1 (a1z l1 s2)
 have hS3:=kp2 _ _ hS₂
 have it3:(h2.push { cls:=.type "dict_keyiterator",data:=.fields #[.ref d,.int 0 0,.int kvs.length 0,.int ep 0] }).get? h2.objs.size=some { cls:=.type "dict_keyiterator",data:=.fields #[.ref d,.int 0 0,.int kvs.length 0,.int ep 0] }:=O7 _ rfl
 have kq:∀ b o,s.heap.get? b=some o->(h2.push { cls:=.type "dict_keyiterator",data:=.fields #[.ref d,.int 0 0,.int kvs.length 0,.int ep 0] }).get? b=some o:=fun b o e=>kp2 _ _ (kp b o e)
 generalize (h2.push { cls:=.type "dict_keyiterator",data:=.fields #[.ref d,.int 0 0,.int kvs.length 0,.int ep 0] })=h3 at hS3 it3 kq hm3
 refine f8 (f8 (a1C hS3 rfl ?_))
 have hS4:=a0d (Obj.mapSeq (fun x:Array Value=>x.push Value.none)) hS3 rfl
 refine a1C hS4 rfl ?_
 have hS5:=a0d (Obj.mapSeq (fun x:Array Value=>x.pop)) hS4 rfl
 have ku:∀ b o,b≠s.heap.objs.size->h3.get? b=some o->((h3.update s.heap.objs.size (Obj.mapSeq fun x=>x.push Value.none)).update s.heap.objs.size (Obj.mapSeq fun x=>x.pop)).get? b=some o:=fun b o hb e=>
  (P5 _ _ (Ne.symm hb)).trans ((P5 _ _ (Ne.symm hb)).trans e)
 have hm5:=hm3.at' (h':=((h3.update s.heap.objs.size (Obj.mapSeq fun x=>x.push Value.none)).update s.heap.objs.size (Obj.mapSeq fun x=>x.pop))) fun o e=>ku _ _ (Ne.symm hne1) e
 have it5:=ku _ _ (a0r s2) it3
 have k5:∀ b o,s.heap.get? b=some o->((h3.update s.heap.objs.size (Obj.mapSeq fun x=>x.push Value.none)).update s.heap.objs.size (Obj.mapSeq fun x=>x.pop)).get? b=some o:=fun b o e=>ku b o (O1 (N4 e)) (kq b o e)
 generalize ((h3.update s.heap.objs.size (Obj.mapSeq fun x=>x.push Value.none)).update s.heap.objs.size (Obj.mapSeq fun x=>x.pop))=h5 at hS5 hm5 it5 k5
 refine N5 ⟨a1P a1X _,a2J (Walks.dictKeys (knd:=knd) (A:=A.in1.in1) hh h2.objs.size d dn kvs ep).toS hn s.heap.objs.size (by simp;exact ⟨O1 s2,hne1⟩) _ kvs.length 0 _ _ _ rfl (S7 _) (show _/\_ from ⟨⟨_,it5,rfl,rfl⟩,hm5⟩) hS5 (ItemsOf.nil _) fun s' acc' c' hmv hS' hacc=>?_⟩
 rw [a2O hmv]
 refine ⟨rfl,hQ s'.heap s'.toks acc' c' (fun b o e=>hmv.heap b o (fun hmem=>?_) (k5 b o e)) hS' hacc⟩
 have:=N4 e
 rcases O5.mp hmem with e' | hm
 .exact O1 this e'
 .exact O1 (a1z this s2) (M8.mp hm)
end
section
variable {X:Cx}
def AJ:List V->Hp->VK->Prop:=fun vs H Q=>∃ p es,vs=[.ref p]/\Rd H p (.dK es)/\∀ l,H l=none->Q (.ref l) (upd H l (.lst (es.map fun kv=>kV kv.1)))
def mF (hc:X.calm=true):Yu X (.type "list") AJ:=by
 intro pins s σ H xs us Q I r h
 obtain ⟨p,es,rfl,hS,q⟩:=h
 obtain ⟨u,rfl,ru⟩:=vals1 r
 cases ru
 obtain ⟨z,hd,vs,rel,o,ds,ep,e1,e2,e3,e4,e5,e6⟩:=QF I.hok hS
 have hl:vs.length=es.length:=rel.length.symm
 refine CJ (knd:=yG X.prog X.w) (kvs:=vs) (ep:=ep) (I.ok.hd hc) hd ⟨o,ds,e1,e2,e3,e4,e5,e6⟩ (by rw [hl];exact z) fun h' tk acc' c' hk hg hi=>?_
 refine iw (s:=s) (tk:=tk) I (N1 _) hk hg ?_ ?_ ?_ q
 .rw [u8];exact z
 .rw [u8,hi.1,hl]
 .intro j x v f1 f2
  obtain ⟨k,y,f3,f4⟩:=hi.2 j v f2
  rw [P0] at f1
  obtain ⟨kx,f5,rfl⟩:=M3.mp f1
  obtain ⟨w',hw⟩:=Fv rel (k:=kx.1) (v:=kx.2) f5
  rw [hw] at f3
  cases f3
  exact pG f4
end
def YC:List PV->Out PV
 | [.l xs]=>.ok (.l xs)
 | [.t xs]=>.ok (.l xs)
 | [.sc xs]=>.ok (.l (xs.map PV.i))
 | [.d kvs]=>.ok (.l (kvs.map fun kx=>kP kx.1))
 | _=>.wall
def iB {W:RC}{M:MY}{H:Hp}:∀ {kvs:Nn}{es:Ng},jK W M H kvs es->yt W M H (kvs.map fun kx=>kP kx.1) (es.map fun kv=>kV kv.1)
 | [],_,h=>by cases (show _=_ from h);rfl
 | kx :: r,_,⟨v,q,e,h1,h2⟩=>by subst e;exact ⟨_,_,rfl,Fx _,iB h2⟩
def uX (L:LfF W r Ce):LfF W (fun vs H Q=>r vs H Q\/AJ vs H Q) YC:=fun M C B H xs vs Q n h q=>by
 unfold YC at q
 split at q
 .exact .inl (L M C B H _ vs Q n h q)
 .exact .inl (L M C B H _ vs Q n h q)
 .exact .inl (L M C B H _ vs Q n h q)
 .obtain ⟨v,r,rfl,⟨p,es,rfl,_,hl,rr⟩,hr⟩:=h
  cases (show _=_ from hr)
  exact .inr ⟨p,es,rfl,hl,fun l hl=>q _ _ (zE.upd hl) (Vu (iB rr) hl)⟩
 .exact q.elim
def v9 (hc:X.calm=true) (hg:Gl X "list") (hm:X.mg "list" = none) (ha:AM X C S ws [e] ms) (he:starEach [e] X.env=[(false,eval e X.env)]:=by rfl):FM X C S (.Call (.Name "list" p) [e] [] pos) (zm YC ms):=
 ip (fun hK=>hK ▸ dg.or (mF hc)) (uX Cg) hg hm a2v ha (he:=he)
section
variable {X:Cx}{C:LC}{S:MV}{e:Nh}{ws:Nf}{ms:MA}{pos p:Pos}
end
inductive HV where
 | v (x:PV) | g (k:Nat) | t (xs:List HV)
inductive Cell where
 | l (xs:List HV) | d (kvs:List (Key × HV)) | z (kvs:List (Key × HV)) | o (c:Nat) (fs:List (Str × HV))
abbrev AH:=List Cell
abbrev ZW:=List (Option HV)
structure HC where
 W:RC
 H0:Hp
 M0:Addr->Prop
def HM (Z:HC) (A:Na) (n:Nat):Addr->Prop:=fun a=>(Z.M0 a\/Z.H0 a=none)/\∀ k,k < n->A k≠a
mutual
def Yr (W:RC) (M:MY) (A:Na) (n:Nat) (H:Hp):HV->V->Prop
 | .v x,v=>Rep W M H x v
 | .g k,v=>k < n/\v=.ref (A k)
 | .t xs,v=>∃ p vs,v=.ref p/\SqT W.K H p vs/\qa W M A n H xs vs
def qa (W:RC) (M:MY) (A:Na) (n:Nat) (H:Hp):List HV->List V->Prop
 | [],vs=>vs=[]
 | x :: xs,vs=>∃ v r,vs=v :: r/\Yr W M A n H x v/\qa W M A n H xs r
end
def qS {κ:Type}(R:HV->V->Prop):List (κ × HV)->List (κ × V)->Prop
 | [],es=>es=[]
 | kx :: r,es=>∃ v q,es=(kx.1,v) :: q/\R kx.2 v/\qS R r q
section
variable {W:RC}{M M':MY}{A A':Na}{n n':Nat}{H H':Hp}
mutual
def Yr.gen (f:Fr M H H') (s:∀ a,M a->H a≠none->M' a) (hn:n<=n') (ha:∀ k,k < n->A' k=A k):∀ {x:HV}{v:V},Yr W M A n H x v->Yr W M' A' n' H' x v
 | .v x,v,h=>Rep.gen f s h
 | .g k,v,h=>⟨O0 h.1 hn,by rw [ha k h.1];exact h.2⟩
 | .t xs,v,h=>by
  unfold Yr at h ⊢
  obtain ⟨p,vs,e,r,q⟩:=h
  exact ⟨p,vs,e,f.sqT r,qa.gen f s hn ha q⟩
def qa.gen (f:Fr M H H') (s:∀ a,M a->H a≠none->M' a) (hn:n<=n') (ha:∀ k,k < n->A' k=A k):∀ {x:List HV}{v:Nb},qa W M A n H x v->qa W M' A' n' H' x v
 | [],v,h=>h
 | x :: xs,vs,h=>by
  unfold qa at h ⊢
  obtain ⟨v,r,e,h1,h2⟩:=h
  exact ⟨v,r,e,Yr.gen f s hn ha h1,qa.gen f s hn ha h2⟩
end
def qS.imp {κ:Type}{R R':HV->V->Prop}(h:∀ x v,R x v->R' x v):∀ {kvs:List (κ × HV)}{es:List (κ × V)},qS R kvs es->qS R' kvs es
 | [],_,q=>q
 | _ :: _,_,⟨v,q,e,a,b⟩=>⟨v,q,e,h _ _ a,qS.imp h b⟩
def gf (W:RC) (M:MY) (A:Na) (n:Nat) (H:Hp) (p:Addr):Cell->Prop
 | .l xs=>∃ vs,H p=some (.lst vs)/\qa W M A n H xs vs
 | .d kvs=>∃ es,H p=some (.dK es)/\qS (Yr W M A n H) kvs es
 | .z kvs=>∃ o es,H p=some (.frz o (.dK es))/\qS (Yr W M A n H) kvs es
 | .o c fs=>∃ dx es,H p=some (.ins (W.cls c) dx es)/\qS (Yr W M A n H) fs es
def gf.gen {p:Addr}(hp:H' p=H p) (f:Fr M H H') (s:∀ a,M a->H a≠none->M' a) (hn:n<=n') (ha:∀ k,k < n->A' k=A k):∀ {c:Cell},gf W M A n H p c->gf W M' A' n' H' p c
 | .l _,⟨vs,e,q⟩=>⟨vs,hp.trans e,q.gen f s hn ha⟩
 | .d _,⟨es,e,q⟩=>⟨es,hp.trans e,q.imp fun _ _=>Yr.gen f s hn ha⟩
 | .z _,⟨o,es,e,q⟩=>⟨o,es,hp.trans e,q.imp fun _ _=>Yr.gen f s hn ha⟩
 | .o _ _,⟨dx,es,e,q⟩=>⟨dx,es,hp.trans e,q.imp fun _ _=>Yr.gen f s hn ha⟩
def gf.ob {p:Addr}:∀ {c:Cell},gf W M A n H p c->∃ o,H p=some o
 | .l _,⟨_,e,_⟩=>⟨_,e⟩
 | .d _,⟨_,e,_⟩=>⟨_,e⟩
 | .z _,⟨_,_,e,_⟩=>⟨_,e⟩
 | .o _ _,⟨_,_,e,_⟩=>⟨_,e⟩
end
structure Gro (Z:HC) (A:Na) (n:Nat) (H:Hp) (A':Na) (n':Nat) (H':Hp):Prop where
 le:n<=n'
 agr:∀ k,k < n->A' k=A k
 fresh:∀ k,n<=k->k < n'->H (A' k)=none
 fr:Fr (HM Z A n) H H'
 dom:∀ a,H' a=none->H a=none
structure HH (Z:HC) (A:Na) (H:Hp) (G:AH):Prop where
 same:zE Z.H0 H
 cell:∀ (k:Nat) c,G[k]? = some c->gf Z.W (HM Z A G.length) A G.length H (A k) c
 inj:∀ j k,j < G.length->k < G.length->A j=A k->j=k
 own:∀ k,k < G.length->Z.H0 (A k)=none
structure HR (Z:HC) (A:Na) (H:Hp) (σ:St) (ρ:ZW) (G:AH):Prop extends HH Z A H G where
 len:σ.length=ρ.length
 var:∀ (i:Nat) x,ρ[i]? = some (some x)->∃ v,σ[i]? = some (some v)/\Yr Z.W (HM Z A G.length) A G.length H x v
section
variable {Z:HC}{A A' A'':Na}{n n' n'':Nat}{H H' H'':Hp}{G G' G'':AH}{σ σ':St}{ρ ρ':ZW}
def Gro.sM (g:Gro Z A n H A' n' H'):∀ a,HM Z A n a->H a≠none->HM Z A' n' a:=fun a m h=>⟨m.1,fun k hk e=>by
 by_cases c:k < n
 .exact m.2 k c (by rw [<- g.agr k c];exact e)
 .exact h (e ▸ g.fresh k (by omega) hk)⟩
def Gro.same (s:zE H H'):Gro Z A n H A n H':=⟨N1 _,fun _ _=>rfl,fun k a b=>absurd b (by omega),s.fr,fun a h=>zE.none s h⟩
def Gro.refl:Gro Z A n H A n H:=Gro.same (zE.refl _)
def Gro.trans (g:Gro Z A n H A' n' H') (k:Gro Z A' n' H' A'' n'' H''):Gro Z A n H A'' n'' H'':=by
 refine ⟨P6 g.le k.le,fun j hj=>(k.agr j (O0 hj g.le)).trans (g.agr j hj),fun j h1 h2=>?_,fun a o h m=>?_,fun a h=>g.dom a (k.dom a h)⟩
 .by_cases c:j < n'
  .rw [k.agr j c];exact g.fresh j h1 c
  .exact g.dom _ (k.fresh j (by omega) h2)
 .refine k.fr a o (g.fr a o h m) (m.imp (fun m=>g.sM a m (by rw [h];exact fun z=>by cases z)) id)
def Yr.gro (g:Gro Z A n H A' n' H') (h:Yr W (HM Z A n) A n H x v):Yr W (HM Z A' n') A' n' H' x v:=h.gen g.fr g.sM g.le g.agr
def qa.gro (g:Gro Z A n H A' n' H') (h:qa W (HM Z A n) A n H x v):qa W (HM Z A' n') A' n' H' x v:=h.gen g.fr g.sM g.le g.agr
def HR.gro (R:HR Z A H σ ρ G) (h:HH Z A' H' G') (g:Gro Z A G.length H A' G'.length H'):HR Z A' H' σ ρ G':=
 ⟨h,R.len,fun i x e=>let ⟨v,h1,h2⟩:=R.var i x e;⟨v,h1,h2.gro g⟩⟩
def HH.ob (h:HH Z A H G) (hk:k < G.length):∃ o,H (A k)=some o:=(h.cell k _ (N8 hk)).ob
def HH.keep (h:HH Z A H G) (s:zE H H'):HH Z A H' G:=⟨h.same.trans s,fun k c e=>by
 have q:=h.cell k c e
 obtain ⟨o,ho⟩:=q.ob
 exact q.gen ((s _ _ ho).trans ho.symm) s.fr (fun _ m _=>m) (N1 _) fun _ _=>rfl,h.inj,h.own⟩
def HH.new (h:HH Z A H G):New (HM Z A G.length) H:=fun p hp=>⟨.inr (zE.none h.same hp),fun k hk e=>by
 obtain ⟨o,ho⟩:=h.ob hk
 rw [e,hp] at ho;cases ho⟩
def HR.keep (R:HR Z A H σ ρ G) (s:zE H H'):HR Z A H' σ ρ G:=R.gro (R.toHH.keep s) (Gro.same s)
def exA (A:Na) (n:Nat) (p:Addr):Nat->Addr:=fun k=>if k=n then p else A k
def Xf:exA A n p n=p:=if_pos rfl
def Vw (h:k < n):exA A n p k=A k:=if_neg (by omega)
def Gro.ext (s:zE H H') (hp:H p=none):Gro Z A n H (exA A n p) (n + 1) H':=
 ⟨a0m _,fun k hk=>Vw hk,fun k h1 h2=>by rw [show k=n by omega,Xf];exact hp,s.fr,fun a h=>zE.none s h⟩
def HH.alloc (h:HH Z A H G) (s:zE H H') (hp:H p=none) (hc:gf Z.W (HM Z (exA A G.length p) (G.length + 1)) (exA A G.length p) (G.length + 1) H' p c):HH Z (exA A G.length p) H' (G++[c]):=by
 have g:Gro Z A G.length H (exA A G.length p) (G.length + 1) H':=Gro.ext s hp
 have hl:(G++[c]).length=G.length + 1:=by simp
 have np:∀ k,k < G.length->A k≠p:=fun k hk e=>by obtain ⟨o,ho⟩:=h.ob hk;rw [e,hp] at ho;cases ho
 refine ⟨h.same.trans s,fun k d e=>?_,fun j k hj hk e=>?_,fun k hk=>?_⟩
 .rw [hl]
  by_cases hk:k < G.length
  .rw [S8 hk] at e
   have q:=h.cell k d e
   obtain ⟨o,ho⟩:=q.ob
   rw [Vw hk]
   exact q.gen ((s _ _ ho).trans ho.symm) g.fr g.sM g.le g.agr
  .have e2:=(O2.mp e).1
   have ek:k=G.length:=by omega
   subst ek
   rw [a0B (N1 _),a1D] at e
   cases e
   rw [Xf];exact hc
 .rw [hl] at hj hk
  by_cases c1:j=G.length
  .by_cases c2:k=G.length
   .rw [c1,c2]
   .rw [c1,Xf,Vw (by omega)] at e;exact absurd e.symm (np k (by omega))
  .by_cases c2:k=G.length
   .rw [c2,Xf,Vw (by omega)] at e;exact absurd e (np j (by omega))
   .rw [Vw (by omega),Vw (by omega)] at e;exact h.inj j k (by omega) (by omega) e
 .rw [hl] at hk
  by_cases c1:k=G.length
  .rw [c1,Xf];exact zE.none h.same hp
  .rw [Vw (by omega)];exact h.own k (by omega)
def HH.frw (h:HH Z A H G) (hk:k < G.length) (h0:H (A k)=Option.some o0) (n0:¬ Imm o0):Gro Z A G.length H A G.length (upd H (A k) o):=by
 refine ⟨N1 _,fun _ _=>rfl,fun k a b=>absurd b (by omega),fun a q e m=>?_,fun a e=>?_⟩
 .have:a≠A k:=fun z=>by
   rcases m with m | m
   .exact m.2 k hk z.symm
   .rw [z,h0] at e;cases e;exact n0 m
  rw [zj this];exact e
 .by_cases z:a=A k
  .rw [z,zh] at e;cases e
  .rw [zj z] at e;exact e
def HH.write (h:HH Z A H G) (hk:k < G.length) (h0:H (A k)=Option.some o0) (n0:¬ Imm o0) (hc:gf Z.W (HM Z A G.length) A G.length (upd H (A k) o) (A k) c):HH Z A (upd H (A k) o) (G.set k c):=by
 have g:=h.frw (o:=o) hk h0 n0
 have hl:(G.set k c).length=G.length:=T5 ..
 refine ⟨fun a q e=>?_,fun j d e=>?_,fun i j hi hj=>h.inj i j (hl ▸ hi) (hl ▸ hj),fun j hj=>h.own j (hl ▸ hj)⟩
 .have:a≠A k:=fun z=>by rw [z,h.own k hk] at e;cases e
  rw [zj this];exact h.same a q e
 .rw [hl]
  by_cases hj:k=j
  .subst hj
   rw [R9 hk] at e
   cases e;exact hc
  .rw [P8 hj] at e
   have jl:=(O2.mp e).1
   exact (h.cell j d e).gen (zj fun z=>hj (h.inj j k jl hk z).symm) g.fr g.sM g.le g.agr
def HR.set (R:HR Z A H σ ρ G) (hx:Yr Z.W (HM Z A G.length) A G.length H x v):HR Z A H (σ.set i (Option.some v)) (ρ.set i (Option.some x)) G:=by
 refine ⟨R.toHH,by rw [T5,T5];exact R.len,fun j y e=>?_⟩
 by_cases hij:i=j
 .subst hij
  have hl:i < ρ.length:=by
   have:=(O2.mp e).1
   rwa [T5] at this
  rw [R9 hl] at e
  cases e
  exact ⟨v,by rw [R9 (by rw [R.len];exact hl)],hx⟩
 .rw [P8 hij] at e ⊢
  exact R.var j y e
end
inductive HX (α:Type) where
 | ok (a:α) (G:AH) | exc (c:Nat) (fs:Np) (G:AH) | wall
def HX.bind {α β:Type}:HX α->(α->AH->HX β)->HX β
 | .ok a G,f=>f a G
 | .exc c fs G,_=>.exc c fs G
 | .wall,_=>.wall
def uY (Z:HC) (E:XK) (A:Na) (n:Nat) (H:Hp) (c:Nat) (fs:Np) (G':AH):Prop:=∀ A' H' e dx es,HH Z A' H' G'->Gro Z A n H A' G'.length H'->H' e=some (XC e (Z.W.cls c) dx)->H' dx=some (XD dx es)->kW Z.W (HM Z A' G'.length) H' fs es->E (.ref e) (some dx) H'
def HPx {α:Type}(Z:HC) (E:XK) (A:Na) (n:Nat) (H:Hp) (K:α->(Nat->Addr)->Hp->AH->Prop):HX α->Prop
 | .ok x G'=>∀ A' H',HH Z A' H' G'->Gro Z A n H A' G'.length H'->K x A' H' G'
 | .exc c fs G'=>uY Z E A n H c fs G'
 | .wall=>False
section
variable {α β:Type}{K:β->(Nat->Addr)->Hp->AH->Prop}{K':α->(Nat->Addr)->Hp->AH->Prop}
def uY.gro (h:uY Z E A n H c fs G) (g:Gro Z A n H A' n' H'):uY Z E A' n' H' c fs G:=fun A2 H2 e dx es h2 g2=>h A2 H2 e dx es h2 (g.trans g2)
def HPx.gro {o:HX β}(h:HPx Z E A n H K o) (g:Gro Z A n H A' n' H'):HPx Z E A' n' H' K o:=by
 cases o with
 | ok x G'=>exact fun A2 H2 h2 g2=>h A2 H2 h2 (g.trans g2)
 | exc c fs G'=>exact uY.gro h g
 | wall=>exact h
def HPx.bind {o:HX α}{f:α->AH->HX β}(h:HPx Z E A n H K (o.bind f)) (k:∀ x A' H' G',HH Z A' H' G'->Gro Z A n H A' G'.length H'->HPx Z E A' G'.length H' K (f x G')->K' x A' H' G'):HPx Z E A n H K' o:=by
 cases o with
 | ok x G'=>exact fun A2 H2 h2 g2=>k x A2 H2 G' h2 g2 (HPx.gro (o:=f x G') h g2)
 | exc c fs G'=>exact h
 | wall=>exact h
end
abbrev HME:=ZW->AH->HX HV
abbrev HMT:=ZW->AH->HX Bool
abbrev HMA:=ZW->AH->HX (List HV)
def KV' (Z:HC) (Q:VK):HV->(Nat->Addr)->Hp->AH->Prop:=fun x A' H' G'=>∀ v,Yr Z.W (HM Z A' G'.length) A' G'.length H' x v->Q v H'
def KT' (Q:Bool->Hp->Prop):Bool->(Nat->Addr)->Hp->AH->Prop:=fun b _ H' _=>Q b H'
def KA' (Z:HC) (Q:List V->Hp->Prop):List HV->(Nat->Addr)->Hp->AH->Prop:=fun xs A' H' G'=>∀ vs,qa Z.W (HM Z A' G'.length) A' G'.length H' xs vs->Q vs H'
def HE (X:Cx) (W:RC) (E:XK) (e:Nh) (m:HME):Prop:=X.K=W.K->∃ te,PE X e te/\∀ (Z:HC),Z.W=W->∀ A H σ ρ G,HR Z A H σ ρ G->∀ Q,HPx Z E A G.length H (KV' Z Q) (m ρ G)->te σ H Q
def HT (X:Cx) (W:RC) (E:XK) (e:Nh) (m:HMT):Prop:=X.K=W.K->∃ te,PT X e te/\∀ (Z:HC),Z.W=W->∀ A H σ ρ G,HR Z A H σ ρ G->∀ Q,HPx Z E A G.length H (KT' Q) (m ρ G)->te σ H Q
def HA (X:Cx) (W:RC) (E:XK) (es:Nc) (m:HMA):Prop:=X.K=W.K->∃ te,PA X es te/\∀ (Z:HC),Z.W=W->∀ A H σ ρ G,HR Z A H σ ρ G->∀ Q,HPx Z E A G.length H (KA' Z Q) (m ρ G)->te σ H Q
mutual
def imm:PV->Bool
 | .i _=>true | .s _=>true | .b _=>true | .n=>true
 | .t xs=>AK xs
 | .l _=>false | .d _=>false | .o _ _=>false | .x _ _=>false | .sc _=>false | .dt _=>false
def AK:List PV->Bool
 | []=>true
 | x :: xs=>imm x && AK xs
end
def uZ:List (Str × PV)->Bool
 | []=>true
 | x :: xs=>imm x.2 && uZ xs
section
variable {W:RC}{M M':MY}{A A':Na}{n n':Nat}{H H':Hp}
mutual
def Xg:∀ {x:PV}{v:V},imm x=true->Rep W M H x v->Rep W M' H x v
 | .i _,_,_,h=>h
 | .s _,_,_,h=>h
 | .b _,_,_,h=>h
 | .n,_,_,h=>h
 | .t xs,_,e,h=>by
  unfold Rep at h ⊢
  unfold imm at e
  obtain ⟨p,vs,e1,r,q⟩:=h
  exact ⟨p,vs,e1,r,bB e q⟩
 | .l _,_,e,_=>by unfold imm at e;cases e
 | .d _,_,e,_=>by unfold imm at e;cases e
 | .o _ _,_,e,_=>by unfold imm at e;cases e
 | .x _ _,_,e,_=>by unfold imm at e;cases e
 | .sc _,_,e,_=>by unfold imm at e;cases e
 | .dt _,_,e,_=>by unfold imm at e;cases e
def bB:∀ {x:Nj}{v:Nb},AK x=true->yt W M H x v->yt W M' H x v
 | [],_,_,h=>h
 | x :: xs,_,e,h=>by
  unfold AK at e
  simp only [Bool.and_eq_true] at e
  obtain ⟨v,r,e1,h1,h2⟩:=h
  exact ⟨v,r,e1,Xg e.1 h1,bB e.2 h2⟩
end
def Qw:∀ {x:Np}{v:Nu},uZ x=true->kW W M H x v->kW W M' H x v
 | [],_,_,h=>h
 | x :: xs,_,e,h=>by
  unfold uZ at e
  simp only [Bool.and_eq_true] at e
  obtain ⟨v,r,e1,h1,h2⟩:=h
  exact ⟨v,r,e1,Xg e.1 h1,Qw e.2 h2⟩
def K3:List Bool->ZW->Option Sto
 | _,[]=>some []
 | [],_ :: ρ=>(K3 [] ρ).map (none :: ·)
 | false :: bs,_ :: ρ=>(K3 bs ρ).map (none :: ·)
 | true :: bs,some (.v x) :: ρ=>(K3 bs ρ).map (some x :: ·)
 | true :: _,_=>none
def pO (f:HV->Option PV):List HV->Option (List PV)
 | []=>some []
 | x :: xs=>(f x).bind fun y=>(pO f xs).map (y :: ·)
def nt {κ:Type}(f:HV->Option PV):List (κ × HV)->Option (List (κ × PV))
 | []=>some []
 | x :: xs=>(f x.2).bind fun y=>(nt f xs).map ((x.1,y) :: ·)
def v_ (G:AH):Nat->HV->Option PV
 | 0,_=>none
 | _ + 1,.v x=>some x
 | n + 1,.t xs=>(pO (v_ G n) xs).map .t
 | n + 1,.g k=>match G[k]? with
  | some (.l xs)=>(pO (v_ G n) xs).map .l
  | some (.d kvs)=>(nt (v_ G n) kvs).map .d
  | some (.z kvs)=>(nt (v_ G n) kvs).map .d
  | some (.o c fs)=>(nt (v_ G n) fs).map (.o c)
  | none=>none
def JX (G:AH):List Bool->ZW->Option Sto
 | _,[]=>some []
 | [],_ :: ρ=>(JX G [] ρ).map (none :: ·)
 | false :: bs,_ :: ρ=>(JX G bs ρ).map (none :: ·)
 | true :: bs,some x :: ρ=>(v_ G 8 x).bind fun y=>(JX G bs ρ).map (some y :: ·)
 | true :: _,none :: _=>none
def bC {f:HV->Option PV}{N:MY}(hf:∀ x v y,Yr W M A n H x v->f x=some y->Rep W N H y v):∀ {xs:List HV}{vs:Nb}{ys:Nj},qa W M A n H xs vs->pO f xs=some ys->yt W N H ys vs
 | [],_,_,h,e=>by cases e;exact h
 | x :: xs,_,ys,h,e=>by
  obtain ⟨v,r,rfl,h1,h2⟩:=h
  unfold pO at e
  obtain ⟨y,e1,e⟩:=O8.mp e
  obtain ⟨zs,e2,rfl⟩:=M3.mp e
  exact ⟨v,r,rfl,hf _ _ _ h1 e1,bC hf h2 e2⟩
def bD {f:HV->Option PV}{N:MY}(hf:∀ x v y,Yr W M A n H x v->f x=some y->Rep W N H y v):∀ {xs:List (Key × HV)}{vs:Ng}{ys:Nn},qS (Yr W M A n H) xs vs->nt f xs=some ys->jK W N H ys vs
 | [],_,_,h,e=>by cases e;exact h
 | x :: xs,_,ys,h,e=>by
  obtain ⟨v,r,rfl,h1,h2⟩:=h
  unfold nt at e
  obtain ⟨y,e1,e⟩:=O8.mp e
  obtain ⟨zs,e2,rfl⟩:=M3.mp e
  exact ⟨v,r,rfl,hf _ _ _ h1 e1,bD hf h2 e2⟩
def iC {f:HV->Option PV}{N:MY}(hf:∀ x v y,Yr W M A n H x v->f x=some y->Rep W N H y v):∀ {xs:List (Str × HV)}{vs:Nu}{ys:Np},qS (Yr W M A n H) xs vs->nt f xs=some ys->kW W N H ys vs
 | [],_,_,h,e=>by cases e;exact h
 | x :: xs,_,ys,h,e=>by
  obtain ⟨v,r,rfl,h1,h2⟩:=h
  unfold nt at e
  obtain ⟨y,e1,e⟩:=O8.mp e
  obtain ⟨zs,e2,rfl⟩:=M3.mp e
  exact ⟨v,r,rfl,hf _ _ _ h1 e1,iC hf h2 e2⟩
end
section
variable {Z:HC}{A:Na}{H:Hp}{G:AH}{σ:St}{ρ:ZW}
def K4 (h:HH Z A H G):∀ (n:Nat) (x:HV) (v:V) (y:PV),Yr Z.W (HM Z A G.length) A G.length H x v->v_ G n x=some y->Rep Z.W (fun _=>True) H y v
 | 0,_,_,_,_,e=>by cases e
 | n + 1,.v x,v,y,r,e=>by cases e;exact Rep.sub r fun _ _ _=>trivial
 | n + 1,.t xs,v,y,r,e=>by
  unfold v_ at e
  obtain ⟨ys,e1,rfl⟩:=M3.mp e
  unfold Yr at r
  obtain ⟨p,vs,rfl,s,q⟩:=r
  exact ⟨p,vs,rfl,s,bC (K4 h n) q e1⟩
 | n + 1,.g k,v,y,r,e=>by
  obtain ⟨hk,rfl⟩:=r
  unfold v_ at e
  split at e
  .rename_i xs hc
   obtain ⟨ys,e1,rfl⟩:=M3.mp e
   obtain ⟨vs,h1,q⟩:=h.cell k _ hc
   exact ⟨A k,vs,rfl,trivial,h1,bC (K4 h n) q e1⟩
  .rename_i xs hc
   obtain ⟨ys,e1,rfl⟩:=M3.mp e
   obtain ⟨vs,h1,q⟩:=h.cell k _ hc
   exact ⟨A k,vs,rfl,trivial,.inl h1,bD (K4 h n) q e1⟩
  .rename_i xs hc
   obtain ⟨ys,e1,rfl⟩:=M3.mp e
   obtain ⟨o,vs,h1,q⟩:=h.cell k _ hc
   exact ⟨A k,vs,rfl,trivial,.inr ⟨o,h1⟩,bD (K4 h n) q e1⟩
  .rename_i c xs hc
   obtain ⟨ys,e1,rfl⟩:=M3.mp e
   obtain ⟨dx,vs,h1,q⟩:=h.cell k _ hc
   exact ⟨A k,dx,vs,rfl,trivial,h1,iC (K4 h n) q e1⟩
  .cases e
def JY:∀ {bs:Nf}{ρ:ZW}{r:Sto}{i:Nat}{x:PV},K3 bs ρ=some r->r[i]? = some (some x)->ρ[i]? = some (some (.v x))
 | _,[],r,i,x,e,h=>by unfold K3 at e;cases e;simp at h
 | [],_ :: ρ,r,i,x,e,h=>by
  unfold K3 at e
  obtain ⟨r',e1,rfl⟩:=M3.mp e
  cases i with
  | zero=>cases h
  | succ i=>rw [P9] at h ⊢;exact JY e1 h
 | false :: bs,_ :: ρ,r,i,x,e,h=>by
  unfold K3 at e
  obtain ⟨r',e1,rfl⟩:=M3.mp e
  cases i with
  | zero=>cases h
  | succ i=>rw [P9] at h ⊢;exact JY e1 h
 | true :: bs,some (.v y) :: ρ,r,i,x,e,h=>by
  unfold K3 at e
  obtain ⟨r',e1,rfl⟩:=M3.mp e
  cases i with
  | zero=>cases h;rfl
  | succ i=>rw [P9] at h ⊢;exact JY e1 h
 | true :: bs,none :: ρ,r,i,x,e,h=>by cases e
 | true :: bs,some (.g _) :: ρ,r,i,x,e,h=>by cases e
 | true :: bs,some (.t _) :: ρ,r,i,x,e,h=>by cases e
def JZ:∀ {bs:Nf}{ρ:ZW}{r:Sto},K3 bs ρ=some r->r.length=ρ.length
 | _,[],r,e=>by unfold K3 at e;cases e;rfl
 | [],_ :: ρ,r,e=>by
  unfold K3 at e
  obtain ⟨r',e1,rfl⟩:=M3.mp e
  rw [v0,v0,JZ e1]
 | false :: bs,_ :: ρ,r,e=>by
  unfold K3 at e
  obtain ⟨r',e1,rfl⟩:=M3.mp e
  rw [v0,v0,JZ e1]
 | true :: bs,some (.v y) :: ρ,r,e=>by
  unfold K3 at e
  obtain ⟨r',e1,rfl⟩:=M3.mp e
  rw [v0,v0,JZ e1]
 | true :: bs,none :: ρ,r,e=>by cases e
 | true :: bs,some (.g _) :: ρ,r,e=>by cases e
 | true :: bs,some (.t _) :: ρ,r,e=>by cases e
def WK:∀ {bs:Nf}{ρ:ZW}{r:Sto}{i:Nat}{x:PV},JX G bs ρ=some r->r[i]? = some (some x)->∃ y,ρ[i]? = some (some y)/\v_ G 8 y=some x
 | _,[],r,i,x,e,h=>by unfold JX at e;cases e;simp at h
 | [],_ :: ρ,r,i,x,e,h=>by
  unfold JX at e
  obtain ⟨r',e1,rfl⟩:=M3.mp e
  cases i with
  | zero=>cases h
  | succ i=>rw [P9] at h ⊢;exact WK e1 h
 | false :: bs,_ :: ρ,r,i,x,e,h=>by
  unfold JX at e
  obtain ⟨r',e1,rfl⟩:=M3.mp e
  cases i with
  | zero=>cases h
  | succ i=>rw [P9] at h ⊢;exact WK e1 h
 | true :: bs,some y :: ρ,r,i,x,e,h=>by
  unfold JX at e
  obtain ⟨z,e0,e⟩:=O8.mp e
  obtain ⟨r',e1,rfl⟩:=M3.mp e
  cases i with
  | zero=>cases h;exact ⟨y,rfl,e0⟩
  | succ i=>rw [P9] at h ⊢;exact WK e1 h
 | true :: bs,none :: ρ,r,i,x,e,h=>by cases e
def WL:∀ {bs:Nf}{ρ:ZW}{r:Sto},JX G bs ρ=some r->r.length=ρ.length
 | _,[],r,e=>by unfold JX at e;cases e;rfl
 | [],_ :: ρ,r,e=>by
  unfold JX at e
  obtain ⟨r',e1,rfl⟩:=M3.mp e
  rw [v0,v0,WL e1]
 | false :: bs,_ :: ρ,r,e=>by
  unfold JX at e
  obtain ⟨r',e1,rfl⟩:=M3.mp e
  rw [v0,v0,WL e1]
 | true :: bs,some y :: ρ,r,e=>by
  unfold JX at e
  obtain ⟨z,e0,e⟩:=O8.mp e
  obtain ⟨r',e1,rfl⟩:=M3.mp e
  rw [v0,v0,WL e1]
 | true :: bs,none :: ρ,r,e=>by cases e
def Fz {S:MV}(hS:S.all (· == 0)=true) {i c:Nat}(h:S[i]? = some c):c=0:=by
 have:=a19.mp hS c (a0X h)
 simpa using this
def FA (hl:σ.length=r.length) (hS:S.all (· == 0)=true) (hv:∀ (i:Nat) x,r[i]? = some (some x)->∃ v,σ[i]? = some (some v)/\Rep Z.W M H x v):Rel Z.W (uQ H M) S (fun _=>0) H σ r:=by
 have n2:∀ {k:Nat},S[k]? = some 2->False:=fun {k} h=>by have:=Fz hS h;omega
 have n1:∀ {k:Nat},S[k]? = some 1->False:=fun {k} h=>by have:=Fz hS h;omega
 refine ⟨zE.refl _,hl,fun i x e=>?_,fun i hi=>(n2 hi).elim,fun i j hi=>(n2 hi).elim,fun hi=>(n2 hi).elim,fun a h=>h.elim,fun i hi=>(n2 hi).elim⟩
 obtain ⟨v,h1,h2⟩:=hv i x e
 exact ⟨v,h1,fun z=>(n2 z).elim,fun z=>(n1 z).elim,fun _ _=>h2.sub fun a m _=>⟨⟨.inl m,id⟩,fun i hi=>(n2 hi).elim⟩⟩
def u5 (R:HR Z A H σ ρ G) (e:K3 bs ρ=some r) (hS:S.all (· == 0)=true):Rel Z.W (uQ H (HM Z A G.length)) S (fun _=>0) H σ r:=
 FA (R.len.trans (JZ e).symm) hS fun i x h=>R.var i _ (JY e h)
def u6 (R:HR Z A H σ ρ G) (e:JX G bs ρ=some r) (hS:S.all (· == 0)=true):Rel Z.W (uQ H fun _=>True) S (fun _=>0) H σ r:=
 FA (R.len.trans (WL e).symm) hS fun i x h=>by
  obtain ⟨y,h1,h2⟩:=WK e h
  obtain ⟨v,h3,h4⟩:=R.var i y h1
  exact ⟨v,h3,K4 R.toHH _ _ _ _ h4 h2⟩
def CK (h:HH Z A H G):∀ a,Mof (uQ H (HM Z A G.length)) S P a->HM Z A G.length a:=fun a m=>m.1.1.elim id fun n=>h.new a n
end
def hP (bs:Nf) (m:ME):HME:=fun ρ G=>match K3 bs ρ with
 | some r=>match m r with
  | .ok x=>.ok (.v x) G
  | .exc c fs=>.exc c fs G
  | .wall=>.wall
 | none=>match JX G bs ρ with
  | some r=>match m r with
   | .ok x=>if imm x=true then .ok (.v x) G else .wall
   | .exc c fs=>if uZ fs=true then .exc c fs G else .wall
   | .wall=>.wall
  | none=>.wall
def hPT (bs:Nf) (m:MT):HMT:=fun ρ G=>match K3 bs ρ with
 | some r=>match m r with
  | .ok x=>.ok x G
  | .exc c fs=>.exc c fs G
  | .wall=>.wall
 | none=>match JX G bs ρ with
  | some r=>match m r with
   | .ok x=>.ok x G
   | .exc c fs=>if uZ fs=true then .exc c fs G else .wall
   | .wall=>.wall
  | none=>.wall
def vK {κ:Type}(xs:List (κ × PV)):List (κ × HV):=xs.map fun p=>(p.1,.v p.2)
def u7:PV->Option Cell
 | .l xs=>some (.l (xs.map .v))
 | .d kvs=>some (.d (vK kvs))
 | .o c fs=>some (.o c (vK fs))
 | _=>none
def LK:PV->Bool
 | .l xs=>AK xs
 | .d kvs=>AK (kvs.map (·.2))
 | .o _ fs=>uZ fs
 | _=>false
def hF (bs:Nf) (m:ME):HME:=fun ρ G=>match K3 bs ρ with
 | some r=>match m r with
  | .ok x=>match u7 x with
   | some c=>.ok (.g G.length) (G++[c])
   | none=>.wall
  | .exc c fs=>.exc c fs G
  | .wall=>.wall
 | none=>match JX G bs ρ with
  | some r=>match m r with
   | .ok x=>if LK x=true then match u7 x with
    | some c=>.ok (.g G.length) (G++[c])
    | none=>.wall else .wall
   | .exc c fs=>if uZ fs=true then .exc c fs G else .wall
   | .wall=>.wall
  | none=>.wall
section
variable {W:RC}{M M':MY}{A:Na}{n:Nat}{H:Hp}
def CL:∀ {xs:Nj}{vs:Nb},yt W M H xs vs->qa W M A n H (xs.map .v) vs
 | [],_,h=>h
 | _ :: _,_,⟨v,r,e,h1,h2⟩=>⟨v,r,e,h1,CL h2⟩
def FC:∀ {xs:Nn}{vs:Ng},jK W M H xs vs->qS (Yr W M A n H) (vK xs) vs
 | [],_,h=>h
 | _ :: _,_,⟨v,r,e,h1,h2⟩=>⟨v,r,e,h1,FC h2⟩
def FD:∀ {xs:Np}{vs:Nu},kW W M H xs vs->qS (Yr W M A n H) (vK xs) vs
 | [],_,h=>h
 | _ :: _,_,⟨v,r,e,h1,h2⟩=>⟨v,r,e,h1,FD h2⟩
def iD:∀ {x:Nn}{v:Ng},AK (x.map (·.2))=true->jK W M H x v->jK W M' H x v
 | [],_,_,h=>h
 | x :: xs,_,e,h=>by
  rw [N9] at e
  unfold AK at e
  simp only [Bool.and_eq_true] at e
  obtain ⟨v,r,e1,h1,h2⟩:=h
  exact ⟨v,r,e1,Xg e.1 h1,iD e.2 h2⟩
def FE (hx:bj W M H p x) (e:u7 x=some c):gf W M A n H p c:=by
 cases x with
 | l xs=>cases e;obtain ⟨vs,h,r⟩:=hx;exact ⟨vs,h,CL r⟩
 | d xs=>cases e;obtain ⟨vs,h,r⟩:=hx;exact ⟨vs,h,FC r⟩
 | o k xs=>cases e;obtain ⟨dx,vs,h,r⟩:=hx;exact ⟨dx,vs,h,FD r⟩
 | _=>cases e
def u9 (e:LK x=true) (hx:bj W M H p x):bj W M' H p x:=by
 cases x with
 | l xs=>obtain ⟨vs,h,r⟩:=hx;exact ⟨vs,h,bB e r⟩
 | d xs=>obtain ⟨vs,h,r⟩:=hx;exact ⟨vs,h,iD e r⟩
 | o k xs=>obtain ⟨dx,vs,h,r⟩:=hx;exact ⟨dx,vs,h,Qw e r⟩
 | _=>cases e
end
section
variable {X:Cx}{W:RC}{E:XK}{fr:Bool}{S:MV}{e a b:Nh}{es:Nc}{m:ME}{t:MT}{bs:Nf}{pos p:Pos}{i:Nat}{m1 m2:HME}{ms:HMA}{t1 t2:HMT}
def dN (h:HH Z A H G) (q:uY Z E A G.length H c fs G) (hM:∀ H2 es,kW Z.W (fun a=>M a\/H a=none) H2 fs es->kW Z.W (HM Z A G.length) H2 fs es):XPo ⟨Z.W,E,fr⟩ (uQ H M) c fs:=
 fun e dx es H2 s h1 h2 h3=>q A H2 e dx es (h.keep s) (Gro.same s) h1 h2 (hM H2 es h3)
def Jv (bs:Nf) (h:EM X ⟨W,E,fr⟩ S false e m) (hS:S.all (· == 0)=true:=by rfl):HE X W E e (hP bs m):=fun hK=>by
 obtain ⟨te,a1,a2⟩:=h hK
 refine ⟨te,a1,fun Z hZ A H σ ρ G R Q q=>?_⟩
 subst hZ
 unfold hP at q
 split at q
 .rename_i r hr
  refine a2 _ _ H σ r (u5 R hr hS) Q ?_
  revert q
  cases m r with
  | ok x=>exact fun q v H2 s rx=>q A H2 (R.toHH.keep s) (Gro.same s) v (rx.rep.sub fun a m _=>CK R.toHH a m)
  | exc c fs=>exact fun q=>dN R.toHH q fun H2 es h=>h.sub fun a m _=>m.elim id fun n=>R.toHH.new a n
  | wall=>exact id
 .split at q
  .rename_i r hr
   refine a2 _ _ H σ r (u6 R hr hS) Q ?_
   revert q
   cases m r with
   | ok x=>
    intro q v H2 s rx
    dsimp only at q
    split at q
    .rename_i hi
     exact q A H2 (R.toHH.keep s) (Gro.same s) v (Xg hi rx.rep)
    .exact q.elim
   | exc c fs=>
    intro q
    dsimp only at q
    split at q
    .rename_i hi
     exact dN R.toHH q fun H2 es h=>Qw hi h
    .exact q.elim
   | wall=>exact id
  .exact q.elim
def FF (bs:Nf) (h:TM X ⟨W,E,fr⟩ S e t) (hS:S.all (· == 0)=true:=by rfl):HT X W E e (hPT bs t):=fun hK=>by
 obtain ⟨te,a1,a2⟩:=h hK
 refine ⟨te,a1,fun Z hZ A H σ ρ G R Q q=>?_⟩
 subst hZ
 unfold hPT at q
 split at q
 .rename_i r hr
  refine a2 _ _ H σ r (u5 R hr hS) Q ?_
  revert q
  cases t r with
  | ok x=>exact fun q H2 s=>q A H2 (R.toHH.keep s) (Gro.same s)
  | exc c fs=>exact fun q=>dN R.toHH q fun H2 es h=>h.sub fun a m _=>m.elim id fun n=>R.toHH.new a n
  | wall=>exact id
 .split at q
  .rename_i r hr
   refine a2 _ _ H σ r (u6 R hr hS) Q ?_
   revert q
   cases t r with
   | ok x=>exact fun q H2 s=>q A H2 (R.toHH.keep s) (Gro.same s)
   | exc c fs=>
    intro q
    dsimp only at q
    split at q
    .rename_i hi
     exact dN R.toHH q fun H2 es h=>Qw hi h
    .exact q.elim
   | wall=>exact id
  .exact q.elim
def bE {Z:HC}{A:Na}{H H2:Hp}{G:AH}{c:Cell}{p:Addr}{Q:VK}(h:HH Z A H G) (s:zE H H2) (hp:H p=none) (hc:gf Z.W (HM Z (exA A G.length p) (G.length + 1)) (exA A G.length p) (G.length + 1) H2 p c) (q:HPx Z E A G.length H (KV' Z Q) (.ok (.g G.length) (G++[c]))):Q (.ref p) H2:=by
 have hl:(G++[c]).length=G.length + 1:=by simp
 refine q _ H2 (h.alloc s hp hc) (by rw [hl];exact Gro.ext s hp) _ ⟨by rw [hl];exact a0a _, ?_⟩
 rw [Xf]
def FG {Z:HC}{A:Na}{n:Nat}{p a:Addr}(m:HM Z A n a) (h:a≠p):HM Z (exA A n p) (n + 1) a:=⟨m.1,fun k hk e=>by
 by_cases c:k=n
 .rw [c,Xf] at e;exact h e.symm
 .rw [Vw (by omega)] at e;exact m.2 k (by omega) e⟩
def LM (bs:Nf) (a2:LFr ⟨W,E,fr⟩ S te m) (hS:S.all (· == 0)=true:=by rfl):∀ (Z:HC),Z.W=W->∀ A H σ ρ G,HR Z A H σ ρ G->∀ Q,HPx Z E A G.length H (KV' Z Q) (hF bs m ρ G)->te σ H Q:=fun Z hZ A H σ ρ G R Q q=>by
 subst hZ
 unfold hF at q
 split at q
 .rename_i r hr
  refine a2 _ _ H σ r (u5 R hr hS) Q ?_
  revert q
  cases m r with
  | ok x=>
   intro q v H2 s rx
   dsimp only at q
   split at q
   .rename_i c hc
    obtain ⟨p,rfl,hp,ra⟩:=rx
    exact bE R.toHH s hp (FE (ra.gen rfl Fr.refl fun a m _=>FG (CK R.toHH a m.1) m.2) hc) q
   .exact q.elim
  | exc c fs=>exact fun q=>dN R.toHH q fun H2 es h=>h.sub fun a m _=>m.elim id fun n=>R.toHH.new a n
  | wall=>exact id
 .split at q
  .rename_i r hr
   refine a2 _ _ H σ r (u6 R hr hS) Q ?_
   revert q
   cases m r with
   | ok x=>
    intro q v H2 s rx
    dsimp only at q
    split at q
    .rename_i hi
     split at q
     .rename_i c hc
      obtain ⟨p,rfl,hp,ra⟩:=rx
      exact bE R.toHH s hp (FE (u9 hi ra) hc) q
     .exact q.elim
    .exact q.elim
   | exc c fs=>
    intro q
    dsimp only at q
    split at q
    .rename_i hi
     exact dN R.toHH q fun H2 es h=>Qw hi h
    .exact q.elim
   | wall=>exact id
  .exact q.elim
def FH (bs:Nf) (h:FM X ⟨W,E,fr⟩ S e m) (hS:S.all (· == 0)=true:=by rfl):HE X W E e (hF bs m):=fun hK=>by
 obtain ⟨te,a1,a2⟩:=h hK
 exact ⟨te,a1,LM bs a2 hS⟩
def yB (i:Nat):HME:=fun ρ G=>match ρ[i]? with
 | some (some x)=>.ok x G
 | _=>.wall
def zY (h:PE X e (ng i)):HE X W E e (yB i):=fun _=>⟨_,h,fun Z hZ A H σ ρ G R Q q=>by
 unfold yB at q
 split at q
 .rename_i x hx
  obtain ⟨v,h1,h2⟩:=R.var i x hx
  exact ⟨v,h1,q A H R.toHH Gro.refl v h2⟩
 .exact q.elim⟩
def K5:HMA:=fun _ G=>.ok [] G
def zF (m:HME) (ms:HMA):HMA:=fun ρ G=>(m ρ G).bind fun x G1=>(ms ρ G1).bind fun xs G2=>.ok (x :: xs) G2
def ZX:HA X W E [] K5:=fun _=>⟨_,aj,fun Z hZ A H σ ρ G R Q q=>q A H R.toHH Gro.refl [] rfl⟩
def zR (h:HE X W E e m1) (hr:HA X W E es ms) (hs:starEach (e :: es) X.env=(false,eval e X.env) :: starEach es X.env:=by rfl):HA X W E (e :: es) (zF m1 ms):=fun hK=>by
 obtain ⟨te,a1,a2⟩:=h hK
 obtain ⟨ta,b1,b2⟩:=hr hK
 refine ⟨_,Yx a1 b1 hs,fun Z hZ A H σ ρ G R Q q=>a2 Z hZ A H σ ρ G R _ (HPx.bind q fun x A1 H1 G1 h1 g1 q1 v rx=>?_)⟩
 refine b2 Z hZ A1 H1 σ ρ G1 (R.gro h1 g1) _ (HPx.bind q1 fun xs A2 H2 G2 h2 g2 q2 vs rs=>?_)
 exact q2 A2 H2 h2 Gro.refl (v :: vs) ⟨v,vs,rfl,rx.gro g2,rs⟩
def CM (ms:HMA):HME:=fun ρ G=>(ms ρ G).bind fun xs G1=>if xs.length<=sizeLine then .ok (.g G1.length) (G1++[.l xs]) else .wall
def qa.len {W:RC}{M:MY}{A:Na}{n:Nat}{H:Hp}:∀ {xs:List HV}{vs:Nb},qa W M A n H xs vs->vs.length=xs.length
 | [],_,h=>by cases (show _=_ from h);rfl
 | x :: xs,_,h=>by obtain ⟨v,r,rfl,_,h2⟩:=h;rw [v0,v0,qa.len h2]
def AN (h:HA X W E es ms):HE X W E (.List es pos) (CM ms):=fun hK=>by
 obtain ⟨ta,a1,a2⟩:=h hK
 refine ⟨_,Ag a1,fun Z hZ A H σ ρ G R Q q=>a2 Z hZ A H σ ρ G R _ (HPx.bind q fun xs A1 H1 G1 h1 g1 q1 vs rs=>?_)⟩
 split at q1
 .rename_i hl
  refine ⟨by rw [rs.len];exact hl,fun p hp=>?_⟩
  have s:zE H1 (upd H1 p (.lst vs)):=zE.upd hp
  exact bE (c:=.l xs) h1 s hp ⟨vs,zh,rs.gro (Gro.ext s hp)⟩ q1
 .exact q1.elim
def Hf:List HV->Option (List PV)
 | []=>some []
 | .v x :: xs=>(Hf xs).map (x :: ·)
 | _ :: _=>none
def mkT (xs:List HV):HV:=match Hf xs with
 | some ys=>.v (.t ys)
 | none=>.t xs
def iE {W:RC}{M:MY}{A:Na}{n:Nat}{H:Hp}:∀ {xs:List HV}{ys:Nj}{vs:Nb},Hf xs=some ys->qa W M A n H xs vs->yt W M H ys vs
 | [],_,_,e,h=>by cases e;exact h
 | .v x :: xs,ys,_,e,h=>by
  unfold Hf at e
  obtain ⟨zs,e1,rfl⟩:=M3.mp e
  obtain ⟨v,r,rfl,h1,h2⟩:=h
  exact ⟨v,r,rfl,h1,iE e1 h2⟩
 | .g _ :: _,_,_,e,_=>by cases e
 | .t _ :: _,_,_,e,_=>by cases e
def iF (ms:HMA):HME:=fun ρ G=>(ms ρ G).bind fun xs G1=>if xs.length<=sizeLine then .ok (mkT xs) G1 else .wall
def aw {x1} (h:HA X W E es ms):HE X W E (.Tuple es x1 pos) (iF ms):=fun hK=>by
 obtain ⟨ta,a1,a2⟩:=h hK
 refine ⟨_,WU a1,fun Z hZ A H σ ρ G R Q q=>a2 Z hZ A H σ ρ G R _ (HPx.bind q fun xs A1 H1 G1 h1 g1 q1 vs rs=>?_)⟩
 split at q1
 .rename_i hl
  refine ⟨by rw [rs.len];exact hl,fun p hp=>?_⟩
  have s:zE H1 (upd H1 p (.tup vs)):=zE.upd hp
  refine q1 A1 _ (h1.keep s) (Gro.same s) _ ?_
  have rs':=rs.gro (Gro.same (Z:=Z) (A:=A1) (n:=G1.length) s)
  unfold mkT
  split
  .rename_i ys hy
   exact ⟨p,vs,rfl,.inl (.inl zh),iE hy rs'⟩
  .exact ⟨p,vs,rfl,.inl (.inl zh),rs'⟩
 .exact q1.elim
variable {rest:Nc}
end
section
variable {W:RC}{M:MY}{A:Na}{n:Nat}{H:Hp}
def qa.get:∀ {xs:List HV}{vs:Nb}{i:Nat}{x:HV},qa W M A n H xs vs->xs[i]? = some x->∃ v,vs[i]? = some v/\Yr W M A n H x v
 | [],_,_,_,_,e=>by simp at e
 | x :: xs,_,0,y,h,e=>by obtain ⟨v,r,rfl,h1,h2⟩:=h;simp at e;subst e;exact ⟨v,rfl,h1⟩
 | x :: xs,_,i + 1,y,h,e=>by obtain ⟨v,r,rfl,h1,h2⟩:=h;simp only [List.getElem?_cons_succ] at e ⊢;exact qa.get h2 e
def qa.at (h:qa W M A n H xs vs) (e:atI xs i=some x):∃ v,atI vs i=some v/\Yr W M A n H x v:=by
 unfold atI at e ⊢
 rw [h.len]
 cases q:ixN xs.length i with
 | none=>rw [q] at e;cases e
 | some j=>rw [q] at e;exact h.get e
def qa.append:∀ {xs ys:List HV}{vs us:Nb},qa W M A n H xs vs->qa W M A n H ys us->qa W M A n H (xs++ys) (vs++us)
 | [],_,_,_,h,k=>by cases (show _=_ from h);exact k
 | x :: xs,_,_,_,h,k=>by obtain ⟨v,r,rfl,h1,h2⟩:=h;exact ⟨v,_,rfl,h1,qa.append h2 k⟩
variable {κ:Type}[DecidableEq κ] {R:HV->V->Prop}
def qS.len:∀ {kvs:List (κ × HV)}{es:List (κ × V)},qS R kvs es->es.length=kvs.length
 | [],_,h=>by cases (show _=_ from h);rfl
 | _ :: _,_,⟨v,q,e,h1,h2⟩=>by subst e;rw [v0,v0,qS.len h2]
def qS.get:∀ {kvs:List (κ × HV)}{es:List (κ × V)}{k:κ}{x:HV},qS R kvs es->zS kvs k=some x->∃ v,Uu es k=some v/\R x v
 | [],_,_,_,_,e=>by cases e
 | kx :: r,_,k,x,h,e=>by
  obtain ⟨v,q,rfl,h1,h2⟩:=h
  unfold zS at e
  rw [a0Q] at e
  by_cases c:kx.1=k
  .rw [N7 c] at e;cases e;exact ⟨v,WH c,h1⟩
  .rw [N6 c] at e
   obtain ⟨u,hu,ru⟩:=qS.get h2 e
   exact ⟨u,by rw [WI c];exact hu,ru⟩
def qS.lookup:∀ {kvs:List (Str × HV)}{es:Nu}{f:Str}{x:HV},qS R kvs es->kvs.lookup f=some x->∃ v,es.lookup f=some v/\R x v
 | [],_,_,_,_,e=>by cases e
 | kx :: r,_,f,x,h,e=>by
  obtain ⟨v,q,rfl,h1,h2⟩:=h
  rw [R7] at e ⊢
  cases c:(f == kx.1) with
  | true=>rw [c] at e;cases e;exact ⟨v,rfl,h1⟩
  | false=>rw [c] at e;exact qS.lookup h2 e
def qS.put {k:κ}{a:List (κ × HV)}{es:List (κ × V)}(h:qS R a es) (hx:R x v):qS R (dput a k x) (putK es k v):=by
 have key:∀ {a:List (κ × HV)}{es:List (κ × V)},qS R a es->a.any (fun kv=>decide (kv.1=k))=es.any (fun kv=>decide (kv.1=k))/\qS R (a.map fun kv=>if kv.1=k then (kv.1,x) else kv) (es.map fun kv=>if kv.1=k then (kv.1,v) else kv)/\qS R (a++[(k,x)]) (es++[(k,v)]):=by
  intro a
  induction a with
  | nil=>intro es h;cases (show _=_ from h);exact ⟨rfl,rfl,v,[],rfl,hx,rfl⟩
  | cons kx a ih=>
   intro es h
   obtain ⟨u,q,rfl,h1,h2⟩:=h
   obtain ⟨i1,i2,i3⟩:=ih h2
   refine ⟨by rw [T7,T7,i1], ?_,⟨u,_,rfl,h1,i3⟩⟩
   rw [N9,N9]
   by_cases e:kx.1=k
   .rw [if_pos e,if_pos e];exact ⟨v,_,rfl,hx,i2⟩
   .rw [if_neg e,if_neg e];exact ⟨u,_,rfl,h1,i2⟩
 obtain ⟨i1,i2,i3⟩:=key h
 unfold dput putK
 rw [i1]
 split
 .exact i2
 .exact i3
end
def ixH (G:AH):HV->HV->Option HV
 | .g k,.v y=>match G[k]? with
  | some (.l xs)=>match y with
   | .i j=>atI xs j
   | _=>none
  | some (.d kvs)=>(pk y).bind fun q=>zS kvs q
  | some (.z kvs)=>(pk y).bind fun q=>zS kvs q
  | _=>none
 | .t xs,.v (.i j)=>atI xs j
 | .v x,.v y=>match pIx x y with
  | .ok z=>some (.v z)
  | _=>none
 | _,_=>none
def hIx (m1 m2:HME):HME:=fun ρ G=>(m1 ρ G).bind fun x G1=>(m2 ρ G1).bind fun y G2=>match ixH G2 x y with
 | some z=>.ok z G2
 | none=>.wall
def FI (cs:MV) (f:Str) (m:HME):HME:=fun ρ G=>(m ρ G).bind fun x G1=>match x with
 | .g k=>match G1[k]? with
  | some (.o c fs)=>if c∈cs then match fs.lookup f with
   | some z=>.ok z G1
   | none=>.wall else .wall
  | _=>.wall
 | _=>.wall
def pP (f:List HV->AH->HX HV) (ms:HMA):HME:=fun ρ G=>(ms ρ G).bind fun xs G1=>f xs G1
def hsp (W:RC) (n:Nat) (f:List HV->AH->HX HV):Sp:=fun vs H Q E=>∃ (Z:HC) (A:Na) (G:AH) (xs:List HV),Z.W=W/\xs.length=n/\HH Z A H G/\qa Z.W (HM Z A G.length) A G.length H xs vs/\HPx Z E A G.length H (KV' Z Q) (f xs G)
def CN:∀ vs H Q E,hsp W n f vs H Q E->vs.length=n:=fun vs H Q E ⟨Z,A,G,xs,_,hl,_,r,_⟩=>r.len.trans hl
def IG (h:HH Z A H G) (rx:Yr Z.W (HM Z A G.length) A G.length H x v) (ry:Yr Z.W (HM Z A G.length) A G.length H y u) (e:ixH G x y=some z) (q:∀ H2 v,zE H H2->Yr Z.W (HM Z A G.length) A G.length H2 z v->Q v H2):LF Z.W.K v u H Q:=by
 unfold ixH at e
 split at e
 .rename_i k y
  obtain ⟨hk,rfl⟩:=rx
  split at e
  .rename_i xs hc
   obtain ⟨vs,hp,r⟩:=h.cell k _ hc
   split at e
   .obtain ⟨w,hw,rw'⟩:=r.at e
    exact .inl (.inl ⟨_,vs,_,w,rfl,ry,SqL.of hp,hw,q H w (zE.refl _) rw'⟩)
   .cases e
  .rename_i kvs hc
   obtain ⟨vs,hp,r⟩:=h.cell k _ hc
   obtain ⟨j,hj,e⟩:=O8.mp e
   obtain ⟨w,hw,rw'⟩:=r.get e
   exact .inr ⟨_,w,rfl,by rw [W6 (qe.iff.mpr (show Rep Z.W _ H y u from ry)) hj,<- hw];exact fh.rk (.inl hp),q H w (zE.refl _) rw'⟩
  .rename_i kvs hc
   obtain ⟨o,vs,hp,r⟩:=h.cell k _ hc
   obtain ⟨j,hj,e⟩:=O8.mp e
   obtain ⟨w,hw,rw'⟩:=r.get e
   exact .inr ⟨_,w,rfl,by rw [W6 (qe.iff.mpr (show Rep Z.W _ H y u from ry)) hj,<- hw];exact fh.rk (.inr ⟨o,hp⟩),q H w (zE.refl _) rw'⟩
  .cases e
 .obtain ⟨p,vs,rfl,hl,r⟩:=rx
  obtain ⟨w,hw,rw'⟩:=r.at e
  exact .inl (.inr (.inl ⟨p,vs,_,w,rfl,ry,hl,hw,q H w (zE.refl _) rw'⟩))
 .split at e
  .rename_i z' hz
   cases e
   refine E5 (W:=Z.W) (HM Z A G.length) ⟨Z.W,E0,false⟩ (uQ H fun _=>True) H _ _ v u Q h.new (Rep.weak rx) (Rep.weak ry) ?_
   rw [hz]
   exact fun w H2 s r=>q H2 w s r
  .cases e
 .cases e
def IH (hu:X.A.units + 1 < cLine) (h1:HE X W E a m1) (h2:HE X W E b m2) (hs:ba b:=by intro _ _;rfl):HE X W E (.Subscript a b pos) (hIx m1 m2):=fun hK=>by
 obtain ⟨ta,a1,a2⟩:=h1 hK
 obtain ⟨tb,b1,b2⟩:=h2 hK
 refine ⟨_,BO (Ai.or (fS hu)) a1 b1 hs,fun Z hZ A H σ ρ G R Q q=>a2 Z hZ A H σ ρ G R _ (HPx.bind q fun x A1 H1 G1 h1 g1 q1 v rx=>?_)⟩
 refine b2 Z hZ A1 H1 σ ρ G1 (R.gro h1 g1) _ (HPx.bind q1 fun y A2 H2 G2 h2 g2 q2 u ry=>?_)
 split at q2
 .rename_i z hz
  rw [hK,<- hZ]
  exact IG h2 (rx.gro g2) ry hz fun H3 w s r=>q2 A2 H3 (h2.keep s) (Gro.same s) w r
 .exact q2.elim
def FJ (h:HE X W E e m1) (hc:∀ c∈cs,Cls X.K (W.cls c)/\kQ X.K (W.cls c) fn) (hb:attributeBase e fn X.env (eval e X.env)=eval e X.env:=by rfl):HE X W E (.Attribute e fn pos) (FI cs fn m1):=fun hK=>by
 obtain ⟨te,a1,a2⟩:=h hK
 refine ⟨_,Ae a1 hb,fun Z hZ A H σ ρ G R Q q=>a2 Z hZ A H σ ρ G R _ (HPx.bind q fun x A1 H1 G1 h1 g1 q1 v rx=>?_)⟩
 subst hZ
 split at q1
 .rename_i k
  obtain ⟨hk,rfl⟩:=rx
  split at q1
  .rename_i c fs hG
   obtain ⟨dx,vs,hp,r⟩:=h1.cell k _ hG
   split at q1
   .rename_i hcs
    split at q1
    .rename_i z hz
     obtain ⟨w,hw,rw'⟩:=r.lookup hz
     exact ⟨_,_,dx,vs,w,rfl,hp,(hc c hcs).1,(hc c hcs).2,hw,q1 A1 H1 h1 Gro.refl w rw'⟩
    .exact q1.elim
   .exact q1.elim
  .exact q1.elim
 .exact q1.elim
def CO (F:y3 X.prog X.w X.K X.mg X.base (CXe X.prog X.w) k f fd ps (hsp W n g)) (hr:k_ k X.A) (hg:Gl X x) (hm:X.mg x=some (.ref f)) (hk:keepIn X.K (.ref f)=true) (hb:Binds X.K fd ps []) (hx:Passes (CXe X.prog X.w) X E) (ha:HA X W E (e :: es) ms) (hn:∀ ρ G xs G',ms ρ G=.ok xs G'->xs.length=n)
  (hdb:(x == ("__debug__" : Str))=false:=by decide) (he:starEach (e :: es) X.env=(false,eval e X.env) :: starEach es X.env:=by rfl) (hpl:(backTo pos (starEach es X.env)).any (·.1)=false:=by rfl):HE X W E (.Call (.Name x p) (e :: es) [] pos) (pP g ms):=fun hK=>by
 obtain ⟨ta,a1,a2⟩:=ha hK
 refine ⟨_,fz F hr hg hm hk hb .nil hx a1 hdb he hpl,fun Z hZ A H σ ρ G R Q q=>a2 Z hZ A H σ ρ G R _ ?_⟩
 unfold pP at q
 revert q
 cases hq:ms ρ G with
 | wall=>exact id
 | exc c fs G'=>exact id
 | ok xs G'=>
  intro q A1 H1 h1 g1 vs rs
  rw [O9]
  exact ⟨Z,A1,G',xs,hZ,hn _ _ _ _ hq,h1,rs,HPx.gro (o:=g xs G') q g1⟩
def iG:∀ ρ G xs G',K5 ρ G=.ok xs G'->xs.length=0:=fun ρ G xs G' e=>by cases e;rfl
def kC (h:∀ ρ G xs G',ms ρ G=.ok xs G'->xs.length=n):∀ ρ G xs G',zF m ms ρ G=.ok xs G'->xs.length=n + 1:=fun ρ G xs G' e=>by
 unfold zF at e
 cases h1:m ρ G with
 | wall=>rw [h1] at e;cases e
 | exc c fs G1=>rw [h1] at e;cases e
 | ok x G1=>
  rw [h1] at e
  have e:(ms ρ G1).bind (fun xs G2=>.ok (x :: xs) G2)=.ok xs G':=e
  cases h2:ms ρ G1 with
  | wall=>rw [h2] at e;cases e
  | exc c fs G1=>rw [h2] at e;cases e
  | ok ys G2=>rw [h2] at e;cases e;rw [v0,h _ _ _ _ h2]
inductive HFw where
 | nx (ρ:ZW) (G:AH) | rt (x:HV) (G:AH) | bk (ρ:ZW) (G:AH) | ct (ρ:ZW) (G:AH) | exc (c:Nat) (fs:Np) (G:AH) | wall
abbrev HMS:=ZW->AH->HFw
def HPs (Z:HC) (E:XK) (A:Na) (n:Nat) (H:Hp) (D:Ends):HFw->Prop
 | .nx ρ' G'=>∀ A' H' σ',HR Z A' H' σ' ρ' G'->Gro Z A n H A' G'.length H'->D.nx σ' H'
 | .rt x G'=>∀ A' H' v,HH Z A' H' G'->Gro Z A n H A' G'.length H'->Yr Z.W (HM Z A' G'.length) A' G'.length H' x v->D.rt v H'
 | .bk ρ' G'=>∀ A' H' σ',HR Z A' H' σ' ρ' G'->Gro Z A n H A' G'.length H'->D.bk σ' H'
 | .ct ρ' G'=>∀ A' H' σ',HR Z A' H' σ' ρ' G'->Gro Z A n H A' G'.length H'->D.ct σ' H'
 | .exc c fs G'=>uY Z E A n H c fs G'
 | .wall=>False
def HX.fw {α:Type}:HX α->(α->AH->HFw)->HFw
 | .ok a G,f=>f a G
 | .exc c fs G,_=>.exc c fs G
 | .wall,_=>.wall
def LHS (W:RC) (E:XK) (ts:TS) (m:HMS):Prop:=∀ (Z:HC),Z.W=W->∀ A H σ ρ G,HR Z A H σ ρ G->∀ D,HPs Z E A G.length H D (m ρ G)->ts D σ H
def HS (X:Cx) (W:RC) (E:XK) (st:NF) (m:HMS):Prop:=X.K=W.K->∃ ts,PS X st ts/\LHS W E ts m
def HSs (X:Cx) (W:RC) (E:XK) (st:Nx) (m:HMS):Prop:=X.K=W.K->∃ ts,PSs X st ts/\LHS W E ts m
section
variable {α:Type}{K':α->(Nat->Addr)->Hp->AH->Prop}
def HPs.gro (h:HPs Z E A n H D o) (g:Gro Z A n H A' n' H'):HPs Z E A' n' H' D o:=by
 cases o with
 | nx ρ G=>exact fun A2 H2 σ2 r g2=>h A2 H2 σ2 r (g.trans g2)
 | rt x G=>exact fun A2 H2 v r g2=>h A2 H2 v r (g.trans g2)
 | bk ρ G=>exact fun A2 H2 σ2 r g2=>h A2 H2 σ2 r (g.trans g2)
 | ct ρ G=>exact fun A2 H2 σ2 r g2=>h A2 H2 σ2 r (g.trans g2)
 | exc c fs G=>exact uY.gro h g
 | wall=>exact h
def HPs.bind {o:HX α}{f:α->AH->HFw}(h:HPs Z E A n H D (o.fw f)) (k:∀ x A' H' G',HH Z A' H' G'->Gro Z A n H A' G'.length H'->HPs Z E A' G'.length H' D (f x G')->K' x A' H' G'):HPx Z E A n H K' o:=by
 cases o with
 | ok x G'=>exact fun A2 H2 h2 g2=>k x A2 H2 G' h2 g2 (HPs.gro (o:=f x G') h g2)
 | exc c fs G'=>exact h
 | wall=>exact h
end
def mG:HMS:=fun ρ G=>.nx ρ G
def Zf (a b:HMS):HMS:=fun ρ G=>match a ρ G with
 | .nx ρ' G'=>b ρ' G'
 | .rt x G'=>.rt x G'
 | .bk ρ' G'=>.bk ρ' G'
 | .ct ρ' G'=>.ct ρ' G'
 | .exc c fs G'=>.exc c fs G'
 | .wall=>.wall
def Jw (i:Nat) (m:HME):HMS:=fun ρ G=>(m ρ G).fw fun x G1=>.nx (ρ.set i (some x)) G1
def Xh (m:HME):HMS:=fun ρ G=>(m ρ G).fw fun _ G1=>.nx ρ G1
def nu (m:HME):HMS:=fun ρ G=>(m ρ G).fw fun x G1=>.rt x G1
def hIf (t:HMT) (a b:HMS):HMS:=fun ρ G=>(t ρ G).fw fun c G1=>if c=true then a ρ G1 else b ρ G1
section
variable {X:Cx}{W:RC}{E:XK}{e a b o:Nh}{es:Nc}{pos p pos' kA:Pos}{m m1 m2:HME}{ms:HMA}{t1:HMT}{s1 s2:HMS}{x:Str}{st:NF}{sts stt:Nx}{i:Nat}
def bF:HSs X W E [] mG:=fun _=>⟨_,nF,fun Z hZ A H σ ρ G R D q=>q A H σ R Gro.refl⟩
def FK (h1:LHS W E t s1) (h2:LHS W E u s2):LHS W E (Hw t u) (Zf s1 s2):=fun Z hZ A H σ ρ G R D q=>by
 refine h1 Z hZ A H σ ρ G R _ ?_
 unfold Zf at q
 revert q
 cases s1 ρ G with
 | nx ρ' G'=>exact fun q A' H' σ' R' g=>h2 Z hZ A' H' σ' ρ' G' R' D (HPs.gro (o:=s2 ρ' G') q g)
 | rt x G'=>exact id
 | bk ρ' G'=>exact id
 | ct ρ' G'=>exact id
 | exc c fs G'=>exact id
 | wall=>exact id
def zM (h1:HS X W E st s1) (h2:HSs X W E sts s2):HSs X W E (st :: sts) (Zf s1 s2):=fun hK=>by
 obtain ⟨t,a1,a2⟩:=h1 hK
 obtain ⟨u,b1,b2⟩:=h2 hK
 exact ⟨_,WG a1 b1,FK a2 b2⟩
def qv (h1:HS X W E st s1):HSs X W E [st] s1:=fun hK=>by
 obtain ⟨t,a1,a2⟩:=h1 hK
 exact ⟨_,jP a1,a2⟩
def pQ (a2:∀ (Z:HC),Z.W=W->∀ A H σ ρ G,HR Z A H σ ρ G->∀ Q,HPx Z E A G.length H (KV' Z Q) (m ρ G)->te σ H Q):LHS W E (DP te (ft i)) (Jw i m):=fun Z hZ A H σ ρ G R D q=>
 a2 Z hZ A H σ ρ G R _ (HPs.bind q fun x A1 H1 G1 h1 g1 q1 v rx=>q1 A1 H1 _ ((R.gro h1 g1).set rx) Gro.refl)
def vp (hN:X.N.Nodup) (hi:X.N[i]? = some x) (hx:Loc X.env.scope x) (h:HE X W E e m) (hs:swapsWith e (some (.Name x pos')) pos.line X.env=pure false:=by rfl) (hf:X.fn x=true\/X.env.scope.names.lookup x=some .local:=by first | exact .inl rfl | exact .inr rfl | assumption):
  HS X W E (.Assign [.Name x pos'] e pos) (Jw i m):=fun hK=>by
 obtain ⟨te,a1,a2⟩:=h hK
 exact ⟨_,nI hN hi hx a1 hs hf,pQ a2⟩
def bG (h:HE X W E e m) (hs:swapsWith e none pos.line X.env=pure false:=by rfl):HS X W E (.Expr e pos) (Xh m):=fun hK=>by
 obtain ⟨te,a1,a2⟩:=h hK
 exact ⟨_,aZ a1 hs,fun Z hZ A H σ ρ G R D q=>a2 Z hZ A H σ ρ G R _ (HPs.bind q fun x A1 H1 G1 h1 g1 q1 v rx=>q1 A1 H1 σ (R.gro h1 g1) Gro.refl)⟩
def Vx (h:HE X W E e m):HS X W E (.Return (some e) pos) (nu m):=fun hK=>by
 obtain ⟨te,a1,a2⟩:=h hK
 exact ⟨_,gY a1,fun Z hZ A H σ ρ G R D q=>a2 Z hZ A H σ ρ G R _ (HPs.bind q fun x A1 H1 G1 h1 g1 q1 v rx=>q1 A1 H1 v h1 Gro.refl rx)⟩
def pR (h:HT X W E c t1) (h1:HSs X W E sts s1) (h2:HSs X W E stt s2):HS X W E (.If c sts stt pos) (hIf t1 s1 s2):=fun hK=>by
 obtain ⟨tt,a1,a2⟩:=h hK
 obtain ⟨t,b1,b2⟩:=h1 hK
 obtain ⟨u,c1,c2⟩:=h2 hK
 refine ⟨_,Ee a1 b1 c1,fun Z hZ A H σ ρ G R D q=>a2 Z hZ A H σ ρ G R _ (HPs.bind q fun k A1 H1 G1 h1 g1 q1=>?_)⟩
 cases k with
 | true=>show (if true=true then t D σ H1 else u D σ H1);rw [if_pos rfl];exact b2 Z hZ A1 H1 σ ρ G1 (R.gro h1 g1) D q1
 | false=>show (if false=true then t D σ H1 else u D σ H1);rw [if_neg O3];exact c2 Z hZ A1 H1 σ ρ G1 (R.gro h1 g1) D q1
def pS (mo ma:HME):HMS:=fun ρ G=>(mo ρ G).fw fun x G1=>match x with
 | .g k=>match G1[k]? with
  | some (.l _)=>(ma ρ G1).fw fun y G2=>match G2[k]? with
   | some (.l xs)=>if xs.length < sizeLine then .nx ρ (G2.set k (.l (xs++[y]))) else .wall
   | _=>.wall
  | _=>.wall
 | _=>.wall
def II {Z:HC}{A:Na}{H:Hp}{G:AH}{σ:St}{ρ:ZW}{D:Ends}{k:Nat}{c:Cell}{o o0:HO}(R:HR Z A H σ ρ G) (hk:k < G.length) (h0:H (A k)=some o0) (n0:¬ Imm o0) (hc:gf Z.W (HM Z A G.length) A G.length (upd H (A k) o) (A k) c) (q:HPs Z E A G.length H D (.nx ρ (G.set k c))):D.nx σ (upd H (A k) o):=by
 have g:Gro Z A G.length H A (G.set k c).length (upd H (A k) o):=by rw [T5];exact R.toHH.frw hk h0 n0
 exact q A _ σ (R.gro (R.toHH.write hk h0 n0 hc) g) g
def YD (ho:HE X W E o m1) (h:HE X W E e m2) (tJ:attributeBase o "append" X.env (eval o X.env)=eval o X.env:=by rfl)
  (GZ:((backTo p (starEach [e] X.env)).all (fun x=>!x.1) && (backToKw p (keywordEach [] X.env)).all (fun x=>x.1.isSome) && decide ([e].length + ([]:List Keyword).length + (if ([]:List Keyword).isEmpty then 0 else 1) < 30))=true:=by rfl)
  (tI:(kA.endLine == p.line)=true:=by rfl) (hs:starEach [e] X.env=[(false,eval e X.env)]:=by rfl) (hsw:swapsWith (.Call (.Attribute o "append" kA) [e] [] p) none pos.line X.env=pure false:=by rfl):
  HS X W E (.Expr (.Call (.Attribute o "append" kA) [e] [] p) pos) (pS m1 m2):=fun hK=>by
 obtain ⟨to,o1,o2⟩:=ho hK
 obtain ⟨te,a1,a2⟩:=h hK
 refine ⟨_,aZ (Es a2m a2b a2c WX o1 (Yx a1 aj hs) tJ GZ tI hs rfl) hsw,fun Z hZ A H σ ρ G R D q=>o2 Z hZ A H σ ρ G R _ (HPs.bind q fun x A1 H1 G1 h1 g1 q1 v rx=>?_)⟩
 split at q1
 .rename_i k
  obtain ⟨hk,rfl⟩:=rx
  split at q1
  .rename_i xs0 hc0
   obtain ⟨vs0,hp0,_⟩:=h1.cell k _ hc0
   have R1:=R.gro h1 g1
   refine ⟨.inl ⟨rfl,_,SqL.of hp0⟩,a2 Z hZ A1 H1 σ ρ G1 R1 _ (HPs.bind q1 fun y A2 H2 G2 h2 g2 q2 u ry=>?_)⟩
   split at q2
   .rename_i xs hc
    split at q2
    .rename_i hl
     obtain ⟨vs,hp,r⟩:=h2.cell k _ hc
     have hk2:k < G2.length:=O0 hk g2.le
     rw [<- g2.agr k hk]
     have g3:=h2.frw (o:=.lst (vs++[u])) hk2 hp id
     have one:qa Z.W (HM Z A2 G2.length) A2 G2.length H2 [y] [u]:=⟨u,[],rfl,ry,rfl⟩
     exact ⟨_,vs,u,rfl,rfl,hp,by rw [r.len];exact hl,II (c:=.l (xs++[y])) (R1.gro h2 g2) hk2 hp id ⟨_,zh,(r.append one).gro g3⟩ q2⟩
    .exact q2.elim
   .exact q2.elim
  .exact q1.elim
 .exact q1.elim
def FL (mo mk mv:HME):HMS:=fun ρ G=>(mv ρ G).fw fun y G1=>(mo ρ G1).fw fun x G2=>(mk ρ G2).fw fun z G3=>match x,z with
 | .g k,.v z=>match G3[k]?,pk z with
  | some (.d kvs),some q=>if kvs.length < sizeLine then .nx ρ (G3.set k (.d (dput kvs q y))) else .wall
  | _,_=>.wall
 | _,_=>.wall
def FN (hu:X.A.units + 1 < cLine) (ho:HE X W E o m) (hk:HE X W E a m1) (hv:HE X W E e m2) (hs:swapsWith e (some (.Subscript o a pos')) pos.line X.env=pure false:=by rfl):
  HS X W E (.Assign [.Subscript o a pos'] e pos) (FL m m1 m2):=fun hK=>by
 obtain ⟨to,o1,o2⟩:=ho hK
 obtain ⟨ta,a1,a2⟩:=hk hK
 obtain ⟨tv,b1,b2⟩:=hv hK
 refine ⟨_,fF hu o1 a1 b1 hs,fun Z hZ A H σ ρ G R D q=>b2 Z hZ A H σ ρ G R _ (HPs.bind q fun y A1 H1 G1 h1 g1 q1 v ry=>?_)⟩
 have R1:=R.gro h1 g1
 refine o2 Z hZ A1 H1 σ ρ G1 R1 _ (HPs.bind q1 fun x A2 H2 G2 h2 g2 q2 w rx=>?_)
 have R2:=R1.gro h2 g2
 refine a2 Z hZ A2 H2 σ ρ G2 R2 _ (HPs.bind q2 fun z A3 H3 G3 h3 g3 q3 u rz=>?_)
 split at q3
 .rename_i k z
  obtain ⟨hk,rfl⟩:=rx
  split at q3
  .rename_i kvs q hc hq
   split at q3
   .rename_i hl
    obtain ⟨es,hp,r⟩:=h3.cell k _ hc
    have hk3:k < G3.length:=O0 hk g3.le
    have g4:=h3.frw (o:=.dK (putK es q v)) hk3 hp id
    rw [<- g3.agr k hk]
    refine ⟨_,_,rfl,by rw [W6 (qe.iff.mpr (show Rep Z.W _ H3 z u from rz)) hq];exact uc.k hp (by rw [r.len];exact hl),II (c:=.d (dput kvs q y)) (R2.gro h3 g3) hk3 hp id ⟨_,zh, ?_⟩ q3⟩
    exact (r.put ((ry.gro g2).gro g3)).imp fun _ _ h=>h.gro g4
   .exact q3.elim
  .exact q3.elim
 .exact q3.elim
end
abbrev HMG:=HV->ZW->Option ZW
def HG (X:Cx) (W:RC) (tg:Nh) (mg:HMG):Prop:=X.K=W.K->∃ g,PG X tg g/\∀ (Z:HC),Z.W=W->∀ A H σ ρ G x v,HR Z A H σ ρ G->Yr Z.W (HM Z A G.length) A G.length H x v->∀ Q:St->Hp->Prop,(∃ ρ',mg x ρ=some ρ'/\∀ σ',HR Z A H σ' ρ' G->Q σ' H)->g v σ H Q
abbrev DV:=List HV->ZW->Option ZW
def HGs (X:Cx) (W:RC) (tgs:Nc) (mg:DV):Prop:=X.K=W.K->∃ g,PGs X tgs g/\∀ (Z:HC),Z.W=W->∀ A H σ ρ G xs vs,HR Z A H σ ρ G->qa Z.W (HM Z A G.length) A G.length H xs vs->∀ Q:St->Hp->Prop,(∃ ρ',mg xs ρ=some ρ'/\∀ σ',HR Z A H σ' ρ' G->Q σ' H)->g vs σ H Q
def hgN (i:Nat):HMG:=fun x ρ=>some (ρ.set i (some x))
def CP:DV:=fun xs ρ=>match xs with
 | []=>some ρ
 | _=>none
def Xi (g:HMG) (gs:DV):DV:=fun xs ρ=>match xs with
 | x :: r=>(g x ρ).bind fun ρ'=>gs r ρ'
 | []=>none
def hgT (n:Nat) (gs:DV):HMG:=fun x ρ=>match x with
 | .t xs=>if xs.length=n then gs xs ρ else none
 | .v (.t xs)=>if xs.length=n then gs (xs.map .v) ρ else none
 | _=>none
section
variable {X:Cx}{W:RC}{E:XK}{i:Nat}{x:Str}{pos:Pos}{e:Nh}{es:Nc}{g:HMG}{gs:DV}
def wA (hN:X.N.Nodup) (hi:X.N[i]? = some x) (hx:Loc X.env.scope x) (hf:X.fn x=true\/X.env.scope.names.lookup x=some .local:=by first | exact .inl rfl | exact .inr rfl | assumption):HG X W (.Name x pos) (hgN i):=
 fun _=>⟨_,nG hN hi hx hf,fun Z hZ A H σ ρ G x v R r Q ⟨ρ',e,k⟩=>by cases e;exact k _ (R.set r)⟩
def pT:HGs X W [] CP:=fun _=>⟨_,nH,fun Z hZ A H σ ρ G xs vs R r Q ⟨ρ',e,k⟩=>by
 cases xs with
 | nil=>cases e;cases (show _=_ from r);exact ⟨rfl,k _ R⟩
 | cons x xs=>cases e⟩
def Qx (h1:HG X W e g) (h2:HGs X W es gs) (hs:(assignEach (e :: es) X.env).map (·.2)=assign e X.env :: (assignEach es X.env).map (·.2):=by rfl):HGs X W (e :: es) (Xi g gs):=fun hK=>by
 obtain ⟨t,a1,a2⟩:=h1 hK
 obtain ⟨u,b1,b2⟩:=h2 hK
 refine ⟨_,gZ a1 b1 hs,fun Z hZ A H σ ρ G xs vs R r Q ⟨ρ',e,k⟩=>?_⟩
 cases xs with
 | nil=>cases e
 | cons x xs=>
  obtain ⟨v,vr,rfl,rx,rr⟩:=r
  have e:(g x ρ).bind (fun ρ'=>gs xs ρ')=some ρ':=e
  cases hg:g x ρ with
  | none=>rw [hg] at e;cases e
  | some ρ1=>
   rw [hg] at e
   exact ⟨v,vr,rfl,a2 Z hZ A H σ ρ G x v R rx _ ⟨ρ1,hg,fun σ' R'=>b2 Z hZ A H σ' ρ1 G xs vr R' rr Q ⟨ρ',e,k⟩⟩⟩
def AO (hc:X.calm=true) (h:HGs X W es gs) (hn:(assignEach es X.env).length=n:=by rfl) (hst:(assignEach es X.env).findIdx? (·.1)=none:=by rfl):HG X W (.Tuple es k pos) (hgT n gs):=fun hK=>by
 obtain ⟨t,a1,a2⟩:=h hK
 refine ⟨_,Aa hc a1 hn hst,fun Z hZ A H σ ρ G x v R r Q ⟨ρ',e,k⟩=>?_⟩
 unfold hgT at e
 split at e
 .obtain ⟨p,vs,rfl,hp,rr⟩:=r
  split at e
  .rename_i hl
   exact ⟨p,vs,rfl,by rw [hK,<- hZ];exact hp,by rw [rr.len];exact hl,a2 Z hZ A H σ ρ G _ vs R rr Q ⟨ρ',e,k⟩⟩
  .cases e
 .obtain ⟨p,vs,rfl,hp,rr⟩:=r
  split at e
  .rename_i hl
   exact ⟨p,vs,rfl,by rw [hK,<- hZ];exact hp,by rw [rr.len];exact hl,a2 Z hZ A H σ ρ G _ vs R (CL rr) Q ⟨ρ',e,k⟩⟩
  .cases e
 .cases e
def Hg (g:HMG) (m:HME):HMS:=fun ρ G=>(m ρ G).fw fun x G1=>match g x ρ with
 | some ρ'=>.nx ρ' G1
 | none=>.wall
def FO (h:HE X W E e m) (hg:HG X W tg g) (hs:swapsWithSole [tg] e pos.line X.env=pure false:=by rfl) (hw:swappedStores [tg] e X.env=pure none:=by rfl) (h1:(assignEach [tg] X.env).map (·.2)=[assign tg X.env]:=by rfl):HS X W E (.Assign [tg] e pos) (Hg g m):=fun hK=>by
 obtain ⟨te,a1,a2⟩:=h hK
 obtain ⟨t,b1,b2⟩:=hg hK
 refine ⟨_,Ab a1 b1 hs hw h1,fun Z hZ A H σ ρ G R D q=>a2 Z hZ A H σ ρ G R _ (HPs.bind q fun x A1 H1 G1 h1 g1 q1 v rx=>?_)⟩
 split at q1
 .rename_i ρ' hρ
  exact b2 Z hZ A1 H1 σ ρ G1 x v (R.gro h1 g1) rx _ ⟨ρ',hρ,fun σ' R'=>q1 A1 H1 σ' R' Gro.refl⟩
 .exact q1.elim
end
def nv (g:HMG) (b:HMS):List HV->ZW->AH->HFw
 | [],ρ,G=>.nx ρ G
 | x :: xs,ρ,G=>match g x ρ with
  | none=>.wall
  | some ρ1=>match b ρ1 G with
   | .nx ρ2 G2=>nv g b xs ρ2 G2
   | .ct ρ2 G2=>nv g b xs ρ2 G2
   | .bk ρ2 G2=>.nx ρ2 G2
   | .rt v G2=>.rt v G2
   | .exc c fs G2=>.exc c fs G2
   | .wall=>.wall
def isZ:Cell->Bool
 | .z _=>true
 | _=>false
def u_ (A:Na) (G:AH) (a:Addr):Prop:=∃ k c,G[k]? = some c/\isZ c=false/\A k=a
section
variable {X:Cx}{W:RC}{E:XK}{Z:HC}{A A':Na}{H H':Hp}{G G':AH}{σ:St}{ρ:ZW}{D:Ends}
def gf.live {M:MY}{n:Nat}{p:Addr}:∀ {c:Cell},gf W M A n H p c->isZ c=false->∃ o,H p=Option.some o/\¬ Imm o
 | .l _,⟨_,e,_⟩,_=>⟨_,e,id⟩
 | .d _,⟨_,e,_⟩,_=>⟨_,e,id⟩
 | .z _,_,h=>by cases h
 | .o _ _,⟨_,_,e,_⟩,_=>⟨_,e,id⟩
def gf.zed {M:MY}{n:Nat}{p:Addr}:∀ {c:Cell},gf W M A n H p c->isZ c=true->∃ o,H p=Option.some o/\Imm o
 | .l _,_,h=>by cases h
 | .d _,_,h=>by cases h
 | .z _,⟨_,_,e,_⟩,_=>⟨_,e,trivial⟩
 | .o _ _,_,h=>by cases h
def Gro.rest (h:HH Z A H G) (h':HH Z A' H' G') (g:Gro Z A G.length H A' G'.length H'):Fr (fun a=>¬ u_ A G a) H H':=fun a o e m=>by
 rcases m with m | m
 .by_cases hc:∃ k,k < G.length/\A k=a
  .obtain ⟨k,hk,rfl⟩:=hc
   have hq:=N8 hk
   have hz:isZ G[k]=true:=by
    cases z:isZ G[k] with
    | true=>rfl
    | false=>exact absurd ⟨k,_,hq,z,rfl⟩ m
   obtain ⟨o',e',i⟩:=(h.cell k _ hq).zed hz
   rw [e'] at e;cases e
   exact g.fr _ _ e' (.inr i)
  .cases q:Z.H0 a with
   | none=>exact g.fr a o e (.inl ⟨.inr q,fun k hk z=>hc ⟨k,hk,z⟩⟩)
   | some u=>
    have:=h.same a u q
    rw [e] at this;cases this
    exact h'.same a _ q
 .exact g.fr a o e (.inr m)
open Classical in
def bsH (Z:HC) (A:Na) (H:Hp) (G:AH):Bs:=⟨fun a=>if u_ A G a then none else H a,HM Z A G.length,fun _=>False,fun _ h=>h.elim,none,u_ A G⟩
def IJ (R:HR Z A H σ ρ G) (e:K3 bs ρ=some r) (hS:S.all (· == 0)=true):Rel Z.W (bsH Z A H G) S (fun _=>0) H σ r:=by
 have n2:∀ {k:Nat},S[k]? = some 2->False:=fun {k} h=>by have:=Fz hS h;omega
 have n1:∀ {k:Nat},S[k]? = some 1->False:=fun {k} h=>by have:=Fz hS h;omega
 refine ⟨fun a o h=>?_,R.len.trans (JZ e).symm,fun i x hx=>?_,fun i hi=>(n2 hi).elim,fun i j hi=>(n2 hi).elim,fun hi=>(n2 hi).elim,fun a h=>?_,fun i hi=>(n2 hi).elim⟩
 .unfold bsH at h;dsimp only at h
  split at h
  .cases h
  .exact h
 .obtain ⟨v,h1,h2⟩:=R.var i _ (JY e hx)
  refine ⟨v,h1,fun z=>(n2 z).elim,fun z=>(n1 z).elim,fun _ _=>(show Rep Z.W _ H x v from h2).sub fun a m _=>⟨⟨.inl m,fun ⟨k,c,hk,_,ea⟩=>m.2 k (O2.mp hk).1 ea⟩,fun i hi=>(n2 hi).elim⟩⟩
 .obtain ⟨k,c,hk,hz,rfl⟩:=h
  obtain ⟨o,ho,ni⟩:=(R.toHH.cell k c hk).live hz
  exact ⟨o,ho,ni,by unfold bsH;dsimp only;rw [if_pos ⟨k,c,hk,hz,rfl⟩]⟩
def xa (hZ:Z.W=W)
  (hi:∀ R:It->Hp->Prop,(∀ J H2,zE H H2->Cq Z.W (HM Z A G.length) (fun a=>¬ u_ A G a) H2 J xs->R J H2)->wi σ H R)
  (hg:∀ (Z:HC),Z.W=W->∀ A H σ ρ G x v,HR Z A H σ ρ G->Yr Z.W (HM Z A G.length) A G.length H x v->∀ Q:St->Hp->Prop,(∃ ρ',mg x ρ=some ρ'/\∀ σ',HR Z A H σ' ρ' G->Q σ' H)->g v σ H Q) (hb:LHS W E tb mb) (R:HR Z A H σ ρ G) (q:HPs Z E A G.length H D (nv mg mb (xs.map .v) ρ G)):G5 wi g tb D σ H:=by
 refine hi _ fun J H2 s2 io=>?_
 have R2:=R.keep s2
 have q2:=HPs.gro q (Gro.same s2)
 refine ⟨fun i n σ' H'=>n=xs.length - i/\i<=xs.length/\∃ ρ' A' G',HR Z A' H' σ' ρ' G'/\Gro Z A G.length H2 A' G'.length H'/\HPs Z E A' G'.length H' D (nv mg mb ((xs.drop i).map .v) ρ' G'),⟨_,rfl,S7 _,ρ,A,G,R2,Gro.refl,q2⟩, ?_⟩
 rintro i n σ' H' ⟨rfl,hle,ρ',A',G',R',g',q'⟩
 have io':=io H' (Gro.rest R2.toHH R'.toHH g')
 by_cases hlt:i < xs.length
 .have hx:xs[i]? = some xs[i]:=N8 hlt
  obtain ⟨go,yl⟩:=io'.1 i _ hx
  refine .inr ⟨go,fun σ2 H2'=>i + 1<=xs.length/\∃ ρ' A' G',HR Z A' H2' σ2 ρ' G'/\Gro Z A G.length H2 A' G'.length H2'/\HPs Z E A' G'.length H2' D (nv mg mb ((xs.drop (i + 1)).map .v) ρ' G'),fun σ2 H2' h=>⟨xs.length - (i + 1),by omega,rfl,h.1,h.2⟩,fun v H'' hy=>?_⟩
  obtain ⟨sy,ry⟩:=yl v H'' hy
  have Ry:=R'.keep sy
  have gy:Gro Z A G.length H2 A' G'.length H'':=g'.trans (Gro.same sy)
  have rx:Rep Z.W (HM Z A' G'.length) H'' xs[i] v:=ry _ fun a m hn=>gy.sM a m hn
  rw [a04 hlt,N9] at q'
  unfold nv at q'
  split at q'
  .exact q'.elim
  .rename_i ρ1 hρ
   refine hg Z hZ A' H'' σ' ρ' G' _ v Ry (show Yr Z.W _ _ _ H'' (.v xs[i]) v from rx) _ ⟨ρ1,hρ,fun σ1 R1=>hb Z hZ A' H'' σ1 ρ1 G' R1 _ ?_⟩
   have q':=HPs.gro q' (Gro.same sy)
   revert q'
   cases mb ρ1 G' with
   | wall=>exact id
   | exc c fs G2=>exact id
   | nx ρ2 G2=>exact fun q' A3 H3 σ3 R3 g3=>⟨hlt,ρ2,A3,G2,R3,gy.trans g3,HPs.gro (o:=nv mg mb ((xs.drop (i + 1)).map .v) ρ2 G2) q' g3⟩
   | ct ρ2 G2=>exact fun q' A3 H3 σ3 R3 g3=>⟨hlt,ρ2,A3,G2,R3,gy.trans g3,HPs.gro (o:=nv mg mb ((xs.drop (i + 1)).map .v) ρ2 G2) q' g3⟩
   | bk ρ2 G2=>exact id
   | rt x G2=>exact id
 .have e:i=xs.length:=by omega
  subst e
  rw [a2d] at q'
  exact .inl ⟨io'.2,q' A' H' σ' R' Gro.refl⟩
end
def CQ (bs:Nf) (mi:MI) (g:HMG) (b:HMS):HMS:=fun ρ G=>match K3 bs ρ with
 | some r=>match mi r with
  | .ok xs=>nv g b (xs.map .v) ρ G
  | _=>.wall
 | none=>.wall
section
variable {X:Cx}{W:RC}{E:XK}{fr:Bool}{S:MV}{tg j9:Nh}{body:Nx}{mi:MI}{mg:HMG}{mb:HMS}{pos:Pos}
def CS (bs:Nf) (hp:PassesOwn (Oc X) X.A X.env X.xe) (hc:X.calm=true) (hi:IM X ⟨W,E,fr⟩ S false tg j9 mi) (hg:HG X W tg mg) (hb:HSs X W E body mb) (hS:S.all (· == 0)=true:=by rfl) (hs:∀ x,foldedSetIterable j9 X.env x=pure x:=by intro _;rfl):
  HS X W E (.For tg j9 body [] pos) (CQ bs mi mg mb):=fun hK=>by
 obtain ⟨wi,a1,a2⟩:=hi hK
 obtain ⟨g,b1,b2⟩:=hg hK
 obtain ⟨tb,c1,c2⟩:=hb hK
 refine ⟨_,nN hp hc a1 b1 c1 hs,fun Z hZ A H σ ρ G R D q=>?_⟩
 unfold CQ at q
 split at q
 .rename_i r hr
  split at q
  .rename_i xs hx
   subst hZ
   refine xa rfl (fun R' k=>?_) b2 c2 R q
   refine a2 _ _ H σ r (IJ R hr hS) R' ?_
   rw [hx]
   intro J H2 s io
   refine k J H2 s fun H' f=>?_
   have n2:∀ {k:Nat},S[k]? = some 2->False:=fun {k} h=>by have:=Fz hS h;omega
   obtain ⟨i1,i2⟩:=io H' fun a o h m=>f a o h (m.imp (fun m z=>m.1 z) id)
   refine ⟨fun i x hx=>⟨(i1 i x hx).1,fun v H'' hy=>⟨((i1 i x hx).2 v H'' hy).1,fun M' sM=>((i1 i x hx).2 v H'' hy).2 M' fun a m hn=>sM a ?_ hn⟩⟩,i2⟩
   have m1:HM Z A G.length a\/(bsH Z A H G).H0 a=none:=m.1.1
   rcases m1 with m1 | m1
   .exact m1
   .unfold bsH at m1;dsimp only at m1
    split at m1
    .rename_i hl;exact absurd hl m.1.2
    .exact R.toHH.new a m1
  .exact q.elim
 .exact q.elim
end
def hB (p:Nl) (ms:HMA):HME:=fun ρ G=>(ms ρ G).bind fun xs G1=>match pO (v_ G1 8) xs with
 | some ys=>match p ys with
  | .ok z=>if imm z=true then .ok (.v z) G1 else .wall
  | _=>.wall
 | none=>.wall
section
variable {X:Cx}{W:RC}{E:XK}{e a b:Nh}{es:Nc}{pos p:Pos}{m1 m2:HME}{ms:HMA}{x:Str}
end
section
variable {X:Cx}{W:RC}{E:XK}{fr:Bool}{S S' Sb Sc:MV}{st:NF}{s1:MS}
end
def tT (n:Nat) (ms:HMS) (xs:List HV) (G:AH):HX HV:=match ms (xs.map some++List.replicate (n - xs.length) none) G with
 | .nx _ G'=>.ok (.v .n) G'
 | .rt x G'=>.ok x G'
 | .exc c fs G'=>.exc c fs G'
 | _=>.wall
def mH {xs:List HV}{n k:Nat}{x:HV}(h:(xs.map some++List.replicate (n - xs.length) none)[k]? = some (some x)):xs[k]? = some x:=by
 rw [a1B] at h
 split at h
 .rw [P0] at h
  obtain ⟨y,hy,e⟩:=M3.mp h
  cases e;exact hy
 .rw [a0t] at h
  split at h <;> cases h
def xb (h:HH Z A H G) (r:qa Z.W (HM Z A G.length) A G.length H xs vs):HR Z A H (start N vs) (xs.map some++List.replicate (N.length - xs.length) none) G:=by
 refine ⟨h, ?_,fun i x e=>?_⟩
 .unfold start
  rw [M6,M6,u8,u8,a0y,a0y,r.len]
 .obtain ⟨v,hv,rv⟩:=r.get (mH e)
  have hk:i < vs.length:=(O2.mp hv).1
  refine ⟨v, ?_,rv⟩
  unfold start
  rw [S8 (by rw [u8];exact hk),P0,hv];rfl
section
variable {P:Nk}{w:Nq}{K:Ny}{mg:MU}{base:Heap}
def iH {x qual:Str}{st:NF}{f:Addr}{fd:Nr}{N ps:MX}{k n l:Nat}{W:RC}{ms:HMS}(F:Fun K x qual st f fd) (S:zu N ps (zk st)) (hW:K=W.K) (hl:ps.length=l) (hN:N.length=n)
  (h:∀ (cdv:Value) (A:Nt) (outer:List Env) (s:MZ) (H:Hp) (E:XK),k_ k (A.deeper (envOfC qual (zk st) s.heap.objs.size f cdv))->HSs (thr (l4 (CXe P w) P w K mg base N qual (zk st) f cdv A outer s H E) E) W E (Zt st) ms):
  y3 P w K mg base (CXe P w) (k + 1) f fd ps (hsp W l (tT n ms)):=by
 subst hN hl
 refine F.okX S CN fun cdv A outer s H vs Q E hr ⟨Z,A',G,xs,hZ,hl,hh,r,q⟩=>?_
 obtain ⟨ts,t1,t2⟩:=h cdv A outer s H E hr hW
 refine ⟨ts,t1,t2 Z hZ A' H _ _ G (xb hh r) _ ?_⟩
 unfold tT at q
 revert q
 cases ms (xs.map some++List.replicate (N.length - xs.length) none) G with
 | exc c fs G'=>exact id
 | wall=>exact id
 | nx ρ' G'=>exact fun q A2 H2 σ2 R2 g2=>q A2 H2 R2.toHH g2 .non rfl
 | rt y G'=>exact fun q A2 H2 v h2 g2 rv=>q A2 H2 h2 g2 v rv
 | bk ρ' G'=>exact fun q=>q.elim
 | ct ρ' G'=>exact fun q=>q.elim
end
def CT (hS:SqL W.K H p (ns.map V.int)) (h:∃ G,g [.v (.sc ns)] []=.ok (.v (.b true)) G) (k:∀ H',Q (.bl true) H'):hsp W 1 g [.ref p] H Q E:=by
 obtain ⟨G,h⟩:=h
 refine ⟨⟨W,H,fun _=>True⟩,fun _=>0,[],[.v (.sc ns)],rfl,rfl,⟨zE.refl _,(fun k c e=>by cases e),fun j k hj=>absurd hj (a06 _),fun k hk=>absurd hk (a06 _)⟩,⟨.ref p,[],rfl,⟨p,rfl, ?_⟩,rfl⟩, ?_⟩
 .exact hS.elim (fun z=>.inl ⟨⟨.inl trivial,fun k hk=>absurd hk (a06 _)⟩,z⟩) .inr
 .rw [h]
  intro A2 H2 h2 g2 v rv
  cases (show v=_ from rv)
  exact k H2
section
variable {Z:HC}{E:XK}{A A':Na}{n n':Nat}{H H':Hp}{G G':AH}{σ σ':St}{ρ ρ':ZW}{a:Addr}{es:Ng}{u u':HO}{W:RC}{M:MY}{D:Ends}
end
section
variable {X:Cx}{W:RC}{E:XK}{tg j9:Nh}{body:Nx}{mg:HMG}{mb:HMS}{pos:Pos}{i:Nat}
end
def IK (bs:Nf) (N:MX) (fr:Ni) (Si:MV) (hN:X.N.Nodup) (hy:X.N[j]? = some y) (hl:X.env.scope.names.lookup y=some .local) (hc:X.calm=true) (hok:tL X scope N fr=true) (hi:IM X ⟨W,E,fr'⟩ S true tg j9 mi) (hg:∀ z:CI,GM (cxI X scope N z) ⟨W,E0,false⟩ Si Si tg mg) (ht:∀ z:CI,TsM (cxI X scope N z) ⟨W,E0,false⟩ Si ifs mc) (he:∀ z:CI,EM (cxI X scope N z) ⟨W,E0,false⟩ Si false elt me) (hS:Si=inS S fr:=by rfl) (h0:S.all (· == 0)=true:=by rfl)
  (hsw:swapsWith (.ListComp elt [⟨tg,j9,ifs,0⟩] scope pos) (some (.Name y py)) tK.line X.env=pure true:=by rfl) (hs:∀ x,foldedSetIterable j9 X.env x=pure x:=by intro _;rfl):HS X W E (.Assign [.Name y py] (.ListComp elt [⟨tg,j9,ifs,0⟩] scope pos) tK) (Jw j (hF bs (mLC mi fr mg mc me))):=fun hK=>by
 obtain ⟨wi,a1,a2⟩:=hi hK
 obtain ⟨g,b1,b2⟩:=f9 hg fun _=>hK
 obtain ⟨tc,c1,c2⟩:=f7 ht fun _=>hK
 obtain ⟨te,d1,d2⟩:=f6 he fun _=>hK
 exact ⟨_,EI N fr hN hy hl hc hok a1 (fun fp pn s H L=>b1 ⟨fp,pn,s,H,L⟩) (fun fp pn s H L=>c1 ⟨fp,pn,s,H,L⟩) (fun fp pn s H L=>d1 ⟨fp,pn,s,H,L⟩) hsw hs,pQ (LM bs (fr:=fr') (Cw a2 rfl hS b2 c2 d2) h0)⟩
section
variable {X:Cx}{W:RC}{E:XK}{a o:Nh}{pos kA Yq:Pos}{m m1:HME}
end
section
variable {Z:HC}{A:Na}{H:Hp}{G:AH}{σ:St}{ρ:ZW}
end
section
variable {X:Cx}{W:RC}{E:XK}{fr:Bool}{S:MV}{e:Nh}{m:ME}
end
def pD1 (x:PV):PV->Out PV
 | .i n=>match pk x with | some k=>.ok (.d [(k,.i n)]) | none=>.wall
 | _=>.wall
def mD1 (mk mv:ME):ME:=fun ρ=>(mk ρ).bind fun x=>(mv ρ).bind fun y=>pD1 x y
def IL (h1:EM X C S w1 a m1) (h2:EM X C S w2 b m2):FM X C S (.Dict [some a] [b] pos) (mD1 m1 m2):=fun hK=>by
 obtain ⟨ta,a1,a2⟩:=h1 hK
 obtain ⟨tb,b1,b2⟩:=h2 hK
 refine ⟨_,BV (ug a1 b1 BU) rfl rfl (by intro h;cases h) (show 1<=15 by decide),fun B P H σ ρ R Q q=>fun p hp=>?_⟩
 have s0:zE H (upd H p (.dK [])):=zE.upd hp
 unfold mD1 at q
 show ta σ _ _
 refine a2 B P _ σ ρ (R.keep s0) _ ?_
 cases e1:m1 ρ with
 | exc c fs=>rw [e1] at q;exact q
 | wall=>rw [e1] at q;exact q
 | ok x=>
  rw [e1] at q
  intro v H1 s1 r1
  refine b2 B P _ σ ρ (R.keep (s0.trans s1)) _ ?_
  cases e2:m2 ρ with
  | exc c fs=>
   have q:yi C B H _ Q ((m2 ρ).bind _):=q
   rw [e2] at q;exact q
  | wall=>
   have q:yi C B H _ Q ((m2 ρ).bind _):=q
   rw [e2] at q;exact q
  | ok y=>
   have q:yi C B H _ Q ((m2 ρ).bind _):=q
   rw [e2] at q
   intro u H2 s2 r2
   have q:yi C B H _ Q (pD1 x y):=q
   cases y with
   | i n=>
    cases ek:pk x with
    | none=>
     have q:yi C B H _ Q (match pk x with | some k=>.ok (.d [(k,.i n)]) | none=>.wall):=q
     rw [ek] at q;exact q.elim
    | some k=>
    have q:yi C B H _ Q (match pk x with | some k=>.ok (.d [(k,.i n)]) | none=>.wall):=q
    rw [ek] at q
    have ev:=W6 (r1.weak) ek
    have eu:u=.int n:=r2.weak
    subst ev eu
    have hp2:H2 p=some (.dK []):=(s1.trans s2) _ _ zh
    refine ⟨hp2,[(k,.int n)],rfl,by show 1<=15;decide,q _ _ (fun c o hc=>?_) ⟨p,rfl,hp,[(k,.int n)],zh,⟨_,_,rfl,rfl,rfl⟩⟩⟩
    have:c≠p:=fun z=>by rw [z,hp] at hc;cases hc
    rw [zj this]
    exact (s0.trans (s1.trans s2)) _ _ hc
   | _=>exact (show False from q).elim
section
variable {Z:HC}{A:Na}{H:Hp}{G:AH}
end
section
variable {X:Cx}{W:RC}{E:XK}{e a b:Nh}{es:Nc}{pos p pos2 p2:Pos}{m1 m2:HME}{ms:HMA}{x y:Str}{k n:Nat}{f:Addr}{fd:Nr}{ps:MX}{g:List HV->AH->HX HV}
end
section
variable {X:Cx}{C:LC}{S S' S1 S2 Sb Sc:MV}{e:Nh}{es:Nc}{ws:Nf}{ms:MA}{pos p pos':Pos}{x y:Str}{k i j:Nat}{f:Addr}{fd:Nr}{ps:MX}{fr:Bool}{g:Nl}{m1 m2:MS}
end
section
variable {X:Cx}{C:LC}{S:MV}{tg e:Nh}{p pos:Pos}{m:ME}{cc:Bool}
end
section
variable {X:Cx}{W:RC}{E:XK}{o:Nh}{pos kA p:Pos}{m1:HME}
end
section
variable {X:Cx}{C:LC}{S Sb Sc:MV}{j9 tg elt:Nh}{ifs:Nc}{me:ME}{mc:MT}{mg:MG}{pos tK py:Pos}{i j:Nat}{scope:Scope}{y:Str}
end
def signsOf:PV->Out (List PV)
 | .s z=>.ok (z.cps.toList.map fun c=>.s ⟨#[c]⟩)
 | _=>.wall
def dO (m:ME):MI:=fun ρ=>(m ρ).bind signsOf
def FP:Cq W M N H2 (Its z) (z.cps.toList.map fun c=>PV.s ⟨#[c]⟩):=fun H' f=>by
 refine ⟨fun i x hx=>?_,by rw [u8];exact a1x a0H.symm⟩
 rw [P0] at hx
 obtain ⟨c,hc,rfl⟩:=M3.mp hx
 rw [Array.getElem?_toList] at hc
 refine ⟨(a03.mp hc).1,fun v H'' hy=>?_⟩
 obtain ⟨rfl,c',hc',rfl⟩:=hy
 rw [hc] at hc'
 cases hc'
 exact ⟨zE.refl _,fun _ _=>rfl⟩
section
variable {X:Cx}
end
section
variable {X:Cx}{C:LC}{S Sb Sc:MV}{o e a:Nh}{es:Nc}{w w1 w2:Bool}{ws:Nf}{m m1 m2:ME}{ms:MA}{pos p Yq kA:Pos}{i:Nat}{cc:Bool}{y:Str}{py:Pos}
end
def FQ (h:EM X C S w e m):IM X C S cc (.Name y py) e (dO m):=fun hK=>by
 obtain ⟨te,a1,a2⟩:=h hK
 refine ⟨_,EK a1,fun B P H σ ρ R Q q=>a2 B P H σ ρ R _ ?_⟩
 unfold dO at q
 revert q
 cases m ρ with
 | exc c fs=>exact id
 | wall=>exact id
 | ok x=>
  intro q v H2 s r
  cases x with
  | s z=>
   have ev:v=V.str z:=r.weak
   exact ⟨z,ev,q _ H2 s FP⟩
  | _=>exact (show False from q).elim
section
variable {X:Cx}{W:RC}{E:XK}{fr:Bool}{S:MV}{e:Nh}{m:ME}
end
section
variable {X:Cx}{C:LC}{S S' Sb Sc:MV}{o a:Nh}{w1 w2:Bool}{m1 m2:ME}{to ta:TE}{y z:Str}{n:Int}{kA Yq py pz pi pos rp cp kp:Pos}{jy jz ji j:Nat}
end
def vX (k:Nat) (g:HMG) (b:HMS):Nat->Nat->ZW->AH->HFw
 | r,i,ρ,G=>match G[k]? with
  | some (.l xs)=>match xs[i]? with
   | none=>.nx ρ G
   | some x=>match r with
    | 0=>.wall
    | r + 1=>match g x ρ with
     | none=>.wall
     | some ρ1=>match b ρ1 G with
      | .nx ρ2 G2=>vX k g b r (i + 1) ρ2 G2
      | .ct ρ2 G2=>vX k g b r (i + 1) ρ2 G2
      | .bk ρ2 G2=>.nx ρ2 G2
      | .rt v G2=>.rt v G2
      | .exc c fs G2=>.exc c fs G2
      | .wall=>.wall
  | _=>.wall
def gh (m:HME) (g:HMG) (b:HMS):HMS:=fun ρ G=>(m ρ G).fw fun x G1=>match x with
 | .g k=>match G1[k]? with
  | some (.l xs)=>vX k g b xs.length 0 ρ G1
  | _=>.wall
 | _=>.wall
def bH (hp:PassesOwn (Oc X) X.A X.env X.xe) (hc:X.calm=true) (hi:HE X W E j9 m) (hg:HG X W tg mg) (hb:HSs X W E body mb) (hs:∀ x,foldedSetIterable j9 X.env x=pure x:=by intro _;rfl):
  HS X W E (.For tg j9 body [] pos) (gh m mg mb):=fun hK=>by
 obtain ⟨te,a1,a2⟩:=hi hK
 obtain ⟨g,b1,b2⟩:=hg hK
 obtain ⟨tb,c1,c2⟩:=hb hK
 refine ⟨_,nN hp hc (o8 a1) b1 c1 hs,fun Z hZ A H σ ρ G R D q=>a2 Z hZ A H σ ρ G R _ (HPs.bind q fun x A1 H1 G1 h1 g1 q1 v rx=>?_)⟩
 split at q1
 .rename_i k
  obtain ⟨hk,rfl⟩:=(show _/\_ from rx)
  split at q1
  .rename_i xs hx
   have R1:=R.gro h1 g1
   obtain ⟨vs,hl,rs⟩:=h1.cell k _ hx
   refine .inl ⟨A1 k,rfl,⟨vs,SqL.of hl⟩, ?_⟩
   refine ⟨fun i n σ' H'=>∃ ρ' A' G',HR Z A' H' σ' ρ' G'/\Gro Z A1 G1.length H1 A' G'.length H'/\HPs Z E A' G'.length H' D (vX k mg mb n i ρ' G'),⟨xs.length,ρ,A1,G1,R1,Gro.refl,q1⟩, ?_⟩
   rintro i n σ' H' ⟨ρ',A',G',R',g',q'⟩
   have ak:A' k=A1 k:=g'.agr k hk
   unfold vX at q'
   split at q'
   .rename_i ys hy
    obtain ⟨us,hu,ru⟩:=R'.toHH.cell k _ hy
    rw [ak] at hu
    split at q'
    .rename_i hn
     refine .inl ⟨⟨us,SqL.of hu, ?_⟩,q' A' H' σ' R' Gro.refl⟩
     rw [ru.len]
     exact a1W.mp hn
    .rename_i y hyi
     obtain ⟨u,hui,rui⟩:=ru.get hyi
     split at q'
     .exact q'.elim
     .rename_i r
      refine .inr ⟨⟨us,u,SqL.of hu,hui⟩,fun σ2 H2'=>∃ ρ' A' G',HR Z A' H2' σ2 ρ' G'/\Gro Z A1 G1.length H1 A' G'.length H2'/\HPs Z E A' G'.length H2' D (vX k mg mb r (i + 1) ρ' G'),fun σ2 H2' h=>⟨r,a0a _,h⟩,fun v' H'' hv=>?_⟩
      obtain ⟨rfl,hv⟩:=hv
      have:=hv us (SqL.of hu)
      rw [hui] at this
      cases this
      split at q'
      .exact q'.elim
      .rename_i ρ1 hρ
       refine b2 Z hZ A' H'' σ' ρ' G' y u R' rui _ ⟨ρ1,hρ,fun σ1 R1=>c2 Z hZ A' H'' σ1 ρ1 G' R1 _ ?_⟩
       revert q'
       cases mb ρ1 G' with
       | wall=>exact id
       | exc c fs G2=>exact id
       | nx ρ2 G2=>exact fun q' A3 H3 σ3 R3 g3=>⟨ρ2,A3,G2,R3,g'.trans g3,HPs.gro (o:=vX k mg mb r (i + 1) ρ2 G2) q' g3⟩
       | ct ρ2 G2=>exact fun q' A3 H3 σ3 R3 g3=>⟨ρ2,A3,G2,R3,g'.trans g3,HPs.gro (o:=vX k mg mb r (i + 1) ρ2 G2) q' g3⟩
       | bk ρ2 G2=>exact id
       | rt x G2=>exact id
   .exact q'.elim
  .exact q1.elim
 .exact q1.elim
section
variable {X:Cx}{W:RC}{E:XK}{e:Nh}{es:Nc}{ms:HMA}{ws:Nf}{g:Nl}{k:Nat}{f:Addr}{fd:Nr}{ps:MX}{x:Str}{p pos:Pos}
end
section
variable {X:Cx}{C:LC}{S:MV}{mi:MI}{mg:MG}{mc:MT}{me:ME}
end
section
variable {X:Cx}{W:RC}{E:XK}
variable {fr':Bool}{S:MV}{j9 tg elt:Nh}{ifs:Nc}{me:ME}{mc:MT}{mg:MG}{mi:MI}{pos tK py:Pos}{i j:Nat}{scope:Scope}{y:Str}
end
def CU (kvs:Nn) (y:PV):Out PV:=match pk y with
 | some k=>.ok ((zS kvs k).getD .n)
 | none=>.wall
def Hh (m1 m2:ME):ME:=fun ρ=>(m1 ρ).bind fun x=>match x with
 | .d kvs=>(m2 ρ).bind (CU kvs)
 | _=>.wall
def FR (hu:X.A.units + 1 < cLine) (h1:EM X C S w1 o m1) (h2:EM X C S w2 e m2) (m:M1 X o "get" kA e Yq):EM X C S false (.Call (.Attribute o "get" kA) [e] [] Yq) (Hh m1 m2):=fun hK=>by
 obtain ⟨ta,a1,a2⟩:=h1 hK
 obtain ⟨tb,b1,b2⟩:=h2 hK
 refine ⟨_,uh hu a1 b1 m,fun B P H σ ρ R Q q=>a2 B P H σ ρ R _ (yw q fun x v H1 s1 r1 q1=>?_)⟩
 cases x with
 | d kvs=>
  obtain ⟨p,es,rfl,_,hd,rk⟩:=r1.weak
  refine ⟨p,rfl,.inl ⟨es,hd⟩,b2 B P H1 σ ρ (R.keep s1) _ (yw (o:=m2 ρ) (f:=CU kvs) q1 fun y u H2 s2 r2 q2=>?_)⟩
  cases ek:pk y with
  | none=>
   have e:CU kvs y=.wall:=by unfold CU;rw [ek]
   rw [e] at q2;exact q2.elim
  | some k=>
   have e:CU kvs y=.ok ((zS kvs k).getD .n):=by unfold CU;rw [ek]
   rw [e] at q2
   have eu:=W6 r2.weak ek
   subst eu
   have hd2:Rd H2 p (.dK es):=hd.elim (fun z=>.inl (s2 _ _ z)) fun ⟨o,z⟩=>.inr ⟨o,s2 _ _ z⟩
   refine ⟨Uu es k,.inl ⟨es,k,hd2,rfl,rfl⟩, ?_⟩
   cases ed:zS kvs k with
   | none=>
    rw [ed] at q2
    rw [rk.Ha ed]
    exact q2 _ H2 (zE.refl _) (RV.of rfl)
   | some x=>
    rw [ed] at q2
    obtain ⟨v,ev,rv⟩:=rk.get ed
    rw [ev]
    exact q2 _ H2 (zE.refl _) (RV.of (rv.same s2))
 | _=>exact q1.elim
section
variable {X:Cx}{W:RC}{E:XK}{o a:Nh}{m1 m2:HME}{pos kA Yq:Pos}
end
section
variable {X:Cx}{W:RC}{E:XK}{fr:Bool}{S S1 Sb Sc:MV}{tg a0 b0:Nh}{body:Nx}{mg:MG}{mb:MS}{pos ipos:Pos}{i j:Nat}
end
def pk2:List PV->Option (List Key)
 | [x,y]=>(pk x).bind fun a=>(pk y).bind fun b=>some [a,b]
 | _=>none
def Xj (s:zE H H') (h:Rd H p u):Rd H' p u:=(zE.fr (M:=fun _=>True) s).rd h trivial
def bI {k:NI}:∀ {kvs:NM},Uu (dtV kvs) k=(zS kvs k).map V.int
 | []=>rfl
 | q :: r=>by
  unfold dtV Uu zS
  rw [N9,a0Q,a0Q]
  by_cases c:q.1=k
  .simp only [c,decide_true];rfl
  .simp only [c,decide_false];exact bI (kvs:=r)
def CV:putK (dtV kvs) k (.int n)=dtV (dput kvs k n):=by
 have e:∀ {kvs:NM},(dtV kvs).any (fun kv=>decide (kv.1=k))=kvs.any (fun kv=>decide (kv.1=k))/\(dtV kvs).map (fun kv=>if kv.1=k then (kv.1,V.int n) else kv)=dtV (kvs.map fun kv=>if kv.1=k then (kv.1,n) else kv):=fun {kvs}=>by
  induction kvs with
  | nil=>exact ⟨rfl,rfl⟩
  | cons q r ih=>
   unfold dtV at ih ⊢
   refine ⟨by rw [N9,T7,T7,ih.1], ?_⟩
   rw [N9,N9,N9,N9,ih.2]
   by_cases c:q.1=k
   .rw [if_pos c,if_pos c]
   .rw [if_neg c,if_neg c]
 unfold putK dput
 rw [e.1]
 split
 .exact e.2
 .unfold dtV;rw [O6];rfl
section
variable {X:Cx}{C:LC}{S S' Sb Sc:MV}{e a b o:Nh}{es:Nc}{w w1 w2:Bool}{ws:Nf}{m m1 m2:ME}{ms:MA}{pos p pos':Pos}{i x1:Nat}
def RVs.Hi (h:RVs C B S P H ws xs vs) (hk:pk2 xs=some ks):vs=ks.map kV/\vs.length<=sizeLine:=by
 have h:=h.weak
 match xs,hk with
 | [x,y],hk=>
  obtain ⟨k1,h1,hk⟩:=O8.mp hk
  obtain ⟨k2,h2,hk⟩:=O8.mp hk
  cases hk
  obtain ⟨v,r,rfl,r1,u,r',rfl,r2,e⟩:=h
  cases (show r' = [] from e)
  rw [W6 r1 h1,W6 r2 h2]
  exact ⟨rfl,by show 2<=sizeLine;decide⟩
def AQ:ME:=fun _=>.ok (.dt [])
def xf:FM X C S (.Dict [] [] pos) AQ:=fun hK=>⟨_,uf,fun B P H σ ρ R Q q=>fun p hp=>q _ _ (zE.upd hp) ⟨p,rfl,hp,zh⟩⟩
def LN (x:PV) (xs:Nj):Out PV:=match x,pk2 xs with
 | .dt kvs,some ks=>v7 ((zS kvs ks).map PV.i)
 | _,_=>.wall
def ny (m:ME) (ms:MA):ME:=fun ρ=>(m ρ).bind fun x=>(ms ρ).bind fun xs=>LN x xs
def Xk (hu:X.A.units + 1 < cLine) (h1:EM X C S w1 a m1) (h2:AM X C S ws es ms) (hs:ba (.Tuple es x1 p):=by intro _ _;rfl):EM X C S false (.Subscript a (.Tuple es x1 p) pos) (ny m1 ms):=fun hK=>by
 obtain ⟨ta,a1,a2⟩:=h1 hK
 obtain ⟨tb,b1,b2⟩:=h2 hK
 refine ⟨_,BO (fS hu) a1 (WU b1) hs,fun B P H σ ρ R Q q=>a2 B P H σ ρ R _ (yw q fun x v H1 s1 r1 q1=>b2 B P H1 σ ρ (R.keep s1) _ (qt q1 fun xs vs H2 s2 r2 q2=>?_))⟩
 unfold LN at q2
 split at q2
 .rename_i kvs ks hk
  obtain ⟨y,hy,q3⟩:=qq q2
  obtain ⟨n,hn,rfl⟩:=M3.mp hy
  obtain ⟨rfl,hl⟩:=r2.Hi hk
  obtain ⟨p,rfl,_,hr⟩:=r1.weak
  refine ⟨hl,fun z hz=>⟨p,.int n,rfl,.inr ⟨_,_,z,Xj (zE.upd hz) (Xj s2 hr),rfl,zh,by rw [bI,hn];rfl⟩,q3 _ _ (zE.upd hz) (RV.of rfl)⟩⟩
 .exact q2.elim
def inT (neg:Bool) (ks:NI):PV->Out PV
 | .dt kvs=>.ok (.b (xor neg (zS kvs ks).isSome))
 | _=>.wall
def gi (neg:Bool) (ms:MA) (m:ME):ME:=fun ρ=>(ms ρ).bind fun xs=>match pk2 xs with
 | some ks=>(m ρ).bind (inT neg ks)
 | none=>.wall
def AR (h2:LA C S ws ta ms) (h1:LE C S w1 tb m1):LE C S false (tOp (Hb C.W.K neg) (Lv ta) tb) (gi neg ms m1):=fun B P H σ ρ R Q q=>h2 B P H σ ρ R _ (qt q fun xs vs H1 s1 r1 q1=>by
 split at q1
 .rename_i ks hk
  obtain ⟨rfl,hl⟩:=r1.Hi hk
  refine ⟨hl,fun z hz=>h1 B P _ σ ρ ((R.keep s1).keep (zE.upd hz)) _ (yw (Zg q1 (zE.upd hz)) fun y u H2 s2 r2 q2=>?_)⟩
  unfold inT at q2
  split at q2
  .obtain ⟨p,rfl,_,hr⟩:=r2.weak
   exact .inr ⟨p,_,rfl,.inr ⟨_,_,z,hr,rfl,s2 _ _ zh,rfl⟩,by rw [bI,a0T];exact q2 _ _ (zE.refl _) (RV.of rfl)⟩
  .exact q2.elim
 .exact q1.elim)
def AS (hu:X.A.units + 1 < cLine) (h1:AM X C S ws es ms) (h2:EM X C S w2 b m2) (hm:behindInMarks .In b=false:=by with_unfolding_all rfl):TM X C S (.Compare (.Tuple es x1 p) [.In] [b] pos) (yK (gi false ms m2)):=fun hK=>by
 obtain ⟨ta,a1,a2⟩:=h1 hK
 obtain ⟨tb,b1,b2⟩:=h2 hK
 exact ⟨_,fu (Av hu) (WU a1) b1 hm,bo (by rw [hK];exact AR a2 b2)⟩
def Zk (hu:X.A.units + 1 < cLine) (h1:AM X C S ws es ms) (h2:EM X C S w2 b m2) (hm:behindInMarks .NotIn b=false:=by with_unfolding_all rfl):TM X C S (.Compare (.Tuple es x1 p) [.NotIn] [b] pos) (yK (gi true ms m2)):=fun hK=>by
 obtain ⟨ta,a1,a2⟩:=h1 hK
 obtain ⟨tb,b1,b2⟩:=h2 hK
 exact ⟨_,fu (dB hu) (WU a1) b1 hm,bo (by rw [hK];exact AR a2 b2)⟩
def IP (i:Nat) (ρ:Sto) (o:Out (List PV)):Option (Option PV)->PV->Out Fw
 | some (some (.dt kvs)),.i n=>o.bind fun xs=>match pk2 xs with
  | some k=>if kvs.length < sizeLine then .ok (.nx (ρ.set i (some (.dt (dput kvs k n))))) else .wall
  | none=>.wall
 | _,_=>.wall
def dP (i:Nat) (ms:MA) (mv:ME):MS:=fun ρ=>(mv ρ).bind fun v=>IP i ρ (ms ρ) ρ[i]? v
def gj (hu:X.A.units + 1 < cLine) (ho:PE X o (ng i)) (hk:AM X C S ws es ms) (hv:EM X C S false e m2) (hi:S[i]? = some 2:=by rfl) (hs:swapsWith e (some (.Subscript o (.Tuple es x1 p) pos')) pos.line X.env=pure false:=by rfl):
  SM X C S S Sb Sc (.Assign [.Subscript o (.Tuple es x1 p) pos'] e pos) (dP i ms m2):=fun hK=>by
 obtain ⟨ta,a1,a2⟩:=hk hK
 obtain ⟨tv,b1,b2⟩:=hv hK
 refine ⟨_,fF hu ho (WU a1) b1 hs,fun B P H σ ρ R D q=>b2 B P H σ ρ R _ ?_⟩
 unfold dP at q
 revert q
 cases m2 ρ with
 | ok y=>
  intro q v H1 sm1 rv
  have R1:=R.keep sm1
  have q:ZA C B S Sb Sc D (IP i ρ (ms ρ) ρ[i]? y):=q
  unfold IP at q
  split at q
  .rename_i kvs n hx q0
   obtain ⟨hσ,hp,hl⟩:=R1.at2 hi hx
   have hp:H1 (P i)=some (.dT (dtV kvs)):=hp
   cases (show v=.int n from rv.weak)
   refine ⟨_,hσ,a2 B P H1 σ ρ R1 _ ?_⟩
   revert q
   cases ms ρ with
   | ok z=>
    intro q u H2 sm2 ru
    have R2:=R1.keep sm2
    have q:ZA C B S Sb Sc D (match pk2 z with
     | some k=>if kvs.length < sizeLine then .ok (.nx (ρ.set i (some (.dt (dput kvs k n))))) else .wall
     | none=>.wall):=q
    split at q
    .rename_i k hk
     split at q
     .rename_i hz
      obtain ⟨rfl,hl2⟩:=ru.Hi hk
      refine ⟨hl2,fun t ht=>?_⟩
      have R3:=R2.keep (zE.upd (o:=.tup (k.map kV)) ht)
      have hp2:=zE.upd (o:=.tup (k.map kV)) ht _ _ (sm2 _ _ hp)
      refine ⟨_,_,rfl,uc.t hp2 zh (by unfold dtV;rw [u8];exact hz),q P _ σ (R3.wr hi hl hσ (by exact id) ?_)⟩
      show upd _ _ _ _=_
      rw [zh,CV]
     .exact q.elim
    .exact q.elim
   | exc c fs=>exact id
   | wall=>exact id
  .exact q.elim
 | exc c fs=>exact id
 | wall=>exact id
end
section
variable {X:Cx}{W:RC}{E:XK}{o e:Nh}{es:Nc}{m:HME}{ms:HMA}{pos kA:Pos}{mn:Str}{n:Nat}
end
section
variable {X:Cx}{k:Nat}{f C:Addr}{fd:Nr}{ps:MX}{sp:Sp}{x m:Str}{p pos kA:Pos}{e o:Nh}{es:Nc}{ta te:TE}{t:TA}{alts:Addr->Sp->Prop}
end
section
variable {X:Cx}{C:LC}{S S' S1 S2 Sb Sc:MV}{e o:Nh}{es:Nc}{ws:Nf}{m:ME}{ms:MA}{pos p pos' kA:Pos}{x y mn:Str}{k i j:Nat}{f:Addr}{fd:Nr}{ps:MX}{fr w:Bool}{g:Nl}{m1 m2:MS}
end
end L2
namespace L2
open PySem PySem.W PyProof.Rows
def WM {α:Type}(P:NY) (f:NT):KasT α->(α->Prop)->Prop
 | .ret a,Q=>Q a
 | .ask i j k,Q=>P i/\P j/\WM P f (k (f i j)) Q
def Zl {α β:Type}{P:NY}{f:NT}{g:α->KasT β}{Q:β->Prop}:∀ {t:KasT α},WM P f t (fun a=>WM P f (g a) Q)->WM P f (t.bind g) Q
 | .ret _,h=>h
 | .ask _ _ _,h=>⟨h.1,h.2.1,Zl h.2.2⟩
def qb {α:Type}{P:NY}{f:NT}{Q Q':α->Prop}(hq:∀ a,Q a->Q' a):∀ {t:KasT α},WM P f t Q->WM P f t Q'
 | .ret _,h=>hq _ h
 | .ask _ _ _,h=>⟨h.1,h.2.1,qb hq h.2.2⟩
def pV {α:Type}{P:NY}{f:NT}{cmp:Nat->Nat->(Bool->Shared->Prop)->Shared->Prop}{J:Shared->Prop}(hc:∀ i j C s,P i->P j->J s->(∀ s',J s'->C (f i j) s')->cmp i j C s) {Q:α->Prop}{R:α->Shared->Prop}(hq:∀ a s,Q a->J s->R a s):∀ {t:KasT α}{s:MZ},J s->WM P f t Q->t.kasWp cmp R s
 | .ret a,s,hs,h=>hq a s h hs
 | .ask i j k,s,hs,h=>hc i j _ s h.1 h.2.1 hs fun s' hs'=>pV hc hq hs' h.2.2
abbrev at0 (p:NL) (k:Nat):Nat:=p.getD k 0
def J3:at0 p k=(p[k]?).getD 0:=by
 unfold at0
 by_cases h:k < p.size
 .simp [Array.getD,h]
 .simp [Array.getD,h]
def bJ (hj:j<=p.size) (k:Nat):at0 (kas_rev p i j) k=if i<=k/\k < j then at0 p (i + j - 1 - k) else at0 p k:=by
 rw [J3,J3,J3]
 unfold kas_rev
 rw [getElem?_mirror_all hj]
 split <;> rfl
def ax (hk:k < p.size) (hl:l<=k) (i:Nat):at0 (bubble p k (k - l)) i=if i=l then at0 p k else if l < i/\i<=k then at0 p (i - 1) else at0 p i:=by
 rw [J3,J3,J3,J3,getElem?_bubble hk (k - l) (by omega),show k - (k - l)=l by omega]
 split
 .rfl
 .split <;> rfl
section
variable {O:KeyOrd}{key:Nat->O.α}{n:Nat}
abbrev kk (key:Nat->O.α) (p:NL) (i:Nat):O.α:=key (at0 p i)
abbrev ans (key:Nat->O.α) (i j:Nat):Bool:=O.blt (key i) (key j)
structure Pm (n:Nat) (p:NL):Prop where
 perm:p.toList.Perm (List.range n)
 size:p.size=n
def Pm.rev (h:Pm n p):Pm n (kas_rev p i j):=⟨(a1Q.mp (mirror_perm p i j _)).trans h.perm,(kas_rev_size i j).trans h.size⟩
def Pm.bub (h:Pm n p):Pm n (bubble p i j):=⟨(a1Q.mp (bubble_perm p i j)).trans h.perm,(bubble_size p i j).trans h.size⟩
def Pm.lt (h:Pm n p) (h0:0 < n) (k:Nat):at0 p k < n:=by
 rw [J3]
 by_cases hk:k < p.size
 .rw [getElem?_pos p k hk]
  have:p[k]∈p.toList:=by simp
  exact a0i.mp (h.perm.mem_iff.mp this)
 .rw [getElem?_neg p k hk];exact h0
def Up (key:Nat->O.α) (p:NL) (m:Nat):Prop:=∀ i j,i<=j->j < m->O.kle (kk key p i) (kk key p j)
def Dn (key:Nat->O.α) (p:NL) (m:Nat):Prop:=∀ i j,i<=j->j < m->O.kle (kk key p j) (kk key p i)
def pW {p:NL}(hp:Pm n p) (h0:0 < n):∀ {f m:Nat},1<=m->m + f<=n->Up key p m->WM (· < n) (ans key) (kas_asc p f m) fun r=>m<=r/\r<=m + f/\Up key p r/\(r < m + f->O.klt (kk key p r) (kk key p (r - 1)))
 | 0,m,_,_,hu=>⟨N1 _,N1 _,hu,fun h=>absurd h (by omega)⟩
 | f + 1,m,h1,hm,hu=>by
  refine ⟨hp.lt h0 _,hp.lt h0 _, ?_⟩
  show WM _ _ (if O.blt (kk key p m) (kk key p (m - 1))=true then _ else _) _
  cases hc:O.blt (kk key p m) (kk key p (m - 1)) with
  | true=>exact ⟨N1 _,by omega,hu,fun _=>hc⟩
  | false=>
   have hu':Up key p (m + 1):=fun i j hij hj=>by
    by_cases c:j=m
    .subst c
     by_cases c2:i=j
     .subst c2;exact O.irrefl _
     .exact a2h (hu i (j - 1) (by omega) (by omega)) hc
    .exact hu i j hij (by omega)
   exact qb (fun r ⟨a,b,c,d⟩=>⟨by omega,by omega,c,fun h=>d (by omega)⟩) (pW hp h0 (f:=f) (m:=m + 1) (by omega) (by omega) hu')
structure DW (key:Nat->O.α) (n:Nat) (p:NL) (m q:Nat):Prop where
 pm:Pm n p
 dn:Dn key p m
 le:m<=n
 qm:q + 1<=m
 eq:∀ k,m - (q + 1)<=k->k < m->kk key p k=kk key p (m - 1)
def DW.alike (h:DW key n p m q) (k:Nat):kk key (kas_rev p (m - (q + 1)) m) k=kk key p k:=by
 have hm:=h.le
 have hs:=h.pm.size
 have hq:=h.qm
 unfold kk
 rw [bJ (by omega)]
 split
 .rename_i c
  have e1:=h.eq (m - (q + 1) + m - 1 - k) (by omega) (by omega)
  have e2:=h.eq k c.1 c.2
  exact e1.trans e2.symm
 .rfl
def gk (h0:0 < n):∀ {f m q:Nat}{p:NL},m + f<=n->DW key n p m q->WM (· < n) (ans key) (kas_desc f p m q) fun r=>m<=r.2.1/\r.2.1<=m + f/\DW key n r.1 r.2.1 r.2.2
 | 0,m,q,p,_,h=>⟨N1 _,N1 _,h⟩
 | f + 1,m,q,p,hm,h=>by
  have hq:=h.qm
  refine ⟨h.pm.lt h0 _,h.pm.lt h0 _, ?_⟩
  show WM _ _ (if O.blt (kk key p m) (kk key p (m - 1))=true then _ else _) _
  have dn1:∀ {p':NL},(∀ k,kk key p' k=kk key p k)->O.kle (kk key p m) (kk key p (m - 1))->Dn key p' (m + 1):=fun {p'} he hk i j hij hj=>by
   rw [he,he]
   by_cases c:j=m
   .subst c
    by_cases c2:i=j
    .subst c2;exact O.irrefl _
    .exact a2h hk (h.dn i (j - 1) (by omega) (by omega))
   .exact h.dn i j hij (by omega)
  cases hc:O.blt (kk key p m) (kk key p (m - 1)) with
  | true=>
   have hk:O.kle (kk key p m) (kk key p (m - 1)):=a2i hc
   have go:∀ {p':NL},Pm n p'->(∀ k,kk key p' k=kk key p k)->WM (· < n) (ans key) (kas_desc f p' (m + 1) 0) fun r=>m<=r.2.1/\r.2.1<=m + (f + 1)/\DW key n r.1 r.2.1 r.2.2:=fun {p'} hp he=>
    qb (fun r ⟨a,b,c⟩=>⟨by omega,by omega,c⟩) (gk h0 (f:=f) (m:=m + 1) (q:=0) (p:=p') (by omega) ⟨hp,dn1 he hk,by omega,by omega,fun k k1 k2=>by rw [show k=m + 1 - 1 by omega]⟩)
   show WM _ _ (if q > 0 then kas_desc f (kas_rev p (m - (q + 1)) m) (m + 1) 0 else kas_desc f p (m + 1) 0) _
   by_cases c:q > 0
   .rw [if_pos c];exact go h.pm.rev h.alike
   .rw [if_neg c];exact go h.pm fun _=>rfl
  | false=>
   refine ⟨h.pm.lt h0 _,h.pm.lt h0 _, ?_⟩
   show WM _ _ (if O.blt (kk key p (m - 1)) (kk key p m)=true then _ else _) _
   cases hd:O.blt (kk key p (m - 1)) (kk key p m) with
   | true=>exact ⟨N1 _,by show m<=m + (f + 1);omega,h⟩
   | false=>
    have e:kk key p m=kk key p (m - 1):=O.total _ _ hc hd
    refine qb (fun r ⟨a,b,c⟩=>⟨by omega,by omega,c⟩) (gk h0 (f:=f) (m:=m + 1) (q:=q + 1) (p:=p) (by omega) ⟨h.pm,dn1 (fun _=>rfl) hd,by omega,by omega,fun k k1 k2=>?_⟩)
    by_cases c:k=m
    .rw [c];rfl
    .rw [show m + 1 - 1=m by omega,e];exact h.eq k (by omega) (by omega)
abbrev IQ (key:Nat->O.α) (n:Nat):Nat × Array Nat->Prop:=fun r=>Pm n r.2/\1<=r.1/\r.1<=n/\Up key r.2 r.1
def iI (h0:0 < n) (hp:Pm n p) (h1:1<=m) (hm:m<=n) (hd:Dn key p m):WM (· < n) (ans key) (kas_tail3 m n p) (IQ key n):=by
 have hs:=hp.size
 have hu:Up key (kas_rev p 0 m) m:=fun i j hij hj=>by
  unfold kk
  rw [bJ (by omega),bJ (by omega),if_pos ⟨by omega,by omega⟩,if_pos ⟨by omega,by omega⟩]
  exact hd (0 + m - 1 - j) (0 + m - 1 - i) (by omega) (by omega)
 refine Zl (qb (fun r ⟨a,b,c,_⟩=>?_) (pW hp.rev h0 (f:=n - m) (m:=m) h1 (by omega) hu))
 exact ⟨hp.rev,by show 1<=r;omega,by show r<=n;omega,c⟩
def Xl (h0:0 < n) (hp:Pm n p) (h1:1<=m) (hm:m + 1<=n) (he:∀ k,k < m->kk key p k=kk key p (m - 1)) (hl:O.klt (kk key p m) (kk key p (m - 1))):WM (· < n) (ans key) (kas_descPart m n p) (IQ key n):=by
 have hs:=hp.size
 have hf:DW key n p (m + 1) 0:=⟨hp,fun i j hij hj=>by
  by_cases c:j=m
  .subst c
   by_cases c2:i=j
   .subst c2;exact O.irrefl _
   .rw [he i (by omega)];exact a2i hl
  .rw [he i (by omega),he j (by omega)];exact O.irrefl _,by omega,by omega,fun k k1 k2=>by rw [show k=m + 1 - 1 by omega]⟩
 refine Zl (qb (fun r ⟨a,b,c⟩=>?_) (gk h0 (f:=n - (m + 1)) (m:=m + 1) (q:=0) (p:=p) (by omega) hf))
 have cm:=c.qm
 by_cases hq:r.2.2 > 0
 .rw [if_pos hq]
  exact iI h0 c.pm.rev (by omega) c.le fun i j hij hj=>by rw [c.alike,c.alike];exact c.dn i j hij hj
 .rw [if_neg hq]
  exact iI h0 c.pm (by omega) c.le c.dn
def xg (h0:0 < n) (hp:Pm n p):WM (· < n) (ans key) (kas_count n p) (IQ key n):=by
 have hs:=hp.size
 refine Zl (qb (fun m ⟨a,b,c,d⟩=>?_) (pW (key:=key) hp h0 (f:=n - 1) (m:=1) (N1 _) (by omega) fun i j hij hj=>by rw [show i=j by omega];exact O.irrefl _))
 by_cases e1:(m == n)=true
 .rw [if_pos e1];exact ⟨hp,a,by show m<=n;omega,c⟩
 .rw [if_neg e1]
  have hmn:m < n:=by
   have:m≠n:=fun q=>e1 (by rw [q];exact a0Z _)
   omega
  have hl:=d (by omega)
  by_cases e2:m > 1
  .rw [if_pos e2]
   refine ⟨hp.lt h0 _,hp.lt h0 _, ?_⟩
   show WM _ _ (if O.blt (kk key p 0) (kk key p (m - 1))=true then _ else _) _
   cases hc:O.blt (kk key p 0) (kk key p (m - 1)) with
   | true=>exact ⟨hp,a,by show m<=n;omega,c⟩
   | false=>
    have e:kk key p 0=kk key p (m - 1):=O.total _ _ hc (c 0 (m - 1) (by omega) (by omega))
    have al:∀ k,k < m->kk key p k=kk key p (m - 1):=fun k hk=>O.total _ _ (by rw [<- e];exact c 0 k (by omega) hk) (c k (m - 1) (by omega) (by omega))
    have rv:∀ k,kk key (kas_rev p 0 m) k=kk key p k:=fun k=>by
     unfold kk
     rw [bJ (by omega)]
     split
     .rename_i z;exact (al (0 + m - 1 - k) (by omega)).trans (al k z.2).symm
     .rfl
    exact Xl h0 hp.rev a hmn (fun k hk=>by rw [rv,rv];exact al k hk) (by rw [rv,rv];exact hl)
  .rw [if_neg e2]
   exact Xl h0 hp a hmn (fun k hk=>by rw [show k=m - 1 by omega]) hl
def kX {p:NL}(hp:Pm n p) (h0:0 < n) {k:Nat}(hu:Up key p k):∀ {f l r:Nat},l<=r->r<=k->r - l<=f->(∀ i,i < l->O.kle (kk key p i) (kk key p k))->(∀ i,r<=i->i < k->O.klt (kk key p k) (kk key p i))->
  WM (· < n) (ans key) (kas_place p k f l r) fun l=>l<=k/\(∀ i,i < l->O.kle (kk key p i) (kk key p k))/\∀ i,l<=i->i < k->O.klt (kk key p k) (kk key p i)
 | 0,l,r,lr,rk,hf,h1,h2=>⟨by omega,h1,fun i hi=>h2 i (by omega)⟩
 | f + 1,l,r,lr,rk,hf,h1,h2=>by
  show WM _ _ (if l ≥ r then KasT.ret l else _) _
  by_cases c:l ≥ r
  .rw [if_pos c];exact ⟨by omega,h1,fun i hi=>h2 i (by omega)⟩
  .rw [if_neg c]
   refine ⟨hp.lt h0 _,hp.lt h0 _, ?_⟩
   show WM _ _ (if O.blt (kk key p k) (kk key p ((l + r) / 2))=true then _ else _) _
   cases hc:O.blt (kk key p k) (kk key p ((l + r) / 2)) with
   | true=>exact kX hp h0 hu (f:=f) (l:=l) (r:=(l + r) / 2) (by omega) (by omega) (by omega) h1 fun i i1 i2=>KeyOrd.klt_of_klt_of_kle hc (hu _ _ i1 i2)
   | false=>exact kX hp h0 hu (f:=f) (l:=(l + r) / 2 + 1) (r:=r) (by omega) rk (by omega) (fun i hi=>a2h (hu i ((l + r) / 2) (by omega) (by omega)) hc) h2
def AU (h0:0 < n):∀ {f k:Nat}{p:NL},Pm n p->k + f<=n->Up key p k->WM (· < n) (ans key) (kas_bin f p k) fun p'=>Pm n p'/\Up key p' (k + f)
 | 0,k,p,hp,_,hu=>⟨hp,hu⟩
 | f + 1,k,p,hp,hk,hu=>by
  have hs:=hp.size
  refine Zl (qb (fun l ⟨a,b,c⟩=>?_) (kX hp h0 hu (f:=k) (l:=0) (r:=k) (S7 _) (N1 _) (by omega) (fun i hi=>absurd hi (a06 _)) fun i i1 i2=>absurd i2 (by omega)))
  refine qb (fun p' ⟨x,y⟩=>⟨x,by rw [show k + (f + 1)=k + 1 + f by omega];exact y⟩) (AU h0 (f:=f) (k:=k + 1) hp.bub (by omega) fun i j hij hj=>?_)
  unfold kk
  rw [ax (by omega) a,ax (by omega) a]
  by_cases i1:i=l
  .rw [if_pos i1]
   by_cases j1:j=l
   .rw [if_pos j1];exact O.irrefl _
   .rw [if_neg j1,if_pos ⟨by omega,by omega⟩]
    exact a2i (c (j - 1) (by omega) (by omega))
  .rw [if_neg i1]
   by_cases j1:j=l
   .rw [if_pos j1,if_neg (by omega)]
    exact b i (by omega)
   .rw [if_neg j1]
    by_cases i2:l < i/\i<=k
    .rw [if_pos i2,if_pos ⟨by omega,by omega⟩]
     exact hu (i - 1) (j - 1) (by omega) (by omega)
    .rw [if_neg i2]
     by_cases j2:l < j/\j<=k
     .rw [if_pos j2];exact hu i (j - 1) (by omega) (by omega)
     .rw [if_neg j2];exact hu i j hij (by omega)
def pX (h0:0 < n):WM (· < n) (ans key) (kas_sort n) fun p=>Pm n p/\Up key p n:=by
 refine Zl (qb (fun r ⟨a,b,c,d⟩=>?_) (xg (key:=key) h0 (p:=List.toArray (List.range n)) ⟨List.Perm.refl _,by simp⟩))
 by_cases h:r.1 < n
 .rw [if_pos h,show max r.1 1=r.1 by omega]
  refine qb (fun p ⟨x,y⟩=>⟨x,by rw [show n=r.1 + (n - r.1) by omega];exact y⟩) (AU h0 (f:=n - r.1) (k:=r.1) a (by omega) d)
 .rw [if_neg h]
  exact ⟨a,by rw [show n=r.1 by omega];exact d⟩
end
end L2
namespace L2
open PySem PySem.Spec PyProof.Rows PySem.W
abbrev ay:=Int × Int × Str
def CW (x y:ay):Bool:=if x.1=y.1 then (if x.2.1=y.2.1 then decide (x.2.2.cps.toList < y.2.2.cps.toList) else decide (x.2.1 < y.2.1)) else decide (x.1 < y.1)
def CY {a b:Str}(h:a.cps.toList=b.cps.toList):a=b:=by
 obtain ⟨x⟩:=a;obtain ⟨y⟩:=b
 exact S0 Str.mk (Array.toList_inj.mp h)
def FT:KeyOrd where
 α:=ay
 blt:=CW
 irrefl a:=by
  unfold CW
  rw [if_pos rfl,if_pos rfl]
  exact strKind.irrefl _
 trans a b c h1 h2:=by
  unfold CW at *
  by_cases e1:a.1=b.1
  .rw [if_pos e1] at h1
   by_cases e2:b.1=c.1
   .rw [if_pos e2] at h2
    rw [if_pos (e1.trans e2)]
    by_cases f1:a.2.1=b.2.1
    .rw [if_pos f1] at h1
     by_cases f2:b.2.1=c.2.1
     .rw [if_pos f2] at h2
      rw [if_pos (f1.trans f2)]
      exact strKind.trans _ _ _ h1 h2
     .rw [if_neg f2] at h2
      rw [if_neg (by rw [f1];exact f2),f1];exact h2
    .rw [if_neg f1] at h1
     by_cases f2:b.2.1=c.2.1
     .rw [if_pos f2] at h2
      rw [if_neg (by rw [<- f2];exact f1),<- f2];exact h1
     .rw [if_neg f2] at h2
      have h1:=a0j h1
      have h2:=a0j h2
      rw [if_neg (by omega)];exact N7 (by omega)
   .rw [if_neg e2] at h2
    rw [if_neg (by rw [e1];exact e2),e1];exact h2
  .rw [if_neg e1] at h1
   have h1:=a0j h1
   by_cases e2:b.1=c.1
   .rw [if_neg (by omega)];exact N7 (by omega)
   .rw [if_neg e2] at h2
    have h2:=a0j h2
    rw [if_neg (by omega)];exact N7 (by omega)
 negTrans a b c h:=by
  unfold CW at *
  by_cases e1:a.1=b.1
  .rw [if_pos e1]
   by_cases e2:b.1=c.1
   .rw [if_pos (e1.trans e2)] at h
    rw [if_pos e2]
    by_cases f1:a.2.1=b.2.1
    .rw [if_pos f1]
     by_cases f2:b.2.1=c.2.1
     .rw [if_pos (f1.trans f2)] at h
      rw [if_pos f2]
      exact strKind.negTrans _ _ _ h
     .rw [if_neg (by rw [f1];exact f2)] at h
      rw [if_neg f2];exact .inr (by rw [<- f1];exact h)
    .rw [if_neg f1]
     by_cases f2:b.2.1=c.2.1
     .rw [if_neg (by rw [<- f2];exact f1)] at h
      exact .inl (by rw [f2];exact h)
     .rw [if_neg f2]
      by_cases g:a.2.1 < b.2.1
      .exact .inl (N7 g)
      .by_cases f3:a.2.1=c.2.1
       .exact .inr (N7 (by omega))
       .rw [if_neg f3] at h
        have h:=a0j h
        exact .inr (N7 (by omega))
   .rw [if_neg (by rw [e1];exact e2)] at h
    rw [if_neg e2];exact .inr (by rw [<- e1];exact h)
  .rw [if_neg e1]
   by_cases g:a.1 < b.1
   .exact .inl (N7 g)
   .refine .inr ?_
    by_cases e2:b.1=c.1
    .rw [if_neg (by rw [<- e2];exact e1)] at h
     have h:=a0j h
     omega
    .rw [if_neg e2]
     by_cases f3:a.1=c.1
     .exact N7 (by omega)
     .rw [if_neg f3] at h
      have h:=a0j h
      exact N7 (by omega)
 total a b h1 h2:=by
  unfold CW at *
  by_cases e1:a.1=b.1
  .rw [if_pos e1] at h1
   rw [if_pos e1.symm] at h2
   by_cases f1:a.2.1=b.2.1
   .rw [if_pos f1] at h1
    rw [if_pos f1.symm] at h2
    have:=CY (strKind.total _ _ h1 h2)
    exact Prod.ext e1 (Prod.ext f1 this)
   .rw [if_neg f1] at h1
    rw [if_neg (Ne.symm f1)] at h2
    have h1:=a1c h1
    have h2:=a1c h2
    omega
  .rw [if_neg e1] at h1
   rw [if_neg (Ne.symm e1)] at h2
   have h1:=a1c h1
   have h2:=a1c h2
   omega
def Hj (h:Heap) (v:Value) (k:ay):Prop:=∃ a o n t1 t2 t3,v=.ref a/\h.get? a=some o/\o.cls=.type "tuple" /\ o.data=.seq #[.int k.1 t1,.int k.2.1 t2,.str k.2.2 t3] n
section
variable {prog:Nk}{w:Nq}{A:Nt}{E:MW}{s:MZ}
def lt3 (h1:Hj s.heap x k1) (h2:Hj s.heap y k2) (h:Q (CW k1 k2) s):wpAny (model prog w) A (keyLt' (tuples' true) x y) Q E s:=by
 obtain ⟨a,o,n,t1,t2,t3,rfl,ho,_,hd⟩:=h1
 obtain ⟨b,p,m,u1,u2,u3,rfl,hp,_,hq⟩:=h2
 refine kat_lt ho hd hp hq ?_
 unfold CW at h
 refine kat_cons (a1Z ?_)
 by_cases e1:k1.1=k2.1
 .rw [if_pos e1] at h
  rw [show (k1.1 == k2.1)=true from P7.mpr e1]
  refine kat_yes (kat_cons (a1Z ?_))
  by_cases e2:k1.2.1=k2.2.1
  .rw [if_pos e2] at h
   rw [show (k1.2.1 == k2.2.1)=true from P7.mpr e2]
   refine kat_yes (kat_cons (wpAny_eqBool_str ?_))
   by_cases e3:k1.2.2=k2.2.2
   .rw [N7 e3]
    refine kat_yes (kat_nil ?_)
    rw [e3,show decide (k2.2.2.cps.toList < k2.2.2.cps.toList)=false from strKind.irrefl _] at h
    exact h
   .rw [N6 e3]
    exact kat_no (kat_one _ _ (lt_str h))
  .rw [if_neg e2] at h
   rw [show (k1.2.1 == k2.2.1)=false from S6.mpr e2]
   exact kat_no (kat_one _ _ (lt_int h))
 .rw [if_neg e1] at h
  rw [show (k1.1 == k2.1)=false from S6.mpr e1]
  exact kat_no (oneLt_int h)
def dQ (h:Heap):List Value->List ay->Prop
 | [],[]=>True
 | v :: vs,k :: ks=>Hj h v k/\dQ h vs ks
 | _,_=>False
def dQ.get (d:ay):∀ {vs:M_}{ks:List ay}{i:Nat},dQ h vs ks->i < ks.length->Hj h (vs.getD i .none) (ks.getD i d):=by
 intro vs
 induction vs with
 | nil=>
  intro ks i t hi
  cases ks with
  | nil=>exact absurd hi (a06 _)
  | cons k ks=>exact t.elim
 | cons v vs ih=>
  intro ks i t hi
  cases ks with
  | nil=>exact t.elim
  | cons k ks=>
   cases i with
   | zero=>exact t.1
   | succ i=>exact ih (ks:=ks) (i:=i) t.2 (Nat.lt_of_succ_lt_succ hi)
def dQ.kat {h:Heap}:∀ {vs:M_}{ks:List ay},dQ h vs ks->∃ fs:List Value,KatTups h vs fs/\fs.length=ks.length/\∀ v∈fs,∃ n t,v=.int n t
 | [],[],_=>⟨[],trivial,rfl,fun v h=>by cases h⟩
 | _ :: _,_ :: _,⟨⟨a,o,n,t1,t2,t3,e,ho,hc,hd⟩,t⟩=>by
  obtain ⟨fs,f1,f2,f3⟩:=dQ.kat t
  exact ⟨_ :: fs,⟨⟨a,o,_,n,e,ho,hc,hd,rfl⟩,f1⟩,by rw [v0,v0,f2],fun v hv=>(O5.mp hv).elim (fun e=>⟨_,_,e⟩) (f3 v)⟩
 | [],_ :: _,t=>t.elim
 | _ :: _,[],t=>t.elim
def IS (t:dQ s.heap vs ks) (h0:0 < ks.length) (h:Q (tuples' true) s):wpAny (model prog w) A (keyKind' vs.toArray) Q E s:=by
 obtain ⟨fs,f1,f2,f3⟩:=t.kat
 refine kat_kind (T:=.type "int") f1 (by omega) (fun v hv=>?_) (by decide) (by rw [show ((Value.type "int") != Value.type "tuple")=true by decide];exact h)
 obtain ⟨n,t,rfl⟩:=f3 v hv
 exact .now
end
section
variable {X:Cx}{pins:MR}{σ:St}{H:Hp}{s:MZ}{h':Heap}
def Inv.IT (I:Inv X pins σ H s) (k:∀ b o,b≠it->s.heap.get? b=some o->h'.get? b=some o) (hn:H it=none) (hL:it≠X.env.locals)
  (h1:it∈X.ex\/X.s₀.heap.objs.size<=it) (h2:∀ x c,X.env.cells.lookup x=some c->c≠it) (h3:∀ p∈X.pn++pins,p.1≠it) (new:qp X.prog X.w (upd H it o) h' it o):Inv X pins σ (upd H it o) { s with heap:=h',toks:=t' }:=by
 have nit:∀ b u,H b=some u->b≠it:=fun b u e z=>by rw [z,hn] at e;cases e
 have nc:∀ b,b∉[it]->b≠it:=fun b hc z=>hc (by simp [z])
 refine I.step (g':=s.gens) (d':=s.drawn) (ch:=[it]) (fun b hb=>?_) (fun b o _ _ hc e _=>k b o (nc b hc) e) (fun b o _ _ hc e _=>⟨o.slots,k b o (nc b hc) e⟩) (fun b _ hc _ n=>by rw [zj (nc b hc)];exact n)
  (fun b o hc e=>⟨o,k b o (nc b hc) e⟩) (fun b xs e=>by rw [zj (nit b _ e)];exact e) (fun b _ _ e=>by rw [zj (nit b _ e)];exact e) (fun b ps e=>⟨#[],by rw [zj (nit b _ e),e];simp⟩) (fun m hm=>?_) (fun b u e=>?_) I.bare
 .have e:b=it:=by simpa using hb
  subst e
  exact ⟨h1,hL,h2,h3⟩
 .obtain ⟨o,es,ep,ho,r⟩:=hm
  exact ⟨o,es,ep,k _ o (Ne.symm hL) ho,r⟩
 .by_cases hb:b=it
  .subst hb;rw [zh] at e;cases e;exact new
  .rw [zj hb] at e
   refine (I.hok b u e).m_ (fun c v hc q=>k c v ?_ q) (fun c q=>by rw [zj (nit c _ q)];exact q) fun c xs q=>by rw [zj (nit c _ q)];exact q
   rcases hc with z | z
   .rw [z];exact nit b u e
   .exact nit c _ z
structure xh (X:Cx) (pins:MR) (a:Addr):Prop where
 loc:a≠X.env.locals
 fs:a∉X.fs
 ex:a∈X.ex\/X.s₀.heap.objs.size<=a
 cel:∀ x c,X.env.cells.lookup x=some c->c≠a
 pin:∀ p∈X.pn++pins,p.1≠a
def Inv.LP {H':Hp}(I:Inv X pins σ H s) (hb:s.heap.objs.size<=b):xh X pins b:=by
 have:=I.DQ (H':=fun _=>none) hb rfl
 exact ⟨this.2.1,this.2.2.1,this.2.2.2.1,this.2.2.2.2.1,this.2.2.2.2.2⟩
def Inv.Hk (I:Inv X pins σ H s) (w:xh X pins a) (hn:H a=none) (ho:s.heap.get? a=some o) (hc:∀ v,o.data≠.cell v):Inv X (pins++[(a,o)]) σ H s:=
 I.aX fun p hp=>(S5.mp hp).elim (fun z=>I.pin p (P4 _ z)) fun z=>by
  rw [M8.mp z];exact ⟨ho,hn,w.loc,w.fs,hc⟩
def Inv.at1 (I:Inv X (pins++[(a,o)]) σ H s):s.heap.get? a=some o/\H a=none:=by
 have:=I.pin (a,o) (P4 _ (P4 _ v4))
 exact ⟨this.1,this.2.1⟩
end
def pY (sp:Sp):List V->List V->Hp->(List V->Hp->Prop)->Prop
 | [],acc,H,Q=>Q acc H
 | v :: vs,acc,H,Q=>sp [v] H (fun z H'=>pY sp vs (acc++[z]) H' Q) (fun _ _ _=>False)
def Uz (K:Ny) (H:Hp):List V->List ay->Prop
 | [],[]=>True
 | z :: zs,k :: ks=>(∃ p,z=.ref p/\SqT K H p [.int k.1,.int k.2.1,.str k.2.2])/\Uz K H zs ks
 | _,_=>False
def Uz.len {K:Ny}{H:Hp}:∀ {zs:Nb}{ks:List ay},Uz K H zs ks->zs.length=ks.length
 | [],[],_=>rfl
 | _ :: _,_ :: _,t=>by rw [v0,v0,Uz.len t.2]
 | [],_ :: _,t=>t.elim
 | _ :: _,[],t=>t.elim
def Uz.nA {X:Cx}{pins:MR}{σ:St}{H:Hp}{s:MZ}(I:Inv X pins σ H s):∀ {zs:Nb}{ks:List ay}{us:M_},Uz X.K H zs ks->Vals zs us->dQ s.heap us ks
 | [],[],_,_,.nil=>trivial
 | _ :: _,k :: _,_,⟨⟨p,e,hq⟩,t⟩,.cons r rs=>by
  subst e
  cases r
  refine ⟨?_,Uz.nA I t rs⟩
  obtain ⟨its,r',⟨o,ho,hc,n,hd⟩,_⟩:=I.tuple hq
  cases r' with
  | cons r1 r'=>cases r' with
   | cons r2 r'=>cases r' with
    | cons r3 r'=>
     cases r'
     obtain ⟨t1,rfl⟩:=r1
     obtain ⟨t2,rfl⟩:=r2
     obtain ⟨t3,rfl⟩:=r3
     exact ⟨p,o,n,t1,t2,t3,rfl,ho,hc,hd⟩
 | [],_ :: _,_,t,_=>t.elim
 | _ :: _,[],_,t,_=>t.elim
def Srt (kz:List ay) (q:MV):Prop:=q.Perm (List.range kz.length)/\q.Pairwise fun i j=>FT.kle (kz.getD i (0,0,"")) (kz.getD j (0,0,""))
def AV (sp:Sp) (K:Ny) (ys:Nb) (H:Hp) (Q:VK):Prop:=ys.length < 64/\pY sp ys [] H fun zs H'=>∃ kz:List ay,kz.length=ys.length/\Uz K H' zs kz/\∀ (q:MV) a,Srt kz q->H' a=none->Q (.ref a) (upd H' a (.lst (q.map fun i=>ys.getD i .non)))
def AW (hp:Pm kz.length p) (hu:Up (O:=FT) (fun i=>kz.getD i (0,0,"")) p kz.length):Srt kz p.toList:=by
 refine ⟨hp.perm, ?_⟩
 rw [a07]
 intro i j hi hj hij
 have hs:=hp.size
 rw [a0H] at hi hj
 have:=hu i j (a1v hij) (by omega)
 have e:∀ k (hk:k < p.size),at0 p k=p.toList[k]'(by rw [a0H];exact hk):=fun k hk=>by
  rw [J3,getElem?_pos p k hk];simp
 unfold kk at this
 rw [e i hi,e j hj] at this
 exact this
def xi (F:y3 X.prog X.w X.K X.mg X.base (CXe X.prog X.w) k f fd ps sp) (hr:k_ k A) (hA:t9 X.prog X.w X.K X.mg X.base A X.stack s H) (hb:Binds X.K fd ps [])
  (I:Inv X pins σ H s) (r:RelV v u) (h:sp [v] H Q (fun _ _ _=>False)):wpAny (Oc X) A (call (.ref f) [u]) (EP X pins σ Q) E s:=by
 have r2:Vals [v] [u]:=.cons r .nil
 have hl:([u]++[]).length=ps.length:=by rw [O9,<- r2.length];exact F.len _ _ _ _ h
 have bd:=hb s [u] I.kIn hl
 rw [O9] at bd
 refine a0C (a0E (F.run A X.stack s H ⟨[u],[]⟩ [u] [v] Q _ hr hA bd r2 h) fun r s' hq=>?_)
 cases r with
 | error e=>exact (dI hq).elim
 | ok fl=>
  cases fl with
  | ret u=>exact I.after hq
  | next=>exact False.elim hq
  | brk=>exact False.elim hq
  | cont=>exact False.elim hq
section
variable {X:Cx}{k:Nat}{f:Addr}{fd:Nr}{ps:MX}{sp:Sp}
def iJ {pins:MR}{σ:St}{A:Nt}{E:MW}{kS:Addr}{Q0:List V->Hp->Prop}{body:Value->PUnit->Sem (ForInStep PUnit)}(F:y3 X.prog X.w X.K X.mg X.base (CXe X.prog X.w) k f fd ps sp) (hr:k_ k A) (hA:A.frames=X.A.frames) (hb:Binds X.K fd ps [])
  (w:xh X pins kS)
  (m9:∀ x s (C:Shared->Prop),wpAny (Oc X) A (call (.ref f) [x]) (fun z s'=>wpAny (Oc X) A (Builtin.List.listUpdate (.ref kS) (·.push z)) (fun _ s''=>C s'') (fun _ _=>False) s') (fun _ _=>False) s->wpAny (Oc X) A (body x ⟨⟩) (fun r s'=>r=.yield ⟨⟩/\C s') E s):
  ∀ {ys:Nb}{its:M_}{acc:Nb}{us:M_}{e:Nat}{H:Hp}{s:MZ},acc.length + ys.length < 64->Vals ys its->Vals acc us->Inv X (pins++[(kS,seqObj "list" us.toArray e)]) σ H s->pY sp ys acc H Q0->
   wpAny (Oc X) A (forIn its PUnit.unit body) (fun _ s'=>∃ zs us' e' H',zs.length=acc.length + ys.length/\Vals zs us'/\Inv X (pins++[(kS,seqObj "list" us'.toArray e')]) σ H' s'/\Q0 zs H') E s
 | [],_,acc,us,e,H,s,_,.nil,ra,I,h=>by
  rw [List.forIn_nil]
  exact N5 ⟨acc,us,e,H,rfl,ra,I,h⟩
 | v :: ys,_,acc,us,e,H,s,hl,.cons (b:=u) (l₂:=its) r rs,ra,I,h=>by
  rw [v0] at hl
  have hul:=ra.length
  rw [List.forIn_cons]
  refine f8 (S4 (m9 u s (fun s'=>∃ (zs:(V × Nat) × Value) (H':Hp),Inv X (pins++[(kS,seqObj "list" (us++[zs.2]).toArray zs.1.2)]) σ H' s'/\RelV zs.1.1 zs.2/\pY sp ys (acc++[zs.1.1]) H' Q0) ?_) (fun q s' hq=>?_) fun _ _ x=>x)
  .have A0:t9 X.prog X.w X.K X.mg X.base A X.stack s H:=⟨hA.trans I.nj.frames,I.nj.mod,I.nj.bs,I.nj.bsz,I.nj.fq,I.nj.frf,I.nj.hok,I.nj.bare⟩
   refine S4 (xi F hr A0 hb I r h) (fun z s1 ⟨y,H1,I1,r1,q1⟩=>?_) fun _ _ x=>x
   have a1:=I1.at1
   have J1:Inv X pins σ H1 s1:=I1.vY
   obtain ⟨e2,he2⟩:∃ e2,(s1.heap.update kS (Obj.mapSeq (·.push z))).get? kS=some (seqObj "list" (us++[z]).toArray e2):=⟨_,by
    have:=get?_update_seq a1.1 (·.push z)
    rw [show us.toArray.push z=(us++[z]).toArray by simp] at this
    exact this⟩
   refine a1R a1.1 rfl ?_ (by rw [O4,T2];omega) (P6 (a1x (Array.size_push ..)) (by rw [O4,T2];omega))
   have J2:Inv X pins σ H1 { s1 with heap:=s1.heap.update kS (Obj.mapSeq (·.push z)),toks:=s1.toks }:=J1.turned (fun b o hb ho=>(P5 s1.heap _ (Ne.symm hb)).trans ho) a1.2 w.loc w.ex w.cel w.pin
   exact ⟨((y,e2),z),H1,J2.Hk w a1.2 he2 (fun v h=>by cases h),r1,q1⟩
  .obtain ⟨rfl,zs,H',I',r',q'⟩:=hq
   show wpAny (Oc X) A (forIn its PUnit.unit body) _ E s'
   refine S4 (iJ F hr hA hb w m9 (ys:=ys) (acc:=acc++[zs.1.1]) (us:=us++[zs.2]) (by rw [M6,P1];omega) rs (ra.append (.cons r' .nil)) I' q') (fun _ s2 ⟨zs',us',e',H2,hl',h2,h3,h4⟩=>⟨zs',us',e',H2, ?_,h2,h3,h4⟩) fun _ _ x=>x
   rw [hl',M6,P1,v0];omega
def Vals.getD (r:Vals ys its) (i:Nat):RelV (ys.getD i .non) (its.getD i .none):=by
 induction r generalizing i with
 | nil=>exact rfl
 | cons r rs ih=>
  cases i with
  | zero=>exact r
  | succ i=>exact ih i
def bK {ys:Nb}{its:M_}(r:Vals ys its):∀ q:List Nat,Vals (q.map fun i=>ys.getD i .non) (q.map fun i=>its.getD i .none)
 | []=>.nil
 | i :: q=>.cons (r.getD i) (bK r q)
end
section
variable {X:Cx}{k:Nat}{f:Addr}{fd:Nr}{ps:MX}{sp:Sp}
def dR {pins:MR}{σ:St}{A:Nt}{E:MW}{kS D:Addr}{e e1:Nat}{H:Hp}{s:MZ}{us outU:M_}{outV:Nb}{st:SortSt}{Q:VK}{P:PySem.Fin->Shared->Prop}
  (w1:xh X pins D) (w2:xh X (pins++[(D,seqObj "list" #[] e1)]) kS) (hu:us.length < 64) (ho:outU.length < 64) (ro:Vals outV outU) (hout:(arrOf st).map (·.2)=List.toArray outU) (hf:failedOf st=none)
  (I:Inv X (pins++[(D,seqObj "list" #[] e1)]++[(kS,seqObj "list" us.toArray e)]) σ H s) (hq:Q (.ref D) (upd H D (.lst outV))) (hP:∀ s',EP X pins σ Q (.ref D) s'->P (.done (.ret .none)) s'):wpAny (Oc X) A (ksk_tail D false e1 (.ref kS) st) P E s:=by
 have aK:=I.at1
 have J1:Inv X (pins++[(D,seqObj "list" #[] e1)]) σ H s:=I.vY
 have hne:kS≠D:=fun z=>w2.pin (D,seqObj "list" #[] e1) (P4 _ (P4 _ v4)) z.symm
 have J2:Inv X (pins++[(D,seqObj "list" #[] e1)]) σ H { s with heap:=s.heap.update kS (Obj.mapSeq fun _=>(#[]:Array Value)),toks:=s.toks }:=J1.turned (fun b o hb ho=>(P5 s.heap _ (Ne.symm hb)).trans ho) aK.2 w2.loc w2.ex w2.cel w2.pin
 have aD:=J2.at1
 unfold ksk_tail
 try dsimp only
 rw [hout]
 refine f8 (a1R aK.1 rfl ?_ (by rw [O4,T2];omega) (S7 _))
 refine f8 (a22 ?_)
 refine f8 (seqEpoch_at aD.1 rfl ?_)
 refine f8 (a1R aD.1 rfl ?_ (S7 _) (by simp only [Bool.false_eq_true,if_false,List.size_toArray];rw [T2];omega))
 rw [hf]
 simp only [bne_self_eq_false,Bool.false_eq_true,if_false]
 refine N5 (hP _ ?_)
 have e2:=get?_update_seq aD.1 fun _=>List.toArray outU
 have hl:=ro.length
 have J4:Inv X pins σ (upd H D (.lst outV)) { s with heap:=(s.heap.update kS (Obj.mapSeq fun _=>(#[]:Array Value))).update D (Obj.mapSeq fun _=>List.toArray outU),toks:=s.toks }:=Inv.IT (s:={ s with heap:=s.heap.update kS (Obj.mapSeq fun _=>(#[]:Array Value)),toks:=s.toks }) J2.vY (fun b o hb ho=>(P5 _ _ (Ne.symm hb)).trans ho) aD.2 w1.loc w1.ex w1.cel w1.pin (o:=.lst outV) ⟨by rw [T2];omega,outU,_,ro,e2⟩
 exact ⟨.ref D,_,J4,rfl,hq⟩
def xj
  (w1:xh X pins D) (w2:xh X (pins++[(D,seqObj "list" #[] e1)]) kS) (hy:ys.length < 64) (ry:Vals ys its) (rz:Vals zs us) (hk:Uz X.K H zs kz) (hkl:kz.length=ys.length)
  (I:Inv X (pins++[(D,seqObj "list" #[] e1)]++[(kS,seqObj "list" us.toArray e)]) σ H s) (hq:∀ q:List Nat,Srt kz q->Q (.ref D) (upd H D (.lst (q.map fun i=>ys.getD i .non)))) (hP:∀ s',EP X pins σ Q (.ref D) s'->P (.done (.ret .none)) s'):wpAny (Oc X) A (ksk_end D false its.toArray e1 (.ref kS) us.toArray) P E s:=by
 have hl:=ry.length
 have hzl:=hk.len
 have hul:=rz.length
 have hit:us.length=its.length:=by omega
 unfold ksk_end
 try dsimp only
 simp only [Bool.false_eq_true,if_false]
 by_cases h2:its.toArray.size < 2
 .rw [if_pos h2,if_pos h2]
  rw [O4] at h2
  refine f8 (N5 ?_)
  rw [StateT.run_pure]
  refine f8 (N5 ?_)
  try dsimp only
  have hs:Srt kz (List.range its.length):=by
   refine ⟨by rw [hkl,hl], ?_⟩
   rw [a07]
   intro i j hi hj hij
   rw [T4] at hi hj
   omega
  refine dR w1 w2 (by omega) (outU:=(List.range its.length).map fun i=>its.getD i .none) (by rw [u8,T4];omega) (bK ry _) ?_ rfl I (hq _ hs) hP
  apply Array.toList_inj.mp
  show ((us.toArray.zip its.toArray).map (·.2)).toList=_
  rw [Array.toList_map,ksk_zip,List.map_snd_zip (by rw [List.toList_toArray,hit];exact N1 _)]
  refine List.ext_getElem (by rw [u8,T4]) fun i h1 h2=>?_
  rw [a1s,a1b]
  simp [h1]
 .rw [if_neg h2,if_neg h2]
  rw [O4] at h2
  have T3:=hk.nA I rz
  refine f8 (IS T3 (by omega) ?_)
  have tree:(kas_sort its.length).kasWp (kas_ask X.prog X.w A (tuples' true) us) (fun p s'=>s' = s/\Srt kz p.toList) s:=by
   refine pV (P:=(· < kz.length)) (f:=ans (O:=FT) fun i=>kz.getD i (0,0,"")) (J:=fun s'=>s' = s) (Q:=fun p=>Srt kz p.toList) (fun i j C s' hi hj hs hC=>?_) (fun p s' h1 h2=>⟨h2,h1⟩) rfl ?_
   .subst hs
    exact lt3 (T3.get (0,0,"") hi) (T3.get (0,0,"") hj) (hC _ rfl)
   .have:=pX (O:=FT) (key:=fun i=>kz.getD i (0,0,"")) (n:=kz.length) (by omega)
    rw [show its.length=kz.length by omega]
    exact qb (fun p ⟨a,b⟩=>AW a b) this
  refine f8 (S4 (kat_run (ks:=us) (vs:=its) (Q:=fun st' s'=>s' = s/\∃ p:Array Nat,p.size=its.length/\arrOf st' = p.map (kas_item (us.toArray.zip its.toArray))/\failedOf st' = none/\Srt kz p.toList) hit (by omega) (by omega) (fun p st' s' a1 a2 a3 a4=>⟨a4.1,p,a1,a2,a3,a4.2⟩) tree) ?_ fun _ _ x=>x)
  rintro ⟨⟨⟩,st'⟩ s' ⟨rfl,p,hp,har,hf,srt⟩
  try dsimp only
  exact dR w1 w2 (by omega) (outU:=p.toList.map fun i=>its.getD i .none) (by rw [u8,a0H];omega) (bK ry _) (kat_snds hit har) hf I (hq _ srt) hP
end
def mI (F:y3 X.prog X.w X.K X.mg X.base (CXe X.prog X.w) k f fd ps sp) (hr:k_ (k + 2) X.A) (hb:Binds X.K fd ps [])
  (I:Inv X pins σ H s) (hl:SqL X.K H l ys) (h:AV sp X.K ys H Q):wpAny (Oc X) X.A (call (.builtin "sorted") [.ref l] [(Str.ofString "key",.ref f)]) (EP X pins σ Q) E s:=by
 obtain ⟨hy,h⟩:=h
 obtain ⟨its,ry,pl,hz⟩:=I.list hl
 have hlen:=ry.length
 refine call_function_entry_kw kind_sorted plain_sorted entry_sorted (ksk_s1 _ _) ?_
 unfold Builtin.«sorted»
 refine f8 (m:=checkCount "sorted" 1 1 _) (N5 ?_)
 refine f8 (collect_list pl.isList ?_ (by rw [T2];omega))
 refine f8 (wpAny_newList ?_ (by rw [T2];omega))
 have hsz:((s.heap.push (seqObj "list" #[] 0)).update s.heap.objs.size (Obj.mapSeq (·++its.toArray))).objs.size=s.heap.objs.size + 1:=by
  rw [Heap.size_update,size_push']
 have hoL:(((s.heap.push (seqObj "list" #[] 0)).update s.heap.objs.size (Obj.mapSeq (·++its.toArray))).push (seqObj "list" its.toArray 0)).get? (s.heap.objs.size + 1)=some (seqObj "list" its.toArray 0):=by
  rw [<- hsz];exact O7 _ rfl
 have keep:∀ b o,s.heap.get? b=some o->(((s.heap.push (seqObj "list" #[] 0)).update s.heap.objs.size (Obj.mapSeq (·++its.toArray))).push (seqObj "list" its.toArray 0)).get? b=some o:=fun b o q=>by
  have hlt:b < s.heap.objs.size:=N4 q
  rw [Heap.get?_push_ne _ _ _ (by rw [hsz];exact O1 (a1m hlt)),a1I _ _ _ _ (O1 hlt),Heap.get?_push_ne _ _ _ (O1 hlt)]
  exact q
 have hs1:(((s.heap.push (seqObj "list" #[] 0)).update s.heap.objs.size (Obj.mapSeq (·++its.toArray))).push (seqObj "list" its.toArray 0)).objs.size=s.heap.objs.size + 2:=by rw [size_push',hsz]
 show wpAny _ _ _ _ _ { s with heap:=((s.heap.push (seqObj "list" #[] 0)).update s.heap.objs.size (Obj.mapSeq (·++its.toArray))).push (seqObj "list" its.toArray 0) }
 rw [hsz]
 have I1:Inv X pins σ H { s with heap:=((s.heap.push (seqObj "list" #[] 0)).update s.heap.objs.size (Obj.mapSeq (·++its.toArray))).push (seqObj "list" its.toArray 0),toks:=s.toks }:=I.kept keep
 have w1:xh X pins (s.heap.objs.size + 1):=I.LP (H':=H) (a0m _)
 have n1:H (s.heap.objs.size + 1)=none:=I.hok.fresh (a0m _)
 generalize ((s.heap.push (seqObj "list" #[] 0)).update s.heap.objs.size (Obj.mapSeq (·++its.toArray))).push (seqObj "list" its.toArray 0)=h1 at hoL hs1 I1 keep
 generalize hD:s.heap.objs.size + 1=D at hoL w1 n1
 refine f8 (T8 (wpAny_call_entry_kw slot_list_sort ⟨_,hoL,rfl⟩ entry_list_sort ?body (ksk_l1 _ _)))
 case body=>
  show wpAny (Oc X) X.A.in1.in1 (Builtin.«list.sort» ⟨[.ref D],[(Str.ofString "key",.ref f)]⟩) _ _ _
  rw [ksk_t1]
  obtain ⟨e1,ho1⟩:∃ e1,(h1.update D (Obj.mapSeq fun _=>(#[]:Array Value))).get? D=some (seqObj "list" #[] e1):=⟨_,get?_update_seq hoL fun _=>#[]⟩
  have I2:Inv X pins σ H { s with heap:=h1.update D (Obj.mapSeq fun _=>(#[]:Array Value)),toks:=s.toks }:=Inv.turned (s:={ s with heap:=h1,toks:=s.toks }) I1 (fun b o hb ho=>(P5 h1 _ (Ne.symm hb)).trans ho) n1 w1.loc w1.ex w1.cel w1.pin
  have hs2:(h1.update D (Obj.mapSeq fun _=>(#[]:Array Value))).objs.size=s.heap.objs.size + 2:=by rw [Heap.size_update,hs1]
  unfold ksk_tree
  refine f8 (listItems_at hoL rfl ?_)
  refine f8 (a1R hoL rfl ?_ (by rw [O4,T2];omega) (S7 _))
  generalize h1.update D (Obj.mapSeq fun _=>(#[]:Array Value))=h2 at ho1 I2 hs2
  refine f8 (seqEpoch_at ho1 rfl ?_)
  refine f8 (wpAny_newTuple ?_ (by show its.length<=_;rw [T2];omega))
  refine f8 (wpAny_newList ?_ (S7 _))
  refine T8 ?_
  have hk3:(h2.push { cls:=.type "tuple",data:=.seq its.toArray.toList.toArray }).objs.size=s.heap.objs.size + 3:=by rw [size_push',hs2]
  have keep3:∀ b o,h2.get? b=some o->((h2.push { cls:=.type "tuple",data:=.seq its.toArray.toList.toArray }).push { cls:=.type "list",data:=.seq ([]:List Value).toArray }).get? b=some o:=fun b o q=>M7 _ (M7 _ q)
  have I3:Inv X pins σ H { s with heap:=(h2.push { cls:=.type "tuple",data:=.seq its.toArray.toList.toArray }).push { cls:=.type "list",data:=.seq ([]:List Value).toArray },toks:=s.toks }:=Inv.kept (s:={ s with heap:=h2,toks:=s.toks }) I2 keep3
  have hoK:((h2.push { cls:=.type "tuple",data:=.seq its.toArray.toList.toArray }).push { cls:=.type "list",data:=.seq ([]:List Value).toArray }).get? (h2.push { cls:=.type "tuple",data:=.seq its.toArray.toList.toArray }).objs.size=some (seqObj "list" ([]:List Value).toArray 0):=O7 _ rfl
  have hoD:=keep3 D _ ho1
  show wpAny (Oc X) X.A.in1.in1 (ksk_rest D (.ref f) false its.toArray e1 (.ref (h2.push { cls:=.type "tuple",data:=.seq its.toArray.toList.toArray }).objs.size)) _ _ { s with heap:=(h2.push { cls:=.type "tuple",data:=.seq its.toArray.toList.toArray }).push { cls:=.type "list",data:=.seq ([]:List Value).toArray },toks:=s.toks }
  have w2:xh X (pins++[(D,seqObj "list" #[] e1)]) (h2.push { cls:=.type "tuple",data:=.seq its.toArray.toList.toArray }).objs.size:=by
   have J:Inv X (pins++[(D,seqObj "list" #[] e1)]) σ H { s with heap:=h2,toks:=s.toks }:=Inv.Hk (s:={ s with heap:=h2,toks:=s.toks }) I2 w1 n1 ho1 (fun v h=>by cases h)
   exact J.LP (H':=H) (by show h2.objs.size<=_;rw [hk3,hs2];omega)
  have n2:H (h2.push { cls:=.type "tuple",data:=.seq its.toArray.toList.toArray }).objs.size=none:=I.hok.fresh (by rw [hk3];omega)
  generalize (h2.push { cls:=.type "tuple",data:=.seq its.toArray.toList.toArray }).push { cls:=.type "list",data:=.seq ([]:List Value).toArray }=h3 at I3 hoK hoD
  generalize (h2.push { cls:=.type "tuple",data:=.seq its.toArray.toList.toArray }).objs.size=kS at hoK w2 n2
  have I4:Inv X (pins++[(D,seqObj "list" #[] e1)]++[(kS,seqObj "list" ([]:List Value).toArray 0)]) σ H { s with heap:=h3,toks:=s.toks }:=
   Inv.Hk (s:={ s with heap:=h3,toks:=s.toks }) (Inv.Hk (s:={ s with heap:=h3,toks:=s.toks }) I3 w1 n1 hoD (fun v h=>by cases h)) w2 n2 hoK (fun v h=>by cases h)
  unfold ksk_rest
  refine f8 (a2K ?_)
  first
   | rw [List.forIn_toArray]
   | (rw [<- a2Z];simp only [List.toList_toArray])
   | rw [<- a2Z]
  refine f8 (S4 (iJ (pins:=pins++[(D,seqObj "list" #[] e1)]) (σ:=σ) (A:=X.A.in1.in1) (E:=E) F hr.in1.in1 rfl hb w2 (fun x s' C hx=>?_) (ys:=ys) (its:=its) (acc:=[]) (us:=[]) (e:=0) (H:=H) (by rw [a0P];omega) ry .nil I4 h) (fun _ s' hd=>?_) fun _ _ x=>x)
  .refine f8 (a02 (S4 hx (fun z s'' hz=>?_) fun _ _ hF=>hF.elim))
   try dsimp only
   exact f8 (S4 hz (fun _ s3 h3=>N5 ⟨rfl,h3⟩) fun _ _ hF=>hF.elim)
  .obtain ⟨zs,us,e2,H',hzl,rz,I5,kz,hkl,hk3,hq⟩:=hd
   have aK:=I5.at1
   have aD:=I5.vY.at1
   try dsimp only
   refine f8 (listItems_at aK.1 rfl ?_)
   exact xj w1 w2 hy ry rz hk3 hkl I5 (fun q srt=>hq q D srt aD.2) fun s3 he=>⟨_,rfl,N5 ⟨_,rfl,he⟩⟩
def bL (g:Nl):List PV->Option (List ay)
 | []=>some []
 | x :: xs=>match g [x] with
  | .ok (.t [.i a,.i b,.s c])=>(bL g xs).map ((a,b,c) :: ·)
  | _=>none
def dS {g:Nl}:∀ {xs:Nj}{kz:List ay},bL g xs=some kz->kz.length=xs.length
 | [],_,h=>by cases h;rfl
 | x :: xs,kz,h=>by
  unfold bL at h
  split at h
  .obtain ⟨ks,e,rfl⟩:=M3.mp h
   rw [v0,v0,dS e]
  .cases h
def pZ {α:Type}{P:NY}{f:NT}{Q:α->Prop}:∀ {t:KasT α},WM P f t Q->∃ a,Q a
 | .ret a,h=>⟨a,h⟩
 | .ask _ _ _,h=>pZ h.2.2
def AX (kz:List ay):∃ q,Srt kz q:=by
 by_cases h:0 < kz.length
 .obtain ⟨p,a,b⟩:=pZ (pX (O:=FT) (key:=fun i=>kz.getD i (0,0,"")) h)
  exact ⟨p.toList,AW a b⟩
 .refine ⟨[], ?_,List.Pairwise.nil⟩
  rw [show kz.length=0 by omega];exact List.Perm.refl _
def CZ (kz:List ay):List Nat:=Classical.choose (AX kz)
def bM (kz:List ay):Srt kz (CZ kz):=R4 (AX kz)
def C0 (nd:kz.Nodup) (h:Srt kz q) (h':Srt kz q'):q=q':=by
 refine List.Perm.eq_of_pairwise (fun a b ha hb h1 h2=>?_) h.2 h'.2 (h.1.trans h'.1.symm)
 have a1:=a0i.mp (h.1.mem_iff.mp ha)
 have b1:=a0i.mp (h'.1.mem_iff.mp hb)
 have e:=KeyOrd.kle_antisymm h1 h2
 have ga:kz.getD a (0,0,"")=kz[a]:=by simp [a1]
 have gb:kz.getD b (0,0,"")=kz[b]:=by simp [b1]
 rw [ga,gb] at e
 exact (List.getElem_inj nd).mp e
open Classical in
def xk (g:Nl) (xs:Nj):Out PV:=if xs.length < 64 then match bL g xs with
 | some kz=>if kz.Nodup then .ok (.l ((CZ kz).map fun i=>xs.getD i .n)) else .wall
 | none=>.wall else .wall
def iK (g:Nl) (ms:MA):ME:=fun ρ=>(ms ρ).bind fun xs=>match xs with
 | [.l xs]=>xk g xs
 | _=>.wall
def SqT.same {K:Ny}{H H':Hp}{p:Addr}{xs:Nb}(h:SqT K H p xs) (s:zE H H'):SqT K H' p xs:=by
 rcases h with h | h
 .rcases h with h | ⟨o,h⟩
  .exact .inl (.inl (s _ _ h))
  .exact .inl (.inr ⟨o,s _ _ h⟩)
 .exact .inr h
def p3 {W:RC}{M:MY}{wk:Bool}{g:Nl}{Q:List V->Hp->Prop}:∀ {xs:Nj}{vs acc:Nb}{H:Hp}{kz:List ay},yt W M H xs vs->bL g xs=some kz->(∀ H' zs,zE H H'->Uz W.K H' zs kz->Q (acc++zs) H')->pY (lsp W false [wk] g) vs acc H Q
 | [],_,acc,H,kz,hr,hk,q=>by
  cases (show _=_ from hr)
  cases hk
  have:=q H [] (zE.refl _) trivial
  rw [O9] at this
  exact this
 | x :: xs,_,acc,H,kz,hr,hk,q=>by
  obtain ⟨v,r,rfl,h1,h2⟩:=hr
  unfold bL at hk
  split at hk
  .rename_i a b c hg
   obtain ⟨ks,e,rfl⟩:=M3.mp hk
   refine ⟨M,[x],⟨x,v,[],[],rfl,rfl, ?_,rfl,rfl⟩, ?_⟩
   .cases wk with
    | true=>rw [if_pos rfl];exact h1.weak
    | false=>rw [if_neg O3];exact qe.iff.mpr h1
   .rw [hg]
    intro z H2 s hz
    unfold RtV at hz
    rw [if_neg O3] at hz
    obtain ⟨p,ws,rfl,hq,hws⟩:=hz
    obtain ⟨v1,r1,rfl,e1,hws⟩:=hws
    obtain ⟨v2,r2,rfl,e2,hws⟩:=hws
    obtain ⟨v3,r3,rfl,e3,hws⟩:=hws
    cases (show _=_ from hws)
    cases (show _=_ from e1)
    cases (show _=_ from e2)
    cases (show _=_ from e3)
    refine p3 (acc:=acc++[.ref p]) (h2.same s) e fun H' zs s' hz=>?_
    have:=q H' (.ref p :: zs) (s.trans s') ⟨⟨p,rfl,hq.same s'⟩,hz⟩
    rw [P2]
    exact this
  .cases hk
def yt.AY {W:RC}{M:MY}{H:Hp}{xs:Nj}{vs:Nb}(h:yt W M H xs vs):∀ q:List Nat,yt W M H (q.map fun i=>xs.getD i .n) (q.map fun i=>vs.getD i .non)
 | []=>rfl
 | i :: q=>by
  refine ⟨_,_,rfl, ?_,h.AY q⟩
  show Rep W M H (xs.getD i .n) (vs.getD i .non)
  simp only [List.getD_eq_getElem?_getD]
  cases hx:xs[i]? with
  | some x=>
   obtain ⟨v,e,r⟩:=h.get hx
   rw [e];exact r
  | none=>
   cases hv:vs[i]? with
   | none=>exact rfl
   | some v=>
    obtain ⟨x,e,_⟩:=h.DS hv
    rw [hx] at e;cases e
def xl (F:y3 X.prog X.w X.K X.mg X.base (CXe X.prog X.w) k f fd ps sp) (hr:k_ (k + 2) X.A) (hb:Binds X.K fd ps []) (hg:Gl X "sorted") (hm:X.mg "sorted" = none) (hgf:Gl X fn) (hmf:X.mg fn=some (.ref f)) (ha:PA X [e] t) (hdb:(fn == ("__debug__" : Str))=false:=by decide)
  (he1:backTo pos (starEach [e] X.env)=(false,eval e X.env) :: backTo pos (starEach [] X.env):=by rfl) (hpl:(backTo pos (starEach [e] X.env)).any (·.1)=false:=by rfl):
  PE X (.Call (.Name "sorted" p) [e] [⟨some "key",.Name fn p2,kpos⟩] pos) (fun σ H Q=>t σ H fun vs H1=>∃ l ys,vs=[.ref l]/\SqL X.K H1 l ys/\AV sp X.K ys H1 Q):=by
 intro pins s σ H Q I h
 refine T9 (Vp I hg hm boot_sorted ?_ (by decide) (by decide))
 refine callWith_kw (thn (ha pos pins s σ H _ I h) fun us s1 ⟨vs,H1,I1,r1,l,ys,hv,hl,hq⟩=>?_) he1 hpl
 subst hv
 obtain ⟨u,rfl,ru⟩:=vals1 r1
 cases ru
 refine thn (BI (nm:=some "key") (kpos:=kpos) (zP (v:=.ref f) hgf hmf rfl hdb) Eo pos pins s1 σ H1 (fun zs H2=>zs=[.ref f]/\H2=H1) I1 ⟨rfl,rfl⟩) fun ws s2 ⟨zs,H2,I2,rz,e1,e2⟩=>?_
 subst e1;subst e2
 obtain ⟨u2,rfl,ru2⟩:=vals1 rz
 cases ru2
 exact mI F hr hb I2 hl hq
def xm (F:y3 X.prog X.w X.K X.mg X.base (CXe X.prog X.w) k f fd ps (lsp C.W false [wk] g)) (hr:k_ (k + 2) X.A) (hb:Binds X.K fd ps []) (hg:Gl X "sorted") (hm:X.mg "sorted" = none) (hgf:Gl X fn) (hmf:X.mg fn=some (.ref f)) (ha:AM X C S ws [e] ms) (hdb:(fn == ("__debug__" : Str))=false:=by decide)
  (he1:backTo pos (starEach [e] X.env)=(false,eval e X.env) :: backTo pos (starEach [] X.env):=by rfl) (hpl:(backTo pos (starEach [e] X.env)).any (·.1)=false:=by rfl):
  FM X C S (.Call (.Name "sorted" p) [e] [⟨some "key",.Name fn p2,kpos⟩] pos) (iK g ms):=fun hK=>by
 obtain ⟨ta,a1,a2⟩:=ha hK
 refine ⟨_,xl F hr hb hg hm hgf hmf a1 hdb he1 hpl,fun B P H σ ρ R Q q=>a2 B P H σ ρ R _ (Zy q fun xs vs H1 s1 r1 q1=>?_)⟩
 have r1:=r1.weak
 split at q1
 .rename_i ys _
  obtain ⟨v,r,rfl,⟨l,us,rfl,_,hl,rr⟩,hr'⟩:=r1
  cases (show _=_ from hr')
  unfold xk at q1
  split at q1
  .rename_i h64
   split at q1
   .rename_i kz hk
    split at q1
    .rename_i nd
     have hlen:us.length=ys.length:=(yt.len rr).symm ▸ rfl
     rw [hK]
     refine ⟨l,us,rfl,SqL.of hl,by omega,p3 rr hk fun H' zs s hz=>⟨kz,by rw [dS hk,hlen],by rw [a0z];exact hz,fun q' a srt ha=>?_⟩⟩
     rw [C0 nd srt (bM kz)]
     have q2:=Ju q1 s
     exact q2 _ _ (zE.upd ha) (Vu ((rr.same s).AY _) ha)
    .exact q1.elim
   .exact q1.elim
  .exact q1.elim
 .exact q1.elim
def Xm (f:Str) (x:HV):List (Str × HV)->List (Str × HV)
 | []=>[(f,x)]
 | kx :: r=>if kx.1=f then (kx.1,x) :: r else kx :: Xm f x r
def qS.JL {R:HV->V->Prop}{f:Str}{x:HV}{v:V}(hx:R x v):∀ {fs:List (Str × HV)}{es:Nu},qS R fs es->qS R (Xm f x fs) (JL f v es)
 | [],_,h=>by cases (show _=_ from h);exact ⟨v,[],rfl,hx,rfl⟩
 | kx :: r,_,⟨u,q,e,h1,h2⟩=>by
  subst e
  unfold Xm L2.JL
  by_cases c:kx.1=f
  .rw [if_pos c,if_pos (by simpa using c)];exact ⟨v,q,rfl,hx,h2⟩
  .rw [if_neg c,if_neg (by simpa using c)];exact ⟨u,_,rfl,h1,qS.JL hx h2⟩
def bN (cs:MV) (f:Str) (mo mv:HME):HMS:=fun ρ G=>(mv ρ G).fw fun y G1=>(mo ρ G1).fw fun x G2=>match x with
 | .g k=>match G2[k]? with
  | some (.o c fs)=>if c∈cs/\fs.length < 1000 then .nx ρ (G2.set k (.o c (Xm f y fs))) else .wall
  | _=>.wall
 | _=>.wall
def p4 (ho:HE X W E o m1) (hv:HE X W E e m2) (hc:∀ c∈cs,Cls X.K (W.cls c)/\kQ X.K (W.cls c) fn) (hs:swapsWith e (some (.Attribute o fn pos')) pos.line X.env=pure false:=by rfl):
  HS X W E (.Assign [.Attribute o fn pos'] e pos) (bN cs fn m1 m2):=fun hK=>by
 obtain ⟨to,o1,o2⟩:=ho hK
 obtain ⟨te,a1,a2⟩:=hv hK
 refine ⟨_,Af o1 a1 hs,fun Z hZ A H σ ρ G R D q=>a2 Z hZ A H σ ρ G R _ (HPs.bind q fun y A1 H1 G1 h1 g1 q1 u ry=>?_)⟩
 have R1:=R.gro h1 g1
 refine o2 Z hZ A1 H1 σ ρ G1 R1 _ (HPs.bind q1 fun x A2 H2 G2 h2 g2 q2 v rx=>?_)
 subst hZ
 split at q2
 .rename_i k
  obtain ⟨hk,rfl⟩:=rx
  split at q2
  .rename_i c fs hG
   split at q2
   .rename_i hcs
    obtain ⟨dx,vs,hp,r⟩:=h2.cell k _ hG
    have hl:=qS.len r
    have g3:=h2.frw (o:=.ins (Z.W.cls c) dx (JL fn u vs)) hk hp id
    refine ⟨_,_,dx,vs,rfl,hp,(hc c hcs.1).1,(hc c hcs.1).2,by rw [hl];exact hcs.2,II (c:=.o c (Xm fn y fs)) (R1.gro h2 g2) hk hp id ⟨dx,_,zh, ?_⟩ q2⟩
    exact qS.JL ((ry.gro g2).gro g3) (r.imp fun _ _ z=>z.gro g3)
   .exact q2.elim
  .exact q2.elim
 .exact q2.elim
def DX (c:Nat) (g:List HV->AH->HX HV) (ms:HMA):HME:=fun ρ G=>(ms ρ G).bind fun xs G1=>match g (.g G1.length :: xs) (G1++[.o c []]) with
 | .ok (.v .n) G2=>.ok (.g G1.length) G2
 | .exc c fs G2=>.exc c fs G2
 | _=>.wall
def iM (M:Mk X.K (W.cls c) f) (F:y3 X.prog X.w X.K X.mg X.base (CXe X.prog X.w) k f fd ps (hsp W n g)) (hr:k_ (k + 1) X.A) (hg:Gl X x) (hm:X.mg x=some (.ref (W.cls c))) (hb:Binds X.K fd ps []) (hx:Passes (CXe X.prog X.w) X E) (ha:HA X W E (e :: es) ms) (hn:∀ ρ G xs G',ms ρ G=.ok xs G'->xs.length + 1=n)
  (hdb:(x == ("__debug__" : Str))=false:=by decide) (he:starEach (e :: es) X.env=(false,eval e X.env) :: starEach es X.env:=by rfl) (hpl:(backTo pos (starEach es X.env)).any (·.1)=false:=by rfl):HE X W E (.Call (.Name x p) (e :: es) [] pos) (DX c g ms):=fun hK=>by
 obtain ⟨ta,a1,a2⟩:=ha hK
 refine ⟨_,nW M F hr hg hm hb .nil hx a1 hdb he hpl,fun Z hZ A H σ ρ G R Q q=>a2 Z hZ A H σ ρ G R _ ?_⟩
 subst hZ
 unfold DX at q
 revert q
 cases hq:ms ρ G with
 | wall=>exact id
 | exc c fs G'=>exact id
 | ok xs G1=>
  intro q A1 H1 h1 g1 vs rs x dx hx hd hne
  rw [O9]
  have s1:zE H1 (upd (upd H1 dx (.own x)) x (.ins (Z.W.cls c) dx [])):=fun b o hb=>by rw [zj (zX hb hx),zj (zX hb hd)];exact hb
  have h2:=h1.alloc (p:=x) (c:=.o c []) s1 hx ⟨dx,[],zh,rfl⟩
  have g2:Gro Z A1 G1.length H1 (exA A1 G1.length x) (G1.length + 1) _:=Gro.ext s1 hx
  have ex:exA A1 G1.length x G1.length=x:=by unfold exA;rw [if_pos rfl]
  have hl1:(G1++[Cell.o c []]).length=G1.length + 1:=by rw [M6];rfl
  refine ⟨Z,exA A1 G1.length x,G1++[.o c []],.g G1.length :: xs,rfl,hn _ _ _ _ hq,h2, ?_, ?_⟩
  .rw [hl1]
   exact ⟨.ref x,vs,rfl,⟨a0a _,by rw [ex]⟩,rs.gro g2⟩
  .have q:HPx Z E A G.length H (KV' Z Q) (match g (.g G1.length :: xs) (G1++[.o c []]) with
    | .ok (.v .n) G2=>.ok (.g G1.length) G2
    | .exc c fs G2=>.exc c fs G2
    | _=>.wall):=q
   have gg:=g1.trans g2
   revert q
   cases g (.g G1.length :: xs) (G1++[.o c []]) with
   | wall=>exact id
   | exc c fs G2=>exact fun q=>uY.gro q (by rw [hl1];exact gg)
   | ok y G2=>
    intro q
    cases y with
    | v z=>
     cases z with
     | n=>
      intro A2 H2 h3 g3 v rv
      rw [hl1] at g3
      refine ⟨rv,q A2 H2 h3 (gg.trans g3) (.ref x) ⟨O0 (a0a _) g3.le, ?_⟩⟩
      rw [g3.agr _ (a0a _),ex]
     | _=>exact q.elim
    | _=>exact q.elim
def IU (kvs:NM) (ks:NI):PV->Out PV
 | .i n=>.ok (.i ((zS kvs ks).getD n))
 | _=>.wall
def p5 (m:ME) (ms:MA) (md:ME):ME:=fun ρ=>(m ρ).bind fun x=>match x with
 | .dt kvs=>(ms ρ).bind fun xs=>match pk2 xs with
  | some ks=>(md ρ).bind (IU kvs ks)
  | none=>.wall
 | _=>.wall
def p6 (hu:X.A.units + 1 < cLine) (h1:EM X C S w1 o m1) (h2:AM X C S ws es ms) (h3:EM X C S w2 f m2) (m:M2 X o "get" kA (.Tuple es x1 p) f Yq):EM X C S false (.Call (.Attribute o "get" kA) [.Tuple es x1 p,f] [] Yq) (p5 m1 ms m2):=fun hK=>by
 obtain ⟨ta,a1,a2⟩:=h1 hK
 obtain ⟨tb,b1,b2⟩:=h2 hK
 obtain ⟨tc,c1,c2⟩:=h3 hK
 refine ⟨_,ui hu a1 (WU b1) c1 m,fun B P H σ ρ R Q q=>a2 B P H σ ρ R _ (yw q fun x v H1 s1 r1 q1=>?_)⟩
 cases x with
 | dt kvs=>
  obtain ⟨a,rfl,_,hd⟩:=r1.weak
  refine ⟨a,rfl,.inr ⟨_,hd⟩,b2 B P H1 σ ρ (R.keep s1) _ (qt q1 fun xs vs H2 s2 r2 q2=>?_)⟩
  split at q2
  .rename_i ks hk
   obtain ⟨rfl,hl⟩:=r2.Hi hk
   refine ⟨hl,fun z hz=>c2 B P _ σ ρ (((R.keep s1).keep s2).keep (zE.upd hz)) _ (yw (Zg q2 (zE.upd hz)) fun y u H3 s3 r3 q3=>?_)⟩
   unfold IU at q3
   split at q3
   .rename_i n
    cases (show u=.int n from r3.weak)
    refine ⟨_,.inr ⟨_,_,z,Xj s3 (Xj (zE.upd hz) (Xj s2 hd)),rfl,s3 _ _ zh,rfl⟩, ?_⟩
    rw [bI]
    cases e:zS kvs ks with
    | none=>rw [e] at q3;exact q3 _ H3 (zE.refl _) (RV.of rfl)
    | some k=>rw [e] at q3;exact q3 _ H3 (zE.refl _) (RV.of rfl)
   .exact q3.elim
  .exact q2.elim
 | _=>exact q1.elim
section
open PySem.SeqAt
open PySem.AutoSeq1 (wpAny_loadPart')
open PySem.MeetsSeq PySem.MeetsSeq2 PySem.MeetsSeq3
end
section
variable {X:Cx}
end
section
variable {X:Cx}{C:LC}{S:MV}{o f:Nh}{es:Nc}{ws:Nf}{w1 w2:Bool}{m1 m2:ME}{ms:MA}{Yq kA p:Pos}{x1:Nat}
end
end L2
namespace L2
open PySem PySem.Spec PyProof.Rows PySem.W
section
variable {X:Cx}{W:RC}{E:XK}{o a e:Nh}{m m1 m2:HME}{pos tpos:Pos}
end
section
variable {Z:HC}{E:XK}{A A':Na}{H H':Hp}{G G':AH}{σ σ':St}{ρ ρ':ZW}{es:Ng}{k n:Nat}{D:Ends}{kvs:List (Key × HV)}{o:Obj}
end
section
variable {X:Cx}{W:RC}{E:XK}{tg j9:Nh}{body:Nx}{mg:HMG}{mb:HMS}{pos:Pos}{i:Nat}
end
section
variable {X:Cx}{pins:MR}{σ:St}{H:Hp}{s:MZ}{a b:Addr}{kvs more:Ng}{A:Nt}{E:MW}
end
section
variable {X:Cx}{C:LC}{S Sb Sc:MV}{o e:Nh}{m:ME}{w:Bool}{pos p:Pos}
end
section
variable {X:Cx}{o:Nh}{to:TE}{p pos kA Yq:Pos}
end
section
variable {X:Cx}{C:LC}{S:MV}{w:Bool}{o:Nh}{m:ME}{p pos kA Yq:Pos}
end
section
variable {X:Cx}{W:RC}{E:XK}{tg a0 b0:Nh}{body:Nx}{mg:HMG}{mb:HMS}{pos ipos:Pos}{i:Nat}{n:Int}
end
section
variable {prog:Nk}{w:Nq}{A:Nt}{E:MW}{s:MZ}
end
section
variable {X:Cx}{pins:MR}{σ:St}{H:Hp}{s:MZ}{W:RC}
end
section
variable {X:Cx}{C:LC}{S:MV}{e a b:Nh}{m m1 m2:ME}{pos:Pos}
end
section
variable {X:Cx}{o:Nh}{to:TE}{p pos kA Yq:Pos}
end
section
variable {X:Cx}{C:LC}{S:MV}{w:Bool}{o:Nh}{m:ME}{p pos kA Yq:Pos}
end
section
variable {prog:Nk}{w:Nq}{A:Nt}{R:Result->Shared->Prop}{I S:Addr}{fp wr:NG}{n:Nat}{P:Nat->Value->Prop}{St:Nat->Heap->Prop}{d:Value}
end
section
variable {X:Cx}{C:LC}{S:MV}{e:Nh}{ws:Nf}{ms:MA}{p pos kpos pk:Pos}{jk:Nat}{n:Int}{t:TA}
end
section
variable {X:Cx}{C:LC}{S:MV}{mi:MI}{mg:MG}{mc:MT}{me:ME}
end
section
variable {X:Cx}{W:RC}{E:XK}
variable {fr':Bool}{S:MV}{j9 tg elt:Nh}{ifs:Nc}{me:ME}{mc:MT}{mg:MG}{mi:MI}{pos tK py:Pos}{i j:Nat}{scope:Scope}{y:Str}
end
section
variable {X:Cx}
end
section
variable {X:Cx}{W:RC}{E:XK}{o e f:Nh}{m1 m2:HME}{ma:HMA}{kA p pos:Pos}
end
section
variable {X:Cx}{C:LC}{S:MV}{w:Bool}{e:Nh}{lo hi:NV}{m:ME}{ml mh:MO}{p2 pos:Pos}
end
section
variable {X:Cx}{pins:MR}{σ:St}{H:Hp}{s:MZ}{h':Heap}{ch:NG}{T:Addr}{o:HO}{t':Nat}
def Inv.IV (I:Inv X pins σ H s) (hf:∀ b∈ch,lO X pins H b) (k:∀ b u,b∉ch->s.heap.get? b=some u->h'.get? b=some u) (hp:s.heap.objs.size<=T) (new:qp X.prog X.w (upd H T o) h' T o):Inv X pins σ (upd H T o) { s with heap:=h',toks:=t' }:=by
 have hn:H T=none:=I.hok.fresh hp
 have neT:∀ b u,s.heap.get? b=some u->b≠T:=fun b u e=>O1 (O0 (N4 e) hp)
 refine I.step (g':=s.gens) (d':=s.drawn) (ch:=ch) (fun b hb=>⟨(hf b hb).2.2.2.1,(hf b hb).2.1,(hf b hb).2.2.2.2.1,(hf b hb).2.2.2.2.2⟩) (fun b o _ _ hc e _=>k b o hc e) (fun b o _ _ hc e _=>⟨o.slots,k b o hc e⟩) (fun b o _ e n=>by rw [zj (neT b o e)];exact n)
  (fun b o hc e=>⟨o,k b o hc e⟩) (fun b xs e=>by rw [zj (zX e hn)];exact e) (fun b o u e=>by rw [zj (zX e hn)];exact e) (fun b ps e=>⟨#[],by rw [zj (zX e hn),e];simp⟩) (fun m hm=>?_) (fun b u e=>?_) I.bare
 .obtain ⟨o,es,ep,ho,r⟩:=hm
  exact ⟨o,es,ep,k _ o (fun z=>(hf _ z).2.1 rfl) ho,r⟩
 .by_cases hb:b=T
  .subst hb;rw [zh] at e;cases e;exact new
  .rw [zj hb] at e
   refine (I.hok b u e).m_ (fun c v hc q=>k c v (fun z=>?_) q) (fun c q=>by rw [zj (zX q hn)];exact q) fun c xs q=>by rw [zj (zX q hn)];exact q
   rcases hc with hc | hc
   .subst hc;rw [(hf _ z).1] at e;cases e
   .rw [(hf _ z).1] at hc;cases hc
def Inv.IW (I:Inv X pins σ H s) (hf:∀ b∈ch,lO X pins H b) (k:∀ b u,b∉ch->s.heap.get? b=some u->h'.get? b=some u):Inv X pins σ H { s with heap:=h',toks:=t' }:=by
 refine I.step (g':=s.gens) (d':=s.drawn) (ch:=ch) (fun b hb=>⟨(hf b hb).2.2.2.1,(hf b hb).2.1,(hf b hb).2.2.2.2.1,(hf b hb).2.2.2.2.2⟩) (fun b o _ _ hc e _=>k b o hc e) (fun b o _ _ hc e _=>⟨o.slots,k b o hc e⟩) (fun b o _ e n=>n)
  (fun b o hc e=>⟨o,k b o hc e⟩) (fun b xs e=>e) (fun b o u e=>e) (fun b ps e=>⟨#[],by rw [e];simp⟩) (fun m hm=>?_) (fun b u e=>?_) I.bare
 .obtain ⟨o,es,ep,ho,r⟩:=hm
  exact ⟨o,es,ep,k _ o (fun z=>(hf _ z).2.1 rfl) ho,r⟩
 .refine (I.hok b u e).m_ (fun c v hc q=>k c v (fun z=>?_) q) (fun c q=>q) fun c xs q=>q
  rcases hc with hc | hc
  .subst hc;rw [(hf _ z).1] at e;cases e
  .rw [(hf _ z).1] at hc;cases hc
end
def Itw (n:Nat) (ok:Hp->Prop) (row:Nat->List V):It:=
 ⟨fun i H=>i < n/\ok H,fun i H x H'=>∃ T,x=.ref T/\H T=none/\H' = upd H T (.tup (row i)),fun i H=>i=n/\ok H⟩
def Hl (xs ys:Nb) (i:Nat):List V:=[xs[i]?.getD .non,ys[i]?.getD .non]
def C1 (hl:row.length<=sizeLine) (r:Vals row vals.toList) (ht:h.IsTuple T vals):qp P w (upd H T (.tup row)) h T (.tup row):=⟨hl,vals.toList,r,ht⟩
section
variable {P:Nk}{w:Nq}{K:Ny}{elts:Nc}{kk:Nat}{tp:Pos}
def xn (z TI TO i1 i2 a b:Addr) (xs ys:Nb) (D:ZipApart z TI TO i1 i2 a b):Turn P w K (.Tuple elts kk tp) (Itw (min xs.length ys.length) (fun H=>SqL K H a xs/\SqL K H b ys) (Hl xs ys)) [z,TI,TO,i1,i2] z (fun i h=>i<=min xs.length ys.length/\IsZip h z TI TO .none/\IsPair h TI (.ref i1) (.ref i2)/\(∃ a b,IsPair h TO a b)/\h.IsListIter i1 a i/\h.IsListIter i2 b i) where
 mem:=by simp
 obj:=fun i h st c hc=>by
  obtain ⟨_,q1,q2,⟨_,_,q3⟩,⟨o4,q4,_,d4⟩,⟨o5,q5,_,d5⟩⟩:=st
  simp only [List.mem_cons,List.not_mem_nil,or_false] at hc
  rcases hc with r | r | r | r | r <;> subst r
  .exact ⟨_,q1,fun v z=>by cases z⟩
  .exact ⟨_,q2,fun v z=>by cases z⟩
  .exact ⟨_,q3,fun v z=>by cases z⟩
  .exact ⟨o4,q4,fun v z=>by rw [d4] at z;cases z⟩
  .exact ⟨o5,q5,fun v z=>by rw [d5] at z;cases z⟩
 keep:=fun i h h' ⟨hi,q1,q2,⟨x,y,q3⟩,q4,q5⟩ k=>⟨hi,k z (by simp) _ q1,k TI (by simp) _ q2,⟨x,y,k TO (by simp) _ q3⟩,q4.at fun o e=>k i1 (by simp) o e,q5.at fun o e=>k i2 (by simp) o e⟩
 item:=by
  intro X hP hw hK hc i pins s σ H E I hf st hg
  subst hP hw hK
  obtain ⟨hi,hq1,hq2⟩:=hg
  obtain ⟨its,rv,p,_⟩:=I.list hq1
  obtain ⟨jts,rw',p',_⟩:=I.list hq2
  have hn:=rv.length
  have hm:=rw'.length
  have W:=WalksT.zip2 (prog:=X.prog) (w:=X.w) (I.ok.hd hc) z TI TO i1 i2 a b D its.toArray jts.toArray
  refine W.item i s _ _ (by rw [O4,O4];omega) ⟨st.2.1,st.2.2.1,st.2.2.2.1,st.2.2.2.2.1,st.2.2.2.2.2,p.isList,p'.isList⟩ fun T vals h' tk hv hT isT mid kp=>?_
  obtain ⟨x,y,hx,hy,rfl⟩:=hv
  refine ⟨_,rfl,W.go elts kk tp i T { s with heap:=h',toks:=tk } _ _ mid fun h2' st2 k2=>?_⟩
  have nT:T∉[z,TO,i1,i2]:=W.apart i T h' mid
  have nT':∀ c∈[z,TI,TO,i1,i2],c≠T:=fun c hc q=>by
   subst q
   obtain ⟨o,ho⟩:∃ o,s.heap.get? c=some o:=by
    obtain ⟨_,q1,q2,⟨_,_,q3⟩,⟨o4,q4,_,d4⟩,⟨o5,q5,_,d5⟩⟩:=st
    simp only [List.mem_cons,List.not_mem_nil,or_false] at hc
    rcases hc with r | r | r | r | r <;> subst r
    .exact ⟨_,q1⟩
    .exact ⟨_,q2⟩
    .exact ⟨_,q3⟩
    .exact ⟨_,q4⟩
    .exact ⟨_,q5⟩
   exact absurd (N4 ho) (Nat.not_lt.mpr hT)
  have l1:i < xs.length:=by omega
  have l2:i < ys.length:=by omega
  obtain ⟨u,hu,ru⟩:=rv.get (N8 l1)
  obtain ⟨v,hv,rv'⟩:=rw'.get (N8 l2)
  rw [a2D,hu] at hx
  cases hx
  rw [a2D,hv] at hy
  cases hy
  refine ⟨.ref T,upd H T (.tup (Hl xs ys i)),I.IV (ch:=[z,TO,i1,i2]) (fun c hc=>hf c (W.sub c hc |> fun _=>by simp only [List.mem_cons,List.not_mem_nil,or_false] at hc ⊢;rcases hc with r | r | r | r <;> simp [r])) (fun b u hb q=>k2 b u hb (kp b u hb q)) hT (C1 (show 2<=sizeLine by decide) (vals:=#[x,y]) (.cons ?_ (.cons ?_ .nil)) (isT.at fun o q=>k2 T o nT q)),rfl,⟨T,rfl,I.hok.fresh hT,rfl⟩,⟨by omega,st2.1,st2.2.1,st2.2.2.1,st2.2.2.2.1,st2.2.2.2.2.1⟩,fun c hc=>by rw [zj (nT' c hc)];exact (hf c hc).1⟩
  .rw [N8 l1];exact ru
  .rw [N8 l2];exact rv'
 done:=by
  intro X hP hw hK hc i pins s σ H E I hf st hg
  subst hP hw hK
  obtain ⟨rfl,hq1,hq2⟩:=hg
  obtain ⟨its,rv,p,_⟩:=I.list hq1
  obtain ⟨jts,rw',p',_⟩:=I.list hq2
  have hn:=rv.length
  have hm:=rw'.length
  have W:=WalksT.zip2 (prog:=X.prog) (w:=X.w) (I.ok.hd hc) z TI TO i1 i2 a b D its.toArray jts.toArray
  have hs:min its.toArray.size jts.toArray.size=min xs.length ys.length:=by rw [O4,O4];omega
  refine W.done s _ _ (by rw [hs];exact ⟨st.2.1,st.2.2.1,st.2.2.2.1,st.2.2.2.2.1,st.2.2.2.2.2,p.isList,p'.isList⟩) fun h' tk kp=>⟨rfl,I.IW (ch:=[z,TO,i1,i2]) (fun c hc=>hf c (by simp only [List.mem_cons,List.not_mem_nil,or_false] at hc ⊢;rcases hc with r | r | r | r <;> simp [r])) kp⟩
 self:=fun _ _ _ _ _ st h=>wpAny_pyIter_zip st.2.1 h
end
def MK (K:Ny) (ta:TA):TI:=fun σ H R=>ta σ H fun vs H1=>∃ a b xs ys,vs=[.ref a,.ref b]/\SqL K H1 a xs/\SqL K H1 b ys/\R (Itw (min xs.length ys.length) (fun H=>SqL K H a xs/\SqL K H b ys) (Hl xs ys)) H1
section
variable {X:Cx}{C:LC}{S:MV}{elts:Nc}{kk:Nat}{tp p pos:Pos}{e a b:Nh}{m:ME}{ms:MA}{cc:Bool}
def FU (hg:Gl X "zip") (hm:X.mg "zip" = none) (ha:PA X [a,b] ta) (hs:starEach [a,b] X.env=[(false,eval a X.env),(false,eval b X.env)]:=by rfl) (hs2:starEach [b] X.env=[(false,eval b X.env)]:=by rfl):PI X (.Tuple elts kk tp) (.Call (.Name "zip" p) [a,b] [] pos) (MK X.K ta):=by
 intro pins s σ H R I h
 refine Call_ (Vp I hg hm PyProof.Rows.boot_zip (a0k (thn (ha pos pins s σ H _ I h) fun us s1 ⟨vs,H1,I1,r1,q1⟩=>?_) (by rw [hs,hs2]) (by rw [hs2];rfl)))
 obtain ⟨l1,l2,xs,ys,rfl,hq1,hq2,q⟩:=q1
 cases r1 with
 | cons r rr=>
  cases rr with
  | cons r' rr=>
   cases rr
   cases r
   cases r'
   obtain ⟨its,rv,pl,_⟩:=I1.list hq1
   obtain ⟨jts,rv',pl',_⟩:=I1.list hq2
   have t1:l1 < s1.heap.objs.size:=by obtain ⟨o,ho,_⟩:=pl.isList;exact N4 ho
   have t2:l2 < s1.heap.objs.size:=by obtain ⟨o,ho,_⟩:=pl'.isList;exact N4 ho
   refine call_zip_2 pl.isList pl'.isList fun h' hz hTI hTO hit1 hit2 hsz kp=>?_
   refine wpAny_pyIter_zip hz ?_
   refine ⟨s1.heap.objs.size + 4,[s1.heap.objs.size + 4,s1.heap.objs.size + 2,s1.heap.objs.size + 3,s1.heap.objs.size,s1.heap.objs.size + 1],_,_,H1,rfl,I1.kept (t':=s1.toks) kp,xn _ _ _ _ _ l1 l2 xs ys (zipApart_new t1 t2),⟨S7 _,hz,hTI,⟨_,_,hTO⟩,hit1,hit2⟩,fun c hc=>?_,q⟩
   have ok:∀ k,lO X pins H1 (s1.heap.objs.size + k):=fun k=>I1.DQ (Nat.le_add_right _ _) (I1.hok.fresh (Nat.le_add_right _ _))
   simp only [List.mem_cons,List.not_mem_nil,or_false] at hc
   rcases hc with r | r | r | r | r <;> subst r
   .exact ok 4
   .exact ok 2
   .exact ok 3
   .exact ok 0
   .exact ok 1
def FV (xs ys:Nj):List PV:=List.zipWith (fun x y=>.t [x,y]) xs ys
def LQ:List PV->Out (List PV)
 | [.l xs,.l ys]=>.ok (FV xs ys)
 | _=>.wall
def Hm (ms:MA):MI:=fun ρ=>(ms ρ).bind LQ
def dU (h:H T=none):zE H (upd H T o):=fun a u e=>by rw [zj (zX e h)];exact e
def ML (hn:xs.length=n) (hMN:∀ a,M a->N a) (h:∀ H',Fr N H2 H'->ok H') (r:∀ i x,xs[i]? = some x->∃ ys,x=.t ys/\yt W M H2 ys (row i)):Cq W M N H2 (Itw n ok row) xs:=fun H' f=>by
 refine ⟨fun i x hx=>?_,hn,h H' f⟩
 obtain ⟨ys,rfl,rr⟩:=r i x hx
 refine ⟨⟨by have:=(O2.mp hx).1;omega,h H' f⟩,fun v H'' hy=>?_⟩
 obtain ⟨T,rfl,hT,rfl⟩:=hy
 refine ⟨dU hT,fun M' sM=>⟨T,row i,rfl,.inl (.inl (zh ..)), ?_⟩⟩
 exact yt.gen (fun a o h m=>dU hT _ _ (f a o h (m.imp (hMN a) id))) (fun a m n=>sM a m n) rr
end
section
variable {X:Cx}{C:LC}{S:MV}{o e f:Nh}{w1 w2:Bool}{m1 m2 m3:ME}{Yq kA:Pos}
end
section
variable {X:Cx}{C:LC}{S:MV}{elts:Nc}{kk:Nat}{tp p pos:Pos}{a b:Nh}{m1 m2:ME}
def C2 (hg:Gl X "zip") (hm:X.mg "zip" = none) (h1:EN X C S a m1) (h2:EN X C S b m2) (hs:starEach [a,b] X.env=[(false,eval a X.env),(false,eval b X.env)]:=by rfl) (hs2:starEach [b] X.env=[(false,eval b X.env)]:=by rfl):IM X C S false (.Tuple elts kk tp) (.Call (.Name "zip" p) [a,b] [] pos) (Hm (zb m1 (zb m2 zr))):=fun hK=>by
 obtain ⟨ta,a1,a2⟩:=h1 hK
 obtain ⟨tb,b1,b2⟩:=h2 hK
 refine ⟨_,FU hg hm (Yx a1 (Yx b1 aj (by rw [hs2];rfl)) (by rw [hs,hs2])) hs hs2,fun B P H σ ρ R Q q=>a2 B P H σ ρ R _ ?_⟩
 unfold Hm zb at q
 revert q
 cases m1 ρ with
 | exc c fs=>exact id
 | wall=>exact id
 | ok y1=>
  intro q v1 H1 s1 r1
  refine b2 B P H1 σ ρ (R.keep s1) _ ?_
  revert q
  cases m2 ρ with
  | exc c fs=>exact id
  | wall=>exact id
  | ok y2=>
   intro q0 v2 H2 s2 r2
   have q:o7 C B S P false H Q (LQ [y1,y2]):=q0
   clear q0
   cases y1 with
   | l xs=>
    cases y2 with
    | l ys=>
     obtain ⟨p1,vs1,rfl,n1,hp1,rr1⟩:=r1
     obtain ⟨p2,vs2,rfl,n2,hp2,rr2⟩:=r2
     have hp1:=s2 _ _ hp1
     have rr1:=rr1.same s2
     have l1:=rr1.len
     have l2:=rr2.len
     refine ⟨p1,p2,vs1,vs2,rfl,SqL.of hp1,SqL.of hp2,q _ H2 (s1.trans s2) (ML (by unfold FV;rw [List.length_zipWith,l1,l2]) (fun a m=>Mof.nac m) (fun H' f=>⟨SqL.of (f _ _ hp1 (.inl n1)),SqL.of (f _ _ hp2 (.inl n2))⟩) fun i x hx=>?_)⟩
     unfold FV at hx
     rw [List.getElem?_zipWith] at hx
     cases e1:xs[i]? with
     | none=>rw [e1] at hx;cases hx
     | some x1=>
      cases e2:ys[i]? with
      | none=>rw [e1,e2] at hx;cases hx
      | some x2=>
       rw [e1,e2] at hx
       cases hx
       obtain ⟨u1,hu1,ru1⟩:=rr1.get e1
       obtain ⟨u2,hu2,ru2⟩:=rr2.get e2
       exact ⟨_,rfl,u1,_,by unfold Hl;rw [hu1,hu2];rfl,ru1,u2,[],rfl,ru2,rfl⟩
    | _=>exact q.elim
   | _=>exact q.elim
end
section
variable {X:Cx}{W:RC}{E:XK}{e:Nh}{es:Nc}{pos p:Pos}{ms:HMA}{x:Str}{k:Nat}{f:Addr}{fd:Nr}{ps:MX}{g:Nl}{ws:Nf}
end
section
variable {X:Cx}{W:RC}{E:XK}{a b:Nh}{rest:Nc}{pos:Pos}{m1 m2:HME}
end
def LFr.le (h:LFr C S te m):LE C S false te m:=fun B P H σ ρ R Q q=>h B P H σ ρ R Q (JO q fun x v H2 s hr=>RV.of (hr.rep R.new))
section
variable {X:Cx}{W:RC}{E:XK}{fr' fr:Bool}{S:MV}{j9 tg elt:Nh}{ifs:Nc}{m me:ME}{mc:MT}{mg:MG}{mi:MI}{pos tK py:Pos}{i j:Nat}{scope:Scope}{y:Str}
def MM (bs:Nf) (a2:LE ⟨W,E,fr⟩ S false te m) (hS:S.all (· == 0)=true:=by rfl):∀ (Z:HC),Z.W=W->∀ A H σ ρ G,HR Z A H σ ρ G->∀ Q,HPx Z E A G.length H (KV' Z Q) (hP bs m ρ G)->te σ H Q:=fun Z hZ A H σ ρ G R Q q=>by
 subst hZ
 unfold hP at q
 split at q
 .rename_i r hr
  refine a2 _ _ H σ r (u5 R hr hS) Q ?_
  revert q
  cases m r with
  | ok x=>exact fun q v H2 s rx=>q A H2 (R.toHH.keep s) (Gro.same s) v (rx.rep.sub fun a m _=>CK R.toHH a m)
  | exc c fs=>exact fun q=>dN R.toHH q fun H2 es h=>h.sub fun a m _=>m.elim id fun n=>R.toHH.new a n
  | wall=>exact id
 .split at q
  .rename_i r hr
   refine a2 _ _ H σ r (u6 R hr hS) Q ?_
   revert q
   cases m r with
   | ok x=>
    intro q v H2 s rx
    dsimp only at q
    split at q
    .rename_i hi
     exact q A H2 (R.toHH.keep s) (Gro.same s) v (Xg hi rx.rep)
    .exact q.elim
   | exc c fs=>
    intro q
    dsimp only at q
    split at q
    .rename_i hi
     exact dN R.toHH q fun H2 es h=>Qw hi h
    .exact q.elim
   | wall=>exact id
  .exact q.elim
def FW (bs:Nf) (N:MX) (fr:Ni) (Si:MV) (hN:X.N.Nodup) (hy:X.N[j]? = some y) (hl:X.env.scope.names.lookup y=some .local) (hc:X.calm=true) (hok:tL X scope N fr=true) (hi:IM X ⟨W,E,fr'⟩ S true tg j9 mi) (hg:∀ z:CI,GM (cxI X scope N z) ⟨W,E0,false⟩ Si Si tg mg) (ht:∀ z:CI,TsM (cxI X scope N z) ⟨W,E0,false⟩ Si ifs mc) (he:∀ z:CI,EM (cxI X scope N z) ⟨W,E0,false⟩ Si false elt me) (hS:Si=inS S fr:=by rfl) (h0:S.all (· == 0)=true:=by rfl)
  (hsw:swapsWith (.ListComp elt [⟨tg,j9,ifs,0⟩] scope pos) (some (.Name y py)) tK.line X.env=pure true:=by rfl) (hs:∀ x,foldedSetIterable j9 X.env x=pure x:=by intro _;rfl):HS X W E (.Assign [.Name y py] (.ListComp elt [⟨tg,j9,ifs,0⟩] scope pos) tK) (Jw j (hP bs (mLC mi fr mg mc me))):=fun hK=>by
 obtain ⟨wi,a1,a2⟩:=hi hK
 obtain ⟨g,b1,b2⟩:=f9 hg fun _=>hK
 obtain ⟨tc,c1,c2⟩:=f7 ht fun _=>hK
 obtain ⟨te,d1,d2⟩:=f6 he fun _=>hK
 exact ⟨_,EI N fr hN hy hl hc hok a1 (fun fp pn s H L=>b1 ⟨fp,pn,s,H,L⟩) (fun fp pn s H L=>c1 ⟨fp,pn,s,H,L⟩) (fun fp pn s H L=>d1 ⟨fp,pn,s,H,L⟩) hsw hs,pQ (MM bs (fr:=fr') (Cw a2 rfl hS b2 c2 d2).le h0)⟩
end
def IX (K:Ny) (F F2:Addr) (tb:TSx) (i:Nat) (ts ts2:Addr->TS):TS:=fun D σ H=>
 tb D (fun v o H'=>∃ e C dx,v=.ref e/\o=some dx/\H' e=some (XC e C dx)/\(Catch K C F true/\ts e { nx:=fun _ _=>False,rt:=D.rt } (σ.set i (some (.ref e))) H'\/Catch K C F false/\Catch K C F2 true/\ts2 e { nx:=fun _ _=>False,rt:=D.rt } (σ.set i (some (.ref e))) H')) σ H
def C3 (own:Own X) (hb:Ik X body tb) (hg:Gl X cx) (hm:X.mg cx=some (.ref F)) (hg2:Gl X cx2) (hm2:X.mg cx2=some (.ref F2))
  (hN:X.N.Nodup) (hi:X.N[i]? = some n) (hx:Loc X.env.scope n) (hl:X.env.kindOf n=some .local) (hs:∀ e,PSs (X.held (.ref e)) (b₀ :: suite) (ts e)) (hs2:∀ e,PSs (X.held (.ref e)) (b₂ :: suite2) (ts2 e))
  (hdb:(cx == ("__debug__" : Str))=false:=by decide) (hdb2:(cx2 == ("__debug__" : Str))=false:=by decide) (hf:X.fn n=true\/X.env.scope.names.lookup n=some .local:=by first | exact .inl rfl | exact .inr rfl | assumption):
  PS X (.Try body [.ExceptHandler (some (.Name cx np)) (some n) (b₀ :: suite) hp,.ExceptHandler (some (.Name cx2 np2)) (some n) (b₂ :: suite2) hp2] [] [] pos) (IX X.K F F2 tb i ts ts2):=by
 intro pins s σ H D I h
 refine wpAny_Try_except (S4 (hb pins s σ H D _ I h) (fun f s1 q=>?_) fun v s1 q=>?_)
 .cases f with
  | next=>exact a0L q
  | ret u=>exact q
  | brk=>exact q
  | cont=>exact q
 .obtain ⟨H',e,C,dx,rfl,I1,fl,e',C',dx',ee,ed,hC,q⟩:=q
  cases ee;cases ed
  refine bg own I1.ok.frames I1 fl fun Tn h2 I2 b2=>?_
  refine W2 I2 zh b2 fun h3 I3 b3=>?_
  rw [vg] at I3 b3
  have fA:∀ (h:Heap),Inv X pins σ (upd H' e (XO e C (some dx) (.ref Tn))) { s1 with heap:=h }->∃ o,h.get? e=some o/\o.cls=.ref C':=fun h I'=>by
   have J:=I'.fH zh
   rw [vg] at J
   obtain ⟨t,T,sl,ho⟩:=XC.get (J.hok e _ hC)
   exact ⟨_,ho,rfl⟩
  obtain ⟨o,ho,hoc⟩:=fA _ I3
  refine a2R (a2E ?_) (fun z=>by cases z)
  refine Jn (X:=X.held (.ref e)) (I3.held _) hg hm ?_ hdb
  rcases q with ⟨kc,q⟩ | ⟨kn,kc,q⟩
  .refine (Jr I3.kIn ho hoc kc).here ?_
   refine a1Y ?_
   refine W2 I3 zh b3 fun h4 I4 b4=>?_
   rw [vg] at I4 b4
   refine Qr (X:=X) I4 hN hi hx (v:=.ref e) rfl (fun s5 I5=>?_) hf
   have J5:=(I5.fH zh).held (.ref e)
   rw [vg] at J5
   refine S4 (hs e pins s5 _ _ _ J5 q) (fun f s6 z=>?_) fun _ _ z=>False.elim z
   cases f with
   | ret u=>
    obtain ⟨v,σ',H6,I6,rv,q6⟩:=z
    exact name_goes (X:=X) (I6.Ap I.ok) hl fun s7 I7=>⟨v,_,H6,I7,rv,q6⟩
   | next=>obtain ⟨_,_,_,z⟩:=z;exact False.elim z
   | brk=>obtain ⟨_,_,_,z⟩:=z;exact False.elim z
   | cont=>obtain ⟨_,_,_,z⟩:=z;exact False.elim z
  .refine (Jr I3.kIn ho hoc kn).here ?_
   refine a2R (a2E ?_) (fun z=>by cases z)
   refine Jn (X:=X.held (.ref e)) (I3.held _) hg2 hm2 ?_ hdb2
   refine (Jr I3.kIn ho hoc kc).here ?_
   refine a1Y ?_
   refine W2 I3 zh b3 fun h4 I4 b4=>?_
   rw [vg] at I4 b4
   refine Qr (X:=X) I4 hN hi hx (v:=.ref e) rfl (fun s5 I5=>?_) hf
   have J5:=(I5.fH zh).held (.ref e)
   rw [vg] at J5
   refine S4 (hs2 e pins s5 _ _ _ J5 q) (fun f s6 z=>?_) fun _ _ z=>False.elim z
   cases f with
   | ret u=>
    obtain ⟨v,σ',H6,I6,rv,q6⟩:=z
    exact name_goes (X:=X) (I6.Ap I.ok) hl fun s7 I7=>⟨v,_,H6,I7,rv,q6⟩
   | next=>obtain ⟨_,_,_,z⟩:=z;exact False.elim z
   | brk=>obtain ⟨_,_,_,z⟩:=z;exact False.elim z
   | cont=>obtain ⟨_,_,_,z⟩:=z;exact False.elim z
section
variable {X:Cx}{C:LC}{S S' S1 S2 S3 Sb Sc:MV}{j:Nat}{pos:Pos}{m1 m2 m3:MS}
end
def HEX (X:Cx) (W:RC) (e:Nh) (m:HME):Prop:=X.K=W.K->∃ te:TEx,PEx X e te/\∀ (Z:HC),Z.W=W->∀ A H σ ρ G,HR Z A H σ ρ G->∀ Q Zx,HPx Z Zx A G.length H (KV' Z Q) (m ρ G)->te σ H Q Zx
def HXS (X:Cx) (W:RC) (st:Nx) (m:HMS):Prop:=X.K=W.K->∃ t:TSx,Ik X st t/\∀ (Z:HC),Z.W=W->∀ A H σ ρ G,HR Z A H σ ρ G->∀ D Zx,HPs Z Zx A G.length H D (m ρ G)->t D Zx σ H
def az (g:List HV->AH->HX HV) (ms:HMA):HME:=fun ρ G=>match ms ρ G with
 | .ok xs G1=>g xs G1
 | _=>.wall
section
variable {X:Cx}{W:RC}{E:XK}{e:Nh}{es:Nc}{pos p pos':Pos}{ms:HMA}{m:HME}{x y:Str}{k n i j:Nat}{f:Addr}{fd:Nr}{ps:MX}{g:List HV->AH->HX HV}{m1 m2 m3:HMS}
def C4 (F:y3 X.prog X.w X.K X.mg X.base (CXe X.prog X.w) k f fd ps (hsp W n g)) (hr:k_ k X.A) (hg:Gl X x) (hm:X.mg x=some (.ref f)) (hk:keepIn X.K (.ref f)=true) (hb:Binds X.K fd ps []) (ha:HA X.nox W E0 (e :: es) ms) (hn:∀ ρ G xs G',ms ρ G=.ok xs G'->xs.length=n)
  (hdb:(x == ("__debug__" : Str))=false:=by decide) (he:starEach (e :: es) X.env=(false,eval e X.env) :: starEach es X.env:=by rfl) (hpl:(backTo pos (starEach es X.env)).any (·.1)=false:=by rfl):HEX X W (.Call (.Name x p) (e :: es) [] pos) (az g ms):=fun hK=>by
 obtain ⟨ta,a1,a2⟩:=ha hK
 refine ⟨_,uv F hr hg hm hk hb a1 hdb he hpl,fun Z hZ A H σ ρ G R Q Zx q=>a2 Z hZ A H σ ρ G R _ ?_⟩
 unfold az at q
 revert q
 cases hq:ms ρ G with
 | wall=>exact id
 | exc c fs G'=>exact fun q=>q.elim
 | ok xs G'=>
  intro q A1 H1 h1 g1 vs rs
  exact ⟨Z,A1,G',xs,hZ,hn _ _ _ _ hq,h1,rs,HPx.gro (o:=g xs G') q g1⟩
def FX (hN:X.N.Nodup) (hi:X.N[i]? = some x) (hx:Loc X.env.scope x) (h:HEX X W e m) (hs:swapsWith e (some (.Name x pos')) pos.line X.env=pure false:=by rfl) (hf:X.fn x=true\/X.env.scope.names.lookup x=some .local:=by first | exact .inl rfl | exact .inr rfl | assumption):
  HXS X W [.Assign [.Name x pos'] e pos] (Jw i m):=fun hK=>by
 obtain ⟨te,a1,a2⟩:=h hK
 refine ⟨_,uw (B3 hN hi hx a1 hs hf),fun Z hZ A H σ ρ G R D Zx q=>a2 Z hZ A H σ ρ G R _ Zx ?_⟩
 exact HPs.bind (show HPs Z Zx A G.length H D ((m ρ G).fw fun v G'=>.nx (ρ.set i (some v)) G') from q) fun x A1 H1 G1 h1 g1 q1 v rx=>q1 A1 H1 _ ((R.gro h1 g1).set rx) Gro.refl
def bO (cs cs2:MV) (m1:HMS) (j:Nat) (m2 m3:HMS):HMS:=fun ρ G=>match m1 ρ G with
 | .nx ρ' G'=>.nx ρ' G'
 | .rt x G'=>.rt x G'
 | .exc c fs G'=>if c∈cs then (match m2 (ρ.set j (some (.v (.x c fs)))) G' with
  | .rt x G2=>.rt x G2
  | _=>.wall) else if c∈cs2 then (match m3 (ρ.set j (some (.v (.x c fs)))) G' with
  | .rt x G2=>.rt x G2
  | _=>.wall) else .wall
 | _=>.wall
def C5 {body suite suite2:Nx}{b₀ b₂:NF}{cx cx2 n:Str}{np hp np2 hp2:Pos}{F F2:Addr}{cs cs2:MV}(own:Own X) (hb:HXS X W body m1) (hg:Gl X cx) (hm:X.mg cx=some (.ref F)) (hg2:Gl X cx2) (hm2:X.mg cx2=some (.ref F2))
  (hN:X.N.Nodup) (hi:X.N[j]? = some n) (hx:Loc X.env.scope n) (hs:∀ e,HSs (X.held (.ref e)) W E (b₀ :: suite) m2) (hs2:∀ e,HSs (X.held (.ref e)) W E (b₂ :: suite2) m3) (hcs:∀ c∈cs,Catch X.K (W.cls c) F true) (hcs2:∀ c∈cs2,Catch X.K (W.cls c) F false/\Catch X.K (W.cls c) F2 true) (hl:X.env.kindOf n=some .local:=by rfl)
  (hdb:(cx == ("__debug__" : Str))=false:=by decide) (hdb2:(cx2 == ("__debug__" : Str))=false:=by decide) (hf:X.fn n=true\/X.env.scope.names.lookup n=some .local:=by first | exact .inl rfl | exact .inr rfl | assumption):
  HS X W E (.Try body [.ExceptHandler (some (.Name cx np)) (some n) (b₀ :: suite) hp,.ExceptHandler (some (.Name cx2 np2)) (some n) (b₂ :: suite2) hp2] [] [] pos) (bO cs cs2 m1 j m2 m3):=fun hK=>by
 obtain ⟨tb,a1,a2⟩:=hb hK
 have hs':=fun e=>hs e hK
 have hs2':=fun e=>hs2 e hK
 refine ⟨_,C3 own a1 hg hm hg2 hm2 hN hi hx hl (ts:=fun e=>Classical.choose (hs' e)) (ts2:=fun e=>Classical.choose (hs2' e)) (fun e=>(R4 (hs' e)).1) (fun e=>(R4 (hs2' e)).1) hdb hdb2 hf,fun Z hZ A H σ ρ G R D q=>a2 Z hZ A H σ ρ G R D _ ?_⟩
 unfold bO at q
 revert q
 cases m1 ρ G with
 | wall=>exact id
 | nx ρ' G'=>exact id
 | rt x G'=>exact id
 | bk ρ' G'=>exact fun q=>q.elim
 | ct ρ' G'=>exact fun q=>q.elim
 | exc c fs G'=>
  intro q A' H' e dx es h g h1 h2 h3
  have q:HPs Z E A G.length H D (if c∈cs then (match m2 (ρ.set j (some (.v (.x c fs)))) G' with
   | .rt x G2=>.rt x G2
   | _=>.wall) else if c∈cs2 then (match m3 (ρ.set j (some (.v (.x c fs)))) G' with
   | .rt x G2=>.rt x G2
   | _=>.wall) else .wall):=q
  have R':=(R.gro h g).set (i:=j) (x:=.v (.x c fs)) (v:=.ref e) (show Rep Z.W _ H' (.x c fs) _ from ⟨e,dx,es,rfl,h1,h2,h3⟩)
  subst hZ
  split at q
  .rename_i hc
   refine ⟨e,_,dx,rfl,rfl,h1,.inl ⟨hcs c hc,(R4 (hs' e)).2 Z rfl A' H' _ _ G' R' _ ?_⟩⟩
   split at q
   .rename_i x G2 hx
    rw [hx];exact fun A2 H2 v hh gg rr=>q A2 H2 v hh (g.trans gg) rr
   .exact q.elim
  .split at q
   .rename_i hc
    refine ⟨e,_,dx,rfl,rfl,h1,.inr ⟨(hcs2 c hc).1,(hcs2 c hc).2,(R4 (hs2' e)).2 Z rfl A' H' _ _ G' R' _ ?_⟩⟩
    split at q
    .rename_i x G2 hx
     rw [hx];exact fun A2 H2 v hh gg rr=>q A2 H2 v hh (g.trans gg) rr
    .exact q.elim
   .exact q.elim
end
def FY (m1 m2:HME):HME:=fun ρ G=>(m1 ρ G).bind fun x G1=>match x with
 | .g k=>(m2 ρ G1).bind fun y G2=>match y with
  | .g i=>match G2[k]?,G2[i]? with
   | some (.l xs),some (.l ys)=>if xs.length + ys.length<=sizeLine then .ok (.g G2.length) (G2++[.l (xs++ys)]) else .wall
   | _,_=>.wall
  | _=>.wall
 | _=>.wall
def qa.app {W:RC}{M:MY}{A:Na}{n:Nat}{H:Hp}:∀ {xs ys:List HV}{vs us:Nb},qa W M A n H xs vs->qa W M A n H ys us->qa W M A n H (xs++ys) (vs++us)
 | [],_,_,_,h,k=>by cases (show _=_ from h);exact k
 | x :: xs,_,_,_,⟨v,r,e,h1,h2⟩,k=>by subst e;exact ⟨v,_,rfl,h1,qa.app h2 k⟩
def FZ (h1:HE X W E a m1) (h2:HE X W E b m2):HE X W E (.BinOp a .Add b pos) (FY m1 m2):=fun hK=>by
 obtain ⟨ta,a1,a2⟩:=h1 hK
 obtain ⟨tb,b1,b2⟩:=h2 hK
 refine ⟨_,Eh Al a1 b1,fun Z hZ A H σ ρ G R Q q=>a2 Z hZ A H σ ρ G R _ (HPx.bind q fun x A1 H1 G1 h1 g1 q1 v rx=>b2 Z hZ A1 H1 σ ρ G1 (R.gro h1 g1) _ ?_)⟩
 cases x with
 | v x=>exact q1.elim
 | t x=>exact q1.elim
 | g k=>
  refine HPx.bind q1 fun y A2 H2 G2 h2 g2 q2 u ry=>?_
  have rx:=rx.gro g2
  cases y with
  | v x=>exact q2.elim
  | t x=>exact q2.elim
  | g i=>
   obtain ⟨hk,rfl⟩:=rx
   obtain ⟨hi,rfl⟩:=ry
   dsimp only at q2
   split at q2
   .rename_i xs ys ex ey
    split at q2
    .rename_i hl
     obtain ⟨vs,p1,r1⟩:=h2.cell k _ ex
     obtain ⟨us,p2,r2⟩:=h2.cell i _ ey
     refine ⟨_,_,vs,us,rfl,rfl,p1,p2,by rw [r1.len,r2.len];exact hl,fun p hp=>?_⟩
     have s:zE H2 (upd H2 p (.lst (vs++us))):=zE.upd hp
     exact bE (c:=.l (xs++ys)) h2 s hp ⟨vs++us,zh,(r1.app r2).gro (Gro.ext s hp)⟩ q2
    .exact q2.elim
   .exact q2.elim
end L2
namespace L2
section
variable {κ α:Type}[DecidableEq κ]
def xo {k:κ}:zS ([]:List (κ × α)) k=none:=rfl
def yr {k j:κ}{v:α}{r:List (κ × α)}:zS ((j,v) :: r) k=if j=k then some v else zS r k:=by
 unfold zS
 rw [a0Q]
 by_cases h:j=k
 .simp [h]
 .simp [h]
def wa:∀ {kvs:List (κ × α)}{k:κ},kvs.any (fun kv=>decide (kv.1=k))=(zS kvs k).isSome
 | [],_=>rfl
 | (j,v) :: r,k=>by
  rw [T7,yr,wa]
  by_cases h:j=k
  .simp [h]
  .simp [h]
def iN:∀ {a:List (κ × α)}{k j:κ}{v:α},zS (a++[(k,v)]) j=(zS a j).or (if k=j then some v else none)
 | [],k,j,v=>by rw [a0z,yr,xo];rfl
 | (i,u) :: a,k,j,v=>by
  rw [a2e,yr,yr,iN]
  by_cases h:i=j
  .rw [if_pos h,if_pos h];rfl
  .rw [if_neg h,if_neg h]
def bP:∀ {a:List (κ × α)}{k j:κ}{v:α},zS (a.map fun kv=>if kv.1=k then (kv.1,v) else kv) j=if k=j then (zS a j).map (fun _=>v) else zS a j
 | [],k,j,v=>by split <;> rfl
 | (i,u) :: a,k,j,v=>by
  rw [N9]
  by_cases h:i=k
  .subst h
   rw [if_pos rfl,yr,yr,bP]
   by_cases h:i=j
   .rw [if_pos h,if_pos h,if_pos h];rfl
   .rw [if_neg h,if_neg h,if_neg h,if_neg h]
  .rw [if_neg (show ¬ ((i,u):κ × α).1=k from h),yr,yr,bP]
   by_cases hj:i=j
   .rw [if_pos hj,if_pos hj,if_neg (fun z=>h (hj.trans z.symm))]
   .rw [if_neg hj,if_neg hj]
def wb {a:List (κ × α)}{k j:κ}{v:α}:zS (dput a k v) j=if k=j then some v else zS a j:=by
 unfold dput
 rw [wa]
 split
 .rename_i h
  rw [bP]
  split
  .rename_i e
   subst e
   obtain ⟨x,hx⟩:=a0f.mp h
   rw [hx];rfl
  .rfl
 .rename_i h
  rw [iN]
  by_cases e:k=j
  .subst e
   have:zS a k=none:=by cases q:zS a k with | none=>rfl | some x=>rw [q] at h;exact absurd rfl h
   rw [this,if_pos rfl];rfl
  .rw [if_neg e,if_neg e];cases zS a j <;> rfl
def J6 {a:List (κ × α)}{k:κ}{v:α}:(dput a k v).map (·.1)=if (zS a k).isSome=true then a.map (·.1) else a.map (·.1)++[k]:=by
 unfold dput
 rw [wa]
 split
 .rw [a0n]
  refine a0I fun kv _=>?_
  show (if kv.1=k then (kv.1,v) else kv).1=kv.1
  split <;> rfl
 .rw [O6];rfl
def Qy:∀ {a:List (κ × α)}{k:κ}{v:α},zS a k=some v->(k,v)∈a
 | [],_,_,e=>by cases e
 | (j,u) :: a,k,v,e=>by
  rw [yr] at e
  split at e
  .rename_i h;subst h;cases e;exact v4
  .exact M9 _ (Qy e)
def xp {a:List (κ × α)}{k:κ}:(zS a k).isSome=true↔k∈a.map (·.1):=by
 rw [<- wa,List.any_eq_true]
 constructor
 .rintro ⟨kv,h,e⟩;exact a0b.mpr ⟨kv,h,a0j e⟩
 .intro h
  obtain ⟨kv,h,e⟩:=a0b.mp h
  exact ⟨kv,h,N7 e⟩
def aA {a:List (κ × α)}{k:κ}{v:α}(h:(a.map (·.1)).Nodup):((dput a k v).map (·.1)).Nodup:=by
 rw [J6]
 split
 .exact h
 .rename_i n
  refine a1p.mpr ⟨h,by simp,fun x hx y hy z=>?_⟩
  obtain rfl:y=k:=by simpa using hy
  subst z
  exact n (xp.mpr hx)
end
end L2
namespace K43
open PySem L2
noncomputable section NCS
def top (i:Nat):Stmt:=PySem.Challenge.pw_fleetpath_k43_cut.main.body.getD i (.Pass ⟨0,0,0,0⟩)
abbrev K6:Stmt:=top 54
abbrev K7:Stmt:=top 56
abbrev ZC:Stmt:=top 57
abbrev K8:Stmt:=top 55
abbrev Jx:Stmt:=top 58
abbrev wB:Stmt:=inClass (top 5) 0
abbrev YE:Stmt:=top 16
abbrev wC:Stmt:=inClass (top 3) 0
abbrev wD:Stmt:=top 13
abbrev YF:Stmt:=inClass (top 6) 0
abbrev jx:Stmt:=top 15
abbrev wF:Stmt:=inClass (top 7) 0
abbrev ZD:Stmt:=top 37
abbrev wG:Stmt:=inClass (top 42) 2
abbrev kD:Stmt:=inClass (top 4) 0
abbrev kE:Stmt:=top 14
abbrev vq:Stmt:=inClass (top 25) 0
abbrev YG:Stmt:=inClass (top 8) 0
abbrev wH:Stmt:=inClass (top 26) 0
abbrev YH:Stmt:=top 27
abbrev kG:Stmt:=top 28
abbrev YI:Stmt:=inClass (top 29) 0
abbrev YJ:Stmt:=top 59
abbrev Jy:Stmt:=top 60
abbrev Jz:Stmt:=top 64
abbrev wI:Stmt:=top 38
abbrev YK:Stmt:=top 39
abbrev wJ:Stmt:=top 40
abbrev YL:Stmt:=inClass (top 42) 0
abbrev Xn:Stmt:=top 61
abbrev ZE:Stmt:=inClass (top 9) 0
abbrev YM:Stmt:=inClass (top 29) 2
abbrev ZF:Stmt:=top 30
abbrev C6:Stmt:=top 32
abbrev bQ:Stmt:=top 33
abbrev vt:Stmt:=inClass (top 44) 0
abbrev wK:Stmt:=top 46
abbrev ZG:Stmt:=inClass (top 42) 1
abbrev JA:Stmt:=top 47
abbrev JB:Stmt:=top 48
abbrev ZH:Stmt:=top 49
abbrev wL:Stmt:=top 50
abbrev wM:Stmt:=inClass (top 45) 0
abbrev ZI:Stmt:=top 51
abbrev C7:Stmt:=top 52
abbrev JC:Stmt:=top 62
abbrev K9:Stmt:=top 63
abbrev C8:Stmt:=top 65
def scB (N P:MX) (sc:Scope):Bool:=(match sc.kind with | .function=>true | _=>false) && (!sc.isCoroutine && (!sc.isGenerator && (decide N.Nodup && (decide (N.take P.length=P) && (P.all (fun x=>match sc.names.lookup x with | some .local=>true | some .cell=>true | _=>false) && sc.names.all fun y=>match y.2 with | .free=>false | _=>true)))))
def vc (h:scB N P sc=true):zu N P sc:=by
 unfold scB at h
 simp only [Bool.and_eq_true,decide_eq_true_eq,List.all_eq_true] at h
 obtain ⟨h1,h2,h3,h4,h5,h6,h7⟩:=h
 refine ⟨?_,by simpa using h2,by simpa using h3,h4,h5,fun x hx=>?_,fun y hy e=>?_⟩
 .revert h1;cases sc.kind <;> simp
 .have:=h6 x hx;split at this <;> simp_all
 .have:=h7 y hy;rw [e] at this;cases this
def JD:zu ["_law_script","_law_k","_law_many","_law_cell"] ["_law_script","_law_k","_law_many"] (zk K6):=vc (by decide +kernel)
def jR:zu ["_law_script","_law_places","_law_scale","_law_ring","_law_many","_law_ways_here","_law_k","_law_pair"] ["_law_script","_law_places","_law_scale","_law_ring"] (zk K7):=vc (by decide +kernel)
def yb:zu ["_law_places","_law_ways_here","_law_far","_law_place","_law_origin","_law_goal","_law_minutes","_law_amid","_law_total"] ["_law_places","_law_ways_here"] (zk ZC):=vc (by decide +kernel)
def JE:zu ["_law_script","_law_k","_law_number","_law_ahead","_law_behind"] ["_law_script","_law_k","_law_number"] (zk K8):=vc (by decide +kernel)
def zZ:zu ["_law_script","_law_places","_law_far","_law_scale","_law_many","_law_trips_here","_law_at","_law_time","_law_k","_law_origin","_law_goal","_law_spare","_law_more","_law_start"] ["_law_script","_law_places","_law_far","_law_scale","_law_many"] (zk Jx):=vc (by decide +kernel)
def Xo:zu ["self","most"] ["self","most"] (zk wB):=vc (by decide +kernel)
def bR:zu ["things","most"] ["things","most"] (zk YE):=vc (by decide +kernel)
def Xp:zu ["self","name"] ["self","name"] (zk wC):=vc (by decide +kernel)
def YN:zu ["name","sign"] ["name"] (zk wD):=vc (by decide +kernel)
def bS:zu ["self","name"] ["self","name"] (zk YF):=vc (by decide +kernel)
def JF:zu ["name","had"] ["name","had"] (zk jx):=vc (by decide +kernel)
def Xq:zu ["self","name"] ["self","name"] (zk wF):=vc (by decide +kernel)
def UA:zu ["name","places"] ["name","places"] (zk ZD):=vc (by decide +kernel)
def Xr:zu ["self","origin","goal"] ["self","origin","goal"] (zk wG):=vc (by decide +kernel)
def K_:zu ["self","value"] ["self","value"] (zk kD):=vc (by decide +kernel)
def Va:zu ["value","least"] ["value","least"] (zk kE):=vc (by decide +kernel)
def We:zu ["self","name"] ["self","name"] (zk vq):=vc (by decide +kernel)
def bU:zu ["self","origin","goal"] ["self","origin","goal"] (zk YG):=vc (by decide +kernel)
def Xs:zu ["self","name"] ["self","name"] (zk wH):=vc (by decide +kernel)
def J7:zu ["roads","trip","had","length"] ["roads","trip","had"] (zk YH):=vc (by decide +kernel)
def Vb:zu ["trip"] ["trip"] (zk kG):=vc (by decide +kernel)
def J8:zu ["self","roads","trips","trip"] ["self","roads","trips"] (zk YI):=vc (by decide +kernel)
def jA:zu ["_law_far","_law_home","_law_row","_law_total","_law_k"] ["_law_far","_law_home","_law_row"] (zk YJ):=vc (by decide +kernel)
def kj:zu ["_law_script","_law_far","_law_home","_law_row","_law_way","_law_greatest","_law_first","_law_behind"] ["_law_script","_law_far","_law_home","_law_row"] (zk Jy):=vc (by decide +kernel)
def yO:zu ["_law_row","_law_more","_law_found","_law_k","_law_name_here","_law_origin","_law_goal","_law_start","_law_finish","_law_seats"] ["_law_row","_law_more"] (zk Jz):=vc (by decide +kernel)
def vv:zu ["places","had","name"] ["places"] (zk wI):=vc (by decide +kernel)
def kY:zu ["places","ways","origin","goal","minutes"] ["places","ways"] (zk YK):=vc (by decide +kernel)
def yd:zu ["origin","ways","heights","changed","start","goal","minutes","height"] ["origin","ways"] (zk wJ):=vc (by decide +kernel)
def bV:zu ["self","places","ways"] ["self","places","ways"] (zk YL):=vc (by decide +kernel)
def aB:zu ["_law_far","_law_home","_law_row","_law_limit_here","_law_trip"] ["_law_far","_law_home","_law_row","_law_limit_here"] (zk Xn):=vc (by decide +kernel)
def UB:zu ["self","name"] ["self","name"] (zk ZE):=vc (by decide +kernel)
def bW:zu ["self","name"] ["self","name"] (zk YM):=vc (by decide +kernel)
def QK:zu ["table","names","name"] ["table","names"] (zk ZF):=vc (by decide +kernel)
def iO:zu ["table","one","other","ahead","behind","length"] ["table","one","other"] (zk C6):=vc (by decide +kernel)
def dW:zu ["table","one","other","minutes"] ["table","one","other"] (zk bQ):=vc (by decide +kernel)
def Wf:zu ["self","first","second"] ["self","first","second"] (zk vt):=vc (by decide +kernel)
def vw:zu ["table","names","one","other"] ["table","names"] (zk wK):=vc (by decide +kernel)
def UC:zu ["self"] ["self"] (zk ZG):=vc (by decide +kernel)
def dX:zu ["table","home","names"] ["table","home","names"] (zk JA):=vc (by decide +kernel)
def dY:zu ["roads","origin","goal"] ["roads","origin","goal"] (zk JB):=vc (by decide +kernel)
def UD:zu ["table","home","names"] ["table","home","names"] (zk ZH):=vc (by decide +kernel)
def yI:zu ["table","home","names","place","minutes","name","trip"] ["table","home","names"] (zk wL):=vc (by decide +kernel)
def Xt:zu ["self","name"] ["self","name"] (zk wM):=vc (by decide +kernel)
def UE:zu ["table","home","name","limit"] ["table","home","name","limit"] (zk ZI):=vc (by decide +kernel)
def iP:zu ["table","home","names","limit","name","pieces"] ["table","home","names","limit"] (zk C7):=vc (by decide +kernel)
def kl:zu ["_law_table","_law_home","_law_names","_law_limit_here","_law_parts","e","_law_strange"] ["_law_table","_law_home","_law_names","_law_limit_here"] (zk JC):=vc (by decide +kernel)
def vx:zu ["_law_far","_law_home","_law_row","_law_limit_here","_law_parts","_law_at","_law_part","_law_behind"] ["_law_far","_law_home","_law_row","_law_limit_here","_law_parts"] (zk K9):=vc (by decide +kernel)
def qR:zu ["_law_script","_law_scale","_law_places","_law_ways_here","_law_far","_law_row","_law_table","_law_home","_law_limit_here","_law_longer","_law_beside","_law_other","_law_turns","_law_held","_law_some","_law_one","_law_most","_law_names","_law_due_here","_law_word","_law_parts","_law_part"] ["_law_script"] (zk C8):=vc (by decide +kernel)
abbrev NsN (K:Nw) (x:Str):Prop:=W.nsIn K mainGlobals x=some none
abbrev NsR (K:Nw) (x:Str) (c:Addr):Prop:=W.nsIn K mainGlobals x=some (some (.ref c))
abbrev LU (K:Nw) (x y:Addr):Prop:=W.kitOne K (.ref x) (.ref y)=some true
abbrev DY (K:Nw) (x y:Addr):Prop:=W.kitOne K (.ref x) (.ref y)=some false
def ev (i:Nat) (hN:X.N[i]? = some x:=by rfl) (hv:Vis X.env.scope x:=by first | exact Or.inl rfl | exact Or.inr (Or.inl rfl) | exact Or.inr (Or.inr rfl)) (hd:(x == ("__debug__" : Str))=false:=by decide) (hcd:(x == ("__classdict__" : Str))=false:=by decide):EM X C S true (.Name x pos) (zc i):=ES (pv i hN hv hd hcd)
def ei {j}:EM X C S false (.Constant (.int i) j pos) (mC (.i i)):=yq D_
def rm (hr:k_ k A) (h:j<=k:=by decide):k_ j A:=hr.mono h
def F0 (h1:W.findIn K (.ref C) "__init__" = some (some (.ref f))) (h2:K.lookup C=some (excClassObj nm q C N bs bm true sn sub ab col dd k0 k1 k2 k3 k5 "ValueError.__new__")) (h3:dr K bm=true) (h4:W.typeIn K (.ref f)=some (.type "function")) (h5:W.keepIn K (.ref C)=true):XMk K C f:=⟨⟨_,_,_,_,_,_,_,_,_,_,_,_,_,_,_,h2,h3⟩,h1,h4,h5⟩
abbrev fnT (st:NF) (sh q:Str) (kV dc pm:Value) (an:ND) (cd ct:Value):FuncData:=W.fnOf sh q (W0 st) (Zt st) (zk st) .none kV dc pm an cd ct
abbrev DfN (K:Nw) (x:Str) (st:NF) (f:Addr) (fd:Nr):Prop:=W.nsIn K mainGlobals x=some (some (.ref f))/\Fun K x x st f fd
structure Def (K:Nw) (mg:MU) (x:Str) (st:NF) (ps:MX) (f:Addr) (fd:Nr):Prop where
 g:mg x=some (.ref f)
 F:Fun K x x st f fd
 b:Binds K fd ps []
def Def.k {K:Nw}{mg:MU}{x:Str}{st:NF}{ps:MX}{f:Addr}{fd:Nr}(D:Def K mg x st ps f fd):W.keepIn K (.ref f)=true:=D.F.kp
abbrev BN (x q:Str) (st:NF) (ps:MX):Prop:=∀ (kV dc pm:Value) (an:ND) (cd ct:Value) (us:M_),us.length=ps.length->bindArgs (fnT st x q kV dc pm an cd ct) ⟨us,[]⟩=pure (ps.zip us)
def yD {K:Nw}{h:Heap}{mg:MU}{x:Str}{st:NF}{ps:MX}{f:Addr}{fd:Nr}(X:K.In h) (G:h.Ns mainGlobals mg) (D:DfN K x st f fd) (b:BN x x st ps):Def K mg x st ps f fd:=⟨S9 X G D.1,D.2,D.2.binds b⟩
def bn1 (h:∀ kV dc pm an cd ct u0,bindArgs (fnT st x q kV dc pm an cd ct) ⟨[u0],[]⟩=pure (ps.zip [u0])) (hp:ps.length=1:=by rfl):BN x q st ps:=fun kV dc pm an cd ct us hl=>IB (P:=fun us=>bindArgs (fnT st x q kV dc pm an cd ct) ⟨us,[]⟩=pure (ps.zip us)) (hl.trans hp) fun u0=>h kV dc pm an cd ct u0
def bn2 (h:∀ kV dc pm an cd ct u0 u1,bindArgs (fnT st x q kV dc pm an cd ct) ⟨[u0,u1],[]⟩=pure (ps.zip [u0,u1])) (hp:ps.length=2:=by rfl):BN x q st ps:=fun kV dc pm an cd ct us hl=>IC (P:=fun us=>bindArgs (fnT st x q kV dc pm an cd ct) ⟨us,[]⟩=pure (ps.zip us)) (hl.trans hp) fun u0 u1=>h kV dc pm an cd ct u0 u1
def bn3 (h:∀ kV dc pm an cd ct u0 u1 u2,bindArgs (fnT st x q kV dc pm an cd ct) ⟨[u0,u1,u2],[]⟩=pure (ps.zip [u0,u1,u2])) (hp:ps.length=3:=by rfl):BN x q st ps:=fun kV dc pm an cd ct us hl=>ID (P:=fun us=>bindArgs (fnT st x q kV dc pm an cd ct) ⟨us,[]⟩=pure (ps.zip us)) (hl.trans hp) fun u0 u1 u2=>h kV dc pm an cd ct u0 u1 u2
def bn4 (h:∀ kV dc pm an cd ct u0 u1 u2 u3,bindArgs (fnT st x q kV dc pm an cd ct) ⟨[u0,u1,u2,u3],[]⟩=pure (ps.zip [u0,u1,u2,u3])) (hp:ps.length=4:=by rfl):BN x q st ps:=fun kV dc pm an cd ct us hl=>IE (P:=fun us=>bindArgs (fnT st x q kV dc pm an cd ct) ⟨us,[]⟩=pure (ps.zip us)) (hl.trans hp) fun u0 u1 u2 u3=>h kV dc pm an cd ct u0 u1 u2 u3
def bn5 (h:∀ kV dc pm an cd ct u0 u1 u2 u3 u4,bindArgs (fnT st x q kV dc pm an cd ct) ⟨[u0,u1,u2,u3,u4],[]⟩=pure (ps.zip [u0,u1,u2,u3,u4])) (hp:ps.length=5:=by rfl):BN x q st ps:=fun kV dc pm an cd ct us hl=>IF (P:=fun us=>bindArgs (fnT st x q kV dc pm an cd ct) ⟨us,[]⟩=pure (ps.zip us)) (hl.trans hp) fun u0 u1 u2 u3 u4=>h kV dc pm an cd ct u0 u1 u2 u3 u4
structure Adr where
 (Y1 kr jg vP Y2 jF jG k9 js ky Y3 ZR qo yx zt vf qK qL j3 wR yQ wU qj Y4 z9 wV yp zy kI zU vQ Y5 wW qx zJ Y6 ya jY jX qk jq yE y6 Zo ZS zB qM mN QC vR ql yP qy jf y_ zV wX qN GR Ud j0 GS:Addr)
 (aO aP Ku aQ Ue wY VR wZ QY Y7 wq w4 Kv w6 kJ Z7 vS Y8 w8 VS Z8 Y9 VT Ug Uh QZ VU Q1 Y_ eU ZT Qa Kw GU lK vT Q2 ZU Ui Uj Kx Q3 w_ Ky GV Uk aR GW:Nr)
 (DM eV U5 eZ GX xX GY DN xY DO cR gI:Tok)
abbrev LV (K:Nw) (mg:MU) (a:Adr):Prop:=
 (mg "LIMIT" = some (.int 1000000000 a.DM))/\
 (mg "NAME_SIGNS" = some (.str "abcdefghijklmnopqrstuvwxyz0123456789" a.eV))/\
 (mg "LONGEST_NAME" = some (.int 12 a.U5))/\
 (mg "MOST_TRIPS" = some (.int 40 a.eZ))/\
 (mg "NAME" = some (.int 0 a.GX))/\
 (mg "ORIGIN" = some (.int 1 a.xX))/\
 (mg "GOAL" = some (.int 2 a.GY))/\
 (mg "START" = some (.int 3 a.DN))
abbrev LW (K:Nw) (mg:MU) (a:Adr):Prop:=
 (mg "FINISH" = some (.int 4 a.xY))/\
 (mg "SEATS" = some (.int 5 a.DO))/\
 (mg "MOST_PLACES" = some (.int 12 a.cR))/\
 (mg "MOST_WAYS" = some (.int 60 a.gI))/\
 (mg "FleetError" = some (.ref a.Y1))/\
 (mg "BadName" = some (.ref a.kr))/\
 (mg "BadNumber" = some (.ref a.jg))/\
 (mg "TooMany" = some (.ref a.vP))
abbrev Txt2 (K:Nw) (mg:MU) (a:Adr):Prop:=
 (mg "Twice" = some (.ref a.Y2))/\
 (mg "NoPlace" = some (.ref a.jF))/\
 (mg "NoWay" = some (.ref a.jG))/\
 (mg "NoTrip" = some (.ref a.k9))/\
 (mg "Backward" = some (.ref a.js))/\
 (mg "TooFast" = some (.ref a.ky))/\
 (mg "Table" = some (.ref a.Y3))/\
 (mg "Roads" = some (.ref a.ZR))
abbrev LX (K:Nw) (mg:MU) (a:Adr):Prop:=
 (mg "Unlinked" = some (.ref a.qo))/\
 (mg "TooLong" = some (.ref a.yx))/\
 (mg "dict" = none)/\
 (mg "isinstance" = none)/\
 (mg "len" = none)/\
 (mg "list" = none)/\
 (mg "max" = none)/\
 (mg "range" = none)
abbrev LY (K:Nw) (mg:MU) (a:Adr):Prop:=
 (mg "reversed" = none)/\
 (mg "sorted" = none)/\
 (mg "zip" = none)/\
 (Def K mg "_law_draw" K6 ["_law_script","_law_k","_law_many"] a.zt a.aO)/\
 (Def K mg "_law_ways" K7 ["_law_script","_law_places","_law_scale","_law_ring"] a.vf a.aP)/\
 (Def K mg "_law_lengths" ZC ["_law_places","_law_ways_here"] a.qK a.Ku)/\
 (Def K mg "_law_name" K8 ["_law_script","_law_k","_law_number"] a.qL a.aQ)/\
 (Def K mg "_law_trips" Jx ["_law_script","_law_places","_law_far","_law_scale","_law_many"] a.j3 a.Ue)
abbrev LZ (K:Nw) (mg:MU) (a:Adr):Prop:=
 (Fun K "__init__" "TooMany.__init__" wB a.wR a.wY)/\
 (Binds K a.wY ["self","most"] [])/\
 (Def K mg "check_most" YE ["things","most"] a.yQ a.VR)/\
 (Fun K "__init__" "BadName.__init__" wC a.wU a.wZ)/\
 (Binds K a.wZ ["self","name"] [])/\
 (Def K mg "checked_name" wD ["name"] a.qj a.QY)/\
 (Fun K "__init__" "Twice.__init__" YF a.Y4 a.Y7)/\
 (Binds K a.Y7 ["self","name"] [])
abbrev L6 (K:Nw) (mg:MU) (a:Adr):Prop:=
 (Def K mg "checked_new_name" jx ["name","had"] a.z9 a.wq)/\
 (Fun K "__init__" "NoPlace.__init__" wF a.wV a.w4)/\
 (Binds K a.w4 ["self","name"] [])/\
 (Def K mg "check_place" ZD ["name","places"] a.yp a.Kv)/\
 (Fun K "length" "Roads.length" wG a.zy a.w6)/\
 (Binds K a.w6 ["self","origin","goal"] [])/\
 (Fun K "__init__" "BadNumber.__init__" kD a.kI a.kJ)/\
 (Binds K a.kJ ["self","value"] [])
abbrev L7 (K:Nw) (mg:MU) (a:Adr):Prop:=
 (Def K mg "checked_number" kE ["value","least"] a.zU a.Z7)/\
 (Fun K "__init__" "Backward.__init__" vq a.vQ a.vS)/\
 (Binds K a.vS ["self","name"] [])/\
 (Fun K "__init__" "NoWay.__init__" YG a.Y5 a.Y8)/\
 (Binds K a.Y8 ["self","origin","goal"] [])/\
 (Fun K "__init__" "TooFast.__init__" wH a.wW a.w8)/\
 (Binds K a.w8 ["self","name"] [])/\
 (Def K mg "check_trip" YH ["roads","trip","had"] a.qx a.VS)
abbrev L8 (K:Nw) (mg:MU) (a:Adr):Prop:=
 (Def K mg "place_in_order" kG ["trip"] a.zJ a.Z8)/\
 (Fun K "__init__" "Table.__init__" YI a.Y6 a.Y9)/\
 (Binds K a.Y9 ["self","roads","trips"] [])/\
 (Def K mg "_law_length" YJ ["_law_far","_law_home","_law_row"] a.ya a.VT)/\
 (Def K mg "_law_limit" Jy ["_law_script","_law_far","_law_home","_law_row"] a.jY a.Ug)/\
 (Def K mg "_law_later" Jz ["_law_row","_law_more"] a.jX a.Uh)/\
 (Def K mg "check_places" wI ["places"] a.qk a.QZ)/\
 (Def K mg "check_ways" YK ["places","ways"] a.jq a.VU)
abbrev L9 (K:Nw) (mg:MU) (a:Adr):Prop:=
 (Def K mg "heights_from" wJ ["origin","ways"] a.yE a.Q1)/\
 (Fun K "__init__" "Roads.__init__" YL a.y6 a.Y_)/\
 (Binds K a.Y_ ["self","places","ways"] [])/\
 (Def K mg "_law_due" Xn ["_law_far","_law_home","_law_row","_law_limit_here"] a.Zo a.eU)/\
 (Fun K "__init__" "NoTrip.__init__" ZE a.ZS a.ZT)/\
 (Binds K a.ZT ["self","name"] [])/\
 (Fun K "trip" "Table.trip" YM a.zB a.Qa)/\
 (Binds K a.Qa ["self","name"] [])
abbrev F1 (K:Nw) (mg:MU) (a:Adr):Prop:=
 (Def K mg "check_trips" ZF ["table","names"] a.qM a.Kw)/\
 (Def K mg "gap" C6 ["table","one","other"] a.mN a.GU)/\
 (Def K mg "linked" bQ ["table","one","other"] a.QC a.lK)/\
 (Fun K "__init__" "Unlinked.__init__" vt a.vR a.vT)/\
 (Binds K a.vT ["self","first","second"] [])/\
 (Def K mg "check_linked" wK ["table","names"] a.ql a.Q2)/\
 (Fun K "names" "Roads.names" ZG a.yP a.ZU)/\
 (Binds K a.ZU ["self"] [])
abbrev F3 (K:Nw) (mg:MU) (a:Adr):Prop:=
 (Def K mg "check_row" JA ["table","home","names"] a.qy a.Ui)/\
 (Def K mg "check_way" JB ["roads","origin","goal"] a.jf a.Uj)/\
 (Def K mg "check_block" ZH ["table","home","names"] a.y_ a.Kx)/\
 (Def K mg "block_length" wL ["table","home","names"] a.zV a.Q3)/\
 (Fun K "__init__" "TooLong.__init__" wM a.wX a.w_)/\
 (Binds K a.w_ ["self","name"] [])/\
 (Def K mg "check_short" ZI ["table","home","name","limit"] a.qN a.Ky)/\
 (Def K mg "cut" C7 ["table","home","names","limit"] a.GR a.GV)
abbrev F4 (K:Nw) (mg:MU) (a:Adr):Prop:=
 (Def K mg "_law_asked" JC ["_law_table","_law_home","_law_names","_law_limit_here"] a.Ud a.Uk)/\
 (Def K mg "_law_good" K9 ["_law_far","_law_home","_law_row","_law_limit_here","_law_parts"] a.j0 a.aR)/\
 (Def K mg "law" C8 ["_law_script"] a.GS a.GW)/\
 (Zu K a.kr)/\
 (XMk K a.kr a.wU)/\
 (W.takerIn K a.kr "name" = some none)/\
 (W.findIn K (.ref a.kr) "name" = some none)/\
 (Zu K a.jg)
abbrev F5 (K:Nw) (mg:MU) (a:Adr):Prop:=
 (XMk K a.jg a.kI)/\
 (W.takerIn K a.jg "value" = some none)/\
 (Zu K a.vP)/\
 (XMk K a.vP a.wR)/\
 (W.takerIn K a.vP "most" = some none)/\
 (Zu K a.Y2)/\
 (XMk K a.Y2 a.Y4)/\
 (W.takerIn K a.Y2 "name" = some none)
abbrev F6 (K:Nw) (mg:MU) (a:Adr):Prop:=
 (W.findIn K (.ref a.Y2) "name" = some none)/\
 (Zu K a.jF)/\
 (XMk K a.jF a.wV)/\
 (W.takerIn K a.jF "name" = some none)/\
 (W.findIn K (.ref a.jF) "name" = some none)/\
 (Zu K a.jG)/\
 (XMk K a.jG a.Y5)/\
 (Catch K a.jG a.jG true)
abbrev F7 (K:Nw) (mg:MU) (a:Adr):Prop:=
 (W.takerIn K a.jG "origin" = some none)/\
 (W.findIn K (.ref a.jG) "origin" = some none)/\
 (W.takerIn K a.jG "goal" = some none)/\
 (W.findIn K (.ref a.jG) "goal" = some none)/\
 (Zu K a.k9)/\
 (XMk K a.k9 a.ZS)/\
 (W.takerIn K a.k9 "name" = some none)/\
 (W.findIn K (.ref a.k9) "name" = some none)
abbrev F8 (K:Nw) (mg:MU) (a:Adr):Prop:=
 (Zu K a.js)/\
 (XMk K a.js a.vQ)/\
 (W.takerIn K a.js "name" = some none)/\
 (W.findIn K (.ref a.js) "name" = some none)/\
 (Zu K a.ky)/\
 (XMk K a.ky a.wW)/\
 (W.takerIn K a.ky "name" = some none)/\
 (W.findIn K (.ref a.ky) "name" = some none)
abbrev F9 (K:Nw) (mg:MU) (a:Adr):Prop:=
 (Zu K a.qo)/\
 (XMk K a.qo a.vR)/\
 (W.takerIn K a.qo "first" = some none)/\
 (W.takerIn K a.qo "second" = some none)/\
 (Zu K a.yx)/\
 (XIs K a.yx)/\
 (XMk K a.yx a.wX)/\
 (Catch K a.yx a.yx true)
abbrev F_ (K:Nw) (mg:MU) (a:Adr):Prop:=
 (Catch K a.yx a.jG false)/\
 (W.takerIn K a.yx "name" = some none)/\
 (W.findIn K (.ref a.yx) "name" = some none)/\
 (Cls K a.Y3)/\
 (kQ K a.Y3 "by_name")/\
 (kQ K a.Y3 "order")/\
 (kQ K a.Y3 "roads")/\
 (Meth K a.Y3 "trip" a.zB)
abbrev Ga (K:Nw) (mg:MU) (a:Adr):Prop:=
 (Mk K a.Y3 a.Y6)/\
 (Cls K a.ZR)/\
 (kQ K a.ZR "lengths")/\
 (kQ K a.ZR "places")/\
 (kQ K a.ZR "ways")/\
 (Meth K a.ZR "length" a.zy)/\
 (Meth K a.ZR "names" a.yP)/\
 (Mk K a.ZR a.y6)
abbrev Gb (K:Nw) (mg:MU) (a:Adr):Prop:=
 (W.kitOne K (.type "list") (.type "list")=some true)/\
 (DY K a.yx a.qo)/\
 (DY K a.yx a.k9)/\
 (DY K a.yx a.jF)/\
 (LU K a.yx a.Y1)
abbrev Txt (K:Nw) (mg:MU) (a:Adr):Prop:=LV K mg a/\LW K mg a/\Txt2 K mg a/\LX K mg a/\LY K mg a/\LZ K mg a/\L6 K mg a/\L7 K mg a/\L8 K mg a/\L9 K mg a/\F1 K mg a/\F3 K mg a/\F4 K mg a/\F5 K mg a/\F6 K mg a/\F7 K mg a/\F8 K mg a/\F9 K mg a/\F_ K mg a/\Ga K mg a/\Gb K mg a
section
variable {K:Nw}{mg:MU}{a:Adr}(T:Txt K mg a)
include T
def Txt.cc0:LV K mg a:=T.1
def Txt.gm:=T.cc0.1
def Txt.YO:=T.cc0.2.1
def Txt.wN:=T.cc0.2.2.1
def Txt.YQ:=T.cc0.2.2.2.1
def Txt.Vy:=T.cc0.2.2.2.2.1
def Txt.ZJ:=T.cc0.2.2.2.2.2.1
def Txt.Xu:=T.cc0.2.2.2.2.2.2.1
def Txt.YR:=T.cc0.2.2.2.2.2.2.2
def Txt.cc1:LW K mg a:=T.2.1
def Txt.wc:=T.cc1.1
def Txt.gp:=T.cc1.2.1
def Txt.ZK:=T.cc1.2.2.1
def Txt.JG:=T.cc1.2.2.2.1
def Txt.YS:=T.cc1.2.2.2.2.1
def Txt.J9:=T.cc1.2.2.2.2.2.1
def Txt.JH:=T.cc1.2.2.2.2.2.2.1
def Txt.Xv:=T.cc1.2.2.2.2.2.2.2
def Txt.cc2:Txt2 K mg a:=T.2.2.1
def Txt.gq:=T.cc2.1
def Txt.J_:=T.cc2.2.1
def Txt.Xw:=T.cc2.2.2.1
def Txt.WN:=T.cc2.2.2.2.1
def Txt.Vc:=T.cc2.2.2.2.2.1
def Txt.Xx:=T.cc2.2.2.2.2.2.1
def Txt.bX:=T.cc2.2.2.2.2.2.2.1
def Txt.bY:=T.cc2.2.2.2.2.2.2.2
def Txt.cc3:LX K mg a:=T.2.2.2.1
def Txt.Qz:=T.cc3.1
def Txt.Ka:=T.cc3.2.1
def Txt.p7:=T.cc3.2.2.1
def Txt.y4:=T.cc3.2.2.2.1
def Txt.kZ:=T.cc3.2.2.2.2.1
def Txt.Zm:=T.cc3.2.2.2.2.2.1
def Txt.p8:=T.cc3.2.2.2.2.2.2.1
def Txt.YT:=T.cc3.2.2.2.2.2.2.2
def Txt.cc4:LY K mg a:=T.2.2.2.2.1
def Txt.Vd:=T.cc4.1
def Txt.bZ:=T.cc4.2.1
def Txt.C9:=T.cc4.2.2.1
def Txt.zd:=T.cc4.2.2.2.1
def Txt.vd:=T.cc4.2.2.2.2.1
def Txt.qD:=T.cc4.2.2.2.2.2.1
def Txt.qE:=T.cc4.2.2.2.2.2.2.1
def Txt.jS:=T.cc4.2.2.2.2.2.2.2
def Txt.cc5:LZ K mg a:=T.2.2.2.2.2.1
def Txt.UG:=T.cc5.1
def Txt.UH:=T.cc5.2.1
def Txt.yf:=T.cc5.2.2.1
def Txt.UI:=T.cc5.2.2.2.1
def Txt.QL:=T.cc5.2.2.2.2.1
def Txt.qf:=T.cc5.2.2.2.2.2.1
def Txt.dZ:=T.cc5.2.2.2.2.2.2.1
def Txt.d0:=T.cc5.2.2.2.2.2.2.2
def Txt.cc6:L6 K mg a:=T.2.2.2.2.2.2.1
def Txt.zT:=T.cc6.1
def Txt.UJ:=T.cc6.2.1
def Txt.UK:=T.cc6.2.2.1
def Txt.zD:=T.cc6.2.2.2.1
def Txt.UL:=T.cc6.2.2.2.2.1
def Txt.qT:=T.cc6.2.2.2.2.2.1
def Txt.Wg:=T.cc6.2.2.2.2.2.2.1
def Txt.Wh:=T.cc6.2.2.2.2.2.2.2
def Txt.cc7:L7 K mg a:=T.2.2.2.2.2.2.2.1
def Txt.zz:=T.cc7.1
def Txt.Xy:=T.cc7.2.1
def Txt.Xz:=T.cc7.2.2.1
def Txt.d3:=T.cc7.2.2.2.1
def Txt.Vz:=T.cc7.2.2.2.2.1
def Txt.UM:=T.cc7.2.2.2.2.2.1
def Txt.UN:=T.cc7.2.2.2.2.2.2.1
def Txt.jm:=T.cc7.2.2.2.2.2.2.2
def Txt.cc8:L8 K mg a:=T.2.2.2.2.2.2.2.2.1
def Txt.qc:=T.cc8.1
def Txt.d6:=T.cc8.2.1
def Txt.VA:=T.cc8.2.2.1
def Txt.zL:=T.cc8.2.2.2.1
def Txt.jT:=T.cc8.2.2.2.2.1
def Txt.jU:=T.cc8.2.2.2.2.2.1
def Txt.qg:=T.cc8.2.2.2.2.2.2.1
def Txt.jn:=T.cc8.2.2.2.2.2.2.2
def Txt.cc9:L9 K mg a:=T.2.2.2.2.2.2.2.2.2.1
def Txt.qh:=T.cc9.1
def Txt.d7:=T.cc9.2.1
def Txt.VB:=T.cc9.2.2.1
def Txt.Zn:=T.cc9.2.2.2.1
def Txt.b5:=T.cc9.2.2.2.2.1
def Txt.b6:=T.cc9.2.2.2.2.2.1
def Txt.d8:=T.cc9.2.2.2.2.2.2.1
def Txt.jo:=T.cc9.2.2.2.2.2.2.2
def Txt.AZ:F1 K mg a:=T.2.2.2.2.2.2.2.2.2.2.1
def Txt.qF:=T.AZ.1
def Txt.mJ:=T.AZ.2.1
def Txt.QA:=T.AZ.2.2.1
def Txt.XA:=T.AZ.2.2.2.1
def Txt.XB:=T.AZ.2.2.2.2.1
def Txt.qi:=T.AZ.2.2.2.2.2.1
def Txt.b7:=T.AZ.2.2.2.2.2.2.1
def Txt.b8:=T.AZ.2.2.2.2.2.2.2
def Txt.A4:F3 K mg a:=T.2.2.2.2.2.2.2.2.2.2.2.1
def Txt.y8:=T.A4.1
def Txt.y9:=T.A4.2.1
def Txt.qG:=T.A4.2.2.1
def Txt.yo:=T.A4.2.2.2.1
def Txt.UO:=T.A4.2.2.2.2.1
def Txt.UP:=T.A4.2.2.2.2.2.1
def Txt.qH:=T.A4.2.2.2.2.2.2.1
def Txt.mK:=T.A4.2.2.2.2.2.2.2
def Txt.A5:F4 K mg a:=T.2.2.2.2.2.2.2.2.2.2.2.2.1
def Txt.jV:=T.A5.1
def Txt.ve:=T.A5.2.1
def Txt.p9:=T.A5.2.2.1
def Txt.Kb:=T.A5.2.2.2.1
def Txt.d9:=T.A5.2.2.2.2.1
def Txt.XE:=T.A5.2.2.2.2.2.1
def Txt.XF:=T.A5.2.2.2.2.2.2.1
def Txt.XG:=T.A5.2.2.2.2.2.2.2
def Txt.A6:F5 K mg a:=T.2.2.2.2.2.2.2.2.2.2.2.2.2.1
def Txt.gr:=T.A6.1
def Txt.Kc:=T.A6.2.1
def Txt.d_:=T.A6.2.2.1
def Txt.p_:=T.A6.2.2.2.1
def Txt.XH:=T.A6.2.2.2.2.1
def Txt.gu:=T.A6.2.2.2.2.2.1
def Txt.C_:=T.A6.2.2.2.2.2.2.1
def Txt.b9:=T.A6.2.2.2.2.2.2.2
def Txt.A7:F6 K mg a:=T.2.2.2.2.2.2.2.2.2.2.2.2.2.2.1
def Txt.b_:=T.A7.1
def Txt.XI:=T.A7.2.1
def Txt.rg:=T.A7.2.2.1
def Txt.XJ:=T.A7.2.2.2.1
def Txt.XM:=T.A7.2.2.2.2.1
def Txt.Ve:=T.A7.2.2.2.2.2.1
def Txt.rh:=T.A7.2.2.2.2.2.2.1
def Txt.UQ:=T.A7.2.2.2.2.2.2.2
def Txt.A8:F7 K mg a:=T.2.2.2.2.2.2.2.2.2.2.2.2.2.2.2.1
def Txt.XN:=T.A8.1
def Txt.XQ:=T.A8.2.1
def Txt.cf:=T.A8.2.2.1
def Txt.cg:=T.A8.2.2.2.1
def Txt.cj:=T.A8.2.2.2.2.1
def Txt.xq:=T.A8.2.2.2.2.2.1
def Txt.UR:=T.A8.2.2.2.2.2.2.1
def Txt.US:=T.A8.2.2.2.2.2.2.2
def Txt.A9:F8 K mg a:=T.2.2.2.2.2.2.2.2.2.2.2.2.2.2.2.2.1
def Txt.Vf:=T.A9.1
def Txt.mL:=T.A9.2.1
def Txt.Wi:=T.A9.2.2.1
def Txt.Wj:=T.A9.2.2.2.1
def Txt.XR:=T.A9.2.2.2.2.1
def Txt.ri:=T.A9.2.2.2.2.2.1
def Txt.XS:=T.A9.2.2.2.2.2.2.1
def Txt.XT:=T.A9.2.2.2.2.2.2.2
def Txt.A_:F9 K mg a:=T.2.2.2.2.2.2.2.2.2.2.2.2.2.2.2.2.2.1
def Txt.Vg:=T.A_.1
def Txt.mM:=T.A_.2.1
def Txt.Vh:=T.A_.2.2.1
def Txt.Ke:=T.A_.2.2.2.1
def Txt.vy:=T.A_.2.2.2.2.1
def Txt.QB:=T.A_.2.2.2.2.2.1
def Txt.rj:=T.A_.2.2.2.2.2.2.1
def Txt.Kf:=T.A_.2.2.2.2.2.2.2
def Txt.Ba:F_ K mg a:=T.2.2.2.2.2.2.2.2.2.2.2.2.2.2.2.2.2.2.1
def Txt.Wk:=T.Ba.1
def Txt.XU:=T.Ba.2.1
def Txt.XW:=T.Ba.2.2.1
def Txt.yC:=T.Ba.2.2.2.1
def Txt.qd:=T.Ba.2.2.2.2.1
def Txt.UT:=T.Ba.2.2.2.2.2.1
def Txt.yS:=T.Ba.2.2.2.2.2.2.1
def Txt.qI:=T.Ba.2.2.2.2.2.2.2
def Txt.Bb:Ga K mg a:=T.2.2.2.2.2.2.2.2.2.2.2.2.2.2.2.2.2.2.2.1
def Txt.iQ:=T.Bb.1
def Txt.qJ:=T.Bb.2.1
def Txt.ZY:=T.Bb.2.2.1
def Txt.jB:=T.Bb.2.2.2.1
def Txt.ck:=T.Bb.2.2.2.2.1
def Txt.qw:=T.Bb.2.2.2.2.2.1
def Txt.UU:=T.Bb.2.2.2.2.2.2.1
def Txt.iR:=T.Bb.2.2.2.2.2.2.2
def Txt.Gd:Gb K mg a:=T.2.2.2.2.2.2.2.2.2.2.2.2.2.2.2.2.2.2.2.2
def Txt.wd:=T.Gd.1
def Txt.jW:=T.Gd.2.1
def Txt.vz:=T.Gd.2.2.1
def Txt.kH:=T.Gd.2.2.2.1
def Txt.je:=T.Gd.2.2.2.2
end
def cls (a:Adr):Nat->Addr
 | 0=>a.Y1
 | 1=>a.kr
 | 2=>a.jg
 | 3=>a.vP
 | 4=>a.Y2
 | 5=>a.jF
 | 6=>a.jG
 | 7=>a.k9
 | 8=>a.js
 | 9=>a.ky
 | 10=>a.Y3
 | 11=>a.ZR
 | 12=>a.qo
 | 13=>a.yx
 | _=>0
abbrev WW (K:Nw) (a:Adr):RC:=⟨K,cls a⟩
abbrev aC:MS:=
  (yk (qW 3 (mC (.i 5)))
  (yk (sIf (yK (mOp pGt (zm Ze (zb (zc 0) zr)) (mC (.i 0)))) (qW 3 (mOp Jt (mOp pIx (zc 0) (mOp Jt (zc 1) (zm Ze (zb (zc 0) zr)))) (mC (.i 1000000007)))) yA)
  (vk (mOp Jt (mOp mj (mOp Jt (mOp jd (mOp yj (mOp yj (zc 3) (mOp jd (mC (.i 37)) (zc 1))) (mC (.i 1))) (mOp yj (mC (.i 48271)) (mOp jd (zc 1) (zc 1)))) (mC (.i 2147483647))) (mC (.i 7))) (zc 2)))))
def zt:List PV->Out PV:=Zs false 4 aC
abbrev vA:MG:=
  (gNm 3)
abbrev vB:MS:=
  (dP 2 (zb (zc 3) (zb (zc 3) zr)) (mC (.i 0)))
abbrev vC:MG:=
  (gTp 3 (jN (gNm 4) (jN (gNm 5) (jN (gNm 6) my))))
abbrev vD:MS:=
  (sIf (mOr (yK (gi true (zb (zc 4) (zb (zc 5) zr)) (zc 2))) (yK (mOp pLt (zc 6) (ny (zc 2) (zb (zc 4) (zb (zc 5) zr)))))) (dP 2 (zb (zc 4) (zb (zc 5) zr)) (zc 6)) yA)
abbrev vE:MG:=
  (gNm 5)
abbrev jC:MS:=
  (sIf (tN (yK (gi false (zb (zc 4) (zb (zc 7) zr)) (zc 2))) (yK (gi false (zb (zc 7) (zb (zc 5) zr)) (zc 2)))) (yk (qW 8 (mOp yj (ny (zc 2) (zb (zc 4) (zb (zc 7) zr))) (ny (zc 2) (zb (zc 7) (zb (zc 5) zr)))))
  (sIf (mOr (yK (gi true (zb (zc 4) (zb (zc 5) zr)) (zc 2))) (yK (mOp pLt (zc 8) (ny (zc 2) (zb (zc 4) (zb (zc 5) zr)))))) (dP 2 (zb (zc 4) (zb (zc 5) zr)) (zc 8)) yA)) yA)
abbrev vF:MG:=
  (gNm 4)
abbrev vG:MS:=
  (Wd (yV (zc 0)) vE jC)
abbrev vH:MG:=
  (gNm 7)
abbrev vI:MS:=
  (Wd (yV (zc 0)) vF vG)
abbrev Kg:MS:=
  (yk (qW 2 AQ)
  (yk (Wd (yV (zc 0)) vA vB)
  (yk (Wd (yV (zc 1)) vC vD)
  (yk (Wd (yV (zc 0)) vH vI)
  (vk (zc 2))))))
def qK:List PV->Out PV:=Zs true 9 Kg
abbrev ZZ:MS:=
  (vk (W5 (zb (mOp pIx (zc 0) (mC (.i 3))) (zb (mOp pIx (zc 0) (mC (.i 4))) (zb (mOp pIx (zc 0) (mC (.i 0))) zr)))))
def zJ:List PV->Out PV:=Zs false 1 ZZ
abbrev wO:MG:=
  (gNm 4)
abbrev wQ:MS:=
  (yk (qW 3 (mOp ig (mOp yj (zc 3) (mOp pIx (mOp pIx (zc 2) (zc 4)) (mC (.i 4)))) (mOp pIx (mOp pIx (zc 2) (zc 4)) (mC (.i 3)))))
  (sIf (yK (mOp pGt (zc 4) (mC (.i 0)))) (qW 3 (mOp yj (zc 3) (ny (zc 0) (zb (mOp pIx (mOp pIx (zc 2) (mOp ig (zc 4) (mC (.i 1)))) (mC (.i 2))) (zb (mOp pIx (mOp pIx (zc 2) (zc 4)) (mC (.i 1))) zr))))) yA))
abbrev VC:MS:=
  (yk (qW 3 (mOp yj (p5 (zc 0) (zb (zc 1) (zb (mOp pIx (mOp pIx (zc 2) (mC (.i 0))) (mC (.i 1))) zr)) (mC (.i 0))) (p5 (zc 0) (zb (mOp pIx (mOp pIx (zc 2) (mUn nq (mC (.i 1)))) (mC (.i 2))) (zb (zc 1) zr)) (mC (.i 0)))))
  (yk (Wd (Xa (zb (zm Ze (zb (zc 2) zr)) zr)) wO wQ)
  (vk (zc 3))))
def ya:List PV->Out PV:=Zs false 5 VC
abbrev Kh:MG:=
  (gNm 3)
abbrev Ki:MS:=
  (yk (He (gTp 6 (jN (gNm 4) (jN (gNm 5) (jN (gNm 6) (jN (gNm 7) (jN (gNm 8) (jN (gNm 9) my))))))) (mOp pIx (zc 0) (zc 3)))
  (uL 2 (W5 (zb (zc 4) (zb (zc 5) (zb (zc 6) (zb (mOp yj (zc 7) (mOp jd (zc 3) (zc 1))) (zb (mOp yj (mOp yj (zc 8) (mOp jd (zc 3) (zc 1))) (zc 1)) (zb (zc 9) zr)))))))))
abbrev XX:MS:=
  (yk (qW 2 (W4 zr))
  (yk (Wd (Xa (zb (zm Ze (zb (zc 0) zr)) zr)) Kh Ki)
  (vk (zc 2))))
def jX:List PV->Out PV:=Zs true 10 XX
abbrev Z0:MG:=
  (gTp 3 (jN (gNm 4) (jN (gNm 5) (jN (gNm 6) my))))
abbrev qX:MS:=
  (sIf (yK (mOp (pIn false) (zc 4) (zc 2))) (yk (qW 7 (mOp yj (mOp pIx (zc 2) (zc 4)) (zc 6)))
  (sIf (mOr (yK (mOp (pIn true) (zc 5) (zc 2))) (yK (mOp pLt (zc 7) (mOp pIx (zc 2) (zc 5))))) (yk (Co 2 (zc 5) (zc 7))
  (qW 3 (mC (.b true)))) yA)) yA)
abbrev qY:MT:=
  (yK (zc 3))
abbrev yM:MS:=
  (yk (qW 3 (mC (.b false)))
  (Wd (yV (zc 1)) Z0 qX))
abbrev QM:MS:=
  (yk (qW 2 (mD1 (zc 0) (mC (.i 0))))
  (yk (qW 3 (mC (.b true)))
  (yk (ar qY yM)
  (vk (zc 2)))))
def yE:List PV->Out PV:=Zs true 8 QM
abbrev Kj:MS:=
  (vk (zm YC (zb (JR [11] "places" (zc 0)) zr)))
def yP:List PV->Out PV:=Zs true 1 Kj
abbrev VD:MG:=
  (gNm 6)
abbrev VE:MS:=
  (sIf (yK (zc 3)) (uL 5 (W5 (zb (mOp pIx (zc 1) (zc 6)) (zb (mOp pIx (zc 1) (mOp Jt (mOp yj (zc 6) (mC (.i 1))) (zc 4))) (zb (mOp yj (mC (.i 1)) (zm zt (zb (zc 0) (zb (mOp yj (mC (.i 10)) (zc 6)) (zb (mOp jd (mC (.i 30)) (zc 2)) zr))))) zr))))) yA)
abbrev VF:MG:=
  (gNm 6)
abbrev VG:MS:=
  (yk (qW 7 (zm zt (zb (zc 0) (zb (mOp yj (mC (.i 20)) (zc 6)) (zb (mOp jd (zc 4) (zc 4)) zr)))))
  (uL 5 (W5 (zb (mOp pIx (zc 1) (mOp Jt (zc 7) (zc 4))) (zb (mOp pIx (zc 1) (mOp mj (zc 7) (zc 4))) (zb (mOp yj (mC (.i 1)) (zm zt (zb (zc 0) (zb (mOp yj (mC (.i 30)) (zc 6)) (zb (mOp jd (mC (.i 30)) (zc 2)) zr))))) zr))))))
abbrev aE:MS:=
  (yk (qW 4 (zm Ze (zb (zc 1) zr)))
  (yk (qW 5 (W4 zr))
  (yk (Wd (Xa (zb (zc 4) zr)) VD VE)
  (yk (Wd (Xa (zb (zm zt (zb (zc 0) (zb (mC (.i 4)) (zb (mC (.i 9)) zr)))) zr)) VF VG)
  (vk (zc 5))))))
def vf:List PV->Out PV:=Zs true 8 aE
abbrev aF:MS:=
  (yk (qW 3 (zm zt (zb (zc 0) (zb (zc 1) (zb (mC (.i 11)) zr)))))
  (yk (qW 4 (mOp yj (zm zt (zb (zc 0) (zb (mOp yj (zc 1) (mC (.i 1))) (zb (mOp ig (mC (.i 11)) (zc 3)) zr)))) (mOp Jt (zc 2) (mC (.i 2)))))
  (vk (mOp yj (mOp yj (mOp jd (mC (.s "x")) (zc 3)) (mOp pIx (mC (.s "abcdefghijklmnopqrstuvwyz0123456789")) (zc 2))) (mOp jd (mC (.s "x")) (zc 4))))))
def qL:List PV->Out PV:=Zs false 5 aF
abbrev QN:MG:=
  (gNm 0)
abbrev QO:MT:=
  pd
abbrev QP:ME:=
  (zm ya (zb (zc 1) (zb (zc 2) (zb (W4 (zb (zc 0) zr)) zr))))
abbrev XY:MS:=
  (yk (qW 4 (zm zt (zb (zc 0) (zb (mC (.i 100)) (zb (mC (.i 8)) zr)))))
  (yk (sIf (mOr (yK (mOp (JQ false) (zc 4) (mC (.i 0)))) (yK (mOp (JQ false) (zc 3) (W4 zr)))) (vk (mOp pIx (W4 (zb (mOp fO (mC (.i 10)) (mC (.i 60))) (zb (mOp ig (mC (.i 0)) (zm zt (zb (zc 0) (zb (mC (.i 101)) (zb (mOp fO (mC (.i 10)) (mC (.i 8))) zr))))) zr))) (zm zt (zb (zc 0) (zb (mC (.i 102)) (zb (mC (.i 2)) zr)))))) yA)
  (yk (qW 5 (zm Ax (zb (mLC (yV (zc 3)) [none,some 1,some 2] QN QO QP) zr)))
  (yk (sIf (yK (mOp pLt (zc 4) (mC (.i 5)))) (yk (qW 6 (zm zt (zb (zc 0) (zb (mC (.i 101)) (zb (zm Ze (zb (zc 3) zr)) zr)))))
  (yk (qW 7 (mOp yj (mOp yj (zc 6) (mC (.i 1))) (zm zt (zb (zc 0) (zb (mC (.i 102)) (zb (mOp ig (zm Ze (zb (zc 3) zr)) (zc 6)) zr))))))
  (vk (zm Ax (zb (zc 5) (zb (mOp ig (zm ya (zb (zc 1) (zb (zc 2) (zb (mSl pSl (zc 3) (vW (zc 6)) (vW (zc 7))) zr)))) (mOp Jt (zc 4) (mC (.i 2)))) zr)))))) yA)
  (yk (sIf (yK (mOp (JQ false) (zc 4) (mC (.i 5)))) (vk (mOp ig (zc 5) (zm zt (zb (zc 0) (zb (mC (.i 102)) (zb (mC (.i 2)) zr)))))) yA)
  (vk (mOp yj (zc 5) (zm zt (zb (zc 0) (zb (mC (.i 101)) (zb (mOp yj (mC (.i 1)) (zc 5)) zr)))))))))))
def jY:List PV->Out PV:=Zs false 8 XY
abbrev vJ:MG:=
  (gNm 4)
abbrev jZ:MS:=
  (yk (sIf (yK (gi true (zb (zc 1) (zb (mOp pIx (zc 4) (mC (.i 1))) zr)) (zc 0))) (vk (W5 (zb (mC (.s "way")) (zb (zc 1) (zb (mOp pIx (zc 4) (mC (.i 1))) zr))))) yA)
  (yk (sIf (yK (gi true (zb (mOp pIx (zc 4) (mC (.i 2))) (zb (zc 1) zr)) (zc 0))) (vk (W5 (zb (mC (.s "way")) (zb (mOp pIx (zc 4) (mC (.i 2))) (zb (zc 1) zr))))) yA)
  (sIf (yK (mOp pGt (zm ya (zb (zc 0) (zb (zc 1) (zb (W4 (zb (zc 4) zr)) zr)))) (zc 3))) (vk (W5 (zb (mC (.s "long")) (zb (mOp pIx (zc 4) (mC (.i 0))) zr)))) yA)))
abbrev ej:MS:=
  (yk (Wd (yV (zc 2)) vJ jZ)
  (vk (W5 (zb (mC (.s "right")) zr))))
def Zo:List PV->Out PV:=Zs false 5 ej
abbrev ZL:MG:=
  (gNm 0)
abbrev ZM:MT:=
  pd
abbrev ZN:ME:=
  (mOp pIx (zc 0) (mC (.i 0)))
abbrev VH:MG:=
  (gNm 6)
abbrev wg:MS:=
  (yk (sIf (mOr (uE (yK (mUn (Az [(.list,true)]) (zc 6)))) (yK (mOp (JQ false) (zm Ze (zb (zc 6) zr)) (mC (.i 0))))) (vk (mC (.b false))) yA)
  (yk (qW 7 (mOp yj (zc 5) (zm Ze (zb (zc 6) zr))))
  (yk (sIf (mOr (yK (mOp pGt (zc 7) (zm Ze (zb (zc 2) zr)))) (yK (mOp (JQ true) (zc 6) (mLC (yV (mSl pSl (zc 2) (vW (zc 5)) (vW (zc 7)))) [none] ZL ZM ZN)))) (vk (mC (.b false))) yA)
  (yk (sIf (yK (mOp pGt (zm ya (zb (zc 0) (zb (zc 1) (zb (mSl pSl (zc 2) (vW (zc 5)) (vW (zc 7))) zr)))) (zc 3))) (vk (mC (.b false))) yA)
  (yk (sIf (tN (yK (mOp pLt (zc 7) (zm Ze (zb (zc 2) zr)))) (yK (mOp pLe (zm ya (zb (zc 0) (zb (zc 1) (zb (mSl pSl (zc 2) (vW (zc 5)) (vW (mOp yj (zc 7) (mC (.i 1))))) zr)))) (zc 3)))) (vk (mC (.b false))) yA)
  (qW 5 (zc 7)))))))
abbrev aG:MS:=
  (yk (sIf (uE (yK (mUn (Az [(.list,true)]) (zc 4)))) (vk (mC (.b false))) yA)
  (yk (qW 5 (mC (.i 0)))
  (yk (Wd (yV (zc 4)) VH wg)
  (vk (mOp (JQ false) (zc 5) (zm Ze (zb (zc 2) zr)))))))
def j0:List PV->Out PV:=Zs false 8 aG
abbrev Kk:MG:=
  (gNm 8)
abbrev ZO:MS:=
  (yk (qW 9 (mOp pIx (zc 1) (zm zt (zb (zc 0) (zb (mOp yj (mC (.i 40)) (mOp jd (mC (.i 5)) (zc 8))) (zb (zm Ze (zb (zc 1) zr)) zr))))))
  (yk (sIf (yK (gi true (zb (zc 6) (zb (zc 9) zr)) (zc 2))) (qW 9 (zc 6)) yA)
  (yk (qW 10 (mOp pIx (zc 1) (zm zt (zb (zc 0) (zb (mOp yj (mC (.i 41)) (mOp jd (mC (.i 5)) (zc 8))) (zb (zm Ze (zb (zc 1) zr)) zr))))))
  (yk (sIf (yK (gi true (zb (zc 9) (zb (zc 10) zr)) (zc 2))) (qW 10 (zc 9)) yA)
  (yk (qW 11 (mOp jd (zm zt (zb (zc 0) (zb (mOp yj (mC (.i 42)) (mOp jd (mC (.i 5)) (zc 8))) (zb (mC (.i 2)) zr)))) (zm zt (zb (zc 0) (zb (mOp yj (mC (.i 43)) (mOp jd (mC (.i 5)) (zc 8))) (zb (mOp jd (mC (.i 30)) (zc 3)) zr))))))
  (yk (qW 12 (mOp jd (mOp Jt (zm zt (zb (zc 0) (zb (mOp yj (mC (.i 44)) (mOp jd (mC (.i 5)) (zc 8))) (zb (mC (.i 3)) zr)))) (mC (.i 2))) (zm zt (zb (zc 0) (zb (mOp yj (mC (.i 45)) (mOp jd (mC (.i 5)) (zc 8))) (zb (mOp jd (mC (.i 30)) (zc 3)) zr))))))
  (yk (qW 13 (mOp yj (mOp yj (zc 7) (ny (zc 2) (zb (zc 6) (zb (zc 9) zr)))) (zc 11)))
  (yk (qW 7 (zm Ax (zb (mOp yj (zc 13) (mC (.i 1))) (zb (mOp yj (mOp yj (zc 13) (ny (zc 2) (zb (zc 9) (zb (zc 10) zr)))) (zc 12)) zr))))
  (yk (uL 5 (W5 (zb (zm qL (zb (zc 0) (zb (mC (.i 7)) (zb (zc 8) zr)))) (zb (zc 9) (zb (zc 10) (zb (zc 13) (zb (zc 7) (zb (zm zt (zb (zc 0) (zb (mOp yj (mC (.i 46)) (mOp jd (mC (.i 5)) (zc 8))) (zb (mC (.i 7)) zr)))) zr))))))))
  (qW 6 (zc 10)))))))))))
abbrev XZ:MS:=
  (yk (qW 5 (W4 zr))
  (yk (qW 6 (mOp pIx (zc 1) (zm zt (zb (zc 0) (zb (mC (.i 5)) (zb (zm Ze (zb (zc 1) zr)) zr))))))
  (yk (qW 7 (mOp yj (mOp jd (mC (.i 150)) (zc 3)) (zm zt (zb (zc 0) (zb (mC (.i 6)) (zb (mOp jd (mC (.i 1440)) (zc 3)) zr))))))
  (yk (Wd (Xa (zb (zc 4) zr)) Kk ZO)
  (vk (zc 5))))))
def j3:List PV->Out PV:=Zs true 14 XZ
abbrev VI:MS:=
  (sIf (yK (mOp pGt (zm Ze (zb (zc 0) zr)) (zc 1))) (vm 3 ["most"] (zb (zc 1) zr)) yA)
def yQ:List PV->Out PV:=Zs false 2 VI
abbrev Z1:MG:=
  (gNm 1)
abbrev qZ:MS:=
  (sIf (yK (mOp (pIn true) (zc 1) (mC (.s "abcdefghijklmnopqrstuvwxyz0123456789")))) (vm 1 ["name"] (zb (zc 0) zr)) yA)
abbrev QQ:MS:=
  (yk (sIf (mOr (yK (mOp pLt (zm Ze (zb (zc 0) zr)) (mC (.i 1)))) (yK (mOp pGt (zm Ze (zb (zc 0) zr)) (mC (.i 12))))) (vm 1 ["name"] (zb (zc 0) zr)) yA)
  (yk (Wd (dO (zc 0)) Z1 qZ)
  (vk (zc 0))))
def qj:List PV->Out PV:=Zs false 2 QQ
abbrev Kl:MS:=
  (sIf (yK (mOp (pIn true) (zc 0) (zc 1))) (vm 5 ["name"] (zb (zc 0) zr)) yA)
def yp:List PV->Out PV:=Zs false 2 Kl
abbrev Z2:MS:=
  (yk (sIf (mOr (yK (mOp pLt (zc 0) (zc 1))) (yK (mOp pGt (zc 0) (mC (.i 1000000000))))) (vm 2 ["value"] (zb (zc 0) zr)) yA)
  (vk (zc 0)))
def zU:List PV->Out PV:=Zs false 2 Z2
abbrev VJ:MS:=
  (yk (sIf (yK (mOp (pIn true) (zc 1) (JR [10] "by_name" (zc 0)))) (vm 7 ["name"] (zb (zc 1) zr)) yA)
  (vk (mOp pIx (JR [10] "by_name" (zc 0)) (zc 1))))
def zB:List PV->Out PV:=Zs false 2 VJ
abbrev wj:MS:=
  (yk (jv (zm qj (zb (zc 0) zr)))
  (yk (sIf (yK (mOp (pIn false) (zc 0) (zc 1))) (vm 4 ["name"] (zb (zc 0) zr)) yA)
  (vk (zc 0))))
def z9:List PV->Out PV:=Zs false 2 wj
abbrev QR:MS:=
  (yk (jv (zm yp (zb (zc 1) (zb (JR [11] "places" (zc 0)) zr))))
  (yk (jv (zm yp (zb (zc 2) (zb (JR [11] "places" (zc 0)) zr))))
  (vk (Hh (mOp pIx (JR [11] "lengths" (zc 0)) (zc 1)) (zc 2)))))
def zy:List PV->Out PV:=Zs false 3 QR
abbrev QS:MG:=
  (gTp 3 (jN (gNm 2) (jN (gNm 3) (jN (gNm 4) my))))
abbrev ke:MS:=
  (yk (jv (zm yp (zb (zc 2) (zb (zc 0) zr))))
  (yk (jv (zm yp (zb (zc 3) (zb (zc 0) zr))))
  (jv (zm zU (zb (zc 4) (zb (mC (.i 1)) zr))))))
abbrev VL:MS:=
  (Wd (yV (zc 1)) QS ke)
def jq:List PV->Out PV:=Zs false 5 VL
abbrev YU:MG:=
  (gNm 2)
abbrev YV:MS:=
  (jv (vi [(10,zB)] "trip" (zc 0) (zb (zc 2) zr)))
abbrev Km:MS:=
  (Wd (yV (zc 1)) YU YV)
def qM:List PV->Out PV:=Zs false 3 Km
abbrev VM:MS:=
  (yk (jv (zm z9 (zb (mOp pIx (zc 1) (mC (.i 0))) (zb (zc 2) zr))))
  (yk (qW 3 (vi [(11,zy)] "length" (zc 0) (zb (mOp pIx (zc 1) (mC (.i 1))) (zb (mOp pIx (zc 1) (mC (.i 2))) zr))))
  (yk (jv (zm zU (zb (mOp pIx (zc 1) (mC (.i 3))) (zb (mC (.i 0)) zr))))
  (yk (jv (zm zU (zb (mOp pIx (zc 1) (mC (.i 4))) (zb (mC (.i 0)) zr))))
  (yk (jv (zm zU (zb (mOp pIx (zc 1) (mC (.i 5))) (zb (mC (.i 0)) zr))))
  (yk (sIf (yK (mOp pLe (mOp pIx (zc 1) (mC (.i 4))) (mOp pIx (zc 1) (mC (.i 3))))) (vm 8 ["name"] (zb (mOp pIx (zc 1) (mC (.i 0))) zr)) yA)
  (yk (sIf (yK (mOp (uD false) (zc 3) (mC .n))) (vm 6 ["origin","goal"] (zb (mOp pIx (zc 1) (mC (.i 1))) (zb (mOp pIx (zc 1) (mC (.i 2))) zr))) yA)
  (sIf (yK (mOp pLt (mOp ig (mOp pIx (zc 1) (mC (.i 4))) (mOp pIx (zc 1) (mC (.i 3)))) (zc 3))) (vm 9 ["name"] (zb (mOp pIx (zc 1) (mC (.i 0))) zr)) yA))))))))
def qx:List PV->Out PV:=Zs false 4 VM
abbrev Z3:MG:=
  (gNm 2)
abbrev q_:MS:=
  (yk (jv (zm z9 (zb (zc 2) (zb (zc 1) zr))))
  (Co 1 (zc 2) (mC (.b true))))
abbrev QT:MS:=
  (yk (qW 1 uR)
  (Wd (yV (zc 0)) Z3 q_))
def qk:List PV->Out PV:=Zs false 3 QT
abbrev Dc:MS:=
  (yk (qW 3 (vi [(10,zB)] "trip" (zc 0) (zb (zc 1) zr)))
  (yk (qW 4 (vi [(10,zB)] "trip" (zc 0) (zb (zc 2) zr)))
  (yk (qW 5 (vi [(11,zy)] "length" (JR [10] "roads" (zc 0)) (zb (mOp pIx (zc 3) (mC (.i 2))) (zb (mOp pIx (zc 4) (mC (.i 1))) zr))))
  (yk (sIf (yK (mOp (uD false) (zc 5) (mC .n))) (vk (mC .n)) yA)
  (vk (mOp ig (mOp ig (mOp pIx (zc 4) (mC (.i 3))) (mOp pIx (zc 3) (mC (.i 4)))) (zc 5)))))))
def mN:List PV->Out PV:=Zs false 6 Dc
abbrev X0:MS:=
  (sIf (yK (mOp (uD false) (vi [(11,zy)] "length" (zc 0) (zb (zc 1) (zb (zc 2) zr))) (mC .n))) (vm 6 ["origin","goal"] (zb (zc 1) (zb (zc 2) zr))) yA)
def jf:List PV->Out PV:=Zs false 3 X0
abbrev jD:HMG:=
  (hgN 3)
abbrev yY:HMS:=
  (Zf (Xh (hP [true,true,false,true] (zm qx (zb (zc 1) (zb (zc 3) (zb (JR [10] "by_name" (zc 0)) zr))))))
  (FL (FI [10] "by_name" (yB 0)) (hP [false,false,false,true] (mOp pIx (zc 3) (mC (.i 0)))) (yB 3)))
abbrev vL:MG:=
  (gNm 0)
abbrev vM:MT:=
  pd
abbrev vN:ME:=
  (mOp pIx (zc 0) (mC (.i 0)))
abbrev k7:HMS:=
  (Zf (Xh (hP [false,false,true] (zm yQ (zb (zc 2) (zb (mC (.i 40)) zr)))))
  (Zf (bN [10] "roads" (yB 0) (yB 1))
  (Zf (bN [10] "by_name" (yB 0) (hF [] uR))
  (Zf (CQ [false,false,true] (yV (zc 2)) jD yY)
  (bN [10] "order" (yB 0) (hP [false,false,true] (mLC (yV (iK zJ (zb (zc 2) zr))) [none] vL vM vN)))))))
def k8:List HV->AH->HX HV:=tT 4 k7
abbrev YW:MG:=
  (gNm 0)
abbrev YX:MT:=
  pd
abbrev YY:ME:=
  (W5 (zb (zc 0) (zb (zm yE (zb (zc 0) (zb (zc 1) zr))) zr)))
abbrev wm:MS:=
  (yk (jv (zm yQ (zb (zc 1) (zb (mC (.i 12)) zr))))
  (yk (jv (zm yQ (zb (zc 2) (zb (mC (.i 60)) zr))))
  (yk (jv (zm qk (zb (zc 1) zr)))
  (yk (jv (zm jq (zb (zc 1) (zb (zc 2) zr))))
  (yk (fY 0 [11] "places" (zm YC (zb (zc 1) zr)))
  (yk (fY 0 [11] "ways" (zm YC (zb (zc 2) zr)))
  (fY 0 [11] "lengths" (zm dM (zb (mLC (yV (zc 1)) [none,some 2] YW YX YY) zr)))))))))
def y6:List PV->Out PV:=Iz 11 2 wm
abbrev iS:MS:=
  (yk (qW 3 (zm mN (zb (zc 0) (zb (zc 1) (zb (zc 2) zr)))))
  (vk (uF (mOp (uD true) (zc 3) (mC .n)) (mOp pGe (zc 3) (mC (.i 0))))))
def QC:List PV->Out PV:=Zs false 4 iS
abbrev Z4:MG:=
  (gTp 2 (jN (gNm 2) (jN (gNm 3) my)))
abbrev Z5:MS:=
  (sIf (uE (yK (zm QC (zb (zc 0) (zb (zc 2) (zb (zc 3) zr)))))) (vm 12 ["first","second"] (zb (zc 2) (zb (zc 3) zr))) yA)
abbrev QU:MS:=
  (yk (jv (zm qM (zb (zc 0) (zb (zc 1) zr))))
  (Wd (Hm (zb (zc 1) (zb (mSl pSl (zc 1) (vW (mC (.i 1))) Iy) zr))) Z4 Z5))
def ql:List PV->Out PV:=Zs false 4 QU
abbrev X3:MS:=
  (yk (jv (zm yp (zb (zc 1) (zb (vi [(11,yP)] "names" (JR [10] "roads" (zc 0)) zr) zr))))
  (jv (zm ql (zb (zc 0) (zb (zc 2) zr)))))
def qy:List PV->Out PV:=Zs false 3 X3
abbrev Kn:MS:=
  (yk (jv (zm qy (zb (zc 0) (zb (zc 1) (zb (zc 2) zr)))))
  (sIf (yK (mOp pGt (zm Ze (zb (zc 2) zr)) (mC (.i 0)))) (yk (jv (zm jf (zb (JR [10] "roads" (zc 0)) (zb (zc 1) (zb (mOp pIx (vi [(10,zB)] "trip" (zc 0) (zb (mOp pIx (zc 2) (mC (.i 0))) zr)) (mC (.i 1))) zr)))))
  (jv (zm jf (zb (JR [10] "roads" (zc 0)) (zb (mOp pIx (vi [(10,zB)] "trip" (zc 0) (zb (mOp pIx (zc 2) (mUn nq (mC (.i 1)))) zr)) (mC (.i 2))) (zb (zc 1) zr)))))) yA))
def y_:List PV->Out PV:=Zs false 3 Kn
abbrev Z6:MG:=
  (gNm 5)
abbrev ja:MS:=
  (yk (qW 6 (vi [(10,zB)] "trip" (zc 0) (zb (zc 5) zr)))
  (yk (Fj 4 (pI fun a b=>.i (a + b)) (mOp ig (mOp yj (vi [(11,zy)] "length" (JR [10] "roads" (zc 0)) (zb (zc 3) (zb (mOp pIx (zc 6) (mC (.i 1))) zr))) (mOp pIx (zc 6) (mC (.i 4)))) (mOp pIx (zc 6) (mC (.i 3)))))
  (qW 3 (mOp pIx (zc 6) (mC (.i 2))))))
abbrev QV:MS:=
  (yk (jv (zm y_ (zb (zc 0) (zb (zc 1) (zb (zc 2) zr)))))
  (yk (qW 3 (zc 1))
  (yk (qW 4 (mC (.i 0)))
  (yk (Wd (yV (zc 2)) Z6 ja)
  (vk (mOp yj (zc 4) (vi [(11,zy)] "length" (JR [10] "roads" (zc 0)) (zb (zc 3) (zb (zc 1) zr)))))))))
def zV:List PV->Out PV:=Zs false 7 QV
abbrev Ko:MS:=
  (sIf (yK (mOp pGt (zm zV (zb (zc 0) (zb (zc 1) (zb (W4 (zb (zc 2) zr)) zr)))) (zc 3))) (vm 13 ["name"] (zb (zc 2) zr)) yA)
def qN:List PV->Out PV:=Zs false 4 Ko
abbrev iT:HMG:=
  (hgN 4)
abbrev iU:HMS:=
  (Xh (hP [true,true,false,true,true] (zm qN (zb (zc 0) (zb (zc 1) (zb (zc 4) (zb (zc 3) zr)))))))
abbrev cq:HMG:=
  (hgN 4)
abbrev cw:HMS:=
  (hIf (hPT [true,true,false,true,true,true] (tN (yK (mOp pGt (zm Ze (zb (zc 5) zr)) (mC (.i 0)))) (yK (mOp pLe (zm zV (zb (zc 0) (zb (zc 1) (zb (mOp yj (mOp pIx (zc 5) (mUn nq (mC (.i 1)))) (W4 (zb (zc 4) zr))) zr)))) (zc 3))))) (pS (hIx (yB 5) (hP [] (mUn nq (mC (.i 1))))) (yB 4)) (pS (yB 5) (hF [false,false,false,false,true] (W4 (zb (zc 4) zr)))))
abbrev Bc:HMS:=
  (Zf (Xh (hP [true,true,true] (zm qy (zb (zc 0) (zb (zc 1) (zb (zc 2) zr))))))
  (Zf (gh (yB 2) iT iU)
  (Zf (Jw 5 (hF [] (W4 zr)))
  (Zf (gh (yB 2) cq cw)
  (nu (yB 5))))))
def aH:List HV->AH->HX HV:=tT 6 Bc
abbrev VN:HMS:=
  (Zf (Jw 4 (hF [] (W4 zr)))
  (Zf (bO [6] [13] (Jw 4 (az aH (zF (yB 0) (zF (yB 1) (zF (yB 2) (zF (yB 3) K5)))))) 5 (nu (hP [false,false,false,false,false,true] (W5 (zb (W5 (zb (mC (.s "way")) (zb (fW [6] "origin" (zc 5)) (zb (fW [6] "goal" (zc 5)) zr)))) (zb (mC .n) zr))))) (Zf (Jw 6 (hP [false,false,false,false,false,true] (Ip (mUn (Az [(.exc 13,false)]) (zc 5)) (Ip (mUn (Az [(.exc 13,false)]) (zc 5)) (mUn (Az [(.exc 13,false)]) (zc 5))))))
  (Zf (hIf (hPT [false,false,false,false,false,true,true] (mOr (yK (zc 6)) (uE (yK (mUn (Az [(.exc 13,true)]) (zc 5)))))) (nu (hP [] (W5 (zb (W5 (zb (mC (.s "other")) zr)) (zb (mC .n) zr))))) mG)
  (nu (hP [false,false,false,false,false,true] (W5 (zb (W5 (zb (mC (.s "long")) (zb (fW [1,4,5,7,8,9,13] "name" (zc 5)) zr))) (zb (mC .n) zr))))))))
  (nu (iF (zF (hP [] (W5 (zb (mC (.s "right")) zr))) (zF (yB 4) K5))))))
def km:List HV->AH->HX HV:=tT 7 VN
abbrev iV:MG:=
  (gNm 0)
abbrev iW:MT:=
  pd
abbrev iX:ME:=
  (zm qL (zb (zc 1) (zb (mC (.i 0)) (zb (zc 0) zr))))
abbrev xt:MG:=
  (gNm 0)
abbrev xu:MT:=
  pd
abbrev xw:ME:=
  (mOp pIx (zc 0) (mC (.i 0)))
abbrev iY:MG:=
  (gNm 0)
abbrev iZ:MT:=
  pd
abbrev i4:ME:=
  (mOp pIx (zc 0) (mC (.i 0)))
abbrev cy:HMG:=
  (hgN 21)
abbrev cz:HMS:=
  (pS (yB 21) (hP [] (mC (.s "more"))))
abbrev WO:HMG:=
  (hgT 4 (Xi (hgN 13) (Xi (hgN 14) (Xi (hgN 15) (Xi (hgN 16) CP)))))
abbrev Kp:HMS:=
  (Zf (Jw 17 (hF [false,false,false,false,false,true] (mLC (yV (zc 5)) [none] xt xu xw)))
  (Zf (Jw 18 (hP [false,false,false,false,true,false,false,false,false,false,false,false,false,false,true,true,true] (zm Zo (zb (zc 4) (zb (zc 15) (zb (zc 14) (zb (zc 16) zr)))))))
  (Zf (Hg (hgT 2 (Xi (hgN 19) (Xi (hgN 20) CP))) (pP km (zF (yB 13) (zF (yB 15) (zF (yB 17) (zF (yB 16) K5))))))
  (Zf (hIf (hPT [false,false,false,false,false,true,false,false,false,false,false,false,false,false,false,false,false,true,true,true] (mOr (yK (mOp (JQ true) (zc 19) (zc 18))) (yK (mOp (JQ true) (zc 17) (mLC (yV (zc 5)) [none] iY iZ i4))))) (nu (hP [] (mC (.b false)))) mG)
  (Zf (hIf (hPT [false,false,false,false,false,false,false,false,false,false,false,false,false,false,false,false,false,false,true] (yK (mOp (JQ false) (zc 18) (W5 (zb (mC (.s "right")) zr))))) (Zf (hIf (hPT [false,false,false,false,true,false,false,false,false,false,false,false,false,false,true,true,true,false,false,false,true] (uE (yK (zm j0 (zb (zc 4) (zb (zc 15) (zb (zc 14) (zb (zc 16) (zb (zc 20) zr))))))))) (nu (hP [] (mC (.b false)))) mG)
  (Zf (gh (yB 20) cy cz)
  (pS (yB 20) (hF [] (W4 (zb (mC (.s "more")) zr)))))) mG)
  (pS (yB 17) (hP [] (mC (.s "more")))))))))
abbrev Bd:HMS:=
  (Zf (Jw 1 (hP [true] (mOp pIx (W4 (zb (mC (.i 1)) (zb (mC (.i 40)) (zb (mC (.i 100000)) zr)))) (zm zt (zb (zc 0) (zb (mC (.i 3)) (zb (mC (.i 3)) zr)))))))
  (Zf (Jw 2 (hP [true] (mLC (Xa (zb (mOp yj (mC (.i 1)) (zm zt (zb (zc 0) (zb (mC (.i 2)) (zb (mC (.i 5)) zr))))) zr)) [none,some 0] iV iW iX)))
  (Zf (Jw 3 (hP [true,true,true] (zm vf (zb (zc 0) (zb (zc 2) (zb (zc 1) (zb (mOp pGt (zm zt (zb (zc 0) (zb (mC (.i 9)) (zb (mC (.i 4)) zr)))) (mC (.i 0))) zr)))))))
  (Zf (Jw 4 (hP [false,false,true,true] (zm qK (zb (zc 2) (zb (zc 3) zr)))))
  (Zf (Jw 5 (hP [true,true,true,false,true] (zm j3 (zb (zc 0) (zb (zc 2) (zb (zc 4) (zb (zc 1) (zb (zm zt (zb (zc 0) (zb (mC (.i 8)) (zb (mC (.i 13)) zr)))) zr))))))))
  (Zf (Jw 6 (DX 10 k8 (zF (hP [false,false,true,true] (zm y6 (zb (zm YC (zb (zc 2) zr)) (zb (zm YC (zb (zc 3) zr)) zr)))) (zF (hP [false,false,false,false,false,true] (zm Qv (zb (zc 5) zr))) K5))))
  (Zf (Jw 7 (hP [true,false,true] (mOp pIx (zc 2) (zm zt (zb (zc 0) (zb (mC (.i 18)) (zb (zm Ze (zb (zc 2) zr)) zr)))))))
  (Zf (Jw 8 (hP [true,false,false,false,true,true,false,true] (zm jY (zb (zc 0) (zb (zc 4) (zb (zc 7) (zb (zc 5) zr)))))))
  (Zf (Jw 9 (hP [true,true,false,false,false,true] (zm jX (zb (zc 5) (zb (mOp yj (mC (.i 1)) (zm zt (zb (zc 0) (zb (mC (.i 103)) (zb (mOp jd (mC (.i 30)) (zc 1)) zr))))) zr)))))
  (Zf (Jw 10 (DX 10 k8 (zF (hP [false,false,true,true] (zm y6 (zb (zm YC (zb (zc 2) zr)) (zb (zm YC (zb (zc 3) zr)) zr)))) (zF (hP [false,false,false,false,false,false,false,false,false,true] (zm YC (zb (zc 9) zr))) K5))))
  (Zf (Jw 11 (hP [true,false,true] (mOp pIx (zc 2) (zm zt (zb (zc 0) (zb (mC (.i 20)) (zb (zm Ze (zb (zc 2) zr)) zr)))))))
  (Zf (Jw 12 (CM (zF (iF (zF (yB 6) (zF (yB 5) (zF (yB 7) (zF (yB 8) K5))))) (zF (iF (zF (yB 10) (zF (yB 9) (zF (yB 7) (zF (yB 8) K5))))) (zF (iF (zF (yB 6) (zF (yB 5) (zF (yB 11) (zF (yB 8) K5))))) K5)))))
  (Zf (gh (FY (yB 12) (CM (zF (iF (zF (yB 6) (zF (yB 5) (zF (yB 7) (zF (hP [] (mOp fO (mC (.i 10)) (mC (.i 60)))) K5))))) (zF (iF (zF (yB 6) (zF (yB 5) (zF (yB 7) (zF (yB 8) K5))))) K5)))) WO Kp)
  (nu (hP [] (mC (.b true)))))))))))))))))
def Be:List HV->AH->HX HV:=tT 22 Bd
def zx (T:Txt K mg a):y3 P w K mg base (CXe P w) 1 a.zt a.aO ["_law_script","_law_k","_law_many"] (lsp (WW K a) false [true,true,true] zt):=
 zO (ms:=aC) (S':=[1,1,1,0]) (Sb:=[]) (Sc:=[]) T.zd.F JD rfl rfl rfl (by decide) fun cdv A outer s H E hr=>
  (zg (z_ (i:=3) JD.nd rfl (.inl rfl) ei)
   (zg (qr (yN V_ Wc (qQ rfl T.kZ (za (ev 0) ze)) ei (yT _))
    (zq (z_ (i:=3) JD.nd rfl (.inl rfl) (zC Zv Zw (zW (zA hr) (ev 0) (zC Zv Zw (ev 1) (qQ rfl T.kZ (za (ev 0) ze)))) ei)))
    ym)
   (zq (yX (zC Zv Zw (zC oC oE (zC Zv Zw (zC yy yz (zC zG zH (zC zG zH (ev 3) (zC yy yz ei (ev 1))) ei) (zC zG zH ei (zC yy yz (ev 1) (ev 1)))) ei) ei) (ev 2))))))
def cA (T:Txt K mg a):y3 P w K mg base (CXe P w) 1 a.qK a.Ku ["_law_places","_law_ways_here"] (lsp (WW K a) true [true,true] qK):=
 zO (ms:=Kg) (S':=[1,1,0,0,0,0,0,0,0]) (Sb:=[]) (Sc:=[]) T.qD.F yb rfl rfl rfl (by decide) fun cdv A outer s H E hr=>
  (zg (KW (i:=2) yb.nd rfl (.inl rfl) xf)
   (zg (jw (zI ⟨rfl,rfl⟩) rfl (Zj (Zi (pv 0))) (zQ (i:=3) yb.nd rfl (.inl rfl))
    (zq (gj (zA hr) (pv 2) (za (zi (pv 3)) (za (zi (pv 3)) ze)) ei)))
   (zg (jw (zI ⟨rfl,rfl⟩) rfl (Zj (Zi (pv 1))) (dD (n:=3) rfl (qu (zQ (i:=4) yb.nd rfl (.inl rfl)) (qu (zQ (i:=5) yb.nd rfl (.inl rfl)) (qu (zQ (i:=6) yb.nd rfl (.inl rfl)) dC ki) ki) ki))
    (zq (qr (TWM.tm (Uw (Zk (zA hr) (za (zi (pv 4)) (za (zi (pv 5)) ze)) (ev 2)) (QI (yN c4 dz (ev 6) (Xk (zA hr) (ev 2) (za (zi (pv 4)) (za (zi (pv 5)) ze))) (yT _)))))
    (zq (gj (zA hr) (pv 2) (za (zi (pv 4)) (za (zi (pv 5)) ze)) (zi (pv 6))))
    ym)))
   (zg (jw (zI ⟨rfl,rfl⟩) rfl (Zj (Zi (pv 0))) (zQ (i:=7) yb.nd rfl (.inl rfl))
    (zq (jw (zI ⟨rfl,rfl⟩) rfl (Zj (Zi (pv 0))) (zQ (i:=4) yb.nd rfl (.inl rfl))
    (zq (jw (zI ⟨rfl,rfl⟩) rfl (Zj (Zi (pv 0))) (zQ (i:=5) yb.nd rfl (.inl rfl))
    (zq (qr (TWM.tm (oG (AS (zA hr) (za (zi (pv 4)) (za (zi (pv 7)) ze)) (ev 2)) (fR (AS (zA hr) (za (zi (pv 7)) (za (zi (pv 5)) ze)) (ev 2)))))
    (zg (z_ (i:=8) yb.nd rfl (.inl rfl) (zC zG zH (Xk (zA hr) (ev 2) (za (zi (pv 4)) (za (zi (pv 7)) ze))) (Xk (zA hr) (ev 2) (za (zi (pv 7)) (za (zi (pv 5)) ze)))))
   (zq (qr (TWM.tm (Uw (Zk (zA hr) (za (zi (pv 4)) (za (zi (pv 5)) ze)) (ev 2)) (QI (yN c4 dz (ev 8) (Xk (zA hr) (ev 2) (za (zi (pv 4)) (za (zi (pv 5)) ze))) (yT _)))))
    (zq (gj (zA hr) (pv 2) (za (zi (pv 4)) (za (zi (pv 5)) ze)) (zi (pv 8))))
    ym)))
    ym)))))))
   (zq (W9 (pv 2)))))))
def UW (T:Txt K mg a):y3 P w K mg base (CXe P w) 1 a.wR a.wY ["self","most"] (nr a.vP ["most"]):=by
 refine T.UG.okX Xo (fun vs H Q E h=>by obtain ⟨e,us,rfl,hl,_⟩:=h;rw [v0,hl];rfl) fun cdv A outer s H vs Q E hr h=>?_
 obtain ⟨e,us,rfl,hl,he,k⟩:=h
 match us,hl with
 | [v],_=>
  exact ⟨_,jP (jQ (pv 0) (pv 1) rfl),_,rfl,_,rfl,e,a.vP,.none,rfl,T.d_,T.XH,.inl ⟨he,k⟩⟩
def QW (T:Txt K mg a):y3 P w K mg base (CXe P w) 1 a.wU a.wZ ["self","name"] (nr a.kr ["name"]):=by
 refine T.UI.okX Xp (fun vs H Q E h=>by obtain ⟨e,us,rfl,hl,_⟩:=h;rw [v0,hl];rfl) fun cdv A outer s H vs Q E hr h=>?_
 obtain ⟨e,us,rfl,hl,he,k⟩:=h
 match us,hl with
 | [v],_=>
  exact ⟨_,jP (jQ (pv 0) (pv 1) rfl),_,rfl,_,rfl,e,a.kr,.none,rfl,T.Kb,T.XE,.inl ⟨he,k⟩⟩
def eA (T:Txt K mg a):y3 P w K mg base (CXe P w) 1 a.Y4 a.Y7 ["self","name"] (nr a.Y2 ["name"]):=by
 refine T.dZ.okX bS (fun vs H Q E h=>by obtain ⟨e,us,rfl,hl,_⟩:=h;rw [v0,hl];rfl) fun cdv A outer s H vs Q E hr h=>?_
 obtain ⟨e,us,rfl,hl,he,k⟩:=h
 match us,hl with
 | [v],_=>
  exact ⟨_,jP (jQ (pv 0) (pv 1) rfl),_,rfl,_,rfl,e,a.Y2,.none,rfl,T.gu,T.b9,.inl ⟨he,k⟩⟩
def UX (T:Txt K mg a):y3 P w K mg base (CXe P w) 1 a.wV a.w4 ["self","name"] (nr a.jF ["name"]):=by
 refine T.UJ.okX Xq (fun vs H Q E h=>by obtain ⟨e,us,rfl,hl,_⟩:=h;rw [v0,hl];rfl) fun cdv A outer s H vs Q E hr h=>?_
 obtain ⟨e,us,rfl,hl,he,k⟩:=h
 match us,hl with
 | [v],_=>
  exact ⟨_,jP (jQ (pv 0) (pv 1) rfl),_,rfl,_,rfl,e,a.jF,.none,rfl,T.XI,T.XJ,.inl ⟨he,k⟩⟩
def Wl (T:Txt K mg a):y3 P w K mg base (CXe P w) 1 a.kI a.kJ ["self","value"] (nr a.jg ["value"]):=by
 refine T.Wg.okX K_ (fun vs H Q E h=>by obtain ⟨e,us,rfl,hl,_⟩:=h;rw [v0,hl];rfl) fun cdv A outer s H vs Q E hr h=>?_
 obtain ⟨e,us,rfl,hl,he,k⟩:=h
 match us,hl with
 | [v],_=>
  exact ⟨_,jP (jQ (pv 0) (pv 1) rfl),_,rfl,_,rfl,e,a.jg,.none,rfl,T.XG,T.Kc,.inl ⟨he,k⟩⟩
def X4 (T:Txt K mg a):y3 P w K mg base (CXe P w) 1 a.vQ a.vS ["self","name"] (nr a.js ["name"]):=by
 refine T.Xy.okX We (fun vs H Q E h=>by obtain ⟨e,us,rfl,hl,_⟩:=h;rw [v0,hl];rfl) fun cdv A outer s H vs Q E hr h=>?_
 obtain ⟨e,us,rfl,hl,he,k⟩:=h
 match us,hl with
 | [v],_=>
  exact ⟨_,jP (jQ (pv 0) (pv 1) rfl),_,rfl,_,rfl,e,a.js,.none,rfl,T.Vf,T.Wi,.inl ⟨he,k⟩⟩
def VO (T:Txt K mg a):y3 P w K mg base (CXe P w) 1 a.Y5 a.Y8 ["self","origin","goal"] (nr a.jG ["origin","goal"]):=by
 refine T.d3.okX bU (fun vs H Q E h=>by obtain ⟨e,us,rfl,hl,_⟩:=h;rw [v0,hl];rfl) fun cdv A outer s H vs Q E hr h=>?_
 obtain ⟨e,us,rfl,hl,he,k⟩:=h
 match us,hl with
 | [v,u],_=>
  have ne:∀ {dx},H dx=none->dx≠e:=fun h z=>by rw [z,he] at h;cases h
  exact ⟨_,WG (jQ (pv 0) (pv 1) rfl) (jP (jQ (pv 0) (pv 2) rfl)),_,rfl,_,rfl,e,a.jG,.none,rfl,T.Ve,T.XN,.inl ⟨he,fun dx hd=>⟨_,rfl,_,rfl,e,a.jG,.none,rfl,T.Ve,T.cf,.inr ⟨dx,[(("origin" : Str),v)],by rw [zh],by rw [zj (ne hd),zh],ne hd,(show 1 < 1000 by decide),by
   have q:=k dx hd
   have e1:JL ("goal" : Str) u [(("origin" : Str),v)]=[(("origin" : Str),v),(("goal" : Str),u)]:=rfl
   rw [e1]
   have e2:∀ {A B C:HO},upd (upd (upd H dx A) e B) dx C=upd (upd H dx C) e B:=fun {A B C}=>funext fun b=>by
    by_cases hb:b=dx
    .subst hb;rw [zh,zj (ne hd),zh]
    .rw [zj hb]
     by_cases hb2:b=e
     .subst hb2;rw [zh,zh]
     .rw [zj hb2,zj hb2,zj hb,zj hb]
   rw [e2];exact q⟩⟩⟩⟩
def UY (T:Txt K mg a):y3 P w K mg base (CXe P w) 1 a.wW a.w8 ["self","name"] (nr a.ky ["name"]):=by
 refine T.UM.okX Xs (fun vs H Q E h=>by obtain ⟨e,us,rfl,hl,_⟩:=h;rw [v0,hl];rfl) fun cdv A outer s H vs Q E hr h=>?_
 obtain ⟨e,us,rfl,hl,he,k⟩:=h
 match us,hl with
 | [v],_=>
  exact ⟨_,jP (jQ (pv 0) (pv 1) rfl),_,rfl,_,rfl,e,a.ky,.none,rfl,T.XR,T.XS,.inl ⟨he,k⟩⟩
def Wm (T:Txt K mg a):y3 P w K mg base (CXe P w) 1 a.zJ a.Z8 ["trip"] (lsp (WW K a) false [true] zJ):=
 zO (ms:=ZZ) (S':=[1]) (Sb:=[]) (Sc:=[]) T.qc.F Vb rfl rfl rfl (by decide) fun cdv A outer s H E hr=>
  (zq (yX (jL (za (zW (zA hr) (ev 0) (yq (zP (v:=.int 3) rfl T.YR ⟨_,rfl⟩))) (za (zW (zA hr) (ev 0) (yq (zP (v:=.int 4) rfl T.wc ⟨_,rfl⟩))) (za (zW (zA hr) (ev 0) (yq (zP (v:=.int 0) rfl T.Vy ⟨_,rfl⟩))) ze))))))
def ko (T:Txt K mg a):y3 P w K mg base (CXe P w) 1 a.ya a.VT ["_law_far","_law_home","_law_row"] (lsp (WW K a) false [true,false,true] ya):=
 zO (ms:=VC) (S':=[1,0,1,0,0]) (Sb:=[]) (Sc:=[]) T.zL.F jA rfl rfl rfl (by decide) fun cdv A outer s H E hr=>
  (zg (z_ (i:=3) jA.nd rfl (.inl rfl) (zC zG zH (p6 (zA hr) (ev 0) (za (zi (pv 1)) (za (zW (zA hr) (zW (zA hr) (ev 2) ei) ei) ze)) ei ⟨rfl,rfl,rfl,rfl⟩) (p6 (zA hr) (ev 0) (za (zW (zA hr) (zW (zA hr) (ev 2) (uC g5 ij ei)) ei) (za (zi (pv 1)) ze)) ei ⟨rfl,rfl,rfl,rfl⟩)))
   (zg (jw (zI ⟨rfl,rfl⟩) rfl (KZ rfl T.YT (za (qQ rfl T.kZ (za (ev 2) ze)) ze)) (zQ (i:=4) jA.nd rfl (.inl rfl))
    (zg (z_ (i:=3) jA.nd rfl (.inl rfl) (zC Yv Yz (zC zG zH (ev 3) (zW (zA hr) (zW (zA hr) (ev 2) (ev 4)) ei)) (zW (zA hr) (zW (zA hr) (ev 2) (ev 4)) ei)))
   (zq (qr (yN V_ Wc (ev 4) ei (yT _))
    (zq (z_ (i:=3) jA.nd rfl (.inl rfl) (zC zG zH (ev 3) (Xk (zA hr) (ev 0) (za (zW (zA hr) (zW (zA hr) (ev 2) (zC Yv Yz (ev 4) ei)) ei) (za (zW (zA hr) (zW (zA hr) (ev 2) (ev 4)) ei) ze))))))
    ym))))
   (zq (yX (zi (pv 3))))))
def gw (T:Txt K mg a):y3 P w K mg base (CXe P w) 1 a.jX a.Uh ["_law_row","_law_more"] (lsp (WW K a) true [true,true] jX):=
 zO (ms:=XX) (S':=[1,1,0,0,0,0,0,0,0,0]) (Sb:=[]) (Sc:=[]) T.jU.F yO rfl rfl rfl (by decide) fun cdv A outer s H E hr=>
  (zg (KW (i:=2) yO.nd rfl (.inl rfl) (v5 ze))
   (zg (jw (zI ⟨rfl,rfl⟩) rfl (KZ rfl T.YT (za (qQ rfl T.kZ (za (ev 0) ze)) ze)) (zQ (i:=3) yO.nd rfl (.inl rfl))
    (zg (Fm (zW (zA hr) (ev 0) (ev 3)) (dD (n:=6) rfl (qu (zQ (i:=4) yO.nd rfl (.inl rfl)) (qu (zQ (i:=5) yO.nd rfl (.inl rfl)) (qu (zQ (i:=6) yO.nd rfl (.inl rfl)) (qu (zQ (i:=7) yO.nd rfl (.inl rfl)) (qu (zQ (i:=8) yO.nd rfl (.inl rfl)) (qu (zQ (i:=9) yO.nd rfl (.inl rfl)) dC ki) ki) ki) ki) ki) ki)))
   (zq (JT (pv 2) (jL (za (zi (pv 4)) (za (zi (pv 5)) (za (zi (pv 6)) (za (zC zG zH (ev 7) (zC yy yz (ev 3) (ev 1))) (za (zC zG zH (zC zG zH (ev 8) (zC yy yz (ev 3) (ev 1))) (ev 1)) (za (zi (pv 9)) ze)))))))))))
   (zq (W9 (pv 2)))))
def UZ (T:Txt K mg a):y3 P w K mg base (CXe P w) 1 a.yE a.Q1 ["origin","ways"] (lsp (WW K a) true [true,true] yE):=
 zO (ms:=QM) (S':=[1,1,0,0,0,0,0,0]) (Sb:=[]) (Sc:=[]) T.qh.F yd rfl rfl rfl (by decide) fun cdv A outer s H E hr=>
  (zg (KW (i:=2) yd.nd rfl (.inl rfl) (IL (ev 0) ei))
   (zg (z_ (i:=3) yd.nd rfl (.inl rfl) (Wb V9))
   (zg (uP (zI ⟨rfl,rfl⟩) (Vt (ev 3))
    (zg (z_ (i:=3) yd.nd rfl (.inl rfl) (Wb V9))
   (zq (jw (zI ⟨rfl,rfl⟩) rfl (Zj (Zi (pv 1))) (dD (n:=3) rfl (qu (zQ (i:=4) yd.nd rfl (.inl rfl)) (qu (zQ (i:=5) yd.nd rfl (.inl rfl)) (qu (zQ (i:=6) yd.nd rfl (.inl rfl)) dC ki) ki) ki))
    (zq (qr (Fb (zA hr) (ev 4) (ev 2))
    (zg (z_ (i:=7) yd.nd rfl (.inl rfl) (zC zG zH (zW (zA hr) (ev 2) (ev 4)) (ev 6)))
   (zq (qr (TWM.tm (Uw (WJ (zA hr) (ev 5) (ev 2)) (QI (yN c4 dz (ev 7) (zW (zA hr) (ev 2) (ev 5)) (yT _)))))
    (zg (AA (zA hr) (pv 2) (ev 5) (zi (pv 7)))
   (zq (z_ (i:=3) yd.nd rfl (.inl rfl) (Wb V9))))
    ym)))
    ym))))))
   (zq (W9 (pv 2))))))
def cB (T:Txt K mg a):y3 P w K mg base (CXe P w) 1 a.ZS a.ZT ["self","name"] (nr a.k9 ["name"]):=by
 refine T.b5.okX UB (fun vs H Q E h=>by obtain ⟨e,us,rfl,hl,_⟩:=h;rw [v0,hl];rfl) fun cdv A outer s H vs Q E hr h=>?_
 obtain ⟨e,us,rfl,hl,he,k⟩:=h
 match us,hl with
 | [v],_=>
  exact ⟨_,jP (jQ (pv 0) (pv 1) rfl),_,rfl,_,rfl,e,a.k9,.none,rfl,T.cj,T.UR,.inl ⟨he,k⟩⟩
def X5 (T:Txt K mg a):y3 P w K mg base (CXe P w) 1 a.vR a.vT ["self","first","second"] (nr a.qo ["first","second"]):=by
 refine T.XA.okX Wf (fun vs H Q E h=>by obtain ⟨e,us,rfl,hl,_⟩:=h;rw [v0,hl];rfl) fun cdv A outer s H vs Q E hr h=>?_
 obtain ⟨e,us,rfl,hl,he,k⟩:=h
 match us,hl with
 | [v,u],_=>
  have ne:∀ {dx},H dx=none->dx≠e:=fun h z=>by rw [z,he] at h;cases h
  exact ⟨_,WG (jQ (pv 0) (pv 1) rfl) (jP (jQ (pv 0) (pv 2) rfl)),_,rfl,_,rfl,e,a.qo,.none,rfl,T.Vg,T.Vh,.inl ⟨he,fun dx hd=>⟨_,rfl,_,rfl,e,a.qo,.none,rfl,T.Vg,T.Ke,.inr ⟨dx,[(("first" : Str),v)],by rw [zh],by rw [zj (ne hd),zh],ne hd,(show 1 < 1000 by decide),by
   have q:=k dx hd
   have e1:JL ("second" : Str) u [(("first" : Str),v)]=[(("first" : Str),v),(("second" : Str),u)]:=rfl
   rw [e1]
   have e2:∀ {A B C:HO},upd (upd (upd H dx A) e B) dx C=upd (upd H dx C) e B:=fun {A B C}=>funext fun b=>by
    by_cases hb:b=dx
    .subst hb;rw [zh,zj (ne hd),zh]
    .rw [zj hb]
     by_cases hb2:b=e
     .subst hb2;rw [zh,zh]
     .rw [zj hb2,zj hb2,zj hb,zj hb]
   rw [e2];exact q⟩⟩⟩⟩
def cC (T:Txt K mg a):y3 P w K mg base (CXe P w) 1 a.yP a.ZU ["self"] (lsp (WW K a) true [true] yP):=
 zO (ms:=Kj) (S':=[1]) (Sb:=[]) (Sc:=[]) T.b7 UC rfl rfl rfl (by decide) fun cdv A outer s H E hr=>
  (zq (Cn (v9 rfl rfl T.Zm (za (Zh (ev 0) (fun c hc=>by cases M8.mp hc;exact ⟨T.qJ,T.jB⟩)) ze))))
def U0 (T:Txt K mg a):y3 P w K mg base (CXe P w) 1 a.wX a.w_ ["self","name"] (nr a.yx ["name"]):=by
 refine T.UO.okX Xt (fun vs H Q E h=>by obtain ⟨e,us,rfl,hl,_⟩:=h;rw [v0,hl];rfl) fun cdv A outer s H vs Q E hr h=>?_
 obtain ⟨e,us,rfl,hl,he,k⟩:=h
 match us,hl with
 | [v],_=>
  exact ⟨_,jP (jQ (pv 0) (pv 1) rfl),_,rfl,_,rfl,e,a.yx,.none,rfl,T.vy,T.XU,.inl ⟨he,k⟩⟩
def mO (T:Txt K mg a):y3 P w K mg base (CXe P w) 2 a.vf a.aP ["_law_script","_law_places","_law_scale","_law_ring"] (lsp (WW K a) true [true,true,true,true] vf):=
 zO (ms:=aE) (S':=[1,1,1,1,0,0,0,0]) (Sb:=[]) (Sc:=[]) T.vd.F jR rfl rfl rfl (by decide) fun cdv A outer s H E hr=>
  (zg (z_ (i:=4) jR.nd rfl (.inl rfl) (qQ rfl T.kZ (za (ev 1) ze)))
   (zg (KW (i:=5) jR.nd rfl (.inl rfl) (v5 ze))
   (zg (jw (zI ⟨rfl,rfl⟩) rfl (KZ rfl T.YT (za (ev 4) ze)) (zQ (i:=6) jR.nd rfl (.inl rfl))
    (zq (qr (Vt (ev 3))
    (zq (JT (pv 5) (jL (za (zW (zA hr) (ev 1) (ev 6)) (za (zW (zA hr) (ev 1) (zC Zv Zw (zC zG zH (ev 6) ei) (ev 4))) (za (zC zG zH ei (zp (zx T) (rm hr) rfl T.zd.g T.zd.k T.zd.b zK (za (ev 0) (za (EM.weak (zC zG zH ei (ev 6))) (za (EM.weak (zC yy yz ei (ev 2))) ze))))) ze))))))
    ym)))
   (zg (jw (zI ⟨rfl,rfl⟩) rfl (KZ rfl T.YT (za (zp (zx T) (rm hr) rfl T.zd.g T.zd.k T.zd.b zK (za (ev 0) (za (EM.weak ei) (za (EM.weak ei) ze)))) ze)) (zQ (i:=6) jR.nd rfl (.inl rfl))
    (zg (z_ (i:=7) jR.nd rfl (.inl rfl) (zp (zx T) (rm hr) rfl T.zd.g T.zd.k T.zd.b zK (za (ev 0) (za (EM.weak (zC zG zH ei (ev 6))) (za (EM.weak (zC yy yz (ev 4) (ev 4))) ze)))))
   (zq (JT (pv 5) (jL (za (zW (zA hr) (ev 1) (zC Zv Zw (ev 7) (ev 4))) (za (zW (zA hr) (ev 1) (zC oC oE (ev 7) (ev 4))) (za (zC zG zH ei (zp (zx T) (rm hr) rfl T.zd.g T.zd.k T.zd.b zK (za (ev 0) (za (EM.weak (zC zG zH ei (ev 6))) (za (EM.weak (zC yy yz ei (ev 2))) ze))))) ze))))))))
   (zq (W9 (pv 5)))))))
def aI (T:Txt K mg a):y3 P w K mg base (CXe P w) 2 a.qL a.aQ ["_law_script","_law_k","_law_number"] (lsp (WW K a) false [true,true,true] qL):=
 zO (ms:=aF) (S':=[1,1,1,0,0]) (Sb:=[]) (Sc:=[]) T.qE.F JE rfl rfl rfl (by decide) fun cdv A outer s H E hr=>
  (zg (z_ (i:=3) JE.nd rfl (.inl rfl) (zp (zx T) (rm hr) rfl T.zd.g T.zd.k T.zd.b zK (za (ev 0) (za (ev 1) (za (EM.weak ei) ze)))))
   (zg (z_ (i:=4) JE.nd rfl (.inl rfl) (zC zG zH (zp (zx T) (rm hr) rfl T.zd.g T.zd.k T.zd.b zK (za (ev 0) (za (EM.weak (zC zG zH (ev 1) ei)) (za (EM.weak (zC Yv Yz ei (ev 3))) ze)))) (zC Zv Zw (ev 2) ei)))
   (zq (yX (zC zG zH (zC zG zH (zC yy yz (kR vh) (ev 3)) (zW (zA hr) (kR vh) (ev 2))) (zC yy yz (kR vh) (ev 4)))))))
def gx (T:Txt K mg a):y3 P w K mg base (CXe P w) 2 a.jY a.Ug ["_law_script","_law_far","_law_home","_law_row"] (lsp (WW K a) false [true,true,false,true] jY):=
 zO (ms:=XY) (S':=[1,1,0,1,0,0,0,0]) (Sb:=[]) (Sc:=[]) T.jT.F kj rfl rfl rfl (by decide) fun cdv A outer s H E hr=>
  (zg (z_ (i:=4) kj.nd rfl (.inl rfl) (zp (zx T) (rm hr) rfl T.zd.g T.zd.k T.zd.b zK (za (ev 0) (za (EM.weak ei) (za (EM.weak ei) ze)))))
   (zg (qr (TWM.tm (Uw (oJ hr.units (ev 4) ei) (QI (oJ hr.units (ev 3) (FM.em (v5 ze))))))
    (zq (yX (zW (zA hr) (FM.em (v5 (za (zC nO fP ei ei) (za (zC Yv Yz ei (zp (zx T) (rm hr) rfl T.zd.g T.zd.k T.zd.b zK (za (ev 0) (za (EM.weak ei) (za (EM.weak (zC nO fP ei ei)) ze))))) ze)))) (zp (zx T) (rm hr) rfl T.zd.g T.zd.k T.zd.b zK (za (ev 0) (za (EM.weak ei) (za (EM.weak ei) ze)))))))
    ym)
   (zg (z_ (i:=5) kj.nd rfl (.inl rfl) (oQ rfl rfl T.p8 (za (FM.em (pf ["_law_trip","_law_far","_law_home"] [none,some 1,some 2] [0,1,0] rfl (by kernel_rfl) (KY (ev 3)) (fun _=>(zQ (i:=0) (show List.Nodup (["_law_trip","_law_far","_law_home"]:List Str) from by decide +kernel) rfl (.inl rfl))) (fun _=>Xb) (fun _=>(zp (ko T) (rm hr) rfl T.zL.g T.zL.k T.zL.b oi (za (ev 1) (za (zi (pv 2)) (za (EM.weak (FM.em (v5 (za (zi (pv 0)) ze)))) ze))))))) ze)))
   (zg (qr (yN c4 dz (ev 4) ei (yT _))
    (zg (z_ (i:=6) kj.nd rfl (.inl rfl) (zp (zx T) (rm hr) rfl T.zd.g T.zd.k T.zd.b zK (za (ev 0) (za (EM.weak ei) (za (EM.weak (qQ rfl T.kZ (za (ev 3) ze))) ze)))))
   (zg (z_ (i:=7) kj.nd rfl (.inl rfl) (zC zG zH (zC zG zH (ev 6) ei) (zp (zx T) (rm hr) rfl T.zd.g T.zd.k T.zd.b zK (za (ev 0) (za (EM.weak ei) (za (EM.weak (zC Yv Yz (qQ rfl T.kZ (za (ev 3) ze)) (ev 6))) ze))))))
   (zq (yX (oQ rfl rfl T.p8 (za (ev 5) (za (zC Yv Yz (zp (ko T) (rm hr) rfl T.zL.g T.zL.k T.zL.b zK (za (ev 1) (za (zi (pv 2)) (za (EM.weak (JS (ev 3) (Zz (ev 6)) (Zz (ev 7)))) ze)))) (zC Zv Zw (ev 4) ei)) ze)))))))
    ym)
   (zg (qr (oJ hr.units (ev 4) ei)
    (zq (yX (zC Yv Yz (ev 5) (zp (zx T) (rm hr) rfl T.zd.g T.zd.k T.zd.b zK (za (ev 0) (za (EM.weak ei) (za (EM.weak ei) ze)))))))
    ym)
   (zq (yX (zC zG zH (ev 5) (zp (zx T) (rm hr) rfl T.zd.g T.zd.k T.zd.b zK (za (ev 0) (za (EM.weak ei) (za (EM.weak (zC zG zH ei (ev 5))) ze))))))))))))
def rl (T:Txt K mg a):y3 P w K mg base (CXe P w) 2 a.Zo a.eU ["_law_far","_law_home","_law_row","_law_limit_here"] (lsp (WW K a) false [true,false,true,true] Zo):=
 zO (ms:=ej) (S':=[1,0,1,1,0]) (Sb:=[]) (Sc:=[]) T.Zn.F aB rfl rfl rfl (by decide) fun cdv A outer s H E hr=>
  (zg (jw (zI ⟨rfl,rfl⟩) rfl (Zj (Zi (pv 2))) (zQ (i:=4) aB.nd rfl (.inl rfl))
    (zg (qr (Zk (zA hr) (za (zi (pv 1)) (za (zW (zA hr) (ev 4) ei) ze)) (ev 0))
    (zq (yX (jL (za (kR vh) (za (zi (pv 1)) (za (zW (zA hr) (ev 4) ei) ze))))))
    ym)
   (zg (qr (Zk (zA hr) (za (zW (zA hr) (ev 4) ei) (za (zi (pv 1)) ze)) (ev 0))
    (zq (yX (jL (za (kR vh) (za (zW (zA hr) (ev 4) ei) (za (zi (pv 1)) ze))))))
    ym)
   (zq (qr (yN V_ Wc (zp (ko T) (rm hr) rfl T.zL.g T.zL.k T.zL.b zK (za (ev 0) (za (zi (pv 1)) (za (EM.weak (FM.em (v5 (za (zi (pv 4)) ze)))) ze)))) (ev 3) (yT _))
    (zq (yX (jL (za (kR vh) (za (zW (zA hr) (ev 4) ei) ze)))))
    ym)))))
   (zq (yX (jL (za (kR vh) ze)))))
def mP (T:Txt K mg a):y3 P w K mg base (CXe P w) 2 a.j0 a.aR ["_law_far","_law_home","_law_row","_law_limit_here","_law_parts"] (lsp (WW K a) false [true,false,true,true,true] j0):=
 zO (ms:=aG) (S':=[1,0,1,1,1,0,0,0]) (Sb:=[]) (Sc:=[]) T.ve.F vx rfl rfl rfl (by decide) fun cdv A outer s H E hr=>
  (zg (qr (dA (Vt (aq rfl T.y4 (ev 4) (nE rfl T.Zm PyProof.Rows.Boot.«list» (v:=.ty "list") rfl) rfl ⟨⟨trivial,T.wd⟩,trivial⟩)))
    (zq (yX (Wb V9)))
    ym)
   (zg (z_ (i:=5) vx.nd rfl (.inl rfl) ei)
   (zg (jw (zI ⟨rfl,rfl⟩) rfl (Zj (Zi (pv 4))) (zQ (i:=6) vx.nd rfl (.inl rfl))
    (zg (qr (TWM.tm (Uw (dA (Vt (aq rfl T.y4 (ev 6) (nE rfl T.Zm PyProof.Rows.Boot.«list» (v:=.ty "list") rfl) rfl ⟨⟨trivial,T.wd⟩,trivial⟩))) (QI (oJ hr.units (qQ rfl T.kZ (za (ev 6) ze)) ei))))
    (zq (yX (Wb V9)))
    ym)
   (zg (z_ (i:=7) vx.nd rfl (.inl rfl) (zC zG zH (ev 5) (qQ rfl T.kZ (za (ev 6) ze))))
   (zg (qr (TWM.tm (Uw (yN V_ Wc (ev 7) (qQ rfl T.kZ (za (ev 2) ze)) (yT _)) (QI (Cd hr.units (ev 6) (FM.em (pf ["_law_trip"] [none] [0] rfl (by kernel_rfl) (KY (JS (ev 2) (Zz (ev 5)) (Zz (ev 7)))) (fun _=>(zQ (i:=0) (show List.Nodup (["_law_trip"]:List Str) from by decide +kernel) rfl (.inl rfl))) (fun _=>Xb) (fun _=>(zW (zA hr) (ev 0) ei))))))))
    (zq (yX (Wb V9)))
    ym)
   (zg (qr (yN V_ Wc (zp (ko T) (rm hr) rfl T.zL.g T.zL.k T.zL.b zK (za (ev 0) (za (zi (pv 1)) (za (EM.weak (JS (ev 2) (Zz (ev 5)) (Zz (ev 7)))) ze)))) (ev 3) (yT _))
    (zq (yX (Wb V9)))
    ym)
   (zg (qr (TWM.tm (oG (yN c4 dz (ev 7) (qQ rfl T.kZ (za (ev 2) ze)) (yT _)) (fR (yN BD B9 (zp (ko T) (rm hr) rfl T.zL.g T.zL.k T.zL.b zK (za (ev 0) (za (zi (pv 1)) (za (EM.weak (JS (ev 2) (Zz (ev 5)) (Zz (zC zG zH (ev 7) ei)))) ze)))) (ev 3) (yT _)))))
    (zq (yX (Wb V9)))
    ym)
   (zq (z_ (i:=5) vx.nd rfl (.inl rfl) (zi (pv 7))))))))))
   (zq (yX (Ir hr.units (ev 5) (qQ rfl T.kZ (za (ev 2) ze))))))))
def gz (T:Txt K mg a):y3 P w K mg base (CXe P w) 3 a.j3 a.Ue ["_law_script","_law_places","_law_far","_law_scale","_law_many"] (lsp (WW K a) true [true,true,true,true,true] j3):=
 zO (ms:=XZ) (S':=[1,1,1,1,1,0,0,0,0,0,0,0,0,0]) (Sb:=[]) (Sc:=[]) T.jS.F zZ rfl rfl rfl (by decide) fun cdv A outer s H E hr=>
  (zg (KW (i:=5) zZ.nd rfl (.inl rfl) (v5 ze))
   (zg (z_ (i:=6) zZ.nd rfl (.inl rfl) (zW (zA hr) (ev 1) (zp (zx T) (rm hr) rfl T.zd.g T.zd.k T.zd.b zK (za (ev 0) (za (EM.weak ei) (za (EM.weak (qQ rfl T.kZ (za (ev 1) ze))) ze))))))
   (zg (z_ (i:=7) zZ.nd rfl (.inl rfl) (zC zG zH (zC yy yz ei (ev 3)) (zp (zx T) (rm hr) rfl T.zd.g T.zd.k T.zd.b zK (za (ev 0) (za (EM.weak ei) (za (EM.weak (zC yy yz ei (ev 3))) ze))))))
   (zg (jw (zI ⟨rfl,rfl⟩) rfl (KZ rfl T.YT (za (ev 4) ze)) (zQ (i:=8) zZ.nd rfl (.inl rfl))
    (zg (z_ (i:=9) zZ.nd rfl (.inl rfl) (zW (zA hr) (ev 1) (zp (zx T) (rm hr) rfl T.zd.g T.zd.k T.zd.b zK (za (ev 0) (za (EM.weak (zC zG zH ei (zC yy yz ei (ev 8)))) (za (EM.weak (qQ rfl T.kZ (za (ev 1) ze))) ze))))))
   (zg (qr (Zk (zA hr) (za (zi (pv 6)) (za (zi (pv 9)) ze)) (ev 2))
    (zq (z_ (i:=9) zZ.nd rfl (.inl rfl) (zi (pv 6))))
    ym)
   (zg (z_ (i:=10) zZ.nd rfl (.inl rfl) (zW (zA hr) (ev 1) (zp (zx T) (rm hr) rfl T.zd.g T.zd.k T.zd.b zK (za (ev 0) (za (EM.weak (zC zG zH ei (zC yy yz ei (ev 8)))) (za (EM.weak (qQ rfl T.kZ (za (ev 1) ze))) ze))))))
   (zg (qr (Zk (zA hr) (za (zi (pv 9)) (za (zi (pv 10)) ze)) (ev 2))
    (zq (z_ (i:=10) zZ.nd rfl (.inl rfl) (zi (pv 9))))
    ym)
   (zg (z_ (i:=11) zZ.nd rfl (.inl rfl) (zC yy yz (zp (zx T) (rm hr) rfl T.zd.g T.zd.k T.zd.b zK (za (ev 0) (za (EM.weak (zC zG zH ei (zC yy yz ei (ev 8)))) (za (EM.weak ei) ze)))) (zp (zx T) (rm hr) rfl T.zd.g T.zd.k T.zd.b zK (za (ev 0) (za (EM.weak (zC zG zH ei (zC yy yz ei (ev 8)))) (za (EM.weak (zC yy yz ei (ev 3))) ze))))))
   (zg (z_ (i:=12) zZ.nd rfl (.inl rfl) (zC yy yz (zC Zv Zw (zp (zx T) (rm hr) rfl T.zd.g T.zd.k T.zd.b zK (za (ev 0) (za (EM.weak (zC zG zH ei (zC yy yz ei (ev 8)))) (za (EM.weak ei) ze)))) ei) (zp (zx T) (rm hr) rfl T.zd.g T.zd.k T.zd.b zK (za (ev 0) (za (EM.weak (zC zG zH ei (zC yy yz ei (ev 8)))) (za (EM.weak (zC yy yz ei (ev 3))) ze))))))
   (zg (z_ (i:=13) zZ.nd rfl (.inl rfl) (zC zG zH (zC zG zH (ev 7) (Xk (zA hr) (ev 2) (za (zi (pv 6)) (za (zi (pv 9)) ze)))) (ev 11)))
   (zg (z_ (i:=7) zZ.nd rfl (.inl rfl) (oQ rfl rfl T.p8 (za (zC zG zH (ev 13) ei) (za (zC zG zH (zC zG zH (ev 13) (Xk (zA hr) (ev 2) (za (zi (pv 9)) (za (zi (pv 10)) ze)))) (ev 12)) ze))))
   (zg (JT (pv 5) (jL (za (zp (aI T) (rm hr) rfl T.qE.g T.qE.k T.qE.b zK (za (ev 0) (za (EM.weak ei) (za (ev 8) ze)))) (za (zi (pv 9)) (za (zi (pv 10)) (za (zi (pv 13)) (za (zi (pv 7)) (za (zp (zx T) (rm hr) rfl T.zd.g T.zd.k T.zd.b zK (za (ev 0) (za (EM.weak (zC zG zH ei (zC yy yz ei (ev 8)))) (za (EM.weak ei) ze)))) ze))))))))
   (zq (z_ (i:=6) zZ.nd rfl (.inl rfl) (zi (pv 10))))))))))))))
   (zq (W9 (pv 5)))))))
def YZ (T:Txt K mg a):y3 P w K mg base (CXe P w) 3 a.yQ a.VR ["things","most"] (lsp (WW K a) false [true,false] yQ):=
 zO (ms:=VI) (S':=[1,0]) (Sb:=[]) (Sc:=[]) T.yf.F bR rfl rfl rfl (by decide) fun cdv A outer s H E hr=>
  (zq (qr (yN V_ Wc (qQ rfl T.kZ (za (ev 0) ze)) (ev 1) (yT _))
    (zq (qC (c:=3) rfl T.p_ T.d_ (UW T) (rm hr) rfl T.Xv T.UH (za (zi (pv 1)) ze)))
    ym))
def U1 (T:Txt K mg a):y3 P w K mg base (CXe P w) 3 a.qj a.QY ["name"] (lsp (WW K a) false [false] qj):=
 zO (ms:=QQ) (S':=[0,0]) (Sb:=[]) (Sc:=[]) T.qf.F YN rfl rfl rfl (by decide) fun cdv A outer s H E hr=>
  (zg (qr (TWM.tm (Uw (yN c4 dz (qQ rfl T.kZ (za (ev 0) ze)) ei (yT _)) (QI (yN V_ Wc (qQ rfl T.kZ (za (ev 0) ze)) (yq (zP (v:=.int 12) rfl T.wN ⟨_,rfl⟩)) (yT _)))))
    (zq (qC (c:=1) rfl T.d9 T.Kb (QW T) (rm hr) rfl T.J9 T.QL (za (zi (pv 0)) ze)))
    ym)
   (zg (jw (zI ⟨rfl,rfl⟩) rfl (FQ (ev 0)) (zQ (i:=1) YN.nd rfl (.inl rfl))
    (zq (qr (WJ (zA hr) (ev 1) (kR (zP (v:=.str "abcdefghijklmnopqrstuvwxyz0123456789") rfl T.YO ⟨_,rfl⟩)))
    (zq (qC (c:=1) rfl T.d9 T.Kb (QW T) (rm hr) rfl T.J9 T.QL (za (zi (pv 0)) ze)))
    ym)))
   (zq (yX (zi (pv 0))))))
def jE (T:Txt K mg a):y3 P w K mg base (CXe P w) 3 a.yp a.Kv ["name","places"] (lsp (WW K a) false [false,true] yp):=
 zO (ms:=Kl) (S':=[0,1]) (Sb:=[]) (Sc:=[]) T.zD.F UA rfl rfl rfl (by decide) fun cdv A outer s H E hr=>
  (zq (qr (WJ (zA hr) (ev 0) (ev 1))
    (zq (qC (c:=5) rfl T.rg T.XI (UX T) (rm hr) rfl T.J_ T.UK (za (zi (pv 0)) ze)))
    ym))
def jb (T:Txt K mg a):y3 P w K mg base (CXe P w) 3 a.zU a.Z7 ["value","least"] (lsp (WW K a) false [false,true] zU):=
 zO (ms:=Z2) (S':=[0,1]) (Sb:=[]) (Sc:=[]) T.zz.F Va rfl rfl rfl (by decide) fun cdv A outer s H E hr=>
  (zg (qr (TWM.tm (Uw (yN c4 dz (ev 0) (ev 1) (yT _)) (QI (yN V_ Wc (ev 0) (yq (zP (v:=.int 1000000000) rfl T.gm ⟨_,rfl⟩)) (yT _)))))
    (zq (qC (c:=2) rfl T.gr T.XG (Wl T) (rm hr) rfl T.JH T.Wh (za (zi (pv 0)) ze)))
    ym)
   (zq (yX (zi (pv 0)))))
def jr (T:Txt K mg a):y3 P w K mg base (CXe P w) 3 a.zB a.Qa ["self","name"] (lsp (WW K a) false [true,false] zB):=
 zO (ms:=VJ) (S':=[1,0]) (Sb:=[]) (Sc:=[]) T.d8 bW rfl rfl rfl (by decide) fun cdv A outer s H E hr=>
  (zg (qr (WJ (zA hr) (ev 1) (Zh (ev 0) (fun c hc=>by cases M8.mp hc;exact ⟨T.yC,T.qd⟩)))
    (zq (qC (c:=7) rfl T.xq T.cj (cB T) (rm hr) rfl T.WN T.b6 (za (zi (pv 1)) ze)))
    ym)
   (zq (yX (zW (zA hr) (Zh (ev 0) (fun c hc=>by cases M8.mp hc;exact ⟨T.yC,T.qd⟩)) (ev 1)))))
def wo (T:Txt K mg a):y3 P w K mg base (CXe P w) 4 a.z9 a.wq ["name","had"] (lsp (WW K a) false [false,true] z9):=
 zO (ms:=wj) (S':=[0,1]) (Sb:=[]) (Sc:=[]) T.zT.F JF rfl rfl rfl (by decide) fun cdv A outer s H E hr=>
  (zg (yH (zp (U1 T) (rm hr) rfl T.qf.g T.qf.k T.qf.b zK (za (zi (pv 0)) ze)))
   (zg (qr (Fb (zA hr) (ev 0) (ev 1))
    (zq (qC (c:=4) rfl T.C_ T.gu (eA T) (rm hr) rfl T.gq T.d0 (za (zi (pv 0)) ze)))
    ym)
   (zq (yX (zi (pv 0))))))
def qU (T:Txt K mg a):y3 P w K mg base (CXe P w) 4 a.zy a.w6 ["self","origin","goal"] (lsp (WW K a) false [true,false,false] zy):=
 zO (ms:=QR) (S':=[1,0,0]) (Sb:=[]) (Sc:=[]) T.UL Xr rfl rfl rfl (by decide) fun cdv A outer s H E hr=>
  (zg (yH (zp (jE T) (rm hr) rfl T.zD.g T.zD.k T.zD.b zK (za (zi (pv 1)) (za (EM.weak (Zh (ev 0) (fun c hc=>by cases M8.mp hc;exact ⟨T.qJ,T.jB⟩))) ze))))
   (zg (yH (zp (jE T) (rm hr) rfl T.zD.g T.zD.k T.zD.b zK (za (zi (pv 2)) (za (EM.weak (Zh (ev 0) (fun c hc=>by cases M8.mp hc;exact ⟨T.qJ,T.jB⟩))) ze))))
   (zq (yX (FR (zA hr) (zW (zA hr) (Zh (ev 0) (fun c hc=>by cases M8.mp hc;exact ⟨T.qJ,T.ZY⟩)) (ev 1)) (ev 2) ⟨rfl,rfl,rfl,rfl⟩)))))
def eD (T:Txt K mg a):y3 P w K mg base (CXe P w) 4 a.jq a.VU ["places","ways"] (lsp (WW K a) false [true,true] jq):=
 zO (ms:=VL) (S':=[1,1,0,0,0]) (Sb:=[]) (Sc:=[]) T.jn.F kY rfl rfl rfl (by decide) fun cdv A outer s H E hr=>
  (zq (jw (zI ⟨rfl,rfl⟩) rfl (Zj (Zi (pv 1))) (dD (n:=3) rfl (qu (zQ (i:=2) kY.nd rfl (.inl rfl)) (qu (zQ (i:=3) kY.nd rfl (.inl rfl)) (qu (zQ (i:=4) kY.nd rfl (.inl rfl)) dC ki) ki) ki))
    (zg (yH (zp (jE T) (rm hr) rfl T.zD.g T.zD.k T.zD.b zK (za (zi (pv 2)) (za (ev 0) ze))))
   (zg (yH (zp (jE T) (rm hr) rfl T.zD.g T.zD.k T.zD.b zK (za (zi (pv 3)) (za (ev 0) ze))))
   (zq (yH (zp (jb T) (rm hr) rfl T.zz.g T.zz.k T.zz.b zK (za (zi (pv 4)) (za (EM.weak ei) ze)))))))))
def cD (T:Txt K mg a):y3 P w K mg base (CXe P w) 4 a.qM a.Kw ["table","names"] (lsp (WW K a) false [true,true] qM):=
 zO (ms:=Km) (S':=[1,1,0]) (Sb:=[]) (Sc:=[]) T.qF.F QK rfl rfl rfl (by decide) fun cdv A outer s H E hr=>
  (zq (jw (zI ⟨rfl,rfl⟩) rfl (Zj (Zi (pv 1))) (zQ (i:=2) QK.nd rfl (.inl rfl))
    (zq (yH (vj (fr:=false) (ws:=[false]) (tab:=[(10,zB)]) (ev 0) (fun K sp ⟨q,hq,e1,e2⟩=>by
    simp only [List.mem_cons,List.not_mem_nil,or_false] at hq
    rcases hq with rfl <;> subst e1 e2
    .exact ⟨_,_,_,_,T.yC,T.qI,jr T,(rm hr),T.jo⟩) zK (za (zi (pv 2)) ze))))))
def eF (T:Txt K mg a):y3 P w K mg base (CXe P w) 5 a.qx a.VS ["roads","trip","had"] (lsp (WW K a) false [true,true,true] qx):=
 zO (ms:=VM) (S':=[1,1,1,0]) (Sb:=[]) (Sc:=[]) T.jm.F J7 rfl rfl rfl (by decide) fun cdv A outer s H E hr=>
  (zg (yH (zp (wo T) (rm hr) rfl T.zT.g T.zT.k T.zT.b zK (za (zW (zA hr) (ev 1) (yq (zP (v:=.int 0) rfl T.Vy ⟨_,rfl⟩))) (za (ev 2) ze))))
   (zg (z_ (i:=3) J7.nd rfl (.inl rfl) (vj (fr:=false) (ws:=[false,false]) (tab:=[(11,zy)]) (ev 0) (fun K sp ⟨q,hq,e1,e2⟩=>by
    simp only [List.mem_cons,List.not_mem_nil,or_false] at hq
    rcases hq with rfl <;> subst e1 e2
    .exact ⟨_,_,_,_,T.qJ,T.qw,qU T,(rm hr),T.qT⟩) zK (za (zW (zA hr) (ev 1) (yq (zP (v:=.int 1) rfl T.ZJ ⟨_,rfl⟩))) (za (zW (zA hr) (ev 1) (yq (zP (v:=.int 2) rfl T.Xu ⟨_,rfl⟩))) ze))))
   (zg (yH (zp (jb T) (rm hr) rfl T.zz.g T.zz.k T.zz.b zK (za (zW (zA hr) (ev 1) (yq (zP (v:=.int 3) rfl T.YR ⟨_,rfl⟩))) (za (EM.weak ei) ze))))
   (zg (yH (zp (jb T) (rm hr) rfl T.zz.g T.zz.k T.zz.b zK (za (zW (zA hr) (ev 1) (yq (zP (v:=.int 4) rfl T.wc ⟨_,rfl⟩))) (za (EM.weak ei) ze))))
   (zg (yH (zp (jb T) (rm hr) rfl T.zz.g T.zz.k T.zz.b zK (za (zW (zA hr) (ev 1) (yq (zP (v:=.int 5) rfl T.gp ⟨_,rfl⟩))) (za (EM.weak ei) ze))))
   (zg (qr (yN BD B9 (zW (zA hr) (ev 1) (yq (zP (v:=.int 4) rfl T.wc ⟨_,rfl⟩))) (zW (zA hr) (ev 1) (yq (zP (v:=.int 3) rfl T.YR ⟨_,rfl⟩))) (yT _))
    (zq (qC (c:=8) rfl T.mL T.Vf (X4 T) (rm hr) rfl T.Vc T.Xz (za (zW (zA hr) (ev 1) (yq (zP (v:=.int 0) rfl T.Vy ⟨_,rfl⟩))) ze)))
    ym)
   (zg (qr (yN nR oF (ev 3) (Vs Vo) (yT _))
    (zq (qC (c:=6) rfl T.rh T.Ve (VO T) (rm hr) rfl T.Xw T.Vz (za (zW (zA hr) (ev 1) (yq (zP (v:=.int 1) rfl T.ZJ ⟨_,rfl⟩))) (za (zW (zA hr) (ev 1) (yq (zP (v:=.int 2) rfl T.Xu ⟨_,rfl⟩))) ze))))
    ym)
   (zq (qr (yN c4 dz (zC Yv Yz (zW (zA hr) (ev 1) (yq (zP (v:=.int 4) rfl T.wc ⟨_,rfl⟩))) (zW (zA hr) (ev 1) (yq (zP (v:=.int 3) rfl T.YR ⟨_,rfl⟩)))) (ev 3) (yT _))
    (zq (qC (c:=9) rfl T.ri T.XR (UY T) (rm hr) rfl T.Xx T.UN (za (zW (zA hr) (ev 1) (yq (zP (v:=.int 0) rfl T.Vy ⟨_,rfl⟩))) ze)))
    ym)))))))))
def U2 (T:Txt K mg a):y3 P w K mg base (CXe P w) 5 a.qk a.QZ ["places"] (lsp (WW K a) false [true] qk):=
 zO (ms:=QT) (S':=[1,2,0]) (Sb:=[]) (Sc:=[]) T.qg.F vv rfl rfl rfl (by decide) fun cdv A outer s H E hr=>
  (zg (KW (i:=1) vv.nd rfl (.inl rfl) pw)
   (zq (jw (zI ⟨rfl,rfl⟩) rfl (Zj (Zi (pv 0))) (zQ (i:=2) vv.nd rfl (.inl rfl))
    (zg (yH (zp (wo T) (rm hr) rfl T.zT.g T.zT.k T.zT.b zK (za (zi (pv 2)) (za (ev 1) ze))))
   (zq (AA (zA hr) (pv 1) (ev 2) (Wb V9)))))))
def IY (T:Txt K mg a):y3 P w K mg base (CXe P w) 5 a.mN a.GU ["table","one","other"] (lsp (WW K a) false [true,false,false] mN):=
 zO (ms:=Dc) (S':=[1,0,0,0,0,0]) (Sb:=[]) (Sc:=[]) T.mJ.F iO rfl rfl rfl (by decide) fun cdv A outer s H E hr=>
  (zg (z_ (i:=3) iO.nd rfl (.inl rfl) (vj (fr:=false) (ws:=[false]) (tab:=[(10,zB)]) (ev 0) (fun K sp ⟨q,hq,e1,e2⟩=>by
    simp only [List.mem_cons,List.not_mem_nil,or_false] at hq
    rcases hq with rfl <;> subst e1 e2
    .exact ⟨_,_,_,_,T.yC,T.qI,jr T,(rm hr),T.jo⟩) zK (za (zi (pv 1)) ze)))
   (zg (z_ (i:=4) iO.nd rfl (.inl rfl) (vj (fr:=false) (ws:=[false]) (tab:=[(10,zB)]) (ev 0) (fun K sp ⟨q,hq,e1,e2⟩=>by
    simp only [List.mem_cons,List.not_mem_nil,or_false] at hq
    rcases hq with rfl <;> subst e1 e2
    .exact ⟨_,_,_,_,T.yC,T.qI,jr T,(rm hr),T.jo⟩) zK (za (zi (pv 2)) ze)))
   (zg (z_ (i:=5) iO.nd rfl (.inl rfl) (vj (fr:=false) (ws:=[false,false]) (tab:=[(11,zy)]) (Zh (ev 0) (fun c hc=>by cases M8.mp hc;exact ⟨T.yC,T.yS⟩)) (fun K sp ⟨q,hq,e1,e2⟩=>by
    simp only [List.mem_cons,List.not_mem_nil,or_false] at hq
    rcases hq with rfl <;> subst e1 e2
    .exact ⟨_,_,_,_,T.qJ,T.qw,qU T,(rm hr),T.qT⟩) zK (za (zW (zA hr) (ev 3) (yq (zP (v:=.int 2) rfl T.Xu ⟨_,rfl⟩))) (za (zW (zA hr) (ev 4) (yq (zP (v:=.int 1) rfl T.ZJ ⟨_,rfl⟩))) ze))))
   (zg (qr (yN nR oF (ev 5) (Vs Vo) (yT _))
    (zq (yX (Vs Vo)))
    ym)
   (zq (yX (zC Yv Yz (zC Yv Yz (zW (zA hr) (ev 4) (yq (zP (v:=.int 3) rfl T.YR ⟨_,rfl⟩))) (zW (zA hr) (ev 3) (yq (zP (v:=.int 4) rfl T.wc ⟨_,rfl⟩)))) (ev 5))))))))
def X6 (T:Txt K mg a):y3 P w K mg base (CXe P w) 5 a.jf a.Uj ["roads","origin","goal"] (lsp (WW K a) false [true,false,false] jf):=
 zO (ms:=X0) (S':=[1,0,0]) (Sb:=[]) (Sc:=[]) T.y9.F dY rfl rfl rfl (by decide) fun cdv A outer s H E hr=>
  (zq (qr (yN nR oF (vj (fr:=false) (ws:=[false,false]) (tab:=[(11,zy)]) (ev 0) (fun K sp ⟨q,hq,e1,e2⟩=>by
    simp only [List.mem_cons,List.not_mem_nil,or_false] at hq
    rcases hq with rfl <;> subst e1 e2
    .exact ⟨_,_,_,_,T.qJ,T.qw,qU T,(rm hr),T.qT⟩) zK (za (zi (pv 1)) (za (zi (pv 2)) ze))) (Vs Vo) (yT _))
    (zq (qC (c:=6) rfl T.rh T.Ve (VO T) (rm hr) rfl T.Xw T.Vz (za (zi (pv 1)) (za (zi (pv 2)) ze))))
    ym))
def Kq (T:Txt K mg a):y3 P w K mg base (CXe P w) 6 a.Y6 a.Y9 ["self","roads","trips"] (hsp (WW K a) 3 k8):=
 iH (ms:=k7) T.d6 J8 rfl rfl rfl fun cdv A outer s H E hr=>
  (zM (bG (Jv (S:=NZ) (fr:=false) [false,false,true] (zp (YZ T) (rm hr) rfl T.yf.g T.yf.k T.yf.b zK (za (ev 2) (za (yq (zP (v:=.int 40) rfl T.YQ ⟨_,rfl⟩)) ze)))))
   (zM (p4 (zY (pv 0)) (zY (pv 1)) (fun c hc=>by cases M8.mp hc;exact ⟨T.yC,T.yS⟩))
   (zM (p4 (zY (pv 0)) (FH (S:=NZ) (fr:=false) [] pw) (fun c hc=>by cases M8.mp hc;exact ⟨T.yC,T.qd⟩))
   (zM (CS (S:=NZ) (fr:=false) [false,false,true] (zI ⟨rfl,rfl⟩) rfl (Zj (EM.en (zi (pv 2)))) (wA (i:=3) J8.nd rfl (.inl rfl))
    (zM (bG (Jv (S:=NZ) (fr:=false) [true,true,false,true] (zp (eF T) (rm hr) rfl T.jm.g T.jm.k T.jm.b zK (za (ev 1) (za (ev 3) (za (EM.weak (Zh (ev 0) (fun c hc=>by cases M8.mp hc;exact ⟨T.yC,T.qd⟩))) ze))))))
   (qv (FN (zA hr) (FJ (zY (pv 0)) (fun c hc=>by cases M8.mp hc;exact ⟨T.yC,T.qd⟩)) (Jv (S:=NZ) (fr:=false) [false,false,false,true] (zW (zA hr) (ev 3) (yq (zP (v:=.int 0) rfl T.Vy ⟨_,rfl⟩)))) (zY (pv 3))))))
   (qv (p4 (zY (pv 0)) (Jv (S:=NZ) (fr:=false) [false,false,true] (FM.em (pf ["trip"] [none] [0] rfl (by kernel_rfl) (KY (FM.em (xm (wk:=true) (Wm T) (rm hr) T.qc.b rfl T.bZ rfl T.qc.g (za (ev 2) ze)))) (fun _=>(zQ (i:=0) (show List.Nodup (["trip"]:List Str) from by decide +kernel) rfl (.inl rfl))) (fun _=>Xb) (fun _=>(zW (zA hr) (ev 0) (yq (zP (v:=.int 0) rfl T.Vy ⟨_,rfl⟩))))))) (fun c hc=>by cases M8.mp hc;exact ⟨T.yC,T.UT⟩)))))))
def VP (T:Txt K mg a):y3 P w K mg base (CXe P w) 6 a.y6 a.Y_ ["self","places","ways"] (Hc (WW K a) 11 [true,true] y6):=
 pq (ms:=wm) (S':=[2,1,1]) (Sb:=[]) (Sc:=[]) (n:=2) T.d7 bV rfl rfl rfl (by decide) rfl fun cdv A outer s H E hr=>
  (zg (yH (zp (YZ T) (rm hr) rfl T.yf.g T.yf.k T.yf.b zK (za (ev 1) (za (yq (zP (v:=.int 12) rfl T.ZK ⟨_,rfl⟩)) ze))))
   (zg (yH (zp (YZ T) (rm hr) rfl T.yf.g T.yf.k T.yf.b zK (za (ev 2) (za (yq (zP (v:=.int 60) rfl T.JG ⟨_,rfl⟩)) ze))))
   (zg (yH (zp (U2 T) (rm hr) rfl T.qg.g T.qg.k T.qg.b zK (za (ev 1) ze)))
   (zg (yH (zp (eD T) (rm hr) rfl T.jn.g T.jn.k T.jn.b zK (za (ev 1) (za (ev 2) ze))))
   (zg (o6 (i:=0) (pv 0) (FM.em (v9 rfl rfl T.Zm (za (ev 1) ze))) (fun c hc=>by cases M8.mp hc;exact ⟨T.qJ,T.jB⟩))
   (zg (o6 (i:=0) (pv 0) (FM.em (v9 rfl rfl T.Zm (za (ev 2) ze))) (fun c hc=>by cases M8.mp hc;exact ⟨T.qJ,T.ck⟩))
   (zq (o6 (i:=0) (pv 0) (FM.em (uW rfl rfl T.p7 (za (FM.em (pf ["place","ways"] [none,some 2] [0,1] rfl (by kernel_rfl) (KY (ev 1)) (fun _=>(zQ (i:=0) (show List.Nodup (["place","ways"]:List Str) from by decide +kernel) rfl (.inl rfl))) (fun _=>Xb) (fun _=>(jL (za (zi (pv 0)) (za (FM.em (W8 (UZ T) (rm hr) rfl T.qh.g T.qh.k T.qh.b oi (za (ev 0) (za (ev 1) ze)))) ze)))))) ze))) (fun c hc=>by cases M8.mp hc;exact ⟨T.qJ,T.ZY⟩)))))))))
def xx (T:Txt K mg a):y3 P w K mg base (CXe P w) 6 a.QC a.lK ["table","one","other"] (lsp (WW K a) false [true,false,false] QC):=
 zO (ms:=iS) (S':=[1,0,0,0]) (Sb:=[]) (Sc:=[]) T.QA.F dW rfl rfl rfl (by decide) fun cdv A outer s H E hr=>
  (zg (z_ (i:=3) dW.nd rfl (.inl rfl) (zp (IY T) (rm hr) rfl T.mJ.g T.mJ.k T.mJ.b zK (za (ev 0) (za (zi (pv 1)) (za (zi (pv 2)) ze)))))
   (zq (yX (EZ (ie BE B_ (ev 3) (Vs Vo) (yT _)) (Ar (ie HF Io (ev 3) ei (yT _)))))))
def U3 (T:Txt K mg a):y3 P w K mg base (CXe P w) 7 a.ql a.Q2 ["table","names"] (lsp (WW K a) false [true,true] ql):=
 zO (ms:=QU) (S':=[1,1,0,0]) (Sb:=[]) (Sc:=[]) T.qi.F vw rfl rfl rfl (by decide) fun cdv A outer s H E hr=>
  (zg (yH (zp (cD T) (rm hr) rfl T.qF.g T.qF.k T.qF.b zK (za (ev 0) (za (ev 1) ze))))
   (zq (jw (zI ⟨rfl,rfl⟩) rfl (C2 rfl T.C9 (Zi (pv 1)) (EM.en (JS (ev 1) (Zz ei) Cj))) (dD (n:=2) rfl (qu (zQ (i:=2) vw.nd rfl (.inl rfl)) (qu (zQ (i:=3) vw.nd rfl (.inl rfl)) dC ki) ki))
    (zq (qr (dA (Vt (zp (xx T) (rm hr) rfl T.QA.g T.QA.k T.QA.b zK (za (ev 0) (za (zi (pv 2)) (za (zi (pv 3)) ze))))))
    (zq (qC (c:=12) rfl T.mM T.Vg (X5 T) (rm hr) rfl T.Qz T.XB (za (zi (pv 2)) (za (zi (pv 3)) ze))))
    ym)))))
def X7 (T:Txt K mg a):y3 P w K mg base (CXe P w) 8 a.qy a.Ui ["table","home","names"] (lsp (WW K a) false [true,false,true] qy):=
 zO (ms:=X3) (S':=[1,0,1]) (Sb:=[]) (Sc:=[]) T.y8.F dX rfl rfl rfl (by decide) fun cdv A outer s H E hr=>
  (zg (yH (zp (jE T) (rm hr) rfl T.zD.g T.zD.k T.zD.b zK (za (zi (pv 1)) (za (EM.weak (FM.em (uH (tab:=[(11,yP)]) (Zh (ev 0) (fun c hc=>by cases M8.mp hc;exact ⟨T.yC,T.yS⟩)) (fun K sp ⟨q,hq,e1,e2⟩=>by
    simp only [List.mem_cons,List.not_mem_nil,or_false] at hq
    rcases hq with rfl <;> subst e1 e2
    .exact ⟨_,_,_,_,T.qJ,T.UU,cC T,(rm hr),T.b8⟩) zK))) ze))))
   (zq (yH (zp (U3 T) (rm hr) rfl T.qi.g T.qi.k T.qi.b zK (za (ev 0) (za (ev 2) ze))))))
def cE (T:Txt K mg a):y3 P w K mg base (CXe P w) 9 a.y_ a.Kx ["table","home","names"] (lsp (WW K a) false [true,false,true] y_):=
 zO (ms:=Kn) (S':=[1,0,1]) (Sb:=[]) (Sc:=[]) T.qG.F UD rfl rfl rfl (by decide) fun cdv A outer s H E hr=>
  (zg (yH (zp (X7 T) (rm hr) rfl T.y8.g T.y8.k T.y8.b zK (za (ev 0) (za (zi (pv 1)) (za (ev 2) ze)))))
   (zq (qr (yN V_ Wc (qQ rfl T.kZ (za (ev 2) ze)) ei (yT _))
    (zg (yH (zp (X6 T) (rm hr) rfl T.y9.g T.y9.k T.y9.b zK (za (EM.weak (Zh (ev 0) (fun c hc=>by cases M8.mp hc;exact ⟨T.yC,T.yS⟩))) (za (zi (pv 1)) (za (zW (zA hr) (vj (fr:=false) (ws:=[false]) (tab:=[(10,zB)]) (ev 0) (fun K sp ⟨q,hq,e1,e2⟩=>by
    simp only [List.mem_cons,List.not_mem_nil,or_false] at hq
    rcases hq with rfl <;> subst e1 e2
    .exact ⟨_,_,_,_,T.yC,T.qI,jr T,(rm hr),T.jo⟩) zK (za (zW (zA hr) (ev 2) ei) ze)) (yq (zP (v:=.int 1) rfl T.ZJ ⟨_,rfl⟩))) ze)))))
   (zq (yH (zp (X6 T) (rm hr) rfl T.y9.g T.y9.k T.y9.b zK (za (EM.weak (Zh (ev 0) (fun c hc=>by cases M8.mp hc;exact ⟨T.yC,T.yS⟩))) (za (zW (zA hr) (vj (fr:=false) (ws:=[false]) (tab:=[(10,zB)]) (ev 0) (fun K sp ⟨q,hq,e1,e2⟩=>by
    simp only [List.mem_cons,List.not_mem_nil,or_false] at hq
    rcases hq with rfl <;> subst e1 e2
    .exact ⟨_,_,_,_,T.yC,T.qI,jr T,(rm hr),T.jo⟩) zK (za (zW (zA hr) (ev 2) (uC g5 ij ei)) ze)) (yq (zP (v:=.int 2) rfl T.Xu ⟨_,rfl⟩))) (za (zi (pv 1)) ze)))))))
    ym)))
def QX (T:Txt K mg a):y3 P w K mg base (CXe P w) 10 a.zV a.Q3 ["table","home","names"] (lsp (WW K a) false [true,false,true] zV):=
 zO (ms:=QV) (S':=[1,0,1,0,0,0,0]) (Sb:=[]) (Sc:=[]) T.yo.F yI rfl rfl rfl (by decide) fun cdv A outer s H E hr=>
  (zg (yH (zp (cE T) (rm hr) rfl T.qG.g T.qG.k T.qG.b zK (za (ev 0) (za (zi (pv 1)) (za (ev 2) ze)))))
   (zg (z_ (i:=3) yI.nd rfl (.inl rfl) (zi (pv 1)))
   (zg (z_ (i:=4) yI.nd rfl (.inl rfl) ei)
   (zg (jw (zI ⟨rfl,rfl⟩) rfl (Zj (Zi (pv 2))) (zQ (i:=5) yI.nd rfl (.inl rfl))
    (zg (z_ (i:=6) yI.nd rfl (.inl rfl) (vj (fr:=false) (ws:=[false]) (tab:=[(10,zB)]) (ev 0) (fun K sp ⟨q,hq,e1,e2⟩=>by
    simp only [List.mem_cons,List.not_mem_nil,or_false] at hq
    rcases hq with rfl <;> subst e1 e2
    .exact ⟨_,_,_,_,T.yC,T.qI,jr T,(rm hr),T.jo⟩) zK (za (zi (pv 5)) ze)))
   (zg (Cp (i:=4) yI.nd rfl (.inl rfl) (zC Yv Yz (zC zG zH (vj (fr:=false) (ws:=[false,false]) (tab:=[(11,zy)]) (Zh (ev 0) (fun c hc=>by cases M8.mp hc;exact ⟨T.yC,T.yS⟩)) (fun K sp ⟨q,hq,e1,e2⟩=>by
    simp only [List.mem_cons,List.not_mem_nil,or_false] at hq
    rcases hq with rfl <;> subst e1 e2
    .exact ⟨_,_,_,_,T.qJ,T.qw,qU T,(rm hr),T.qT⟩) zK (za (zi (pv 3)) (za (zW (zA hr) (ev 6) (yq (zP (v:=.int 1) rfl T.ZJ ⟨_,rfl⟩))) ze))) (zW (zA hr) (ev 6) (yq (zP (v:=.int 4) rfl T.wc ⟨_,rfl⟩)))) (zW (zA hr) (ev 6) (yq (zP (v:=.int 3) rfl T.YR ⟨_,rfl⟩)))) Eg)
   (zq (z_ (i:=3) yI.nd rfl (.inl rfl) (zW (zA hr) (ev 6) (yq (zP (v:=.int 2) rfl T.Xu ⟨_,rfl⟩))))))))
   (zq (yX (zC zG zH (ev 4) (vj (fr:=false) (ws:=[false,false]) (tab:=[(11,zy)]) (Zh (ev 0) (fun c hc=>by cases M8.mp hc;exact ⟨T.yC,T.yS⟩)) (fun K sp ⟨q,hq,e1,e2⟩=>by
    simp only [List.mem_cons,List.not_mem_nil,or_false] at hq
    rcases hq with rfl <;> subst e1 e2
    .exact ⟨_,_,_,_,T.qJ,T.qw,qU T,(rm hr),T.qT⟩) zK (za (zi (pv 3)) (za (zi (pv 1)) ze))))))))))
def cF (T:Txt K mg a):y3 P w K mg base (CXe P w) 11 a.qN a.Ky ["table","home","name","limit"] (lsp (WW K a) false [true,false,false,true] qN):=
 zO (ms:=Ko) (S':=[1,0,0,1]) (Sb:=[]) (Sc:=[]) T.qH.F UE rfl rfl rfl (by decide) fun cdv A outer s H E hr=>
  (zq (qr (yN V_ Wc (zp (QX T) (rm hr) rfl T.yo.g T.yo.k T.yo.b zK (za (ev 0) (za (zi (pv 1)) (za (EM.weak (FM.em (v5 (za (zi (pv 2)) ze)))) ze)))) (ev 3) (yT _))
    (zq (qC (c:=13) rfl T.rj T.vy (U0 T) (rm hr) rfl T.Ka T.UP (za (zi (pv 2)) ze)))
    ym))
def Ge (T:Txt K mg a):y3 P w K mg base (CXe P w) 12 a.GR a.GV ["table","home","names","limit"] (hsp (WW K a) 4 aH):=
 iH (ms:=Bc) T.mK.F iP rfl rfl rfl fun cdv A outer s H E hr=>
  (zM (bG (Jv (S:=N_) (fr:=false) [true,true,true] (zp (X7 T) (rm hr) rfl T.y8.g T.y8.k T.y8.b zK (za (ev 0) (za (zi (pv 1)) (za (ev 2) ze))))))
   (zM (bH (zI ⟨rfl,rfl⟩) rfl (zY (pv 2)) (wA (i:=4) iP.nd rfl (.inl rfl))
    (qv (bG (Jv (S:=N_) (fr:=false) [true,true,false,true,true] (zp (cF T) (rm hr) rfl T.qH.g T.qH.k T.qH.b zK (za (ev 0) (za (zi (pv 1)) (za (zi (pv 4)) (za (ev 3) ze)))))))))
   (zM (vp (i:=5) iP.nd rfl (.inl rfl) (FH (S:=N_) (fr:=false) [] (v5 ze)))
   (zM (bH (zI ⟨rfl,rfl⟩) rfl (zY (pv 2)) (wA (i:=4) iP.nd rfl (.inl rfl))
    (qv (pR (FF (S:=N_) (fr:=false) [true,true,false,true,true,true] (TWM.tm (oG (yN V_ Wc (qQ rfl T.kZ (za (ev 5) ze)) ei (yT _)) (fR (yN BD B9 (zp (QX T) (rm hr) rfl T.yo.g T.yo.k T.yo.b zK (za (ev 0) (za (zi (pv 1)) (za (EM.weak (zC zG zH (zW (zA hr) (ev 5) (uC g5 ij ei)) (FM.em (v5 (za (zi (pv 4)) ze))))) ze)))) (ev 3) (yT _))))))
    (qv (YD (IH (zA hr) (zY (pv 5)) (Jv (S:=N_) (fr:=false) [] (uC g5 ij ei))) (zY (pv 4))))
    (qv (YD (zY (pv 5)) (FH (S:=N_) (fr:=false) [false,false,false,false,true] (v5 (za (zi (pv 4)) ze))))))))
   (qv (Vx (zY (pv 5))))))))
def eG (T:Txt K mg a):y3 P w K mg base (CXe P w) 13 a.Ud a.Uk ["_law_table","_law_home","_law_names","_law_limit_here"] (hsp (WW K a) 4 km):=
 iH (ms:=VN) T.jV.F kl rfl rfl rfl fun cdv A outer s H E hr=>
  (zM (vp (i:=4) kl.nd rfl (.inl rfl) (FH (S:=Oa) (fr:=false) [] (v5 ze)))
   (zM (C5 (j:=5) ⟨rfl,rfl⟩ (FX (i:=4) kl.nd rfl (.inl rfl) (C4 (Ge T) (rm hr) rfl T.mK.g T.mK.k T.mK.b (zR (zY (pv 0)) (zR (zY (pv 1)) (zR (zY (pv 2)) (zR (zY (pv 3)) ZX)))) (kC (kC (kC (kC iG)))))) rfl T.Xw rfl T.Ka kl.nd rfl (.inl rfl) (fun e=>(qv (Vx (Jv (S:=Oa) (fr:=false) [false,false,false,false,false,true] (jL (za (jL (za (kR vh) (za (fX (ev 5) (fun c hc=>by cases M8.mp hc;exact ⟨T.Ve,T.XQ⟩)) (za (fX (ev 5) (fun c hc=>by cases M8.mp hc;exact ⟨T.Ve,T.cg⟩)) ze)))) (za (Vs Vo) ze))))))) (fun e=>(zM (vp (i:=6) kl.nd rfl (.inl rfl) (Jv (S:=Oa) (fr:=false) [false,false,false,false,false,true] (E4 (aq rfl T.y4 (ev 5) (zP rfl T.J_ (v:=.ref _) rfl) rfl ⟨⟨⟨T.vy,T.QB⟩,T.kH⟩,trivial⟩) (E4 (aq rfl T.y4 (ev 5) (zP rfl T.WN (v:=.ref _) rfl) rfl ⟨⟨⟨T.vy,T.QB⟩,T.vz⟩,trivial⟩) (Ar (aq rfl T.y4 (ev 5) (zP rfl T.Qz (v:=.ref _) rfl) rfl ⟨⟨⟨T.vy,T.QB⟩,T.jW⟩,trivial⟩))))))
   (zM (pR (FF (S:=Oa) (fr:=false) [false,false,false,false,false,true,true] (TWM.tm (Uw (Vt (ev 6)) (QI (dA (Vt (aq rfl T.y4 (ev 5) (zP rfl T.YS (v:=.ref _) rfl) rfl ⟨⟨⟨T.vy,T.QB⟩,T.je⟩,trivial⟩)))))))
    (qv (Vx (Jv (S:=Oa) (fr:=false) [] (jL (za (jL (za (kR vh) ze)) (za (Vs Vo) ze))))))
    bF)
   (qv (Vx (Jv (S:=Oa) (fr:=false) [false,false,false,false,false,true] (jL (za (jL (za (kR vh) (za (fX (ev 5) (fun c hc=>by simp only [List.mem_cons,List.not_mem_nil,or_false] at hc;rcases hc with rfl | rfl | rfl | rfl | rfl | rfl | rfl <;> first | exact ⟨T.Kb,T.XF⟩ | exact ⟨T.gu,T.b_⟩ | exact ⟨T.XI,T.XM⟩ | exact ⟨T.cj,T.US⟩ | exact ⟨T.Vf,T.Wj⟩ | exact ⟨T.XR,T.XT⟩ | exact ⟨T.vy,T.XW⟩)) ze))) (za (Vs Vo) ze))))))))) (fun c hc=>by cases M8.mp hc;exact T.UQ) (fun c hc=>by cases M8.mp hc;exact ⟨T.Wk,T.Kf⟩))
   (qv (Vx (aw (zR (Jv (S:=Oa) (fr:=false) [] (jL (za (kR vh) ze))) (zR (zY (pv 4)) ZX)))))))
def Gf (T:Txt K mg a):y3 P w K mg base (CXe P w) 14 a.GS a.GW ["_law_script"] (hsp (WW K a) 1 Be):=
 iH (ms:=Bd) T.p9.F qR rfl rfl rfl fun cdv A outer s H E hr=>
  (zM (vp (i:=1) qR.nd rfl (.inl rfl) (Jv (S:=Ob) (fr:=false) [true] (zW (zA hr) (FM.em (v5 (za ei (za ei (za ei ze))))) (zp (zx T) (rm hr) rfl T.zd.g T.zd.k T.zd.b zK (za (ev 0) (za (EM.weak ei) (za (EM.weak ei) ze)))))))
   (zM (FW (S:=Ob) (fr':=false) (j:=2) [true] ["_law_k","_law_script"] [none,some 0] [0,0] qR.nd rfl rfl rfl (by kernel_rfl) (KZ rfl T.YT (za (zC zG zH ei (zp (zx T) (rm hr) rfl T.zd.g T.zd.k T.zd.b zK (za (ev 0) (za (EM.weak ei) (za (EM.weak ei) ze))))) ze)) (fun _=>(zQ (i:=0) (show List.Nodup (["_law_k","_law_script"]:List Str) from by decide +kernel) rfl (.inl rfl))) (fun _=>Xb) (fun _=>(zp (aI T) (rm hr) rfl T.qE.g T.qE.k T.qE.b oi (za (ev 1) (za (EM.weak ei) (za (ev 0) ze))))))
   (zM (vp (i:=3) qR.nd rfl (.inl rfl) (Jv (S:=Ob) (fr:=false) [true,true,true] (FM.em (W8 (mO T) (rm hr) rfl T.vd.g T.vd.k T.vd.b zK (za (ev 0) (za (ev 2) (za (ev 1) (za (EM.weak (ie V_ Wc (zp (zx T) (rm hr) rfl T.zd.g T.zd.k T.zd.b zK (za (ev 0) (za (EM.weak ei) (za (EM.weak ei) ze)))) ei (yT _))) ze))))))))
   (zM (vp (i:=4) qR.nd rfl (.inl rfl) (Jv (S:=Ob) (fr:=false) [false,false,true,true] (FM.em (W8 (cA T) (rm hr) rfl T.qD.g T.qD.k T.qD.b zK (za (ev 2) (za (ev 3) ze))))))
   (zM (vp (i:=5) qR.nd rfl (.inl rfl) (Jv (S:=Ob) (fr:=false) [true,true,true,false,true] (FM.em (W8 (gz T) (rm hr) rfl T.jS.g T.jS.k T.jS.b zK (za (ev 0) (za (ev 2) (za (ev 4) (za (ev 1) (za (EM.weak (zp (zx T) (rm hr) rfl T.zd.g T.zd.k T.zd.b zK (za (ev 0) (za (EM.weak ei) (za (EM.weak ei) ze))))) ze)))))))))
   (zM (vp (i:=6) qR.nd rfl (.inl rfl) (iM (c:=10) T.iQ (Kq T) (rm hr) rfl T.bX T.VA zK (zR (Jv (S:=Ob) (fr:=false) [false,false,true,true] (FM.em (oY (c:=11) T.iR (VP T) (rm hr) rfl T.bY T.VB zK (za (EM.weak (FM.em (v9 rfl rfl T.Zm (za (ev 2) ze)))) (za (EM.weak (FM.em (v9 rfl rfl T.Zm (za (ev 3) ze)))) ze))))) (zR (Jv (S:=Ob) (fr:=false) [false,false,false,false,false,true] (FM.em (gc rfl rfl T.Zm rfl T.Vd (za (ev 5) ze)))) ZX)) (fun ρ G xs G' e=>S0 (· + 1) ((kC (kC iG)) ρ G xs G' e))))
   (zM (vp (i:=7) qR.nd rfl (.inl rfl) (Jv (S:=Ob) (fr:=false) [true,false,true] (zW (zA hr) (ev 2) (zp (zx T) (rm hr) rfl T.zd.g T.zd.k T.zd.b zK (za (ev 0) (za (EM.weak ei) (za (EM.weak (qQ rfl T.kZ (za (ev 2) ze))) ze)))))))
   (zM (vp (i:=8) qR.nd rfl (.inl rfl) (Jv (S:=Ob) (fr:=false) [true,false,false,false,true,true,false,true] (zp (gx T) (rm hr) rfl T.jT.g T.jT.k T.jT.b zK (za (ev 0) (za (ev 4) (za (zi (pv 7)) (za (ev 5) ze)))))))
   (zM (vp (i:=9) qR.nd rfl (.inl rfl) (Jv (S:=Ob) (fr:=false) [true,true,false,false,false,true] (FM.em (W8 (gw T) (rm hr) rfl T.jU.g T.jU.k T.jU.b zK (za (ev 5) (za (EM.weak (zC zG zH ei (zp (zx T) (rm hr) rfl T.zd.g T.zd.k T.zd.b zK (za (ev 0) (za (EM.weak ei) (za (EM.weak (zC yy yz ei (ev 1))) ze)))))) ze))))))
   (zM (vp (i:=10) qR.nd rfl (.inl rfl) (iM (c:=10) T.iQ (Kq T) (rm hr) rfl T.bX T.VA zK (zR (Jv (S:=Ob) (fr:=false) [false,false,true,true] (FM.em (oY (c:=11) T.iR (VP T) (rm hr) rfl T.bY T.VB zK (za (EM.weak (FM.em (v9 rfl rfl T.Zm (za (ev 2) ze)))) (za (EM.weak (FM.em (v9 rfl rfl T.Zm (za (ev 3) ze)))) ze))))) (zR (Jv (S:=Ob) (fr:=false) [false,false,false,false,false,false,false,false,false,true] (FM.em (v9 rfl rfl T.Zm (za (ev 9) ze)))) ZX)) (fun ρ G xs G' e=>S0 (· + 1) ((kC (kC iG)) ρ G xs G' e))))
   (zM (vp (i:=11) qR.nd rfl (.inl rfl) (Jv (S:=Ob) (fr:=false) [true,false,true] (zW (zA hr) (ev 2) (zp (zx T) (rm hr) rfl T.zd.g T.zd.k T.zd.b zK (za (ev 0) (za (EM.weak ei) (za (EM.weak (qQ rfl T.kZ (za (ev 2) ze))) ze)))))))
   (zM (vp (i:=12) qR.nd rfl (.inl rfl) (AN (zR (aw (zR (zY (pv 6)) (zR (zY (pv 5)) (zR (zY (pv 7)) (zR (zY (pv 8)) ZX))))) (zR (aw (zR (zY (pv 10)) (zR (zY (pv 9)) (zR (zY (pv 7)) (zR (zY (pv 8)) ZX))))) (zR (aw (zR (zY (pv 6)) (zR (zY (pv 5)) (zR (zY (pv 11)) (zR (zY (pv 8)) ZX))))) ZX)))))
   (zM (bH (zI ⟨rfl,rfl⟩) rfl (FZ (zY (pv 12)) (AN (zR (aw (zR (zY (pv 6)) (zR (zY (pv 5)) (zR (zY (pv 7)) (zR (Jv (S:=Ob) (fr:=false) [] (zC nO fP ei ei)) ZX))))) (zR (aw (zR (zY (pv 6)) (zR (zY (pv 5)) (zR (zY (pv 7)) (zR (zY (pv 8)) ZX))))) ZX)))) (AO (n:=4) rfl (Qx (wA (i:=13) qR.nd rfl (.inl rfl)) (Qx (wA (i:=14) qR.nd rfl (.inl rfl)) (Qx (wA (i:=15) qR.nd rfl (.inl rfl)) (Qx (wA (i:=16) qR.nd rfl (.inl rfl)) pT)))))
    (zM (IK (S:=Ob) (fr':=false) (j:=17) [false,false,false,false,false,true] ["_law_trip"] [none] [0] qR.nd rfl rfl rfl (by kernel_rfl) (KY (ev 5)) (fun _=>(zQ (i:=0) (show List.Nodup (["_law_trip"]:List Str) from by decide +kernel) rfl (.inl rfl))) (fun _=>Xb) (fun _=>(zW (zA hr) (ev 0) ei)))
   (zM (vp (i:=18) qR.nd rfl (.inl rfl) (Jv (S:=Ob) (fr:=false) [false,false,false,false,true,false,false,false,false,false,false,false,false,false,true,true,true] (zp (rl T) (rm hr) rfl T.Zn.g T.Zn.k T.Zn.b zK (za (ev 4) (za (zi (pv 15)) (za (ev 14) (za (ev 16) ze)))))))
   (zM (FO (CO (eG T) (rm hr) rfl T.jV.g T.jV.k T.jV.b zK (zR (zY (pv 13)) (zR (zY (pv 15)) (zR (zY (pv 17)) (zR (zY (pv 16)) ZX)))) (kC (kC (kC (kC iG))))) (AO (n:=2) rfl (Qx (wA (i:=19) qR.nd rfl (.inl rfl)) (Qx (wA (i:=20) qR.nd rfl (.inl rfl)) pT))))
   (zM (pR (FF (S:=Ob) (fr:=false) [false,false,false,false,false,true,false,false,false,false,false,false,false,false,false,false,false,true,true,true] (TWM.tm (Uw (Cd hr.units (ev 19) (ev 18)) (QI (Cd hr.units (ev 17) (FM.em (pf ["_law_trip"] [none] [0] rfl (by kernel_rfl) (KY (ev 5)) (fun _=>(zQ (i:=0) (show List.Nodup (["_law_trip"]:List Str) from by decide +kernel) rfl (.inl rfl))) (fun _=>Xb) (fun _=>(zW (zA hr) (ev 0) ei)))))))))
    (qv (Vx (Jv (S:=Ob) (fr:=false) [] (Wb V9))))
    bF)
   (zM (pR (FF (S:=Ob) (fr:=false) [false,false,false,false,false,false,false,false,false,false,false,false,false,false,false,false,false,false,true] (oJ hr.units (ev 18) (jL (za (kR vh) ze))))
    (zM (pR (FF (S:=Ob) (fr:=false) [false,false,false,false,true,false,false,false,false,false,false,false,false,false,true,true,true,false,false,false,true] (dA (Vt (zp (mP T) (rm hr) rfl T.ve.g T.ve.k T.ve.b zK (za (ev 4) (za (zi (pv 15)) (za (ev 14) (za (ev 16) (za (ev 20) ze)))))))))
    (qv (Vx (Jv (S:=Ob) (fr:=false) [] (Wb V9))))
    bF)
   (zM (bH (zI ⟨rfl,rfl⟩) rfl (zY (pv 20)) (wA (i:=21) qR.nd rfl (.inl rfl))
    (qv (YD (zY (pv 21)) (Jv (S:=Ob) (fr:=false) [] (kR vh)))))
   (qv (YD (zY (pv 20)) (FH (S:=Ob) (fr:=false) [] (v5 (za (kR vh) ze)))))))
    bF)
   (qv (YD (zY (pv 17)) (Jv (S:=Ob) (fr:=false) [] (kR vh))))))))))
   (qv (Vx (Jv (S:=Ob) (fr:=false) [] (Wb V9)))))))))))))))))
def zo (ha:a ρ=.ok x) (hb:b ρ=.ok y) (h:f x y=.ok z):mOp f a b ρ=.ok z:=by unfold mOp;rw [ha,okb,hb,okb,h]
def zw (h:ms ρ=.ok xs) (h2:f xs=.ok x):zm f ms ρ=.ok x:=by unfold zm;rw [h,okb,h2]
def zl (ha:a ρ=.ok x) (h:ms ρ=.ok xs):zb a ms ρ=.ok (x :: xs):=by unfold zb;rw [ha,okb,h,okb]
def Kr (h:ms ρ=.ok xs) (hl:xs.length<=sizeLine):W4 ms ρ=.ok (.l xs):=by unfold W4;rw [h,okb,if_pos hl]
def rq (ha:a ρ=.ok (.i x)) (hn:0 < n):mOp Jt a (mC (.i n)) ρ=.ok (.i (x % n)):=zo ha rfl (dG hn)
def IZ (ha:a ρ=.ok (.i x)) (hn:0 < n) (h2:n < 1073741824):mOp mj a (mC (.i n)) ρ=.ok (.i (x / n)):=zo ha rfl (AD hn h2)
def rA (ha:a ρ=.ok (.i x)):yK (mOp (JQ false) a (mC (.i n))) ρ=.ok (decide (x=n)):=by
 unfold yK
 rw [zo (z:=.b (decide (x=n))) ha rfl (Fs.trans (by rw [a1h]))];rfl
def X8 (ha:a ρ=.ok (.i x)):yK (mOp pGt a (mC (.i n))) ρ=.ok (decide (x > n)):=by
 unfold yK
 rw [zo (z:=.b (decide (x > n))) ha rfl rfl];rfl
def rB (ha:a ρ=.ok x) (hb:b ρ=.ok y):tN a b ρ=.ok (x && y):=by
 unfold tN;rw [ha,okb];cases x
 .rfl
 .rw [if_pos rfl,hb];rfl
def yJ (h:c ρ=.ok x):sIf c a b ρ=if x=true then a ρ else b ρ:=by unfold sIf;rw [h,okb]
def ZP (h:m ρ=.ok x):vk m ρ=.ok (.rt x):=by unfold vk;rw [h,okb]
def Bf (ha:a ρ=.ok (.i x)):yK (mOp pLt a (mC (.i n))) ρ=.ok (decide (x < n)):=by
 unfold yK
 rw [zo (z:=.b (decide (x < n))) ha rfl rfl];rfl
def yF (h:m ρ=.ok (.b b)):yK m ρ=.ok b:=by unfold yK;rw [h];rfl
def U4 (ha:a ρ=.ok x) (hb:b ρ=.ok y):mOr a b ρ=.ok (x || y):=by
 unfold mOr;rw [ha,okb];cases x
 .rw [if_neg O3,hb];rfl
 .rfl
def Bg (ha:a ρ=.ok x):uE a ρ=.ok (!x):=by unfold uE;rw [ha,okb]
def Dd (ha:a ρ=.ok (.b x)) (hb:b ρ=.ok (.b y)):uF a b ρ=.ok (.b (x && y)):=by
 unfold uF;rw [ha,okb]
 show (Out.ok x).bind _=_
 rw [okb];cases x
 .rfl
 .rw [if_pos rfl,hb];rfl
def sz5 {z:Str}(h:z.length<=100000):z.length<=sizeLine:=P6 h (by decide)
def signs_at (h:m ρ=.ok (.s z)):dO m ρ=.ok (z.cps.toList.map fun c=>PV.s ⟨#[c]⟩):=by unfold dO;rw [h,okb];rfl
def Y0 (h:ms ρ=.ok xs) (hl:xs.length<=sizeLine):W5 ms ρ=.ok (.t xs):=by unfold W5;rw [h,okb,if_pos hl]
def rC (ha:a ρ=.ok false):tN a b ρ=.ok false:=by unfold tN;rw [ha,okb];rfl
def zN (h:p ρ G=.nx ρ' G') (h2:q ρ' G' = o):Zf p q ρ G=o:=by
 unfold Zf;rw [h];exact h2
def rD (h:p ρ G=.rt x G'):Zf p q ρ G=.rt x G':=by
 unfold Zf;rw [h]
def mQ (h:c ρ G=.ok false G'):hIf c p q ρ G=q ρ G':=by
 unfold hIf;rw [h];rfl
def Gg (h:c ρ G=.ok true G'):hIf c p q ρ G=p ρ G':=by
 unfold hIf;rw [h];rfl
def rE (h0:K3 bs ρ=some r) (h2:m r=.ok b):hPT bs m ρ G=.ok b G:=by
 unfold hPT;rw [h0];dsimp only;rw [h2]
def cG (h0:K3 bs ρ=none) (h1:JX G bs ρ=some r) (h2:m r=.ok b):hPT bs m ρ G=.ok b G:=by
 unfold hPT;rw [h0,h1];dsimp only;rw [h2]
def Uv (h0:K3 bs ρ=some r) (h2:m r=.ok x):hP bs m ρ G=.ok (.v x) G:=by
 unfold hP;rw [h0];dsimp only;rw [h2]
def yZ (h:m ρ G=.ok x G'):Jw i m ρ G=.nx (ρ.set i (some x)) G':=by
 unfold Jw;rw [h];rfl
def cH (h:m ρ G=.ok x G'):nu m ρ G=.rt x G':=by
 unfold nu;rw [h];rfl
def De:JX G bs []=some []:=by cases bs <;> rfl
def Df (h:JX G [] ρ=some r):JX G [] (a :: ρ)=some (none :: r):=by show (JX G [] ρ).map _=_;rw [h];rfl
def Ys (h:JX G bs ρ=some r):JX G (false :: bs) (a :: ρ)=some (none :: r):=by show (JX G bs ρ).map _=_;rw [h];rfl
def Ks (hx:v_ G 8 x=some y) (h:JX G bs ρ=some r):JX G (true :: bs) (some x :: ρ)=some (some y :: r):=by show (v_ G 8 x).bind _=_;rw [hx,h];rfl
def L_ (h:a.length + b.length<=n) (hn:n<=100000):yj (.s a) (.s b)=.ok (.s (a++b)):=by
 have:a.length + b.length<=sizeLine:=P6 (P6 h hn) (by decide)
 unfold yj;simp only [this,if_true]
def Dg (h0:0<=i) (h1:i < xs.length):pIx (.l xs) (.i i)=.ok (xs[i.toNat]'(by omega)):=by
 rw [Cy,px h0,N8 (by omega)];rfl
def QH {xs:MX}{i:Int}(h0:0<=i) (h1:i < xs.length):∃ y∈xs,pIx (.l (xs.map .s)) (.i i)=.ok (.s y):=
 ⟨xs[i.toNat]'(by omega),a0g _,by rw [Dg h0 (by rw [u8];exact h1),a1s]⟩
def Bh {xs:Nz}{i:Int}(h0:0<=i) (h1:i < xs.length):∃ y∈xs,pIx (.l (xs.map .i)) (.i i)=.ok (.i y):=
 ⟨xs[i.toNat]'(by omega),a0g _,by rw [Dg h0 (by rw [u8];exact h1),a1s]⟩
def any_map {κ α β:Type}[DecidableEq κ] {f:α->β}{kvs:List (κ × α)}{k:κ}:(kvs.map fun p=>(p.1,f p.2)).any (fun kv=>decide (kv.1=k))=kvs.any (fun kv=>decide (kv.1=k)):=by
 rw [List.any_map];rfl
def i5 {κ α β:Type}[DecidableEq κ] {f:α->β}{kvs:List (κ × α)}{k:κ}{x:α}:dput (kvs.map fun p=>(p.1,f p.2)) k (f x)=(dput kvs k x).map fun p=>(p.1,f p.2):=by
 unfold dput
 rw [any_map]
 split
 .rw [a0n,a0n]
  refine a0I fun p _=>?_
  show (if p.1=k then (p.1,f x) else (p.1,f p.2))=((if p.1=k then (p.1,x) else p).1,f (if p.1=k then (p.1,x) else p).2)
  split <;> rfl
 .rw [O6];rfl
def eI {κ α β:Type}[DecidableEq κ] {f:α->β}:∀ {kvs:List (κ × α)}{k:κ},zS (kvs.map fun p=>(p.1,f p.2)) k=(zS kvs k).map f
 | [],_=>rfl
 | (j,u) :: kvs,k=>by
  rw [N9,yr,yr,eI]
  split <;> rfl
abbrev Wy:=Str × Str × Int
abbrev Ht:=List (Key × Int)
abbrev sk (z:Str):Key:=Sum.inr z
def wP (w:Wy):PV:=.t [.s w.1,.s w.2.1,.i w.2.2]
def hD (h:Ht):List (Key × PV):=h.map fun p=>(p.1,.i p.2)
def rF:zS (hD h) k=(zS h k).map .i:=eI
def Gh:dput (hD h) k (.i v)=hD (dput h k v):=i5
def Gi:(hD h).length=h.length:=u8 _
def rlx (u:Ht × Bool) (w:Wy):Ht × Bool:=
 match zS u.1 (sk w.1) with
 | none=>u
 | some x=>match zS u.1 (sk w.2.1) with
  | none=>(dput u.1 (sk w.2.1) (x + w.2.2),true)
  | some y=>if x + w.2.2 < y then (dput u.1 (sk w.2.1) (x + w.2.2),true) else u
def Dh (h:Ht):Nat:=(h.map fun p=>p.2.toNat).sum
def Sup (V:List Wy) (o:Str) (h:Ht):Prop:=∀ g y,zS h g=some y->g=sk o\/∃ w∈V,sk w.2.1=g/\∃ x,zS h (sk w.1)=some x/\x + w.2.2<=y
structure mR (V:List Wy) (K:NI) (o:Str) (h:Ht):Prop where
 sup:Sup V o h
 nd:(h.map (·.1)).Nodup
 sub:∀ k∈h.map (·.1),k∈K
 pos:∀ k x,zS h k=some x->0<=x
 own:zS h (sk o)=some 0
def WQ (h:Ht) (w:Wy):Prop:=∀ x,zS h (sk w.1)=some x->∃ y,zS h (sk w.2.1)=some y/\y<=x + w.2.2
def Di (K:NI) (h' h:Ht):Prop:=Prod.Lex (· < ·) (· < ·) (K.length - h'.length,Dh h') (K.length - h.length,Dh h)
def X9 {κ:Type}[DecidableEq κ]:∀ {a b:List κ},a.Nodup->(∀ x∈a,x∈b)->a.length<=b.length
 | [],b,_,_=>S7 _
 | x :: a,b,nd,h=>by
  have hx:=h x v4
  obtain ⟨h1,h2⟩:=a0s.mp nd
  have:=X9 (a:=a) (b:=b.erase x) h2 fun y hy=>(List.mem_erase_of_ne (show y≠x from fun e=>h1 (e ▸ hy))).mpr (h y (M9 _ hy))
  rw [List.length_erase_of_mem hx] at this
  have hb:0 < b.length:=List.length_pos_of_mem hx
  rw [v0];omega
def mR.len {V:List Wy}{K:NI}{o:Str}{h:Ht}(i:mR V K o h):h.length<=K.length:=by
 have:=X9 i.nd i.sub
 rwa [u8] at this
def rG {k:Key}{v:Int}:∀ {h:Ht}{y:Int},(h.map (·.1)).Nodup->zS h k=some y->v.toNat < y.toNat->Dh (h.map fun kv=>if kv.1=k then (kv.1,v) else kv) < Dh h
 | [],y,_,e,_=>by cases e
 | (j,x) :: h,y,nd,e,hv=>by
  rw [yr] at e
  obtain ⟨n1,n2⟩:=a0s.mp nd
  by_cases c:j=k
  .subst c
   rw [if_pos rfl] at e;cases e
   have:(h.map fun kv=>if kv.1=j then (kv.1,v) else kv)=h:=by
    conv=>rhs;rw [<- List.map_id h]
    refine a0I fun p hp=>?_
    rw [if_neg (show ¬ p.1=j from fun z=>n1 (a0b.mpr ⟨p,hp,z⟩))];rfl
   unfold Dh
   rw [N9,this,if_pos rfl,N9,N9,a1S,a1S]
   exact Nat.add_lt_add_right hv _
  .rw [if_neg c] at e
   have:=rG n2 e hv
   unfold Dh at this ⊢
   rw [N9,if_neg c,N9,N9,a1S,a1S]
   exact Nat.add_lt_add_left this _
def Sup.put {V:List Wy}{o:Str}{h:Ht}{w:Wy}{x:Int}(i:Sup V o h) (hw:w∈V) (hm:1<=w.2.2) (e1:zS h (sk w.1)=some x) (e2:∀ y,zS h (sk w.2.1)=some y->x + w.2.2 < y):Sup V o (dput h (sk w.2.1) (x + w.2.2)):=by
 have ne:¬ sk w.2.1=sk w.1:=fun c=>by
  rw [<- c] at e1
  have:=e2 x e1
  omega
 intro g y e
 rw [wb] at e
 split at e
 .rename_i c
  cases e
  refine .inr ⟨w,hw,c,x, ?_,a0h _⟩
  rw [wb,if_neg ne];exact e1
 .rcases i g y e with r | ⟨w',hw',eg,x',ex,le⟩
  .exact .inl r
  .refine .inr ⟨w',hw',eg, ?_⟩
   rw [wb]
   split
   .rename_i c
    rw [<- c] at ex
    have:=e2 x' ex
    exact ⟨_,rfl,by omega⟩
   .exact ⟨x',ex,le⟩
def Bi {V:List Wy}{K:NI}{o:Str}{u:Ht × Bool}{w:Wy}(i:mR V K o u.1) (hv:w∈V) (hg:sk w.2.1∈K) (hm:1<=w.2.2):mR V K o (rlx u w).1/\((rlx u w=u/\WQ u.1 w)\/((rlx u w).2=true/\Di K (rlx u w).1 u.1)):=by
 unfold rlx
 cases e1:zS u.1 (sk w.1) with
 | none=>exact ⟨i,.inl ⟨rfl,fun x e=>by rw [e1] at e;cases e⟩⟩
 | some x=>
  have x0:=i.pos _ _ e1
  dsimp only
  cases e2:zS u.1 (sk w.2.1) with
  | none=>
   have i2:mR V K o (dput u.1 (sk w.2.1) (x + w.2.2)):=by
    refine ⟨i.sup.put hv hm e1 (fun y e=>by rw [e2] at e;cases e),aA i.nd,fun k hk=>?_,fun k y e=>?_, ?_⟩
    .rw [J6,e2] at hk
     rcases S5.mp hk with hk | hk
     .exact i.sub k hk
     .rw [M8.mp hk];exact hg
    .rw [wb] at e
     split at e
     .cases e;omega
     .exact i.pos k y e
    .rw [wb]
     split
     .rename_i z;rw [z] at e2;rw [i.own] at e2;cases e2
     .exact i.own
   refine ⟨i2,.inr ⟨rfl,.left _ _ ?_⟩⟩
   have hl:=i2.len
   have:(dput u.1 (sk w.2.1) (x + w.2.2)).length=u.1.length + 1:=by
    have:=S0 List.length (J6 (a:=u.1) (k:=sk w.2.1) (v:=x + w.2.2))
    rw [e2,u8] at this
    rw [this];simp
   dsimp only at hl ⊢
   omega
  | some y=>
   dsimp only
   by_cases c:x + w.2.2 < y
   .rw [if_pos c]
    have hk:(zS u.1 (sk w.2.1)).isSome=true:=by rw [e2];rfl
    have i2:mR V K o (dput u.1 (sk w.2.1) (x + w.2.2)):=by
     refine ⟨i.sup.put hv hm e1 (fun z e=>by rw [e2] at e;cases e;exact c),aA i.nd,fun k hk2=>?_,fun k z e=>?_, ?_⟩
     .rw [J6,if_pos hk] at hk2;exact i.sub k hk2
     .rw [wb] at e
      split at e
      .cases e;omega
      .exact i.pos k z e
     .rw [wb]
      split
      .rename_i z;rw [z,i.own] at e2;cases e2;omega
      .exact i.own
    refine ⟨i2,.inr ⟨rfl, ?_⟩⟩
    have e3:dput u.1 (sk w.2.1) (x + w.2.2)=u.1.map fun kv=>if kv.1=sk w.2.1 then (kv.1,x + w.2.2) else kv:=by
     unfold dput
     rw [wa,if_pos hk]
    have hs:=rG (v:=x + w.2.2) i.nd e2 (by omega)
    unfold Di
    dsimp only
    rw [e3,u8]
    exact .right _ hs
   .rw [if_neg c]
    exact ⟨i,.inl ⟨rfl,fun z e=>by rw [e1] at e;cases e;exact ⟨y,e2,by omega⟩⟩⟩
def mS (h1:Di K a b) (h2:Di K b c):Di K a c:=by
 unfold Di at *
 rw [Prod.lex_def] at *
 dsimp only at *
 omega
def i6 {V:List Wy}{K:NI}{o:Str}:∀ {W:List Wy}{u:Ht × Bool},mR V K o u.1->(∀ w∈W,w∈V/\sk w.2.1∈K/\1<=w.2.2)->mR V K o (W.foldl rlx u).1/\((W.foldl rlx u=u/\∀ w∈W,WQ u.1 w)\/((W.foldl rlx u).2=true/\Di K (W.foldl rlx u).1 u.1))
 | [],u,i,_=>⟨i,.inl ⟨rfl,fun w h=>by cases h⟩⟩
 | w :: W,u,i,hW=>by
  obtain ⟨v,g,m⟩:=hW w v4
  obtain ⟨i1,h1⟩:=Bi (u:=u) (w:=w) i v g m
  obtain ⟨i2,h2⟩:=i6 (W:=W) (u:=rlx u w) i1 fun w' h=>hW w' (M9 _ h)
  refine ⟨i2, ?_⟩
  rw [a0O]
  rcases h1 with ⟨e1,c1⟩ | ⟨t1,l1⟩
  .rw [e1] at h2 ⊢
   rcases h2 with ⟨e2,c2⟩ | h2
   .refine .inl ⟨e2,fun w' h=>?_⟩
    rcases O5.mp h with rfl | h
    .exact c1
    .exact c2 w' h
   .exact .inr h2
  .rcases h2 with ⟨e2,c2⟩ | ⟨t2,l2⟩
   .rw [e2];exact .inr ⟨t1,l1⟩
   .exact .inr ⟨t2,mS l2 l1⟩
def Dj (r:NU):Prop:=∃ a b c d,r=[a,b,c,d]
abbrev hSt (o:Str) (W:List Wy) (h:Ht) (b:Bool) (r:NU):Sto:=[some (.s o),some (.l (W.map wP)),some (.d (hD h)),some (.b b)]++r
def rH (ha:a ρ=.ok (.s z)) (hi:zc i ρ=.ok (.d (hD h))):yK (mOp (pIn n) a (zc i)) ρ=.ok (xor n (zS h (sk z)).isSome):=by
 refine yF (zo ha hi ?_)
 show Out.ok (PV.b (xor n (zS (hD h) (sk z)).isSome))=_
 rw [rF,a0T]
def Bj (ha:a ρ=.ok (.s z)) (hi:zc i ρ=.ok (.d (hD h))) (hx:zS h (sk z)=some x):mOp pIx (zc i) a ρ=.ok (.i x):=by
 refine zo hi ha ?_
 show v7 (zS (hD h) (sk z))=_
 rw [rF,hx];rfl
def rJ (ha:a ρ=.ok true):mOr a b ρ=.ok true:=by unfold mOr;rw [ha,okb];rfl
def Dk {o:Str}{W:List Wy}{h:Ht}{b:Bool}{w:Wy}{a7:NH}(hl:h.length < 100000):∃ a7',qX [some (.s o),some (.l (W.map wP)),some (.d (hD h)),some (.b b),some (.s w.1),some (.s w.2.1),some (.i w.2.2),a7]=.ok (.nx [some (.s o),some (.l (W.map wP)),some (.d (hD (rlx (h,b) w).1)),some (.b (rlx (h,b) w).2),some (.s w.1),some (.s w.2.1),some (.i w.2.2),a7']):=by
 have e1:=yJ (ρ:=[some (.s o),some (.l (W.map wP)),some (.d (hD h)),some (.b b),some (.s w.1),some (.s w.2.1),some (.i w.2.2),a7]) (a:=yk (qW 7 (mOp yj (mOp pIx (zc 2) (zc 4)) (zc 6))) (sIf (mOr (yK (mOp (pIn true) (zc 5) (zc 2))) (yK (mOp pLt (zc 7) (mOp pIx (zc 2) (zc 5))))) (yk (Co 2 (zc 5) (zc 7)) (qW 3 (mC (.b true)))) yA)) (b:=yA) (rH (n:=false) (a:=zc 4) (i:=2) rfl rfl)
 unfold rlx
 dsimp only
 cases c1:zS h (sk w.1) with
 | none=>
  rw [c1] at e1
  exact ⟨a7,e1⟩
 | some x=>
  rw [c1] at e1
  have put:∀ {ρ:Sto},ρ=[some (.s o),some (.l (W.map wP)),some (.d (hD h)),some (.b b),some (.s w.1),some (.s w.2.1),some (.i w.2.2),some (.i (x + w.2.2))]->yk (Co 2 (zc 5) (zc 7)) (qW 3 (mC (.b true))) ρ=.ok (.nx [some (.s o),some (.l (W.map wP)),some (.d (hD (dput h (sk w.2.1) (x + w.2.2)))),some (.b true),some (.s w.1),some (.s w.2.1),some (.i w.2.2),some (.i (x + w.2.2))]):=fun {ρ} hρ=>by
   subst hρ
   refine zf ⟨[some (.s o),some (.l (W.map wP)),some (.d (hD (dput h (sk w.2.1) (x + w.2.2)))),some (.b true),some (.s w.1),some (.s w.2.1),some (.i w.2.2),some (.i (x + w.2.2))].set 3 (some (.b b)), ?_,rfl⟩
   show (if (hD h).length < sizeLine then Out.ok (Fw.nx [some (.s o),some (.l (W.map wP)),some (.d (dput (hD h) (sk w.2.1) (.i (x + w.2.2)))),some (.b b),some (.s w.1),some (.s w.2.1),some (.i w.2.2),some (.i (x + w.2.2))]) else .wall)=_
   rw [if_pos (by rw [Gi];exact O0 hl (by decide)),Gh];rfl
  have s7:qW 7 (mOp yj (mOp pIx (zc 2) (zc 4)) (zc 6)) [some (.s o),some (.l (W.map wP)),some (.d (hD h)),some (.b b),some (.s w.1),some (.s w.2.1),some (.i w.2.2),a7]=.ok (.nx [some (.s o),some (.l (W.map wP)),some (.d (hD h)),some (.b b),some (.s w.1),some (.s w.2.1),some (.i w.2.2),some (.i (x + w.2.2))]):=yn (zo (Bj rfl rfl c1) rfl rfl)
  refine ⟨some (.i (x + w.2.2)),e1.trans ?_⟩
  show yk _ _ _=_
  refine zf ⟨_,s7, ?_⟩
  cases c2:zS h (sk w.2.1) with
  | none=>
   refine (yJ (rJ ((rH (n:=true) (a:=zc 5) (i:=2) rfl rfl).trans (by rw [c2];rfl)))).trans ?_
   exact put rfl
  | some y=>
   dsimp only
   have t:=yJ (ρ:=[some (.s o),some (.l (W.map wP)),some (.d (hD h)),some (.b b),some (.s w.1),some (.s w.2.1),some (.i w.2.2),some (.i (x + w.2.2))]) (a:=yk (Co 2 (zc 5) (zc 7)) (qW 3 (mC (.b true)))) (b:=yA) (U4 (x:=false) ((rH (n:=true) (a:=zc 5) (i:=2) rfl rfl).trans (by rw [c2];rfl)) (yF (m:=mOp pLt (zc 7) (mOp pIx (zc 2) (zc 5))) (b:=decide (x + w.2.2 < y)) (zo rfl (Bj rfl rfl c2) rfl)))
   refine t.trans ?_
   by_cases c:x + w.2.2 < y
   .rw [if_pos c,N7 c]
    exact put rfl
   .rw [if_neg c,N6 c];rfl
def i7 {K:NI}{o:Str}{W:List Wy}(hK:K.length<=1000) (hW:∀ w∈W,sk w.2.1∈K/\1<=w.2.2):∀ {V:List Wy}{u:Ht × Bool}{r:NU},(∀ w∈V,w∈W)->mR W K o u.1->Dj r->∃ r',Dj r'/\QG Z0 qX (V.map wP) (hSt o W u.1 u.2 r)=.ok (.nx (hSt o W (V.foldl rlx u).1 (V.foldl rlx u).2 r'))
 | [],u,r,_,_,hr=>⟨r,hr,rfl⟩
 | w :: V,u,r,hV,i,hr=>by
  obtain ⟨a4,a5,a6,a7,rfl⟩:=hr
  obtain ⟨a7',e⟩:=Dk (o:=o) (W:=W) (h:=u.1) (b:=u.2) (w:=w) (a7:=a7) (a09 (P6 i.len hK) (by decide))
  obtain ⟨g,m⟩:=hW w (hV w v4)
  obtain ⟨i1,_⟩:=Bi (u:=u) (w:=w) i (hV w v4) g m
  obtain ⟨r',hr',e2⟩:=i7 hK hW (V:=V) (u:=rlx u w) (r:=[some (.s w.1),some (.s w.2.1),some (.i w.2.2),a7']) (fun w' h=>hV w' (M9 _ h)) i1 ⟨_,_,_,_,rfl⟩
  refine ⟨r',hr', ?_⟩
  rw [a0O,<- e2]
  show (qX [some (.s o),some (.l (W.map wP)),some (.d (hD u.1)),some (.b u.2),some (.s w.1),some (.s w.2.1),some (.i w.2.2),a7]).bind _=_
  rw [e];rfl
def Bk (hK:K.length<=1000) (hW:∀ w∈W,sk w.2.1∈K/\1<=w.2.2) (h:Ht) (i:mR W K o h) (r:NU) (hr:Dj r):∃ n h' r',mR W K o h'/\(∀ w∈W,WQ h' w)/\jO qY yM n (hSt o W h true r)=.ok (.nx (hSt o W h' false r')):=by
 obtain ⟨r1,hr1,e1⟩:=i7 (o:=o) hK hW (V:=W) (u:=(h,false)) (fun w h=>h) i hr
 obtain ⟨i1,c1⟩:=i6 (W:=W) (u:=(h,false)) i fun w h=>⟨h,hW w h⟩
 have eb:yM (hSt o W h true r)=.ok (.nx (hSt o W (W.foldl rlx (h,false)).1 (W.foldl rlx (h,false)).2 r1)):=zf ⟨hSt o W h false r,rfl,jj (yh rfl) e1⟩
 have one:∀ {n o'},jO qY yM n (hSt o W (W.foldl rlx (h,false)).1 (W.foldl rlx (h,false)).2 r1)=o'->jO qY yM (n + 1) (hSt o W h true r)=o':=fun {n o'} e=>by
  show (yM (hSt o W h true r)).bind _=_
  rw [eb];exact e
 rcases c1 with ⟨e2,cl⟩ | ⟨t2,less⟩
 .refine ⟨2,h,r1,i,cl,one ?_⟩
  rw [e2];rfl
 .obtain ⟨n,h',r',i',cl,e⟩:=Bk hK hW (W.foldl rlx (h,false)).1 i1 r1 hr1
  refine ⟨n + 1,h',r',i',cl,one ?_⟩
  rw [t2];exact e
termination_by (K.length - h.length,Dh h)
decreasing_by exact less
def Wn (o:Str) (W:List Wy) (h:Ht):Prop:=mR W (sk o :: W.map fun w=>sk w.2.1) o h/\∀ w∈W,WQ h w
def aJ (hl:W.length<=100) (hm:∀ w∈W,1<=w.2.2):∃ h,Wn o W h/\yE [.s o,.l (W.map wP)]=.ok (.d (hD h)):=by
 have i0:mR W (sk o :: W.map fun w=>sk w.2.1) o [(sk o,0)]:=by
  refine ⟨fun g y e=>?_,a0s.mpr ⟨by simp,List.nodup_nil⟩,fun k hk=>?_,fun k x e=>?_, ?_⟩
  .rw [yr] at e
   split at e
   .rename_i c;exact .inl c.symm
   .cases e
  .rw [M8.mp hk];exact v4
  .rw [yr] at e
   split at e
   .cases e;exact a0h _
   .cases e
  .rw [yr,if_pos rfl]
 obtain ⟨n,h',r',i',cl,e⟩:=Bk (o:=o) (W:=W) (K:=sk o :: W.map fun w=>sk w.2.1) (by rw [v0,u8];omega) (fun w hw=>⟨M9 _ (a0b.mpr ⟨w,hw,rfl⟩),hm w hw⟩) [(sk o,0)] i0 [none,none,none,none] ⟨_,_,_,_,rfl⟩
 refine ⟨h',⟨i',cl⟩,yc ?_⟩
 exact zf ⟨_,rfl,zf ⟨hSt o W [(sk o,0)] true [none,none,none,none],rfl,zf ⟨_,pA e (by intro z;cases z),rfl⟩⟩⟩
abbrev signs:Str := "abcdefghijklmnopqrstuvwxyz0123456789"
def str_inj {a b a' b':Str}(hl:a.length=a'.length) (h:a++b=a'++b'):a=a'/\b=b':=by
 have h1:a.cps++b.cps=a'.cps++b'.cps:=S0 Str.cps h
 have:=Array.append_inj h1 hl
 obtain ⟨x⟩:=a;obtain ⟨y⟩:=b;obtain ⟨x'⟩:=a';obtain ⟨y'⟩:=b'
 obtain ⟨h1,h2⟩:=this
 exact ⟨S0 Str.mk h1,S0 Str.mk h2⟩
def Sgs (z:Str):Prop:=∀ c∈z.cps.toList,c∈signs.cps.toList
def Sgs.app (ha:Sgs a) (hb:Sgs b):Sgs (a++b):=fun c hc=>by
 have e:(a++b).cps.toList=a.cps.toList++b.cps.toList:=Array.toList_append
 rw [e] at hc
 exact (S5.mp hc).elim (ha c) (hb c)
def Nm (z:Str):Prop:=(1<=z.length/\z.length<=12)/\Sgs z
def nodup_range {α:Type}{f:Nat->α}(h:∀ j k,j < n->k < n->f j=f k->j=k):((List.range n).map f).Nodup:=by
 rw [a1T,List.pairwise_map]
 refine List.Pairwise.imp_of_mem ?_ (a1T.mp List.nodup_range)
 intro a b ha hb hne e
 exact hne (h a b (a0i.mp ha) (a0i.mp hb) e)
def Gj (ha:a ρ=.ok (.i n)):vW a ρ=.ok (some n):=by unfold vW;rw [ha];rfl
def WOk (N:MX) (W:List Wy):Prop:=∀ w∈W,w.1∈N/\w.2.1∈N/\1<=w.2.2/\w.2.2<=1000000000
def vO {α:Type}{f:α->PV}{xs:List α}:Ze [.l (xs.map f)]=.ok (.i (xs.length:Int)):=by show Out.ok (PV.i ((xs.map f).length:Int))=_;rw [u8]
def rK {N:MX}{s:Int}(h:0 < N.length):∃ z∈N,pIx (.l (N.map .s)) (.i (s % (N.length:Int)))=.ok (.s z):=
 QH (a1E _ (by omega)) (a1d _ (by omega))
def Wo {fr:Bool}{n:Nat}{ms:MS}{xs:Nj}{ρ:Sto}(hf:fr=false) (h:ms (xs.map some++List.replicate (n - xs.length) none)=.ok (.nx ρ)):Zs fr n ms xs=.ok .n:=by
 subst hf;unfold Zs;rw [h];rfl
def yg (h:m ρ=.ok x):jv m ρ=.ok (.nx ρ):=by unfold jv;rw [h];rfl
def gA {x:PV}{n:Int}{k:Nat}(h:Ze [x]=.ok (.i (k:Int))) (hk:(k:Int)<=n):yQ [x,.i n]=.ok .n:=by
 refine Wo rfl ((yJ (x:=false) (yF (zo (zw (xs:=[x]) rfl h) rfl ?_))).trans (show _=Out.ok (Fw.nx [some x,some (.i n)]) from rfl))
 show Out.ok (PV.b (decide ((k:Int) > n)))=_
 rw [N6 (by omega)]
def rL (h:Nm z):qj [.s z]=.ok (.s z):=by
 obtain ⟨⟨l1,l2⟩,hs⟩:=h
 have hl:Ze [.s z]=.ok (.i z.length):=Fq (sz5 (by omega))
 have loop:∀ {cs:MV}{o:NH},(∀ c∈cs,c∈signs.cps.toList)->∃ o',QG Z1 qZ (cs.map fun c=>PV.s ⟨#[c]⟩) [some (.s z),o]=.ok (.nx [some (.s z),o']):=by
  intro cs
  induction cs with
  | nil=>intro o _;exact ⟨o,rfl⟩
  | cons c cs ih=>
   intro o hc
   obtain ⟨o',e⟩:=ih (o:=some (.s ⟨#[c]⟩)) fun x hx=>hc x (M9 _ hx)
   refine ⟨o', ?_⟩
   have eb:qZ [some (.s z),some (.s ⟨#[c]⟩)]=.ok (.nx [some (.s z),some (.s ⟨#[c]⟩)]):=by
    refine (yJ (x:=false) (yF (zo (x:=.s ⟨#[c]⟩) (y:=.s signs) rfl rfl ?_))).trans rfl
    show Out.ok (PV.b (xor true (!(Builtin.Str.occurrences signs ⟨#[c]⟩ 0 signs.length 1).isEmpty)))=_
    rw [StrLaws.found_one,N7 (hc c v4)];rfl
   show (qZ [some (.s z),some (.s ⟨#[c]⟩)]).bind _=_
   rw [eb];exact e
 obtain ⟨o',e⟩:=loop (cs:=z.cps.toList) (o:=none) hs
 refine yc (zf ⟨_,(yJ (U4 (x:=false) (y:=false) ((Bf (x:=(z.length:Int)) (zw (xs:=[.s z]) rfl hl)).trans (by rw [N6 (by omega)])) ((X8 (x:=(z.length:Int)) (zw (xs:=[.s z]) rfl hl)).trans (by rw [N6 (by omega)])))).trans (show _=Out.ok (Fw.nx [some (.s z),none]) from rfl),zf ⟨_,jj (signs_at rfl) e,rfl⟩⟩)
def aL (P:MX):List (Key × PV):=P.map fun z=>(sk z,.b true)
def i8 (h:z∉P):zS (aL P) (sk z)=none:=by
 cases e:zS (aL P) (sk z) with
 | none=>rfl
 | some x=>
  have:=Qy e
  obtain ⟨y,hy,e2⟩:=a0b.mp this
  cases e2
  exact absurd hy h
def rM {N:MX}(nd:N.Nodup) (hN:∀ z∈N,Nm z) (hl:N.length<=12):qk [.l (N.map .s)]=.ok .n:=by
 have loop:∀ {R P:MX}{o:NH},P++R=N->∃ P' o',QG Z3 q_ (R.map .s) [some (.l (N.map .s)),some (.d (aL P)),o]=.ok (.nx [some (.l (N.map .s)),some (.d (aL P')),o']):=by
  intro R
  induction R with
  | nil=>intro P o _;exact ⟨P,o,rfl⟩
  | cons z R ih=>
   intro P o e
   obtain ⟨P',o',e'⟩:=ih (P:=P++[z]) (o:=some (.s z)) (by rw [P2];exact e)
   refine ⟨P',o', ?_⟩
   have hz:z∉P:=fun h=>by
    rw [<- e] at nd
    exact (a1p.mp nd).2.2 z h z v4 rfl
   have hm:z∈N:=by rw [<- e];exact P4 _ v4
   have hp:(aL P).length<=12:=by
    have:=S0 List.length e
    rw [M6] at this
    unfold aL;rw [u8];omega
   have en:z9 [.s z,.d (aL P)]=.ok (.s z):=by
    refine yc (zf ⟨_,yg (zw (xs:=[.s z]) rfl (rL (hN z hm))),zf ⟨_,(yJ (x:=false) (yF (zo (x:=.s z) (y:=.d (aL P)) rfl rfl ?_))).trans (show _=Out.ok (Fw.nx [some (.s z),some (.d (aL P))]) from rfl),rfl⟩⟩)
    show Out.ok (PV.b (xor false (zS (aL P) (sk z)).isSome))=_
    rw [i8 hz];rfl
   have ed:dput (aL P) (sk z) (.b true)=aL (P++[z]):=by
    unfold dput
    rw [wa,i8 hz]
    unfold aL;rw [O6];rfl
   have eb:q_ [some (.l (N.map .s)),some (.d (aL P)),some (.s z)]=.ok (.nx [some (.l (N.map .s)),some (.d (aL (P++[z]))),some (.s z)]):=by
    refine zf ⟨_,yg (zw (xs:=[.s z,.d (aL P)]) rfl en), ?_⟩
    show (if (aL P).length < sizeLine then Out.ok (Fw.nx [some (.l (N.map .s)),some (.d (dput (aL P) (sk z) (.b true))),some (.s z)]) else .wall)=_
    rw [if_pos (a09 hp (by decide)),ed]
   show (q_ [some (.l (N.map .s)),some (.d (aL P)),some (.s z)]).bind _=_
   rw [eb];exact e'
 obtain ⟨P',o',e⟩:=loop (R:=N) (P:=[]) (o:=none) rfl
 exact Wo rfl (zf ⟨[some (.l (N.map .s)),some (.d (aL [])),none],rfl,jj (yh rfl) e⟩)
def Gk {z:Str}:∀ {N:MX},inP (.str z) (N.map .s)=some (decide (z∈N))
 | []=>by rw [N6 (by simp)];rfl
 | y :: N=>by
  show (match some (V.str y),inP (.str z) (N.map .s) with | some u,some b=>some (eqV u (.str z) || b) | _,_=>none)=_
  rw [Gk (N:=N)]
  show some ((y == z) || decide (z∈N))=_
  congr 1
  by_cases c:y=z
  .subst c;rw [a0Z,N7 v4];rfl
  .rw [S6.mpr c,Bool.false_or]
   by_cases h:z∈N
   .rw [N7 h,N7 (M9 _ h)]
   .rw [N6 h,N6 fun q=>(O5.mp q).elim (fun e=>c e.symm) h]
def I0 {z:Str}{N:MX}{n:Bool}:pIn n (.s z) (.l (N.map .s))=.ok (.b (xor n (decide (z∈N)))):=by
 show v7 ((inP (.str z) (N.map .s)).map fun b=>PV.b (xor n b))=_
 rw [Gk];rfl
def kX {z:Str}{N:MX}(h:z∈N):yp [.s z,.l (N.map .s)]=.ok .n:=
 Wo rfl ((yJ (x:=false) (yF (zo (x:=.s z) (y:=.l (N.map .s)) rfl rfl (I0.trans (by rw [N7 h];rfl))))).trans (show _=Out.ok (Fw.nx [some (.s z),some (.l (N.map .s))]) from rfl))
def rN (h1:1<=m) (h2:m<=1000000000):zU [.i m,.i 1]=.ok (.i m):=by
 refine yc (zf ⟨_,(yJ (U4 (x:=false) (y:=false) (yF (zo (x:=.i m) (y:=.i 1) rfl rfl ?_)) ((X8 (x:=m) rfl).trans (by rw [N6 (by omega)])))).trans (show _=Out.ok (Fw.nx [some (.i m),some (.i 1)]) from rfl),rfl⟩)
 show Out.ok (PV.b (decide (m < 1)))=_
 rw [N6 (by omega)]
def xy (h:WOk N W):jq [.l (N.map .s),.l (W.map wP)]=.ok .n:=by
 have loop:∀ {V:List Wy}{a b c:NH},(∀ w∈V,w∈W)->∃ a' b' c',QG QS ke (V.map wP) [some (.l (N.map .s)),some (.l (W.map wP)),a,b,c]=.ok (.nx [some (.l (N.map .s)),some (.l (W.map wP)),a',b',c']):=by
  intro V
  induction V with
  | nil=>intro a b c _;exact ⟨a,b,c,rfl⟩
  | cons w V ih=>
   intro a b c hV
   obtain ⟨h1,h2,h3,h4⟩:=h w (hV w v4)
   obtain ⟨a',b',c',e⟩:=ih (a:=some (.s w.1)) (b:=some (.s w.2.1)) (c:=some (.i w.2.2)) fun x hx=>hV x (M9 _ hx)
   refine ⟨a',b',c', ?_⟩
   have eb:ke [some (.l (N.map .s)),some (.l (W.map wP)),some (.s w.1),some (.s w.2.1),some (.i w.2.2)]=.ok (.nx [some (.l (N.map .s)),some (.l (W.map wP)),some (.s w.1),some (.s w.2.1),some (.i w.2.2)]):=
    zf ⟨_,yg (zw (xs:=[.s w.1,.l (N.map .s)]) rfl (kX h1)),zf ⟨_,yg (zw (xs:=[.s w.2.1,.l (N.map .s)]) rfl (kX h2)),yg (zw (xs:=[.i w.2.2,.i 1]) rfl (rN h3 h4))⟩⟩
   show (ke [some (.l (N.map .s)),some (.l (W.map wP)),some (.s w.1),some (.s w.2.1),some (.i w.2.2)]).bind _=_
   rw [eb];exact e
 obtain ⟨a',b',c',e⟩:=loop (V:=W) (a:=none) (b:=none) (c:=none) fun w h=>h
 exact Wo rfl (jj (yh rfl) e)
def cW (N:MX) (F:Str->Ht):List (Key × PV):=N.map fun z=>(sk z,.d (hD (F z)))
def roP (N:MX) (W:List Wy) (F:Str->Ht):PV:=.o 11 [("places",.l (N.map .s)),("ways",.l (W.map wP)),("lengths",.d (cW N F))]
def xA:∀ {acc:Nn},((acc++es).map (·.1)).Nodup->es.foldl (fun acc kv=>dput acc kv.1 kv.2) acc=acc++es:=by
 induction es with
 | nil=>intro acc _;rw [O9];rfl
 | cons e es ih=>
  intro acc nd
  have hn:zS acc e.1=none:=by
   cases h:zS acc e.1 with
   | none=>rfl
   | some x=>
    have hm:e.1∈acc.map (·.1):=a0b.mpr ⟨_,Qy h,rfl⟩
    rw [O6,N9] at nd
    exact absurd rfl ((a1p.mp nd).2.2 e.1 hm e.1 v4)
  have ed:dput acc e.1 e.2=acc++[e]:=by
   unfold dput
   rw [wa,hn];rfl
  rw [a0O,ed,ih (by rw [P2];exact nd),P2];rfl
def xB (nd:N.Nodup):((cW N F).map (·.1)).Nodup:=by
 unfold cW
 rw [a0n]
 exact List.Pairwise.map _ (fun a b h e=>h (a0R e)) nd
def Dl (h:o∈N):zS (cW N F) (sk o)=some (.d (hD (F o))):=by
 induction N with
 | nil=>cases h
 | cons z N ih=>
  unfold cW
  rw [N9,yr]
  by_cases c:sk z=sk o
  .rw [if_pos c];rw [a0R c]
  .rw [if_neg c]
   exact ih ((O5.mp h).resolve_left fun e=>c (by rw [e]))
def i9 {F:Str->Ht}:∀ {N:MX},CG (N.map fun z=>.t [.s z,.d (hD (F z))])=some (cW N F)
 | []=>rfl
 | z :: N=>by
  show (CG (N.map fun z=>.t [.s z,.d (hD (F z))])).map ((sk z,PV.d (hD (F z))) :: ·)=_
  rw [i9 (N:=N)];rfl
def rO (h:m (some (.o 11 fs) :: r)=.ok v) (hl:fs.length < 1000):fY 0 [11] f m (some (.o 11 fs) :: r)=.ok (.nx (some (.o 11 (tQ fs f v)) :: r)):=by
 unfold fY;rw [h]
 show (if 11∈[11]/\fs.length < 1000 then Out.ok (Fw.nx (some (PV.o 11 (tQ fs f v)) :: r)) else .wall)=_
 rw [if_pos ⟨v4,hl⟩]
structure ROk (N:MX) (W:List Wy):Prop where
 len:N.length<=12
 nd:N.Nodup
 nm:∀ z∈N,Nm z
 wl:W.length<=60
 ok:WOk N W
def gB (R:ROk N W):∃ F:Str->Ht,∀ z,Wn z W (F z)/\yE [.s z,.l (W.map wP)]=.ok (.d (hD (F z))):=
 ⟨fun z=>Classical.choose (aJ (o:=z) (W:=W) (by have:=R.wl;omega) fun w hw=>(R.ok w hw).2.2.1),fun z=>R4 (aJ (o:=z) (W:=W) (by have:=R.wl;omega) fun w hw=>(R.ok w hw).2.2.1)⟩
def Dm (R:ROk N W) (hF:∀ z,yE [.s z,.l (W.map wP)]=.ok (.d (hD (F z)))):y6 [.l (N.map .s),.l (W.map wP)]=.ok (roP N W F):=by
 have hl:=R.len
 have hw:=R.wl
 have ec:lcP YW YX YY (N.map .s) [none,some (.l (W.map wP))] []=.ok (.l (N.map fun z=>.t [.s z,.d (hD (F z))])):=by
  refine K1 PV.s (fun z=>.t [.s z,.d (hD (F z))]) (fun ρ=>∃ o,ρ=[o,some (.l (W.map wP))]) N [none,some (.l (W.map wP))] ⟨none,rfl⟩ (fun z hz ρ ⟨o,ho⟩=>?_) (by omega)
  subst ho
  exact ⟨_,rfl,⟨_,rfl⟩,Y0 (zl rfl (zl (zw (xs:=[.s z,.l (W.map wP)]) rfl (hF z)) rfl)) (N2 rfl)⟩
 have ed:dM [.l (N.map fun z=>.t [.s z,.d (hD (F z))])]=.ok (.d (cW N F)):=by
  show v7 ((CG (N.map fun z=>.t [.s z,.d (hD (F z))])).map fun es=>PV.d (iA es))=_
  rw [i9]
  show Out.ok (PV.d (iA (cW N F)))=_
  unfold iA
  rw [xA (acc:=[]) (by rw [a0z];exact xB R.nd)];rfl
 have e:wm [some (.o 11 []),some (.l (N.map .s)),some (.l (W.map wP))]=.ok (.nx [some (roP N W F),some (.l (N.map .s)),some (.l (W.map wP))]):=by
  refine zf ⟨_,yg (zw (xs:=[.l (N.map .s),.i 12]) rfl (gA vO (by omega))),zf ⟨_,yg (zw (xs:=[.l (W.map wP),.i 60]) rfl (gA vO (by omega))),zf ⟨_,yg (zw (xs:=[.l (N.map .s)]) rfl (rM R.nd R.nm hl)),zf ⟨_,yg (zw (xs:=[.l (N.map .s),.l (W.map wP)]) rfl (xy R.ok)),zf ⟨_,rO (v:=.l (N.map .s)) rfl (by decide),zf ⟨_,rO (v:=.l (W.map wP)) rfl (N2 rfl),(rO (v:=.d (cW N F)) (zw (zl (Uy (yh rfl) ec) rfl) ed) (N2 rfl)).trans ?_⟩⟩⟩⟩⟩⟩
  rw [bu,Xc (by decide +kernel),bu,Xc (by decide +kernel),Xc (by decide +kernel),bu];rfl
 show (match wm [some (.o 11 []),some (.l (N.map .s)),some (.l (W.map wP))] with | .ok (.nx ρ)=>(match ρ[0]? with | some (some x)=>Out.ok x | _=>.wall) | .ok (.rt _)=>.wall | .ok (.bk _)=>.wall | .ok (.ct _)=>.wall | .exc c fs=>.exc c fs | .wall=>.wall)=_
 rw [e];rfl
def rP (h:m ρ=.ok (roP N W F)):JR [11] "places" m ρ=.ok (.l (N.map .s))/\JR [11] "lengths" m ρ=.ok (.d (cW N F)):=by
 constructor
 .unfold JR;rw [h,okb]
  show (if 11∈[11] then v7 (List.lookup ("places" : Str) [("places",PV.l (N.map .s)),("ways",.l (W.map wP)),("lengths",.d (cW N F))]) else .wall)=_
  rw [if_pos v4,Vv];rfl
 .unfold JR;rw [h,okb]
  show (if 11∈[11] then v7 (List.lookup ("lengths" : Str) [("places",PV.l (N.map .s)),("ways",.l (W.map wP)),("lengths",.d (cW N F))]) else .wall)=_
  rw [if_pos v4,vo (by decide +kernel),vo (by decide +kernel),Vv];rfl
def Wn.Dp (g:Wn o W h) (e:zS h (sk z)=some y) (hz:z≠o):∃ w∈W,w.2.1=z/\∃ x,zS h (sk w.1)=some x/\x + w.2.2=y:=by
 rcases g.1.sup _ _ e with c | ⟨w,hw,eg,x,ex,le⟩
 .exact absurd (a0R c) hz
 .have eg:=a0R eg
  obtain ⟨y',ey,le'⟩:=g.2 w hw x ex
  rw [eg,e] at ey
  cases ey
  exact ⟨w,hw,eg,x,ex,by omega⟩
def Bl:Option Int->PV
 | none=>.n
 | some x=>.i x
def Gm (ha:a ρ=.ok (.d (hD h))) (hb:b ρ=.ok (.s z)):Hh a b ρ=.ok (Bl (zS h (sk z))):=by
 unfold Hh;rw [ha,okb]
 show (b ρ).bind (CU (hD h))=_
 rw [hb,okb]
 show Out.ok ((zS (hD h) (sk z)).getD .n)=_
 rw [rF]
 cases zS h (sk z) <;> rfl
def MN (ha:a ρ=.ok (.d (cW N F))) (hb:b ρ=.ok (.s o)) (ho:o∈N):mOp pIx a b ρ=.ok (.d (hD (F o))):=by
 refine zo ha hb ?_
 show v7 (zS (cW N F) (sk o))=_
 rw [Dl ho];rfl
def aM (ho:o∈N) (hg:g∈N):zy [roP N W F,.s o,.s g]=.ok (Bl (zS (F o) (sk g))):=by
 have q:=rP (m:=zc 0) (ρ:=[some (roP N W F),some (.s o),some (.s g)]) (N:=N) (W:=W) (F:=F) rfl
 exact yc (zf ⟨_,yg (zw (xs:=[.s o,.l (N.map .s)]) (zl rfl (zl q.1 rfl)) (kX ho)),zf ⟨_,yg (zw (xs:=[.s g,.l (N.map .s)]) (zl rfl (zl q.1 rfl)) (kX hg)),ZP (Gm (MN q.2 rfl ho) rfl)⟩⟩)
def cI (ha:a ρ=.ok (roP N W F)) (hm:ms ρ=.ok xs) (h1:(nm == ("places" : Str))=false) (h2:(nm == ("ways" : Str))=false) (h3:(nm == ("lengths" : Str))=false) (h:f (roP N W F :: xs)=.ok x):vi [(11,f)] nm a ms ρ=.ok x:=by
 unfold vi;rw [ha,okb]
 show (if (List.lookup nm [("places",PV.l (N.map .s)),("ways",.l (W.map wP)),("lengths",.d (cW N F))]).isSome=true then Out.wall else (ms ρ).bind fun xs=>f (roP N W F :: xs))=_
 rw [vo h1,vo h2,vo h3,AF,if_neg (by intro z;cases z),hm,okb]
 exact h
def aN (h1:ms ρ=.ok [.s x,.s y]) (h2:m ρ=.ok (.dt L)):yK (gi n ms m) ρ=.ok (xor n (zS L [sk x,sk y]).isSome):=by
 refine yF ?_
 unfold gi
 rw [h1]
 show (m ρ).bind (inT n [sk x,sk y])=_
 rw [h2];rfl
def eJ (h2:m ρ=.ok (.dt L)) (h1:ms ρ=.ok [.s x,.s y]) (e:zS L [sk x,sk y]=some v):ny m ms ρ=.ok (.i v):=by
 unfold ny
 rw [h2,okb,h1,okb]
 show v7 ((zS L [sk x,sk y]).map PV.i)=_
 rw [e];rfl
abbrev Lst:=List (List Key × Int)
def WS (N:MX) (W:List Wy):Prop:=∀ w∈W,w.1∈N/\w.2.1∈N/\1<=w.2.2/\w.2.2<=3000000
def WS.ok (h:WS N W):WOk N W:=fun w hw=>by
 obtain ⟨a,b,c,d⟩:=h w hw
 exact ⟨a,b,c,by omega⟩
def WS.app (h:WS N W) (ha:a∈N) (hg:g∈N) (h1:1<=m) (h2:m<=3000000):WS N (W++[(a,g,m)]):=fun w hw=>by
 rcases S5.mp hw with hw | hw
 .exact h w hw
 .rw [M8.mp hw];exact ⟨ha,hg,h1,h2⟩
def rQ (h:ρ[i]? = some (some (.dt L))) (h1:ms ρ=.ok [.s x,.s y]) (h2:mv ρ=.ok (.i n)) (hl:L.length < 100000):dP i ms mv ρ=.ok (.nx (ρ.set i (some (.dt (dput L [sk x,sk y] n))))):=by
 unfold dP
 rw [h2,okb,h,h1]
 show (if _ then _ else _)=_
 exact if_pos (O0 hl (by decide))
def i_ {κ α:Type}[DecidableEq κ] {L:List (κ × α)}{k:κ}{v:α}:(dput L k v).length<=L.length + 1:=by
 unfold dput
 split
 .rw [u8];omega
 .rw [M6];exact N1 _
def Gn:([sk a,sk b]=[sk c,sk d])↔(a=c/\b=d):=by
 constructor
 .intro h
  injection h with h1 h2
  injection h2 with h2 _
  exact ⟨a0R h1,a0R h2⟩
 .rintro ⟨rfl,rfl⟩;rfl
inductive WkM (N:MX) (W:List Wy) (M:MX):Str->Str->Int->Prop
 | nil {a}:a∈N->WkM N W M a a 0
 | edge {w:Wy}:w∈W->WkM N W M w.1 w.2.1 w.2.2
 | via {a m b u v}:m∈M->WkM N W M a m u->WkM N W M m b v->WkM N W M a b (u + v)
section
variable {N M:MX}{W:List Wy}{L L' L0:Lst}{a b m:Str}{u v:Int}
def WkM.nn (hW:WS N W) (h:WkM N W M a b v):0<=v:=by
 induction h with
 | nil _=>exact a0h _
 | edge hw=>have:=(hW _ hw).2.2.1;omega
 | via _ _ _ i j=>omega
def WkM.ends (hW:WS N W) (h:WkM N W M a b v):a∈N/\b∈N:=by
 induction h with
 | nil h=>exact ⟨h,h⟩
 | edge hw=>exact ⟨(hW _ hw).1,(hW _ hw).2.1⟩
 | via _ _ _ i j=>exact ⟨i.1,j.2⟩
def WkM.split (hM:∀ z∈M',z∈M\/z=x) (hW:WS N W) (h:WkM N W M' a b v):(∃ u,u<=v/\WkM N W M a b u)\/∃ s t,s + t<=v/\WkM N W M a x s/\WkM N W M x b t:=by
 induction h with
 | nil h=>exact .inl ⟨_,a0h _,.nil h⟩
 | edge hw=>exact .inl ⟨_,a0h _,.edge hw⟩
 | via hm _ _ i j=>
  rcases hM _ hm with hm | rfl
  .rcases i with ⟨u1,l1,w1⟩ | ⟨s1,t1,l1,p1,q1⟩ <;> rcases j with ⟨u2,l2,w2⟩ | ⟨s2,t2,l2,p2,q2⟩
   .exact .inl ⟨_,by omega,.via hm w1 w2⟩
   .exact .inr ⟨_,_,by omega,.via hm w1 p2,q2⟩
   .exact .inr ⟨_,_,by omega,p1,.via hm q1 w2⟩
   .have:=q1.nn hW;have:=p2.nn hW
    exact .inr ⟨_,_,by omega,p1,q2⟩
  .rcases i with ⟨u1,l1,w1⟩ | ⟨s1,t1,l1,p1,q1⟩ <;> rcases j with ⟨u2,l2,w2⟩ | ⟨s2,t2,l2,p2,q2⟩
   .exact .inr ⟨_,_,by omega,w1,w2⟩
   .have:=p2.nn hW;exact .inr ⟨_,_,by omega,w1,q2⟩
   .have:=q1.nn hW;exact .inr ⟨_,_,by omega,p1,w2⟩
   .have:=q1.nn hW;have:=p2.nn hW
    exact .inr ⟨_,_,by omega,p1,q2⟩
def at2 (L:Lst) (a b:Str):Option Int:=zS L [sk a,sk b]
def Snd (N:MX) (W:List Wy) (L:Lst):Prop:=∀ a b v,at2 L a b=some v->WkM N W N a b v
def yW (L:Lst) (a b:Str) (v:Int):Prop:=∃ u,u<=v/\at2 L a b=some u
def Dwn (L L':Lst):Prop:=∀ a b v,at2 L a b=some v->yW L' a b v
def Cmp (N:MX) (W:List Wy) (M:MX) (L:Lst):Prop:=∀ a b v,WkM N W M a b v->yW L a b v
def Dwn.refl:Dwn L L:=fun _ _ v h=>⟨v,a0h _,h⟩
def yW.dwn (h:yW L a b v) (d:Dwn L L'):yW L' a b v:=by
 obtain ⟨u,l,e⟩:=h
 obtain ⟨w,l',e'⟩:=d _ _ _ e
 exact ⟨w,by omega,e'⟩
def Dwn.trans (d:Dwn L L') (d':Dwn L' L''):Dwn L L'':=fun a b v h=>(d a b v h).dwn d'
def X_:at2 (dput L [sk a,sk b] v) c d=if a=c/\b=d then some v else at2 L c d:=by
 unfold at2;rw [wb]
 by_cases h:a=c/\b=d
 .rw [if_pos h,if_pos (Gn.mpr h)]
 .rw [if_neg h,if_neg fun e=>h (Gn.mp e)]
def rR (L:Lst) (a b:Str) (v:Int):Lst:=match at2 L a b with
 | some x=>if v < x then dput L [sk a,sk b] v else L
 | none=>dput L [sk a,sk b] v
def QD:rR L a b v=dput L [sk a,sk b] v/\(∀ x,at2 L a b=some x->v < x)\/rR L a b v=L/\∃ x,x<=v/\at2 L a b=some x:=by
 unfold rR
 cases e:at2 L a b with
 | none=>exact .inl ⟨rfl,fun x h=>nomatch h⟩
 | some x=>
  dsimp only
  by_cases c:v < x
  .rw [if_pos c];exact .inl ⟨rfl,fun y h=>by cases h;exact c⟩
  .rw [if_neg c];exact .inr ⟨rfl,x,by omega,rfl⟩
def cJ:Dwn L (rR L a b v):=fun c d w h=>by
 rcases QD (L:=L) (a:=a) (b:=b) (v:=v) with ⟨e,k⟩ | ⟨e,_⟩ <;> rw [e]
 .unfold yW
  rw [X_]
  by_cases q:a=c/\b=d
  .obtain ⟨rfl,rfl⟩:=q
   rw [if_pos ⟨rfl,rfl⟩]
   have:=k w h
   exact ⟨v,by omega,rfl⟩
  .rw [if_neg q];exact ⟨w,a0h _,h⟩
 .exact ⟨w,a0h _,h⟩
def rS:yW (rR L a b v) a b v:=by
 rcases QD (L:=L) (a:=a) (b:=b) (v:=v) with ⟨e,_⟩ | ⟨e,k⟩ <;> rw [e]
 .unfold yW
  rw [X_,if_pos ⟨rfl,rfl⟩]
  exact ⟨v,a0h _,rfl⟩
 .exact k
def lb (h:Snd N W L) (hw:WkM N W N a b v):Snd N W (rR L a b v):=by
 rcases QD (L:=L) (a:=a) (b:=b) (v:=v) with ⟨e,_⟩ | ⟨e,k⟩ <;> rw [e]
 .intro c d w e
  rw [X_] at e
  split at e
  .rename_i q
   obtain ⟨rfl,rfl⟩:=q
   cases e
   exact hw
  .exact h _ _ _ e
 .exact h
def lh:(rR L a b v).length<=L.length + 1:=by
 rcases QD (L:=L) (a:=a) (b:=b) (v:=v) with ⟨e,_⟩ | ⟨e,_⟩ <;> rw [e]
 .exact i_
 .exact a0m _
abbrev lSt (N:MX) (W:List Wy) (L:Lst) (p q r s t z:NH):Sto:=[some (.l (N.map .s)),some (.l (W.map wP)),some (.dt L),p,q,r,s,t,z]
variable {p q r s t z:NH}
def I_ (hl:N.length<=12):∃ L p,L.length<=N.length/\Snd N W L/\(∀ x∈N,yW L x x 0)/\QG vA vB (N.map .s) (lSt N W [] none q r s t z)=.ok (.nx (lSt N W L p q r s t z)):=by
 obtain ⟨ρ',⟨L,p,l,hs,hc,rfl⟩,e⟩:=YB (g:=vA) (b:=vB) PV.s (fun k ρ=>∃ L p,L.length<=k/\Snd N W L/\(∀ x∈N.take k,yW L x x 0)/\ρ=lSt N W L p q r s t z) N (lSt N W [] none q r s t z) ⟨[],none,N1 _,fun _ _ _ e=>(nomatch (show (none:NO)=some _ from e)),fun x hx=>(nomatch hx),rfl⟩ (fun k hk ρ ⟨L,p,l,hs,hc,hρ⟩=>by
  subst hρ
  refine ⟨_,rfl,_,⟨dput L [sk N[k],sk N[k]] 0,some (.s N[k]),P6 i_ (by omega),fun c d w e=>?_,fun x hx=>?_,rfl⟩,.inl (rQ rfl rfl rfl (by omega))⟩
  .rw [X_] at e
   split at e
   .rename_i h
    obtain ⟨rfl,rfl⟩:=h
    cases e
    exact .nil (a0g _)
   .exact hs _ _ _ e
  .unfold yW
   rw [X_]
   by_cases h:N[k]=x/\N[k]=x
   .rw [if_pos h];exact ⟨0,a0h _,rfl⟩
   .rw [if_neg h]
    rw [R8 hk] at hx
    rcases S5.mp hx with hx | hx
    .exact hc x hx
    .have:=M8.mp hx
     exact absurd ⟨this.symm,this.symm⟩ h)
 exact ⟨L,p,l,hs,fun x hx=>hc x (by rw [a0p];exact hx),e⟩
def lj (hk:ks (lSt N W L p q r s t z)=.ok [.s a,.s b]) (hv:zc i (lSt N W L p q r s t z)=.ok (.i v)) (hl:L.length < 100000):sIf (mOr (yK (gi true ks (zc 2))) (yK (mOp pLt (zc i) (ny (zc 2) ks)))) (dP 2 ks (zc i)) yA (lSt N W L p q r s t z)=.ok (.nx (lSt N W (rR L a b v) p q r s t z)):=by
 have t1:=aN (n:=true) (ms:=ks) (m:=zc 2) (L:=L) hk rfl
 have pt:=rQ (i:=2) (L:=L) (mv:=zc i) rfl hk hv hl
 unfold rR at2
 cases e:zS L [sk a,sk b] with
 | none=>rw [e] at t1;exact (yJ (rJ t1)).trans pt
 | some x=>
  rw [e] at t1
  have t2:=U4 t1 (yF (b:=decide (v < x)) (zo (f:=pLt) hv (eJ (m:=zc 2) rfl hk e) rfl))
  dsimp only
  by_cases c:v < x
  .rw [N7 c] at t2;rw [if_pos c];exact (yJ t2).trans pt
  .rw [N6 c] at t2;rw [if_neg c];exact (yJ t2).trans rfl
def La (hl:L0.length<=12) (hW:W.length<=60) (h0:Snd N W L0):∃ L q r s,L.length<=L0.length + W.length/\Snd N W L/\Dwn L0 L/\(∀ w∈W,yW L w.1 w.2.1 w.2.2)/\QG vC vD (W.map wP) (lSt N W L0 p none none none t z)=.ok (.nx (lSt N W L p q r s t z)):=by
 obtain ⟨ρ',⟨L,q,r,s,l,hs,hd,hc,rfl⟩,e⟩:=YB (g:=vC) (b:=vD) wP (fun k ρ=>∃ L q r s,L.length<=L0.length + k/\Snd N W L/\Dwn L0 L/\(∀ w∈W.take k,yW L w.1 w.2.1 w.2.2)/\ρ=lSt N W L p q r s t z) W (lSt N W L0 p none none none t z) ⟨L0,none,none,none,N1 _,h0,Dwn.refl,fun x hx=>(nomatch hx),rfl⟩ (fun k hk ρ ⟨L,q,r,s,l,hs,hd,hc,hρ⟩=>by
  subst hρ
  refine ⟨_,rfl,_,⟨rR L W[k].1 W[k].2.1 W[k].2.2,some (.s W[k].1),some (.s W[k].2.1),some (.i W[k].2.2),P6 lh (by omega),lb hs (.edge (a0g _)),hd.trans cJ,fun x hx=>?_,rfl⟩,.inl (lj (ks:=zb (zc 4) (zb (zc 5) zr)) (i:=6) rfl rfl (by omega))⟩
  rw [R8 hk] at hx
  rcases S5.mp hx with hx | hx
  .exact (hc x hx).dwn cJ
  .rw [M8.mp hx];exact rS)
 exact ⟨L,q,r,s,l,hs,hd,fun x hx=>hc x (by rw [a0p];exact hx),e⟩
end
section
variable {N M:MX}{W:List Wy}{L L' L0:Lst}{a b m:Str}{u v:Int}{p q r s t z:NH}
def Dq (h:Snd N W L) (hm:m∈N) (hl:L.length < 100000):∃ L' z',L'.length<=L.length + 1/\Snd N W L'/\Dwn L L'/\(∀ x y,yW L a m x->yW L m b y->yW L' a b (x + y))/\jC (lSt N W L p (some (.s a)) (some (.s b)) s (some (.s m)) z)=.ok (.nx (lSt N W L' p (some (.s a)) (some (.s b)) s (some (.s m)) z')):=by
 have e:=fun P Q=>yJ (ρ:=lSt N W L p (some (.s a)) (some (.s b)) s (some (.s m)) z) (a:=P) (b:=Q) (rB (aN (n:=false) (ms:=zb (zc 4) (zb (zc 7) zr)) (m:=zc 2) (x:=a) (y:=m) (L:=L) rfl rfl) (aN (n:=false) (ms:=zb (zc 7) (zb (zc 5) zr)) (m:=zc 2) (x:=m) (y:=b) (L:=L) rfl rfl))
 cases e1:zS L [sk a,sk m] with
 | none=>
  rw [e1] at e
  exact ⟨L,z,a0m _,h,Dwn.refl,fun x y ⟨_,_,q⟩ _=>(nomatch (e1.symm.trans q)),e _ _⟩
 | some x=>
  cases e2:zS L [sk m,sk b] with
  | none=>
   rw [e1,e2] at e
   exact ⟨L,z,a0m _,h,Dwn.refl,fun x y _ ⟨_,_,q⟩=>(nomatch (e2.symm.trans q)),e _ _⟩
  | some y=>
   rw [e1,e2] at e
   refine ⟨rR L a b (x + y),some (.i (x + y)),lh,lb h (.via hm (h _ _ _ e1) (h _ _ _ e2)),cJ,fun x' y' ⟨x1,l1,q1⟩ ⟨y1,l2,q2⟩=>?_,(e _ _).trans (zf ⟨lSt N W L p (some (.s a)) (some (.s b)) s (some (.s m)) (some (.i (x + y))),yn (zo (eJ rfl rfl e1) (eJ rfl rfl e2) rfl),lj (ks:=zb (zc 4) (zb (zc 5) zr)) (i:=8) rfl rfl hl⟩)⟩
   obtain ⟨w,lw,ew⟩:=rS (L:=L) (a:=a) (b:=b) (v:=x + y)
   cases (e1.symm.trans q1:some x=some x1)
   cases (e2.symm.trans q2:some y=some y1)
   exact ⟨w,by omega,ew⟩
def Lc (h0:Snd N W L0) (hm:m∈N) (hn:N.length<=12) (hl:L0.length<=10000):∃ L r' z',L.length<=L0.length + N.length/\Snd N W L/\Dwn L0 L/\(∀ b∈N,∀ x y,yW L0 a m x->yW L0 m b y->yW L a b (x + y))/\QG vE jC (N.map .s) (lSt N W L0 p (some (.s a)) r s (some (.s m)) z)=.ok (.nx (lSt N W L p (some (.s a)) r' s (some (.s m)) z')):=by
 obtain ⟨ρ',⟨L,r',z',l,hs,hd,hc,rfl⟩,e⟩:=YB (g:=vE) (b:=jC) PV.s (fun k ρ=>∃ L r' z',L.length<=L0.length + k/\Snd N W L/\Dwn L0 L/\(∀ b∈N.take k,∀ x y,yW L0 a m x->yW L0 m b y->yW L a b (x + y))/\ρ=lSt N W L p (some (.s a)) r' s (some (.s m)) z') N (lSt N W L0 p (some (.s a)) r s (some (.s m)) z) ⟨L0,r,z,N1 _,h0,Dwn.refl,fun x hx=>(nomatch hx),rfl⟩ (fun k hk ρ ⟨L,r',z',l,hs,hd,hc,hρ⟩=>by
  subst hρ
  obtain ⟨L2,z2,l2,s2,d2,c2,e2⟩:=Dq (a:=a) (b:=N[k]) (p:=p) (s:=s) (z:=z') hs hm (by omega)
  refine ⟨_,rfl,_,⟨L2,some (.s N[k]),z2,by omega,s2,hd.trans d2,fun b hb x y hx hy=>?_,rfl⟩,.inl e2⟩
  rw [R8 hk] at hb
  rcases S5.mp hb with hb | hb
  .exact (hc b hb x y hx hy).dwn d2
  .rw [M8.mp hb] at hy ⊢;exact c2 x y (hx.dwn hd) (hy.dwn hd))
 exact ⟨L,r',z',l,hs,hd,fun x hx=>hc x (by rw [a0p];exact hx),e⟩
def Ld (h0:Snd N W L0) (hm:m∈N) (hn:N.length<=12) (hl:L0.length<=5000):∃ L q' r' z',L.length<=L0.length + N.length * 12/\Snd N W L/\Dwn L0 L/\(∀ a∈N,∀ b∈N,∀ x y,yW L0 a m x->yW L0 m b y->yW L a b (x + y))/\QG vF vG (N.map .s) (lSt N W L0 p q r s (some (.s m)) z)=.ok (.nx (lSt N W L p q' r' s (some (.s m)) z')):=by
 obtain ⟨ρ',⟨L,q',r',z',l,hs,hd,hc,rfl⟩,e⟩:=YB (g:=vF) (b:=vG) PV.s (fun k ρ=>∃ L q' r' z',L.length<=L0.length + k * 12/\Snd N W L/\Dwn L0 L/\(∀ a∈N.take k,∀ b∈N,∀ x y,yW L0 a m x->yW L0 m b y->yW L a b (x + y))/\ρ=lSt N W L p q' r' s (some (.s m)) z') N (lSt N W L0 p q r s (some (.s m)) z) ⟨L0,q,r,z,N1 _,h0,Dwn.refl,fun x hx=>(nomatch hx),rfl⟩ (fun k hk ρ ⟨L,q',r',z',l,hs,hd,hc,hρ⟩=>by
  subst hρ
  obtain ⟨L2,r2,z2,l2,s2,d2,c2,e2⟩:=Lc (a:=N[k]) (p:=p) (r:=r') (s:=s) (z:=z') hs hm hn (by omega)
  refine ⟨_,rfl,_,⟨L2,some (.s N[k]),r2,z2,by omega,s2,hd.trans d2,fun a ha b hb x y hx hy=>?_,rfl⟩,.inl (jj (yh rfl) e2)⟩
  rw [R8 hk] at ha
  rcases S5.mp ha with ha | ha
  .exact (hc a ha b hb x y hx hy).dwn d2
  .rw [M8.mp ha] at hx ⊢;exact c2 b hb x y (hx.dwn hd) (hy.dwn hd))
 exact ⟨L,q',r',z',l,hs,hd,fun x hx=>hc x (by rw [a0p];exact hx),e⟩
def Le (h0:Snd N W L0) (hW:WS N W) (hn:N.length<=12) (hl:L0.length<=100) (h1:Cmp N W [] L0):∃ L q' r' t' z',L.length<=5000/\Snd N W L/\Cmp N W N L/\QG vH vI (N.map .s) (lSt N W L0 p q r s t z)=.ok (.nx (lSt N W L p q' r' s t' z')):=by
 obtain ⟨ρ',⟨L,q',r',t',z',l,hs,hc,rfl⟩,e⟩:=YB (g:=vH) (b:=vI) PV.s (fun k ρ=>∃ L q' r' t' z',L.length<=100 + k * 144/\Snd N W L/\Cmp N W (N.take k) L/\ρ=lSt N W L p q' r' s t' z') N (lSt N W L0 p q r s t z) ⟨L0,q,r,t,z,by omega,h0,h1,rfl⟩ (fun k hk ρ ⟨L,q',r',t',z',l,hs,hc,hρ⟩=>by
  subst hρ
  obtain ⟨L2,q2,r2,z2,l2,s2,d2,c2,e2⟩:=Ld (m:=N[k]) (p:=p) (q:=q') (r:=r') (s:=s) (z:=z') hs (a0g _) hn (by omega)
  refine ⟨_,rfl,_,⟨L2,q2,r2,some (.s N[k]),z2,by omega,s2,fun a b v h=>?_,rfl⟩,.inl (jj (yh rfl) e2)⟩
  obtain ⟨ha,hb⟩:=h.ends hW
  rw [R8 hk] at h
  rcases h.split (M:=N.take k) (x:=N[k]) (fun z hz=>(S5.mp hz).imp id M8.mp) hW with ⟨u,lu,w⟩ | ⟨s',t',le,w1,w2⟩
  .obtain ⟨u',lu',e'⟩:=(hc _ _ _ w).dwn d2
   exact ⟨u',by omega,e'⟩
  .obtain ⟨u',lu',e'⟩:=c2 a ha b hb s' t' (hc _ _ _ w1) (hc _ _ _ w2)
   exact ⟨u',by omega,e'⟩)
 rw [a0p] at hc
 exact ⟨L,q',r',t',z',by omega,hs,hc,e⟩
def LOk (N:MX) (L:Lst) (F:Str->Ht):Prop:=(∀ a∈N,∀ b∈N,zS L [sk a,sk b]=zS (F a) (sk b))
def eK (hW:WS N W) (g:Wn o W F) (h:WkM N W N a b v):∀ x,zS F (sk a)=some x->∃ y,y<=x + v/\zS F (sk b)=some y:=by
 induction h with
 | nil _=>intro x e;exact ⟨x,by omega,e⟩
 | edge hw=>intro x e;obtain ⟨y,e',l⟩:=g.2 _ hw x e;exact ⟨y,l,e'⟩
 | via _ _ _ i j=>
  intro x e
  obtain ⟨y,l,e'⟩:=i x e
  obtain ⟨y',l',e''⟩:=j y e'
  exact ⟨y',by omega,e''⟩
def Ua (hW:WS N W) (g:Wn o W F) (ho:o∈N):∀ (n:Nat) {z:Str}{y:Int},y.toNat<=n->zS F (sk z)=some y->WkM N W N o z y:=by
 intro n
 induction n with
 | zero=>
  intro z y hn e
  by_cases hz:z=o
  .subst hz
   cases (g.1.own.symm.trans e)
   exact .nil ho
  .obtain ⟨w,hw,_,x,ex,exy⟩:=g.Dp e hz
   have:=(hW w hw).2.2.1
   have:=g.1.pos _ _ ex
   omega
 | succ n ih=>
  intro z y hn e
  by_cases hz:z=o
  .subst hz
   cases (g.1.own.symm.trans e)
   exact .nil ho
  .obtain ⟨w,hw,rfl,x,ex,exy⟩:=g.Dp e hz
   have h1:=hW w hw
   have:=g.1.pos _ _ ex
   rw [<- exy]
   exact .via h1.1 (ih (by omega) ex) (.edge hw)
def gC (hW:WS N W) (hn:N.length<=12) (hl:W.length<=60) (gF:∀ z,Wn z W (F z)):∃ L,LOk N L F/\qK [.l (N.map .s),.l (W.map wP)]=.ok (.dt L):=by
 obtain ⟨L1,p1,a1,s1,n1,e1⟩:=I_ (N:=N) (W:=W) (q:=none) (r:=none) (s:=none) (t:=none) (z:=none) hn
 obtain ⟨L2,q2,r2,s2',a2,s2,d2,n2,e2⟩:=La (N:=N) (W:=W) (L0:=L1) (p:=p1) (t:=none) (z:=none) (by omega) hl s1
 have c0:Cmp N W [] L2:=fun a b v h=>by
  cases h with
  | nil h=>exact (n1 _ h).dwn d2
  | edge hw=>exact n2 _ hw
  | via h _ _=>cases h
 obtain ⟨L,q3,r3,t3,z3,_,s3,c3,e3⟩:=Le (p:=p1) (q:=q2) (r:=r2) (s:=s2') (t:=none) (z:=none) s2 hW hn (by omega) c0
 refine ⟨L,fun a ha b hb=>?_,yc (zf ⟨_,rfl,zf ⟨_,jj (yh rfl) e1,zf ⟨_,jj (yh rfl) e2,zf ⟨_,jj (yh rfl) e3,rfl⟩⟩⟩⟩)⟩
 cases e:zS L [sk a,sk b] with
 | none=>
  cases e':zS (F a) (sk b) with
  | none=>rfl
  | some y=>
   obtain ⟨u,_,q⟩:=c3 _ _ _ (Ua hW (gF a) ha _ (N1 _) e')
   cases (e.symm.trans q)
 | some v=>
  obtain ⟨y,l,e'⟩:=eK hW (gF a) (s3 _ _ _ e) 0 (gF a).1.own
  obtain ⟨u,l',q⟩:=c3 _ _ _ (Ua hW (gF a) ha _ (N1 _) e')
  cases (e.symm.trans q)
  rw [e',show y=v by omega]
def below (h:Ht) (y:Int):Nat:=(h.filter fun p=>decide (p.2 < y)).length
def lq {x y:Int}(l:x<=y):∀ {h:Ht},below h x<=below h y
 | []=>N1 _
 | p :: h=>by
  have i:=lq l (h:=h)
  unfold below at i ⊢
  rw [a01,a01]
  by_cases c:p.2 < x
  .rw [if_pos (N7 c),if_pos (N7 (show p.2 < y by omega))];exact a0F i
  .rw [if_neg (by rw [N6 c];decide)]
   split
   .exact a1n i
   .exact i
def lx {x y:Int}(l:x < y):∀ {h:Ht}{k:Key},(k,x)∈h->below h x + 1<=below h y
 | [],_,e=>by cases e
 | p :: h,k,e=>by
  unfold below
  rw [a01,a01]
  rcases O5.mp e with e | e
  .subst e
   rw [if_neg (by rw [N6 (show ¬ x < x by omega)];decide),if_pos (N7 l)]
   exact a0F (lq (Int.le_of_lt l))
  .have i:=lx l e
   unfold below at i
   by_cases c:p.2 < x
   .rw [if_pos (N7 c),if_pos (N7 (show p.2 < y by omega))];exact a0F i
   .rw [if_neg (by rw [N6 c];decide)]
    split
    .exact a1n i
    .exact i
def eM {y:Int}:∀ {h:Ht}{k:Key},(k,y)∈h->below h y + 1<=h.length
 | [],_,e=>by cases e
 | p :: h,k,e=>by
  unfold below
  rw [a01]
  rcases O5.mp e with e | e
  .subst e
   rw [if_neg (by rw [N6 (show ¬ y < y by omega)];decide),v0]
   exact a0F (List.length_filter_le _ _)
  .have i:=eM e
   unfold below at i
   split
   .exact a0F i
   .exact a1n i
def eN (hW:WS N W) (g:Wn o W F):∀ (n:Nat) {z:Str}{y:Int},y.toNat<=n->zS F (sk z)=some y->y<=3000000 * (below F y:Int):=by
 intro n
 induction n with
 | zero=>
  intro z y hn e
  have:=g.1.pos _ _ e
  omega
 | succ n ih=>
  intro z y hn e
  by_cases hz:z=o
  .subst hz
   cases (g.1.own.symm.trans e)
   omega
  .obtain ⟨w,hw,rfl,x,ex,exy⟩:=g.Dp e hz
   have h1:=hW w hw
   have:=g.1.pos _ _ ex
   have i:=ih (y:=x) (by omega) ex
   have j:=lx (x:=x) (y:=y) (by omega) (Qy ex)
   omega
def mT {F:Ht}{o:Str}(hW:WS N W) (g:Wn o W F) (ho:o∈N) {z:Str}{y:Int}(e:zS F (sk z)=some y):0<=y/\y + 3000000<=3000000 * (N.length:Int):=by
 have a:=eN hW g _ (N1 _) e
 have b:=eM (Qy e)
 have c:F.length<=N.length:=by
  have:=X9 (a:=F.map (·.1)) (b:=N.map sk) g.1.nd (fun k hk=>by
   rcases O5.mp (g.1.sub k hk) with rfl | hk
   .exact a0u ho
   .obtain ⟨w,hw,rfl⟩:=a0b.mp hk
    exact a0u (hW w hw).2.1)
  rw [u8,u8] at this
  exact this
 have:=g.1.pos _ _ e
 omega
end
abbrev Tp:=Str × Str × Str × Int × Int × Int
def tP (t:Tp):PV:=.t [.s t.1,.s t.2.1,.s t.2.2.1,.i t.2.2.2.1,.i t.2.2.2.2.1,.i t.2.2.2.2.2]
structure TOk (N:MX) (F:Str->Ht) (t:Tp):Prop where
 org:t.2.1∈N
 goal:t.2.2.1∈N
 len:∃ y,zS (F t.2.1) (sk t.2.2.1)=some y/\y<=t.2.2.2.2.1 - t.2.2.2.1
 st:0<=t.2.2.2.1
 fw:t.2.2.2.1 < t.2.2.2.2.1
 fin:t.2.2.2.2.1<=1000000000
 MQ:0<=t.2.2.2.2.2/\t.2.2.2.2.2<=1000000000
def Wq (T:List Tp):List (Key × PV):=T.map fun t=>(sk t.1,tP t)
def eO (h:z∉T.map (·.1)):zS (Wq T) (sk z)=none:=by
 cases e:zS (Wq T) (sk z) with
 | none=>rfl
 | some x=>
  obtain ⟨t,ht,e2⟩:=a0b.mp (Qy e)
  cases e2
  exact absurd (a0u ht) h
def rT (nd:(T.map (·.1)).Nodup) (h:t∈T):zS (Wq T) (sk t.1)=some (tP t):=by
 induction T with
 | nil=>cases h
 | cons u T ih=>
  rw [N9] at nd
  obtain ⟨n1,n2⟩:=a0s.mp nd
  show zS ((sk u.1,tP u) :: Wq T) (sk t.1)=_
  rw [yr]
  rcases O5.mp h with rfl | h
  .rw [if_pos rfl]
  .rw [if_neg fun e=>n1 (by rw [a0R e];exact a0u h)]
   exact ih n2 h
def mU (hz:Nm z) (hB:zS B (sk z)=none):z9 [.s z,.d B]=.ok (.s z):=by
 refine yc (zf ⟨_,yg (zw (xs:=[.s z]) rfl (rL hz)),zf ⟨_,(yJ (x:=false) (yF (zo (x:=.s z) (y:=.d B) rfl rfl ?_))).trans (show _=Out.ok (Fw.nx [some (.s z),some (.d B)]) from rfl),rfl⟩⟩)
 show Out.ok (PV.b (xor false (zS B (sk z)).isSome))=_
 rw [hB];rfl
def Vi (h1:0<=m) (h2:m<=1000000000):zU [.i m,.i 0]=.ok (.i m):=by
 refine yc (zf ⟨_,(yJ (U4 (x:=false) (y:=false) (yF (zo (x:=.i m) (y:=.i 0) rfl rfl ?_)) ((X8 (x:=m) rfl).trans (by rw [N6 (by omega)])))).trans (show _=Out.ok (Fw.nx [some (.i m),some (.i 0)]) from rfl),rfl⟩)
 show Out.ok (PV.b (decide (m < 0)))=_
 rw [N6 (by omega)]
section
variable {N:MX}{W:List Wy}{F:Str->Ht}{t:Tp}{T:List Tp}
def xC (h:TOk N F t) (hn:Nm t.1) (hB:zS B (sk t.1)=none):qx [roP N W F,tP t,.d B]=.ok .n:=by
 obtain ⟨ho,hg,⟨y,ey,ly⟩,s0,fw,f1,q0,q1⟩:=h
 refine Wo rfl (zf ⟨_,yg (zw (xs:=[.s t.1,.d B]) rfl (mU hn hB)),zf ⟨_,yn (cI (N:=N) (W:=W) (F:=F) rfl (xs:=[.s t.2.1,.s t.2.2.1]) rfl (by decide +kernel) (by decide +kernel) (by decide +kernel) ((aM ho hg).trans (by rw [ey];rfl))),zf ⟨_,yg (zw (xs:=[.i t.2.2.2.1,.i 0]) rfl (Vi s0 (by omega))),zf ⟨_,yg (zw (xs:=[.i t.2.2.2.2.1,.i 0]) rfl (Vi (by omega) f1)),zf ⟨_,yg (zw (xs:=[.i t.2.2.2.2.2,.i 0]) rfl (Vi q0 q1)),zf ⟨[some (roP N W F),some (tP t),some (.d B),some (.i y)],(yJ (x:=false) (yF (zo (x:=.i t.2.2.2.2.1) (y:=.i t.2.2.2.1) rfl rfl ?_))).trans rfl,zf ⟨[some (roP N W F),some (tP t),some (.d B),some (.i y)],(yJ (x:=false) rfl).trans rfl,(yJ (x:=false) (yF (zo (x:=.i (t.2.2.2.2.1 - t.2.2.2.1)) (y:=.i y) rfl rfl ?_))).trans rfl⟩⟩⟩⟩⟩⟩⟩)
 .show Out.ok (PV.b (decide (t.2.2.2.2.1<=t.2.2.2.1)))=_
  rw [N6 (by omega)]
 .show Out.ok (PV.b (decide (t.2.2.2.2.1 - t.2.2.2.1 < y)))=_
  rw [N6 (by omega)]
def Dr (t:Tp):ay:=(t.2.2.2.1,t.2.2.2.2.1,t.1)
def lz:∀ {T:List Tp},bL zJ (T.map tP)=some (T.map Dr)
 | []=>rfl
 | t :: T=>by
  have e:zJ [tP t]=.ok (.t [.i t.2.2.2.1,.i t.2.2.2.2.1,.s t.1]):=yc (ZP (Y0 rfl (N2 rfl)))
  show (match zJ [tP t] with
   | .ok (.t [.i a,.i b,.s c])=>(bL zJ (T.map tP)).map ((a,b,c) :: ·)
   | _=>none)=_
  rw [e]
  show (bL zJ (T.map tP)).map _=_
  rw [lz];rfl
def DZ (T:List Tp):List Tp:=(CZ (T.map Dr)).map fun i=>T.getD i ("","","",0,0,0)
def xD (nd:(T.map (·.1)).Nodup) (hl:T.length < 64):xk zJ (T.map tP)=.ok (.l ((DZ T).map tP)):=by
 unfold xk
 rw [if_pos (by rw [u8];exact hl),lz]
 have nk:(T.map Dr).Nodup:=by
  have:((T.map Dr).map fun k=>k.2.2)=T.map (·.1):=by rw [a0n];rfl
  rw [<- this] at nd
  exact List.Pairwise.of_map (S:=(·≠·)) (fun k:ay=>k.2.2) (fun a b h e=>h (by rw [e])) nd
 show (if (T.map Dr).Nodup then _ else _)=_
 rw [if_pos nk]
 unfold DZ
 rw [a0n]
 congr 2
 refine a0I fun i hi=>?_
 have:=a0i.mp ((bM (T.map Dr)).1.mem_iff.mp hi)
 rw [u8] at this
 show (T.map tP).getD i .n=tP (T.getD i _)
 rw [a0o,a0o,P0,N8 this];rfl
end
def ga0 {α:Type}{A:List α}{x y:α}:(A++[x,y])[A.length]? = some x:=by simp
def ga1 {α:Type}{A:List α}{x y:α}:(A++[x,y])[A.length + 1]? = some y:=by simp
def sa0 {α:Type}{A:List α}{x y z:α}:(A++[x,y]).set A.length z=A++[z,y]:=by simp
def sa1 {α:Type}{A:List α}{x y z:α}:(A++[x,y]).set (A.length + 1) z=A++[x,z]:=by simp
def Bm {G:AH}{n:Nat}:∀ {kvs:Nn},nt (v_ G (n + 1)) (vK kvs)=some kvs
 | []=>rfl
 | (k,x) :: kvs=>by
  show ((v_ G (n + 1) (.v x)).bind fun y=>(nt (v_ G (n + 1)) (vK kvs)).map ((k,y) :: ·))=_
  rw [Bm];rfl
def Lf (h0:K3 bs ρ=none) (h1:JX G bs ρ=some r) (h2:m r=.ok x) (hi:imm x=true):hP bs m ρ G=.ok (.v x) G:=by
 unfold hP;rw [h0,h1];dsimp only;rw [h2];dsimp only;rw [if_pos hi]
def WR (h:m ρ G=.ok x G'):Xh m ρ G=.nx ρ G':=by
 unfold Xh;rw [h];rfl
def cK (hv:mv ρ G=.ok y G1) (ho:mo ρ G1=.ok (.g k) G2) (hk:G2[k]? = some (.o c fs)) (hc:c∈cs) (hl:fs.length < 1000):bN cs f mo mv ρ G=.nx ρ (G2.set k (.o c (Xm f y fs))):=by
 unfold bN;rw [hv]
 show ((mo ρ G1).fw _)=_
 rw [ho]
 show (match G2[k]? with
  | some (.o c fs)=>if c∈cs/\fs.length < 1000 then HFw.nx ρ (G2.set k (.o c (Xm f y fs))) else .wall
  | _=>.wall)=_
 rw [hk]
 dsimp only
 rw [if_pos ⟨hc,hl⟩]
def Ds (hv:mv ρ G=.ok y G) (ho:mo ρ G=.ok (.g k) G) (hz:mk ρ G=.ok (.v z) G) (hk:G[k]? = some (.d kvs)) (hq:pk z=some q) (hl:kvs.length < 100000):FL mo mk mv ρ G=.nx ρ (G.set k (.d (dput kvs q y))):=by
 unfold FL;rw [hv]
 show ((mo ρ G).fw _)=_
 rw [ho]
 show ((mk ρ G).fw _)=_
 rw [hz]
 show (match G[k]?,pk z with
  | some (.d kvs),some q=>if kvs.length < sizeLine then HFw.nx ρ (G.set k (.d (dput kvs q y))) else .wall
  | _,_=>.wall)=_
 rw [hk,hq]
 dsimp only
 rw [if_pos (O0 hl (by decide))]
def Dt (h:m ρ G=.ok (.g k) G) (hk:G[k]? = some (.o c fs)) (hc:c∈cs) (hf:fs.lookup f=some z):FI cs f m ρ G=.ok z G:=by
 unfold FI;rw [h]
 show (match G[k]? with
  | some (.o c fs)=>if c∈cs then match fs.lookup f with
   | some z=>HX.ok z G
   | none=>.wall else .wall
  | _=>.wall)=_
 rw [hk]
 dsimp only
 rw [if_pos hc,hf]
def rV (h:ρ[i]? = some (some (.l xs))) (hm:m ρ=.ok y) (hl:xs.length < 100000):uL i m ρ=.ok (.nx (ρ.set i (some (.l (xs++[y]))))):=by
 unfold uL;rw [h]
 show (m ρ).bind _=_
 rw [hm,okb,if_pos (O0 hl (by decide))]
def xE {α:Type}{xs:List α}{i:Int}(h:0<=i) (h2:i<=xs.length):Ux xs (some i) none=xs.drop i.toNat:=by
 unfold Ux
 show List.take (xs.length - (if i < 0 then (i + (xs.length:Int)).toNat else min i.toNat xs.length)) (xs.drop (if i < 0 then (i + (xs.length:Int)).toNat else min i.toNat xs.length))=_
 rw [if_neg (by omega),a1F (by omega),List.take_of_length_le (by rw [a16];omega)]
def Du {α:Type}{x:α}{fs:List (Str × α)}:((f,x) :: fs).lookup f=some x:=by simp
def xF {α:Type}{x:α}{fs:List (Str × α)}(h:(f == g)=false):((g,x) :: fs).lookup f=fs.lookup f:=by simp [List.lookup,h]
section
variable {N:MX}{W:List Wy}{F:Str->Ht}{A:AH}{T P:List Tp}{ro:PV}
def tFs (ro:PV) (j:Nat):List (Str × HV):=[("roads",.v ro),("by_name",.g j)]
def tG (A:AH) (ro:PV) (T:List Tp):AH:=A++[.o 10 (tFs ro (A.length + 1)),.d (vK (Wq T))]
def lA (h:G[j]? = some (.d (vK (Wq T)))):v_ G (n + 2) (.g j)=some (.d (Wq T)):=by
 unfold v_;rw [h]
 show (nt (v_ G (n + 1)) (vK (Wq T))).map PV.d=_
 rw [Bm];rfl
def Gp:v_ (tG A ro T) 8 (.g A.length)=some (.o 10 [("roads",ro),("by_name",.d (Wq T))]):=by
 unfold v_ tG;rw [ga0]
 show (nt (v_ _ 7) (tFs ro (A.length + 1))).map (PV.o 10)=_
 show (Option.map (PV.o 10) ((v_ _ 7 (.v ro)).bind fun y=>(((v_ _ 7 (.g (A.length + 1))).bind fun y=>((some []).map ((("by_name" : Str),y) :: ·))).map ((("roads" : Str),y) :: ·))))=_
 rw [lA (T:=T) ga1];rfl
def xG (h:t.1∉P.map (·.1)):dput (vK (Wq P)) (sk t.1) (.v (tP t))=vK (Wq (P++[t])):=by
 unfold vK
 rw [i5]
 congr 1
 unfold dput
 rw [wa,eO h]
 unfold Wq;rw [O6];rfl
def xH:∀ {R P:List Tp}{o:Option HV},(∀ t∈R,TOk N F t/\Nm t.1)->((P++R).map (·.1)).Nodup->(P++R).length<=40->∃ o',nv jD yY ((R.map tP).map .v) [some (.g A.length),some (.v (roP N W F)),some (.v T0),o] (tG A (roP N W F) P)=.nx [some (.g A.length),some (.v (roP N W F)),some (.v T0),o'] (tG A (roP N W F) (P++R)):=by
 intro R
 induction R with
 | nil=>intro P o _ _ _;rw [O9];exact ⟨o,rfl⟩
 | cons t R ih=>
  intro P o hR nd hl
  have ea:P++[t]++R=P++t :: R:=by rw [P2];rfl
  obtain ⟨o',e'⟩:=ih (P:=P++[t]) (o:=some (.v (tP t))) (fun u hu=>hR u (M9 _ hu)) (by rw [ea];exact nd) (by rw [ea];exact hl)
  rw [ea] at e'
  refine ⟨o', ?_⟩
  have hz:t.1∉P.map (·.1):=fun h=>by
   rw [O6,N9] at nd
   exact (a1p.mp nd).2.2 _ h _ v4 rfl
  have hp:P.length<=40:=by rw [M6] at hl;omega
  obtain ⟨h1,h2⟩:=hR t v4
  have ef:JR [10] "by_name" (zc 0) [some (.o 10 [("roads",roP N W F),("by_name",.d (Wq P))]),some (roP N W F),none,some (tP t)]=.ok (.d (Wq P)):=by
   show (if 10∈[10] then v7 (List.lookup ("by_name" : Str) [("roads",roP N W F),("by_name",PV.d (Wq P))]) else .wall)=_
   rw [if_pos v4,vo (by decide +kernel),Vv];rfl
  have e1:hP [true,true,false,true] (zm qx (zb (zc 1) (zb (zc 3) (zb (JR [10] "by_name" (zc 0)) zr)))) [some (.g A.length),some (.v (roP N W F)),some (.v T0),some (.v (tP t))] (tG A (roP N W F) P)=.ok (.v .n) (tG A (roP N W F) P):=
   Lf rfl (Ks Gp (Ks rfl (Ys (Ks rfl De)))) (zw (zl rfl (zl rfl (zl ef rfl))) (xC (W:=W) h1 h2 (eO hz))) rfl
  have e2:FL (FI [10] "by_name" (yB 0)) (hP [false,false,false,true] (mOp pIx (zc 3) (mC (.i 0)))) (yB 3) [some (.g A.length),some (.v (roP N W F)),some (.v T0),some (.v (tP t))] (tG A (roP N W F) P)=.nx [some (.g A.length),some (.v (roP N W F)),some (.v T0),some (.v (tP t))] (tG A (roP N W F) (P++[t])):=by
   refine (Ds (y:=.v (tP t)) (k:=A.length + 1) (z:=.s t.1) (q:=sk t.1) rfl (Dt rfl ga0 v4 (by unfold tFs;rw [xF (by decide +kernel),Du])) (Uv rfl rfl) ga1 rfl (by unfold vK Wq;rw [u8,u8];omega)).trans ?_
   unfold tG
   rw [sa1,xG hz]
  have eb:yY [some (.g A.length),some (.v (roP N W F)),some (.v T0),some (.v (tP t))] (tG A (roP N W F) P)=.nx [some (.g A.length),some (.v (roP N W F)),some (.v T0),some (.v (tP t))] (tG A (roP N W F) (P++[t])):=zN (WR e1) e2
  show (match yY [some (.g A.length),some (.v (roP N W F)),some (.v T0),some (.v (tP t))] (tG A (roP N W F) P) with
   | .nx ρ2 G2=>nv jD yY ((R.map tP).map .v) ρ2 G2
   | .ct ρ2 G2=>nv jD yY ((R.map tP).map .v) ρ2 G2
   | .bk ρ2 G2=>.nx ρ2 G2
   | .rt v G2=>.rt v G2
   | .exc c fs G2=>.exc c fs G2
   | .wall=>.wall)=_
  rw [eb];exact e'
def rW (T:List Tp):PV:=.l ((DZ T).map fun t=>.s t.1)
def Dv (A:AH) (ro:PV) (T:List Tp):AH:=A++[.o 10 [("roads",.v ro),("by_name",.g (A.length + 1)),("order",.v (rW T))],.d (vK (Wq T))]
def VQ (ro:PV) (T:List Tp):PV:=.o 10 [("roads",ro),("by_name",.d (Wq T)),("order",rW T)]
def Dw:(DZ T).length=T.length:=by
 unfold DZ
 rw [u8,(bM (T.map Dr)).1.length_eq,T4,u8]
def lC (hT:∀ t∈T,TOk N F t/\Nm t.1) (nd:(T.map (·.1)).Nodup) (hl:T.length<=40):k8 [.g A.length,.v (roP N W F),.v (.l (T.map tP))] (A++[.o 10 []])=.ok (.v .n) (Dv A (roP N W F) T):=by
 obtain ⟨o',e4⟩:=xH (N:=N) (W:=W) (F:=F) (A:=A) (T0:=.l (T.map tP)) (R:=T) (P:=[]) (o:=none) hT nd hl
 rw [a0z] at e4
 have g0:(A++[Cell.o 10 []])[A.length]? = some (.o 10 []):=by simp
 have e1:Xh (hP [false,false,true] (zm yQ (zb (zc 2) (zb (mC (.i 40)) zr)))) [some (.g A.length),some (.v (roP N W F)),some (.v (.l (T.map tP))),none] (A++[.o 10 []])=.nx [some (.g A.length),some (.v (roP N W F)),some (.v (.l (T.map tP))),none] (A++[.o 10 []]):=WR (Uv rfl (zw (xs:=[.l (T.map tP),.i 40]) rfl (gA vO (by omega))))
 have e2:bN [10] "roads" (yB 0) (yB 1) [some (.g A.length),some (.v (roP N W F)),some (.v (.l (T.map tP))),none] (A++[.o 10 []])=.nx [some (.g A.length),some (.v (roP N W F)),some (.v (.l (T.map tP))),none] (A++[.o 10 [("roads",.v (roP N W F))]]):=by
  refine (cK rfl rfl g0 v4 (by decide)).trans ?_
  rw [show (A++[Cell.o 10 []]).set A.length (.o 10 (Xm "roads" (.v (roP N W F)) []))=A++[.o 10 [("roads",.v (roP N W F))]] by simp [Xm]]
 have g1:(A++[Cell.o 10 [("roads",.v (roP N W F))]]++[.d []])[A.length]? = some (.o 10 [("roads",.v (roP N W F))]):=by simp
 have e3:bN [10] "by_name" (yB 0) (hF [] uR) [some (.g A.length),some (.v (roP N W F)),some (.v (.l (T.map tP))),none] (A++[.o 10 [("roads",.v (roP N W F))]])=.nx [some (.g A.length),some (.v (roP N W F)),some (.v (.l (T.map tP))),none] (tG A (roP N W F) []):=by
  refine (cK (y:=.g (A++[Cell.o 10 [("roads",.v (roP N W F))]]).length) (G1:=A++[Cell.o 10 [("roads",.v (roP N W F))]]++[.d []]) rfl rfl g1 v4 (by show 1 < 1000;decide)).trans ?_
  have e:Xm "by_name" (.g (A++[Cell.o 10 [("roads",.v (roP N W F))]]).length) [("roads",.v (roP N W F))]=tFs (roP N W F) (A.length + 1):=by
   rw [M6]
   show (if (("roads" : Str) = "by_name") then _ else _)=_
   rw [if_neg (by decide +kernel)];rfl
  rw [e,show A++[Cell.o 10 [("roads",.v (roP N W F))]]++[.d []]=A++[.o 10 [("roads",.v (roP N W F))],.d []] by rw [P2];rfl,sa0];rfl
 have ls:lcP vL vM vN ((DZ T).map tP) [none] []=.ok (rW T):=
  K1 tP (fun t=>PV.s t.1) (fun ρ=>∃ o,ρ=[o]) _ _ ⟨none,rfl⟩ (fun t _ ρ ⟨o,ho⟩=>by subst ho;exact ⟨_,rfl,⟨_,rfl⟩,zo rfl rfl rfl⟩) (by rw [Dw];omega)
 have e5:bN [10] "order" (yB 0) (hP [false,false,true] (mLC (yV (iK zJ (zb (zc 2) zr))) [none] vL vM vN)) [some (.g A.length),some (.v (roP N W F)),some (.v (.l (T.map tP))),o'] (tG A (roP N W F) T)=.nx [some (.g A.length),some (.v (roP N W F)),some (.v (.l (T.map tP))),o'] (Dv A (roP N W F) T):=by
  refine (cK (y:=.v (rW T)) (Uv rfl (Uy (yh (show iK zJ (zb (zc 2) zr) [none,none,some (.l (T.map tP)),none]=_ from xD nd (by omega))) ls)) rfl ga0 v4 (by show 2 < 1000;decide)).trans ?_
  have e:Xm "order" (.v (rW T)) (tFs (roP N W F) (A.length + 1))=([("roads",.v (roP N W F)),("by_name",.g (A.length + 1)),("order",.v (rW T))]:List (Str × HV)):=by
   show (if (("roads" : Str) = "order") then _ else _ :: (if (("by_name" : Str) = "order") then _ else _))=_
   rw [if_neg (by decide +kernel),if_neg (by decide +kernel)];rfl
  unfold Dv
  rw [e,sa0]
 have ev:k7 [some (.g A.length),some (.v (roP N W F)),some (.v (.l (T.map tP))),none] (A++[.o 10 []])=.nx [some (.g A.length),some (.v (roP N W F)),some (.v (.l (T.map tP))),o'] (Dv A (roP N W F) T):=
  zN e1 (zN e2 (zN e3 (zN e4 e5)))
 show (match k7 [some (.g A.length),some (.v (roP N W F)),some (.v (.l (T.map tP))),none] (A++[.o 10 []]) with
  | .nx _ G'=>HX.ok (HV.v .n) G'
  | .rt x G'=>.ok x G'
  | .exc c fs G'=>.exc c fs G'
  | _=>.wall)=_
 rw [ev]
def rX (h:G[k]? = some (.o 10 [("roads",.v ro),("by_name",.g j),("order",.v (rW T))])) (h2:G[j]? = some (.d (vK (Wq T)))):v_ G (n + 3) (.g k)=some (VQ ro T):=by
 unfold v_;rw [h]
 show (Option.map (PV.o 10) ((v_ _ (n + 2) (.v ro)).bind fun y=>(((v_ _ (n + 2) (.g j)).bind fun y=>((((v_ _ (n + 2) (.v (rW T))).bind fun y=>((some []).map ((("order" : Str),y) :: ·)))).map ((("by_name" : Str),y) :: ·))).map ((("roads" : Str),y) :: ·))))=_
 rw [lA (T:=T) h2];rfl
end
def rY (h:p ρ=.exc c fs):yk p q ρ=.exc c fs:=by unfold yk;rw [h];rfl
def ZQ {fr:Bool}{n:Nat}{ms:MS}{xs:Nj}{c:Nat}{fs:Np}(h:ms (xs.map some++List.replicate (n - xs.length) none)=.exc c fs):Zs fr n ms xs=.exc c fs:=by unfold Zs;rw [h]
def rZ (h:m ρ=.ok (VQ ro T)):JR [10] "by_name" m ρ=.ok (.d (Wq T)):=by
 unfold JR;rw [h,okb]
 show (if 10∈[10] then v7 (List.lookup ("by_name" : Str) [("roads",ro),("by_name",PV.d (Wq T)),("order",rW T)]) else .wall)=_
 rw [if_pos v4,vo (by decide +kernel),Vv];rfl
def QE (h:m ρ=.ok (VQ ro T)):JR [10] "roads" m ρ=.ok ro:=by
 unfold JR;rw [h,okb]
 show (if 10∈[10] then v7 (List.lookup ("roads" : Str) [("roads",ro),("by_name",PV.d (Wq T)),("order",rW T)]) else .wall)=_
 rw [if_pos v4,Vv];rfl
def r_ (nd:(T.map (·.1)).Nodup) (ht:t∈T):zB [VQ ro T,.s t.1]=.ok (tP t):=by
 have b:=rZ (m:=zc 0) (ρ:=[some (VQ ro T),some (.s t.1)]) (ro:=ro) (T:=T) rfl
 have e:=rT nd ht
 refine yc (zf ⟨_,(yJ (x:=false) (yF (zo (x:=.s t.1) rfl b ?_))).trans (show _=Out.ok (Fw.nx [some (VQ ro T),some (.s t.1)]) from rfl),ZP (zo b (y:=.s t.1) rfl ?_)⟩)
 .show Out.ok (PV.b (xor true (zS (Wq T) (sk t.1)).isSome))=_
  rw [e];rfl
 .show v7 (zS (Wq T) (sk t.1))=_
  rw [e];rfl
def xI (ha:a ρ=.ok (VQ ro T)) (hm:ms ρ=.ok xs):vi [(10,f)] "trip" a ms ρ=f (VQ ro T :: xs):=by
 unfold vi;rw [ha,okb]
 show (if (List.lookup ("trip" : Str) [("roads",ro),("by_name",PV.d (Wq T)),("order",rW T)]).isSome=true then Out.wall else (ms ρ).bind fun xs=>f (VQ ro T :: xs))=_
 rw [vo (by decide +kernel),vo (by decide +kernel),vo (by decide +kernel),AF,if_neg (by intro z;cases z),hm,okb]
def yL (h0:0<=k) (h1:k<=1000) (hm:0 < m):∃ x:Int,0<=x/\x < m/\zt [.sc ns,.i k,.i m]=.ok (.i x):=by
 obtain ⟨c,c0,c1,q⟩:∃ c:Int,0<=c/\c < 1000000007/\sIf (yK (mOp pGt (zm Ze (zb (zc 0) zr)) (mC (.i 0)))) (qW 3 (mOp Jt (mOp pIx (zc 0) (mOp Jt (zc 1) (zm Ze (zb (zc 0) zr)))) (mC (.i 1000000007)))) yA [some (.sc ns),some (.i k),some (.i m),some (.i 5)]=.ok (.nx [some (.sc ns),some (.i k),some (.i m),some (.i c)]):=by
  have l:zm Ze (zb (zc 0) zr) [some (.sc ns),some (.i k),some (.i m),some (.i 5)]=.ok (.i (ns.length:Int)):=zw (xs:=[.sc ns]) rfl rfl
  have t:=fun P Q=>yJ (a:=P) (b:=Q) (X8 (n:=0) l)
  by_cases c:(ns.length:Int) > 0
  .rw [N7 c] at t
   have b0:=a1E k (show (ns.length:Int)≠0 by omega)
   have b1:=a1d k c
   have e:pIx (.sc ns) (.i (k % (ns.length:Int)))=.ok (.i (ns[(k % (ns.length:Int)).toNat]'(by omega))):=by
    show v7 ((atI ns _).map PV.i)=_
    rw [px b0,N8 (by omega)];rfl
   exact ⟨_,a1E _ (by decide),a1d _ (by decide),(t _ _).trans (yn (rq (zo rfl (zo rfl l (dG c)) e) (by decide)))⟩
  .rw [N6 c] at t
   exact ⟨5,by decide,by decide,t _ _⟩
 have kk:0<=k * k/\k * k<=1000000:=⟨Int.mul_nonneg h0 h0,Int.le_trans (Int.mul_le_mul h1 h1 h0 (by decide)) (by decide)⟩
 exact ⟨_,a1E _ (by omega),a1d _ hm,yc (zf ⟨_,rfl,zf ⟨_,q,ZP (zo (IZ (rq (zo (zo (zo rfl (zo rfl rfl (v8 (by decide) (by decide))) rfl) rfl rfl) (zo rfl (zo rfl rfl (v8 (by omega) (by omega))) rfl) (v8 (by omega) (by omega))) (by decide)) (by decide) (by decide)) rfl (dG hm))⟩⟩)⟩
abbrev gD:Str := "abcdefghijklmnopqrstuvwyz0123456789"
def s2 (r:Int):Str:=⟨#[(gD.cps.toList[r.toNat]?).getD 0]⟩
def eQ:gD.length=35:=by decide +kernel
def Gq:∀ a:Fin 35,∀ b:Fin 35,s2 (a.val:Int)=s2 (b.val:Int)->a=b:=by decide +kernel
def Lg:∀ a:Fin 35,(gD.cps.toList[a.val]?).getD 0∈signs.cps.toList:=by decide +kernel
def Lh (h0:0<=r) (h1:r < 35):pIx (.s gD) (.i r)=.ok (.s (s2 r)):=by
 unfold pIx
 have hs:gD.length<=sizeLine:=by rw [eQ];decide
 simp only [hs,if_true]
 have hl:r.toNat < gD.cps.toList.length:=by have:=eQ;unfold Str.length at this;simp;omega
 rw [px h0]
 unfold s2
 rw [N8 hl];rfl
def Hn:∀ a:Fin 13,(Txt.mul "x" (a.val:Int)).length=a.val/\∀ c∈(Txt.mul "x" (a.val:Int)).cps.toList,c∈signs.cps.toList:=by decide +kernel
def nmX (a b:Nat) (n:Nat):Str:=Txt.mul "x" (a:Int)++s2 (n:Int)++Txt.mul "x" ((b:Int) + (n:Int) % 2)
def str_len {a b:Str}:(a++b).length=a.length + b.length:=Array.size_append
def Bn (h:a + b<=10) (hn:n < 35):Nm (nmX a b n):=by
 obtain ⟨l1,g1⟩:=Hn ⟨a,by omega⟩
 have e:(b:Int) + (n:Int) % 2=((b + n % 2:Nat):Int):=by omega
 obtain ⟨l2,g2⟩:=Hn ⟨b + n % 2,by omega⟩
 unfold nmX
 rw [e]
 refine ⟨?_,((show Sgs _ from g1).app fun c hc=>?_).app g2⟩
 .rw [str_len,str_len]
  have:(s2 (n:Int)).length=1:=rfl
  dsimp only at l1 l2
  omega
 .have:c∈[(gD.cps.toList[((n:Int)).toNat]?).getD 0]:=hc
  rw [M8.mp this]
  exact Lg ⟨n,hn⟩
def Dx (hm:m < 35) (hn:n < 35) (h:nmX a b m=nmX a b n):m=n:=by
 unfold nmX at h
 have h1:=(str_inj (a:=Txt.mul "x" (a:Int)++s2 (m:Int)) (a':=Txt.mul "x" (a:Int)++s2 (n:Int)) (by rw [str_len,str_len];rfl) h).1
 have h2:=(str_inj rfl h1).2
 exact S0 Fin.val (Gq ⟨m,hm⟩ ⟨n,hn⟩ h2)
def Bo (hn:n<=35):((List.range n).map (nmX a b)).Nodup:=nodup_range fun j k hj hk e=>Dx (by omega) (by omega) e
def lE (h0:0<=k) (h1:k<=900):∃ a b:Nat,a + b<=10/\∀ n:Nat,n < 35->qL [.sc ns,.i k,.i (n:Int)]=.ok (.s (nmX a b n)):=by
 obtain ⟨a,a0,a1,ea⟩:=yL (ns:=ns) (k:=k) (m:=11) h0 (by omega) (by decide)
 obtain ⟨b,b0,b1,eb⟩:=yL (ns:=ns) (k:=k + 1) (m:=11 - a) (by omega) (by omega) (by omega)
 obtain ⟨a,rfl⟩:=a0J a0
 obtain ⟨b,rfl⟩:=a0J b0
 refine ⟨a,b,by omega,fun n hn=>?_⟩
 have ml:∀ {i:Int},0<=i->i<=100->jd (.s "x") (.i i)=.ok (.s (Txt.mul "x" i)):=fun h h'=>if_pos ⟨by decide,by omega,by omega⟩
 obtain ⟨l1,_⟩:=Hn ⟨a,by omega⟩
 have e:(b:Int) + (n:Int) % 2=((b + n % 2:Nat):Int):=by omega
 obtain ⟨l2,_⟩:=Hn ⟨b + n % 2,by omega⟩
 rw [<- e] at l2
 dsimp only at l1 l2
 have l3:(s2 (n:Int)).length=1:=rfl
 exact yc (zf ⟨_,yn (zw (xs:=[.sc ns,.i k,.i 11]) rfl ea),zf ⟨_,yn (zo (zw (xs:=[.sc ns,.i (k + 1),.i (11 - (a:Int))]) rfl eb) (rq rfl (by decide)) rfl),ZP (zo (zo (zo rfl rfl (ml (by omega) (by omega))) (zo rfl rfl (Lh (by omega) (by omega))) (L_ (n:=100) (by omega) (by decide))) (zo rfl rfl (ml (by omega) (by omega))) (L_ (n:=100) (by rw [str_len];omega) (by decide)))⟩⟩)
abbrev wSt (ns:Nz) (N:MX) (c:Int) (d:Bool) (W:List Wy) (x y:NH):Sto:=[some (.sc ns),some (.l (N.map .s)),some (.i c),some (.b d),some (.i (N.length:Int)),some (.l (W.map wP)),x,y]
def se (h:m (wSt ns N c d W x y)=.ok (.t [.s o,.s g,.i n])) (hl:W.length < 1000):uL 5 m (wSt ns N c d W x y)=.ok (.nx (wSt ns N c d (W++[(o,g,n)]) x y)):=by
 refine (rV rfl h (by rw [u8];omega)).trans ?_
 show Out.ok (Fw.nx [some (.sc ns),some (.l (N.map .s)),some (.i c),some (.b d),some (.i (N.length:Int)),some (.l (W.map wP++[wP (o,g,n)])),x,y])=_
 rw [show W.map wP++[wP (o,g,n)]=(W++[(o,g,n)]).map wP by rw [O6];rfl]
def xJ (h0:0 < N.length) (h1:N.length<=5) (c0:1<=c) (c1:c<=100000):∃ W:List Wy,W.length<=13/\WS N W/\vf [.sc ns,.l (N.map .s),.i c,.b d]=.ok (.l (W.map wP)):=by
 have mc:jd (.i 30) (.i c)=.ok (.i (30 * c)):=v8 (by decide) (by decide)
 obtain ⟨ρ1,⟨W1,x1,y1,l1,g1,hρ⟩,e1⟩:=JW (g:=VD) (b:=VE) (fun k ρ=>∃ W x y,W.length<=k/\WS N W/\ρ=wSt ns N c d W x y) N.length (wSt ns N c d [] none none) ⟨[],none,none,N1 _,fun w hw=>(nomatch hw),rfl⟩ (fun k hk ρ ⟨W,x,y,lW,gW,hρ⟩=>by
  subst hρ
  cases d with
  | false=>exact ⟨_,rfl,_,⟨W,some (.i (k:Int)),y,by omega,gW,rfl⟩,.inl rfl⟩
  | true=>
   obtain ⟨o,ho,eo⟩:=QH (xs:=N) (i:=(k:Int)) (by omega) (by omega)
   obtain ⟨g,hg,eg⟩:=rK (N:=N) (s:=(k:Int) + 1) h0
   obtain ⟨s,s0,s1,es⟩:=yL (ns:=ns) (k:=10 + (k:Int)) (m:=30 * c) (by omega) (by omega) (by omega)
   exact ⟨_,rfl,_,⟨W++[(o,g,1 + s)],some (.i (k:Int)),y,by rw [M6];exact a0F lW,gW.app ho hg (by omega) (by omega),rfl⟩,.inl ((yJ (x:=true) rfl).trans (se (Y0 (zl (zo rfl rfl eo) (zl (zo rfl (zo (zo rfl rfl rfl) rfl (dG (by omega))) eg) (zl (zo rfl (zw (xs:=[.sc ns,.i (10 + (k:Int)),.i (30 * c)]) (zl rfl (zl rfl (zl (zo rfl rfl mc) rfl))) es) rfl) rfl))) (N2 rfl)) (by omega)))⟩)
 subst hρ
 obtain ⟨m,m0,m1,em⟩:=yL (ns:=ns) (k:=4) (m:=9) (by decide) (by decide) (by decide)
 have nn:0 < (N.length:Int) * (N.length:Int):=Int.mul_pos (by omega) (by omega)
 obtain ⟨ρ2,⟨W,x,y,lW,gW,hρ⟩,e2⟩:=JW (g:=VF) (b:=VG) (fun k ρ=>∃ W x y,W.length<=W1.length + k/\WS N W/\ρ=wSt ns N c d W x y) m.toNat (wSt ns N c d W1 x1 y1) ⟨W1,x1,y1,N1 _,g1,rfl⟩ (fun k hk ρ ⟨W,x,y,lW,gW,hρ⟩=>by
  subst hρ
  obtain ⟨p,p0,p1,ep⟩:=yL (ns:=ns) (k:=20 + (k:Int)) (m:=(N.length:Int) * (N.length:Int)) (by omega) (by omega) nn
  obtain ⟨o,ho,eo⟩:=rK (N:=N) (s:=p) h0
  obtain ⟨g,hg,eg⟩:=QH (xs:=N) (i:=p / (N.length:Int)) (Int.ediv_nonneg p0 (by omega)) (Int.ediv_lt_of_lt_mul (by omega) p1)
  obtain ⟨s,s0,s1,es⟩:=yL (ns:=ns) (k:=30 + (k:Int)) (m:=30 * c) (by omega) (by omega) (by omega)
  exact ⟨_,rfl,_,⟨W++[(o,g,1 + s)],some (.i (k:Int)),some (.i p),by rw [M6];show W.length + 1<=_;omega,gW.app ho hg (by omega) (by omega),rfl⟩,.inl (zf ⟨wSt ns N c d W (some (.i (k:Int))) (some (.i p)),yn (zw (xs:=[.sc ns,.i (20 + (k:Int)),.i ((N.length:Int) * (N.length:Int))]) (zl rfl (zl rfl (zl (zo rfl rfl (v8 (by omega) (by omega))) rfl))) ep),se (Y0 (zl (zo rfl (zo rfl rfl (dG (by omega))) eo) (zl (zo rfl (zo rfl rfl (AD (by omega) (by omega))) eg) (zl (zo rfl (zw (xs:=[.sc ns,.i (30 + (k:Int)),.i (30 * c)]) (zl rfl (zl rfl (zl (zo rfl rfl mc) rfl))) es) rfl) rfl))) (N2 rfl)) (by omega)⟩)⟩)
 subst hρ
 exact ⟨W,by omega,gW,yc (zf ⟨_,yn (zw (xs:=[.l (N.map .s)]) rfl vO),zf ⟨_,rfl,zf ⟨_,jj (pH (n:=N.length) rfl (by omega)) e1,zf ⟨_,jj (bw (zl (zw (xs:=[.sc ns,.i 4,.i 9]) rfl em) rfl) m0 (by omega)) e2,rfl⟩⟩⟩⟩)⟩
def Lnk (F:Str->Ht) (t u:Tp):Prop:=∃ y,zS (F t.2.2.1) (sk u.2.1)=some y/\t.2.2.2.2.1 + y<=u.2.2.2.1
def tri {N:MX}{W:List Wy}{F:Str->Ht}{a b c:Str}{u v:Int}(hW:WS N W) (gF:∀ z,Wn z W (F z)) (hb:b∈N) (h1:zS (F a) (sk b)=some u) (h2:zS (F b) (sk c)=some v):∃ y,y<=u + v/\zS (F a) (sk c)=some y:=eK hW (gF a) (Ua hW (gF b) hb _ (N1 _) h2) u h1
def lF {α:Type}:∀ {ρ:List α}{j:Nat}{x:α},ρ[j]? = some x->ρ.set j x=ρ
 | [],_,_,h=>by cases h
 | a :: ρ,0,x,h=>by cases h;rfl
 | a :: ρ,j + 1,x,h=>S0 (a :: ·) (lF (ρ:=ρ) h)
def Bp (hL:LOk P L F) (hO:∀ o∈P,zS (F o) (sk o)=some 0) (ha:a∈P) (hb:b∈P) (h2:zc 2 ρ=.ok (.dt L)) (hi:zc i ρ=.ok (.s a)) (hj:ρ[j]? = some (some (.s b))):∃ o d,o∈P/\zS (F a) (sk o)=some d/\sIf (yK (gi true (zb (zc i) (zb (zc j) zr)) (zc 2))) (qW j (zc i)) yA ρ=.ok (.nx (ρ.set j (some (.s o)))):=by
 have hj':zc j ρ=.ok (.s b):=by unfold zc;rw [hj]
 have t:=yJ (a:=qW j (zc i)) (b:=yA) (aN (n:=true) (ms:=zb (zc i) (zb (zc j) zr)) (m:=zc 2) (zl hi (zl hj' rfl)) h2)
 cases e:zS L [sk a,sk b] with
 | none=>rw [e] at t;exact ⟨a,0,ha,hO a ha,t.trans (yn hi)⟩
 | some y=>rw [e] at t;exact ⟨b,y,hb,(hL a ha b hb).symm.trans e,t.trans (by rw [lF hj];rfl)⟩
def gE (h0:zc 0 ρ=.ok (.sc ns)) (h8:zc 8 ρ=.ok (.i k)) (hm:m ρ=.ok (.i n)) (q0:0<=q) (q1:q<=50) (k0:0<=k) (k1:k<=100) (hn:0 < n):∃ x:Int,0<=x/\x < n/\zm zt (zb (zc 0) (zb (mOp yj (mC (.i q)) (mOp jd (mC (.i 5)) (zc 8))) (zb m zr))) ρ=.ok (.i x):=by
 obtain ⟨x,x0,x1,e⟩:=yL (ns:=ns) (k:=q + 5 * k) (m:=n) (by omega) (by omega) hn
 exact ⟨x,x0,x1,zw (zl h0 (zl (zo rfl (zo rfl h8 (v8 (by decide) (by decide))) rfl) (zl hm rfl))) e⟩
abbrev tS (ns:Nz) (P:MX) (L:Lst) (c m:Int) (T:List Tp) (o:Str) (tm:Int) (r:Sto):Sto:=[some (.sc ns),some (.l (P.map .s)),some (.dt L),some (.i c),some (.i m),some (.l (T.map tP)),some (.s o),some (.i tm)]++r
structure Ma (P:MX) (F:Str->Ht) (nm:Nat->Str) (T:List Tp):Prop where
 nms:T.map (·.1)=(List.range T.length).map nm
 ok:∀ t∈T,TOk P F t
 lnk:T.Pairwise (Lnk F)
structure Li (P:MX) (F:Str->Ht) (nm:Nat->Str) (T:List Tp) (o:Str) (tm:Int):Prop extends Ma P F nm T where
 here:o∈P
 t0:0<=tm
 t1:tm<=159000000 + 30000000 * (T.length:Int)
 beh:∀ t∈T,∃ y,zS (F t.2.2.1) (sk o)=some y/\t.2.2.2.2.1 + y<=tm
def Lj (hW:WS P W) (gF:∀ z,Wn z W (F z)) (hL:LOk P L F) (h5:0 < P.length) (hF:∀ o∈P,∀ z y,zS (F o) (sk z)=some y->0<=y/\y<=12000000) (c0:1<=c) (c1:c<=100000) (hn:∀ n:Nat,n < 35->qL [.sc ns,.i 7,.i (n:Int)]=.ok (.s (nm n))) (hT:Li P F nm T o tm) (hl:T.length < 12):
  ∃ t g tm' r',Li P F nm (T++[t]) g tm'/\r'.length=5/\ZO (tS ns P L c m T o tm [some (.i (T.length:Int)),r9,r10,r11,r12,r13])=.ok (.nx (tS ns P L c m (T++[t]) g tm' (some (.i (T.length:Int)) :: r'))):=by
 have hO:∀ o∈P,zS (F o) (sk o)=some 0:=fun o _=>(gF o).1.own
 have hlen:∀ ρ:Sto,zc 1 ρ=.ok (.l (P.map .s))->zm Ze (zb (zc 1) zr) ρ=.ok (.i (P.length:Int)):=fun ρ h=>zw (zl h rfl) vO
 have mc:∀ ρ:Sto,zc 3 ρ=.ok (.i c)->mOp jd (mC (.i 30)) (zc 3) ρ=.ok (.i (30 * c)):=fun ρ h=>zo rfl h (v8 (by decide) (by decide))
 obtain ⟨x1,x10,x11,ex1⟩:=gE (ns:=ns) (q:=40) (ρ:=tS ns P L c m T o tm [some (.i (T.length:Int)),r9,r10,r11,r12,r13]) rfl rfl (hlen _ rfl) (by decide) (by decide) (by omega) (by omega) (by omega)
 obtain ⟨a0,ha0,ea0⟩:=QH (xs:=P) x10 x11
 obtain ⟨a,d,ha,ed,q2⟩:=Bp (i:=6) (j:=9) (ρ:=tS ns P L c m T o tm [some (.i (T.length:Int)),some (.s a0),r10,r11,r12,r13]) hL hO hT.here ha0 rfl rfl rfl
 obtain ⟨x2,x20,x21,ex2⟩:=gE (ns:=ns) (q:=41) (ρ:=tS ns P L c m T o tm [some (.i (T.length:Int)),some (.s a),r10,r11,r12,r13]) rfl rfl (hlen _ rfl) (by decide) (by decide) (by omega) (by omega) (by omega)
 obtain ⟨g0,hg0,eg0⟩:=QH (xs:=P) x20 x21
 obtain ⟨g,e,hg,ee,q4⟩:=Bp (i:=9) (j:=10) (ρ:=tS ns P L c m T o tm [some (.i (T.length:Int)),some (.s a),some (.s g0),r11,r12,r13]) hL hO ha hg0 rfl rfl rfl
 obtain ⟨x3,x30,x31,ex3⟩:=gE (ns:=ns) (q:=42) (m:=mC (.i 2)) (ρ:=tS ns P L c m T o tm [some (.i (T.length:Int)),some (.s a),some (.s g),r11,r12,r13]) rfl rfl rfl (by decide) (by decide) (by omega) (by omega) (by decide)
 obtain ⟨x4,x40,x41,ex4⟩:=gE (ns:=ns) (q:=43) (ρ:=tS ns P L c m T o tm [some (.i (T.length:Int)),some (.s a),some (.s g),r11,r12,r13]) rfl rfl (mc _ rfl) (by decide) (by decide) (by omega) (by omega) (by omega)
 obtain ⟨sp,sp0,sp1,esp⟩:∃ s:Int,0<=s/\s < 3000000/\x3 * x4=s:=by
  rcases (show x3=0\/x3=1 by omega) with rfl | rfl
  .exact ⟨0,by decide,by decide,Int.zero_mul _⟩
  .exact ⟨x4,x40,by omega,a24 _⟩
 obtain ⟨x5,x50,x51,ex5⟩:=gE (ns:=ns) (q:=44) (m:=mC (.i 3)) (ρ:=tS ns P L c m T o tm [some (.i (T.length:Int)),some (.s a),some (.s g),some (.i sp),r12,r13]) rfl rfl rfl (by decide) (by decide) (by omega) (by omega) (by decide)
 obtain ⟨x6,x60,x61,ex6⟩:=gE (ns:=ns) (q:=45) (ρ:=tS ns P L c m T o tm [some (.i (T.length:Int)),some (.s a),some (.s g),some (.i sp),r12,r13]) rfl rfl (mc _ rfl) (by decide) (by decide) (by omega) (by omega) (by omega)
 obtain ⟨mo,mo0,mo1,emo⟩:∃ s:Int,0<=s/\s < 3000000/\x5 % 2 * x6=s:=by
  rcases (show x5 % 2=0\/x5 % 2=1 by omega) with h | h <;> rw [h]
  .exact ⟨0,by decide,by decide,Int.zero_mul _⟩
  .exact ⟨x6,x60,by omega,a24 _⟩
 have bd:=hF o hT.here a d ed
 have be:=hF a ha g e ee
 have b1:=hT.t1
 have b0:=hT.t0
 obtain ⟨st,hst⟩:∃ s:Int,tm + d + sp=s:=⟨_,rfl⟩
 obtain ⟨fi,hfi,f0,f1⟩:∃ f:Int,max (st + 1) (st + e + mo)=f/\st + 1<=f/\st + e<=f:=⟨_,rfl,by omega,by omega⟩
 have f2:fi<=st + 15000000:=by omega
 obtain ⟨x7,x70,x71,ex7⟩:=gE (ns:=ns) (q:=46) (m:=mC (.i 7)) (ρ:=tS ns P L c m T o fi [some (.i (T.length:Int)),some (.s a),some (.s g),some (.i sp),some (.i mo),some (.i st)]) rfl rfl rfl (by decide) (by decide) (by omega) (by omega) (by decide)
 have oS:∀ {p q:Str}{v:Int}{ρ:Sto}{i j:Nat},p∈P->q∈P->zS (F p) (sk q)=some v->zc 2 ρ=.ok (.dt L)->zc i ρ=.ok (.s p)->zc j ρ=.ok (.s q)->ny (zc 2) (zb (zc i) (zb (zc j) zr)) ρ=.ok (.i v):=fun hp hq e h2 hi hj=>eJ h2 (zl hi (zl hj rfl)) ((hL _ hp _ hq).trans e)
 have bt:∀ t∈T,Lnk F t (nm T.length,a,g,st,fi,x7)/\∃ y,zS (F t.2.2.1) (sk g)=some y/\t.2.2.2.2.1 + y<=fi:=fun t ht=>by
  obtain ⟨y,ey,ly⟩:=hT.beh t ht
  obtain ⟨y1,l1,e1⟩:=tri hW gF hT.here ey ed
  obtain ⟨y2,l2,e2⟩:=tri hW gF ha e1 ee
  exact ⟨⟨y1,e1,by show _<=st;omega⟩,y2,e2,by omega⟩
 refine ⟨(nm T.length,a,g,st,fi,x7),g,fi,[some (.s a),some (.s g),some (.i sp),some (.i mo),some (.i st)],{ nms:=?_,ok:=?_,lnk:=?_,here:=hg,t0:=by omega,t1:=?_,beh:=?_ },rfl, ?_⟩
 .rw [O6,hT.nms,M6,P1,a2r,O6];rfl
 .intro t ht
  rcases S5.mp ht with h | h
  .exact hT.ok t h
  .rw [M8.mp h]
   exact ⟨ha,hg,⟨e,ee,by show e<=fi - st;omega⟩,by show 0<=st;omega,by show st < fi;omega,by show fi<=_;omega,⟨x70,by show x7<=_;omega⟩⟩
 .rw [List.pairwise_append]
  exact ⟨hT.lnk,a1i _ _,fun t ht u hu=>by rw [M8.mp hu];exact (bt t ht).1⟩
 .rw [M6,P1];omega
 .intro t ht
  rcases S5.mp ht with h | h
  .exact (bt t h).2
  .rw [M8.mp h]
   exact ⟨0,hO g hg,by show fi + 0<=fi;omega⟩
 .refine zf ⟨_,yn (zo rfl ex1 ea0),zf ⟨_,q2,zf ⟨_,yn (zo rfl ex2 eg0),zf ⟨_,q4,zf ⟨_,yn (zo ex3 ex4 ((v8 (by omega) (by omega)).trans (by rw [esp]))),zf ⟨_,yn (zo (rq ex5 (by decide)) ex6 ((v8 (by omega) (by omega)).trans (by rw [emo]))),zf ⟨tS ns P L c m T o tm [some (.i (T.length:Int)),some (.s a),some (.s g),some (.i sp),some (.i mo),some (.i st)], ?_,zf ⟨tS ns P L c m T o fi [some (.i (T.length:Int)),some (.s a),some (.s g),some (.i sp),some (.i mo),some (.i st)], ?_,zf ⟨tS ns P L c m (T++[(nm T.length,a,g,st,fi,x7)]) o fi [some (.i (T.length:Int)),some (.s a),some (.s g),some (.i sp),some (.i mo),some (.i st)], ?_,rfl⟩⟩⟩⟩⟩⟩⟩⟩⟩
  .rw [<- hst]
   exact yn (zo (zo rfl (oS hT.here ha ed rfl rfl rfl) rfl) rfl rfl)
  .rw [<- hfi]
   exact yn (zw (zl (zo rfl rfl rfl) (zl (zo (zo rfl (oS ha hg ee rfl rfl rfl) rfl) rfl rfl) rfl)) rfl)
  .refine (rV (xs:=T.map tP) (y:=tP (nm T.length,a,g,st,fi,x7)) rfl (Y0 (zl (zw (xs:=[.sc ns,.i 7,.i (T.length:Int)]) rfl (hn _ (by omega))) (zl rfl (zl rfl (zl rfl (zl rfl (zl ex7 rfl)))))) (N2 rfl)) (by rw [u8];omega)).trans ?_
   rw [show T.map tP++[tP (nm T.length,a,g,st,fi,x7)]=(T++[(nm T.length,a,g,st,fi,x7)]).map tP by rw [O6];rfl]
   rfl
section
variable {ns:Nz}{P N:MX}{W:List Wy}{F:Str->Ht}{L:Lst}{c:Int}{T R:List Tp}{t u:Tp}{o p home:Str}{nm:Nat->Str}{ro:PV}
def sf (hW:WS P W) (gF:∀ z,Wn z W (F z)) (hL:LOk P L F) (h5:0 < P.length) (hF:∀ o∈P,∀ z y,zS (F o) (sk z)=some y->0<=y/\y<=12000000) (c0:1<=c) (c1:c<=100000) (hn:∀ n:Nat,n < 35->qL [.sc ns,.i 7,.i (n:Int)]=.ok (.s (nm n))) (hm:m<=12):∃ T,Ma P F nm T/\T.length=m/\(∀ t∈T,t.2.2.2.2.1<=519000000)/\j3 [.sc ns,.l (P.map .s),.dt L,.i c,.i (m:Int)]=.ok (.l (T.map tP)):=by
 obtain ⟨x,x0,x1,ex⟩:=yL (ns:=ns) (k:=5) (m:=(P.length:Int)) (by decide) (by decide) (by omega)
 obtain ⟨o,ho,eo⟩:=QH (xs:=P) x0 x1
 obtain ⟨y,y0,y1,ey⟩:=yL (ns:=ns) (k:=6) (m:=1440 * c) (by decide) (by decide) (by omega)
 obtain ⟨ρ',⟨T,o',tm,r8,r9,r10,r11,r12,r13,lT,hT,hρ⟩,e⟩:=JW (g:=Kk) (b:=ZO) (fun k ρ=>∃ (T:List Tp) (o:Str) (tm:Int) (r8 r9 r10 r11 r12 r13:NH),T.length=k/\Li P F nm T o tm/\ρ=tS ns P L c m T o tm [r8,r9,r10,r11,r12,r13]) m (tS ns P L c m [] o (150 * c + y) [none,none,none,none,none,none]) ⟨[],o,150 * c + y,none,none,none,none,none,none,rfl,{ nms:=rfl,ok:=fun t h=>(nomatch h),lnk:=List.Pairwise.nil,here:=ho,t0:=by omega,t1:=by show _<=159000000 + 30000000 * (0:Int);omega,beh:=fun t h=>(nomatch h) },rfl⟩ (fun k hk ρ ⟨T,o,tm,r8,r9,r10,r11,r12,r13,lT,hT,hρ⟩=>by
  subst hρ lT
  obtain ⟨t,g,tm',r',hT',lr,e⟩:=Lj (c:=c) (m:=(m:Int)) (r9:=r9) (r10:=r10) (r11:=r11) (r12:=r12) (r13:=r13) hW gF hL h5 hF c0 c1 hn hT (by omega)
  obtain ⟨a1,a2,a3,a4,a5,rfl⟩:∃ a1 a2 a3 a4 a5,r' = [a1,a2,a3,a4,a5]:=by
   match r',lr with
   | [a1,a2,a3,a4,a5],_=>exact ⟨a1,a2,a3,a4,a5,rfl⟩
  exact ⟨_,rfl,_,⟨T++[t],g,tm',_,a1,a2,a3,a4,a5,by rw [M6];rfl,hT',rfl⟩,.inl e⟩)
 subst hρ
 have hb:∀ t∈T,t.2.2.2.2.1<=519000000:=fun t ht=>by
  obtain ⟨y,ey,l⟩:=hT.beh t ht
  have:=(hF _ (hT.ok t ht).goal _ y ey).1
  have:=hT.t1
  omega
 exact ⟨T,⟨hT.nms,hT.ok,hT.lnk⟩,lT,hb,yc (zf ⟨_,rfl,zf ⟨_,yn (zo rfl (zw (xs:=[.sc ns,.i 5,.i (P.length:Int)]) (zl rfl (zl rfl (zl (zw (zl rfl rfl) vO) rfl))) ex) eo),zf ⟨_,yn (zo (zo rfl rfl (v8 (by decide) (by decide))) (zw (xs:=[.sc ns,.i 6,.i (1440 * c)]) (zl rfl (zl rfl (zl (zo rfl rfl (v8 (by decide) (by decide))) rfl))) ey) rfl),zf ⟨_,jj (pH (n:=m) rfl (by omega)) e,rfl⟩⟩⟩⟩)⟩
def Lk (F:Str->Ht) (t u:Tp):PV:=Bl ((zS (F t.2.2.1) (sk u.2.1)).map fun y=>u.2.2.2.1 - t.2.2.2.2.1 - y)
def lH (ha:a ρ=.ok (roP N W F)) (ho:o∈N) (hp:p∈N) (hm:ms ρ=.ok [.s o,.s p]):vi [(11,zy)] "length" a ms ρ=.ok (Bl (zS (F o) (sk p))):=cI ha hm (by decide +kernel) (by decide +kernel) (by decide +kernel) (aM ho hp)
def mV (nd:(T.map (·.1)).Nodup) (ht:t∈T) (ha:a ρ=.ok (VQ ro T)) (hm:ms ρ=.ok [.s t.1]):vi [(10,zB)] "trip" a ms ρ=.ok (tP t):=(xI ha hm).trans (r_ nd ht)
def Gr (nd:(T.map (·.1)).Nodup) (hT:∀ t∈T,TOk N F t) (ht:t∈T) (hu:u∈T):mN [VQ (roP N W F) T,.s t.1,.s u.1]=.ok (Lk F t u):=by
 have e5:qW 5 (vi [(11,zy)] "length" (JR [10] "roads" (zc 0)) (zb (mOp pIx (zc 3) (mC (.i 2))) (zb (mOp pIx (zc 4) (mC (.i 1))) zr))) [some (VQ (roP N W F) T),some (.s t.1),some (.s u.1),some (tP t),some (tP u),none]=.ok (.nx [some (VQ (roP N W F) T),some (.s t.1),some (.s u.1),some (tP t),some (tP u),some (Bl (zS (F t.2.2.1) (sk u.2.1)))]):=
  yn (lH (QE rfl) (hT t ht).goal (hT u hu).org rfl)
 have go:=fun {o:Out Fw}(h:yk (sIf (yK (mOp (uD false) (zc 5) (mC .n))) (vk (mC .n)) yA) (vk (mOp ig (mOp ig (mOp pIx (zc 4) (mC (.i 3))) (mOp pIx (zc 3) (mC (.i 4)))) (zc 5))) [some (VQ (roP N W F) T),some (.s t.1),some (.s u.1),some (tP t),some (tP u),some (Bl (zS (F t.2.2.1) (sk u.2.1)))]=o)=>(zf ⟨_,yn (mV nd ht rfl rfl),zf ⟨_,yn (mV nd hu rfl rfl),zf ⟨_,e5,h⟩⟩⟩:Dc [some (VQ (roP N W F) T),some (.s t.1),some (.s u.1),none,none,none]=o)
 unfold Lk
 cases e:zS (F t.2.2.1) (sk u.2.1) with
 | none=>rw [e] at go;exact yc (go (YA ((yJ (x:=true) rfl).trans rfl)))
 | some y=>rw [e] at go;exact yc (go (zf ⟨_,(yJ (x:=false) rfl).trans rfl,ZP (zo (zo (x:=.i u.2.2.2.1) (y:=.i t.2.2.2.2.1) rfl rfl rfl) (y:=.i y) rfl rfl)⟩))
def sg (nd:(T.map (·.1)).Nodup) (hT:∀ t∈T,TOk N F t) (ht:t∈T) (hu:u∈T) (h:Lnk F t u):QC [VQ (roP N W F) T,.s t.1,.s u.1]=.ok (.b true):=by
 obtain ⟨y,ey,ly⟩:=h
 have g:=Gr (W:=W) nd hT ht hu
 unfold Lk at g
 rw [ey] at g
 exact yc (zf ⟨_,yn (zw (xs:=[VQ (roP N W F) T,.s t.1,.s u.1]) rfl g),ZP (Dd (x:=true) (y:=true) rfl (zo (y:=.i 0) rfl rfl (by show Out.ok (PV.b (decide (u.2.2.2.1 - t.2.2.2.2.1 - y ≥ 0)))=_;rw [N7 (by omega)])))⟩)
abbrev nmL (R:List Tp):PV:=.l (R.map fun t=>.s t.1)
def si (nd:(T.map (·.1)).Nodup) (hR:∀ t∈R,t∈T):qM [VQ ro T,nmL R]=.ok .n:=by
 obtain ⟨ρ',⟨x,rfl⟩,e⟩:=YB (g:=YU) (b:=YV) (fun t:Tp=>PV.s t.1) (fun _ ρ=>∃ x,ρ=[some (VQ ro T),some (nmL R),x]) R [some (VQ ro T),some (nmL R),none] ⟨none,rfl⟩ (fun k hk ρ ⟨x,hρ⟩=>by
  subst hρ
  exact ⟨_,rfl,_,⟨some (.s R[k].1),rfl⟩,.inl (yg (mV (t:=R[k]) nd (hR _ (a0g _)) rfl rfl))⟩)
 exact Wo rfl (jj (yh rfl) e)
def Mb:∀ {R:List Tp},R.Pairwise (Lnk F)->∀ q∈R.zip R.tail,q.1∈R/\q.2∈R/\Lnk F q.1 q.2
 | [],_,q,h=>by cases h
 | [t],_,q,h=>by cases h
 | t :: u :: R,hp,q,h=>by
  rw [a1e] at hp
  rcases O5.mp (show q∈(t,u) :: (u :: R).zip (u :: R).tail from h) with rfl | h
  .exact ⟨v4,M9 _ v4,hp.1 u v4⟩
  .obtain ⟨a,b,k⟩:=Mb hp.2 q h
   exact ⟨M9 _ a,M9 _ b,k⟩
def mW (nd:(T.map (·.1)).Nodup) (hT:∀ t∈T,TOk N F t) (hR:∀ t∈R,t∈T) (hp:R.Pairwise (Lnk F)):ql [VQ (roP N W F) T,nmL R]=.ok .n:=by
 obtain ⟨ρ',⟨x,y,rfl⟩,e⟩:=YB (g:=Z4) (b:=Z5) (fun q:Tp × Tp=>PV.t [.s q.1.1,.s q.2.1]) (fun _ ρ=>∃ x y,ρ=[some (VQ (roP N W F) T),some (nmL R),x,y]) (R.zip R.tail) [some (VQ (roP N W F) T),some (nmL R),none,none] ⟨none,none,rfl⟩ (fun k hk ρ ⟨x,y,hρ⟩=>by
  subst hρ
  obtain ⟨a,b,l⟩:=Mb hp _ (a0g hk)
  exact ⟨_,rfl,_,⟨some (.s (R.zip R.tail)[k].1.1),some (.s (R.zip R.tail)[k].2.1),rfl⟩,.inl ((yJ (x:=false) (Bg (yF (zw rfl (sg (W:=W) nd hT (hR _ a) (hR _ b) l))))).trans rfl)⟩)
 have ez:Hm (zb (zc 1) (zb (mSl pSl (zc 1) (vW (mC (.i 1))) Iy) zr)) [some (VQ (roP N W F) T),some (nmL R),none,none]=.ok ((R.zip R.tail).map fun q=>PV.t [.s q.1.1,.s q.2.1]):=by
  show Out.ok (FV (R.map fun t=>PV.s t.1) (Ux (R.map fun t=>PV.s t.1) (some 1) none))=_
  have:Ux (R.map fun t=>PV.s t.1) (some 1) none=R.tail.map fun t=>PV.s t.1:=by
   cases R with
   | nil=>rfl
   | cons t R=>rw [xE (by decide) (by rw [u8,v0];omega)];rfl
  rw [this]
  unfold FV List.zip
  rw [List.zipWith_map,List.map_zipWith]
 exact Wo rfl (zf ⟨_,yg (zw rfl (si nd hR)),jj ez e⟩)
def sj:yP [roP N W F]=.ok (.l (N.map .s)):=yc (ZP (zw (zl (rP rfl).1 rfl) rfl))
def so (nd:(T.map (·.1)).Nodup) (hT:∀ t∈T,TOk N F t) (hR:∀ t∈R,t∈T) (hp:R.Pairwise (Lnk F)) (hh:home∈N):qy [VQ (roP N W F) T,.s home,nmL R]=.ok .n:=
 Wo rfl (zf ⟨_,yg (zw (zl rfl (zl (cI (N:=N) (W:=W) (F:=F) (QE rfl) (xs:=[]) rfl (by decide +kernel) (by decide +kernel) (by decide +kernel) sj) rfl)) (kX hh)),yg (zw rfl (mW nd hT hR hp))⟩)
def sr (ho:o∈N) (hp:p∈N):jf [roP N W F,.s o,.s p]=match zS (F o) (sk p) with | none=>.exc 6 [("origin",.s o),("goal",.s p)] | some _=>.ok .n:=by
 have l:=lH (W:=W) (F:=F) (a:=zc 0) (ρ:=[some (roP N W F),some (.s o),some (.s p)]) (ms:=zb (zc 1) (zb (zc 2) zr)) rfl ho hp rfl
 cases e:zS (F o) (sk p) with
 | none=>rw [e] at l;exact ZQ ((yJ (x:=true) (yF (zo l rfl rfl))).trans rfl)
 | some y=>rw [e] at l;exact Wo rfl ((yJ (x:=false) (yF (zo l rfl rfl))).trans rfl)
end
def ix0:pIx (.l (x :: xs)) (.i 0)=.ok x:=by rw [Cy,IA];rfl
def ixL (h:xs.getLast? = some x):pIx (.l xs) (.i (-1))=.ok x:=by rw [Cy,iu,h];rfl
def Gs (h:ρ[i]? = some (some (.i a))) (hm:m ρ=.ok (.i b)):Fj i (pI fun a b=>.i (a + b)) m ρ=.ok (.nx (ρ.set i (some (.i (a + b))))):=by
 unfold Fj;rw [h];dsimp only;rw [hm,okb];rfl
def lI (h:ms ρ=.ok xs) (h2:f xs=.exc c fs):zm f ms ρ=.exc c fs:=by unfold zm;rw [h,okb,h2]
def cL (h:m ρ=.exc c fs):jv m ρ=.exc c fs:=by unfold jv;rw [h];rfl
def fd (F:Str->Ht) (a b:Str):Int:=(zS (F a) (sk b)).getD 0
def rn (F:Str->Ht):Str->List Tp->Int
 | _,[]=>0
 | p,t :: R=>fd F p t.2.1 + t.2.2.2.2.1 - t.2.2.2.1 + rn F t.2.2.1 R
def lst:Str->List Tp->Str
 | p,[]=>p
 | _,t :: R=>lst t.2.2.1 R
def Ch (F:Str->Ht):Str->List Tp->Prop
 | _,[]=>True
 | p,t :: R=>(zS (F p) (sk t.2.1)).isSome=true/\Ch F t.2.2.1 R
section
variable {F:Str->Ht}{t u:Tp}{a b p home:Str}
def cM (h:(zS (F a) (sk b)).isSome=true):zS (F a) (sk b)=some (fd F a b):=by
 unfold fd
 cases e:zS (F a) (sk b) with
 | none=>rw [e] at h;cases h
 | some x=>rfl
def Gu:∀ {R:List Tp}{t:Tp},(t :: R).Pairwise (Lnk F)->Ch F t.2.2.1 R
 | [],_,_=>trivial
 | u :: R,t,h=>by
  rw [a1e] at h
  obtain ⟨y,e,_⟩:=h.1 u v4
  exact ⟨by rw [e];rfl,Gu h.2⟩
def sv:∀ {R:List Tp}{p:Str},lst p (R++[t])=t.2.2.1
 | [],_=>rfl
 | _ :: R,_=>sv (R:=R)
def Bq:∀ {R:List Tp}{p:Str},rn F p (R++[t])=rn F p R + (fd F (lst p R) t.2.1 + t.2.2.2.2.1 - t.2.2.2.1)
 | [],p=>by show _ + rn F _ []=rn F p [] + _;unfold rn lst;omega
 | u :: R,p=>by
  show _ + rn F u.2.2.1 (R++[t])=_ + rn F u.2.2.1 R + _
  rw [Bq (R:=R),Int.add_assoc];rfl
def WT:∀ {R:List Tp}{t:Tp}{p:Str},∃ u∈t :: R,lst p (t :: R)=u.2.2.1/\(t :: R).getLast? = some u
 | [],t,_=>⟨t,v4,rfl,rfl⟩
 | v :: R,t,p=>by
  obtain ⟨u,hu,e1,e2⟩:=WT (R:=R) (t:=v) (p:=t.2.2.1)
  exact ⟨u,M9 _ hu,e1,by rw [List.getLast?_cons_cons];exact e2⟩
end
def blk (F:Str->Ht) (home:Str):List Tp->Out PV
 | []=>.ok (.i 0)
 | t :: R=>match zS (F home) (sk t.2.1) with
  | none=>.exc 6 [("origin",.s home),("goal",.s t.2.1)]
  | some _=>match zS (F (lst home (t :: R))) (sk home) with
   | none=>.exc 6 [("origin",.s (lst home (t :: R))),("goal",.s home)]
   | some b=>.ok (.i (rn F home (t :: R) + b))
section
variable {N:MX}{W:List Wy}{F:Str->Ht}{T R:List Tp}{t u:Tp}{home:Str}
abbrev tb (N:MX) (W:List Wy) (F:Str->Ht) (T:List Tp):PV:=VQ (roP N W F) T
def sx {R0:PV}(nd:(T.map (·.1)).Nodup) (hT:∀ t∈T,TOk N F t):∀ {R:List Tp}{p:Str}{m:Int}{x y:NH},(∀ t∈R,t∈T)->p∈N->Ch F p R->∃ x' y',QG Z6 ja (R.map fun t=>.s t.1) [some (tb N W F T),some (.s home),some R0,some (.s p),some (.i m),x,y]=.ok (.nx [some (tb N W F T),some (.s home),some R0,some (.s (lst p R)),some (.i (m + rn F p R)),x',y'])
 | [],p,m,x,y,_,_,_=>⟨x,y,by show _=Out.ok (Fw.nx [_,_,_,_,some (.i (m + 0)),_,_]);rw [Int.add_zero];rfl⟩
 | t :: R,p,m,x,y,hR,hp,hc=>by
  have ht:=hR t v4
  have l:=lH (W:=W) (F:=F) (a:=JR [10] "roads" (zc 0)) (ms:=zb (zc 3) (zb (mOp pIx (zc 6) (mC (.i 1))) zr)) (ρ:=[some (tb N W F T),some (.s home),some R0,some (.s p),some (.i m),some (.s t.1),some (tP t)]) (QE rfl) hp (hT t ht).org rfl
  rw [cM hc.1] at l
  have eb:ja [some (tb N W F T),some (.s home),some R0,some (.s p),some (.i m),some (.s t.1),y]=.ok (.nx [some (tb N W F T),some (.s home),some R0,some (.s t.2.2.1),some (.i (m + (fd F p t.2.1 + t.2.2.2.2.1 - t.2.2.2.1))),some (.s t.1),some (tP t)]):=
   zf ⟨_,yn (mV nd ht rfl rfl),zf ⟨_,Gs rfl (zo (zo (y:=.i t.2.2.2.2.1) l rfl rfl) (y:=.i t.2.2.2.1) rfl rfl),rfl⟩⟩
  obtain ⟨x',y',e⟩:=sx nd hT (R:=R) (p:=t.2.2.1) (m:=m + (fd F p t.2.1 + t.2.2.2.2.1 - t.2.2.2.1)) (x:=some (.s t.1)) (y:=some (tP t)) (fun u hu=>hR u (M9 _ hu)) (hT t ht).goal hc.2
  refine ⟨x',y', ?_⟩
  show (ja [some (tb N W F T),some (.s home),some R0,some (.s p),some (.i m),some (.s t.1),y]).bind _=_
  rw [eb]
  refine e.trans ?_
  rw [Int.add_assoc];rfl
def lJ (nd:(T.map (·.1)).Nodup) (hT:∀ t∈T,TOk N F t) (hR:∀ t∈R,t∈T) (hp:R.Pairwise (Lnk F)) (hh:home∈N) (hO:zS (F home) (sk home)=some 0):zV [tb N W F T,.s home,nmL R]=blk F home R:=by
 have cr:=so (W:=W) nd hT hR hp hh
 have lenH:=fun {ρ:Sto}{q:Str}(h0:zc 0 ρ=.ok (tb N W F T)) (h3:zc 3 ρ=.ok (.s q)) (h1:zc 1 ρ=.ok (.s home)) (hq:q∈N)=>lH (W:=W) (F:=F) (a:=JR [10] "roads" (zc 0)) (ms:=zb (zc 3) (zb (zc 1) zr)) (QE h0) hq hh (zl h3 (zl h1 rfl))
 have go:Ch F home R->y_ [tb N W F T,.s home,nmL R]=.ok .n->lst home R∈N->∀ b,zS (F (lst home R)) (sk home)=some b->zV [tb N W F T,.s home,nmL R]=.ok (.i (rn F home R + b)):=fun hc cb hl b eb=>by
  obtain ⟨x,y,e⟩:=sx (W:=W) (R0:=nmL R) (home:=home) (m:=0) (x:=none) (y:=none) nd hT hR hh hc
  rw [Int.zero_add] at e
  have l:=lenH (ρ:=[some (tb N W F T),some (.s home),some (nmL R),some (.s (lst home R)),some (.i (rn F home R)),x,y]) rfl rfl rfl hl
  rw [eb] at l
  exact yc (zf ⟨_,yg (zw rfl cb),zf ⟨_,rfl,zf ⟨_,rfl,zf ⟨_,jj (yh rfl) e,ZP (zo rfl l rfl)⟩⟩⟩⟩)
 have gt:=fun P Q=>yJ (a:=P) (b:=Q) (ρ:=[some (tb N W F T),some (.s home),some (nmL R)]) (X8 (n:=0) (zw (f:=Ze) (ms:=zb (zc 2) zr) (xs:=[nmL R]) rfl vO))
 cases R with
 | nil=>exact go trivial (Wo rfl (zf ⟨_,yg (zw rfl cr),(gt _ _).trans rfl⟩)) hh 0 hO
 | cons t R=>
  obtain ⟨u,hu,e1,e2⟩:=WT (R:=R) (t:=t) (p:=home)
  rw [N7 (show (((t :: R).length:Nat):Int) > 0 by rw [v0];omega)] at gt
  have ht:=hR t v4
  have w1:=sr (W:=W) (F:=F) hh (hT t ht).org
  have w2:=sr (W:=W) (F:=F) (hT u (hR u hu)).goal hh
  have a1:zb (JR [10] "roads" (zc 0)) (zb (zc 1) (zb (mOp pIx (vi [(10,zB)] "trip" (zc 0) (zb (mOp pIx (zc 2) (mC (.i 0))) zr)) (mC (.i 1))) zr)) [some (tb N W F T),some (.s home),some (nmL (t :: R))]=.ok [roP N W F,.s home,.s t.2.1]:=zl (QE rfl) (zl rfl (zl (zo (mV (t:=t) nd ht rfl (zl (zo rfl rfl ix0) rfl)) rfl rfl) rfl))
  have a2:zb (JR [10] "roads" (zc 0)) (zb (mOp pIx (vi [(10,zB)] "trip" (zc 0) (zb (mOp pIx (zc 2) (mUn nq (mC (.i 1)))) zr)) (mC (.i 2))) (zb (zc 1) zr)) [some (tb N W F T),some (.s home),some (nmL (t :: R))]=.ok [roP N W F,.s u.2.2.1,.s home]:=zl (QE rfl) (zl (zo (mV (t:=u) nd (hR u hu) rfl (zl (zo (y:=.i (-1)) rfl rfl (ixL (by rw [List.getLast?_map,e2];rfl))) rfl)) rfl rfl) rfl)
  have ex:∀ {c fs},y_ [tb N W F T,.s home,nmL (t :: R)]=.exc c fs->zV [tb N W F T,.s home,nmL (t :: R)]=.exc c fs:=fun h=>ZQ (rY (cL (lI rfl h)))
  rw [blk]
  cases f1:zS (F home) (sk t.2.1) with
  | none=>
   rw [f1] at w1
   exact ex (ZQ (zf ⟨_,yg (zw rfl cr),(gt _ _).trans (rY (cL (lI a1 w1)))⟩))
  | some d=>
   rw [f1] at w1
   rw [<- e1] at w2 a2
   cases f2:zS (F (lst home (t :: R))) (sk home) with
   | none=>
    rw [f2] at w2
    exact ex (ZQ (zf ⟨_,yg (zw rfl cr),(gt _ _).trans (zf ⟨_,yg (zw a1 w1),cL (lI a2 w2)⟩)⟩))
   | some b=>
    rw [f2] at w2
    exact go ⟨by rw [f1];rfl,Gu hp⟩ (Wo rfl (zf ⟨_,yg (zw rfl cr),(gt _ _).trans (zf ⟨_,yg (zw a1 w1),yg (zw a2 w2)⟩)⟩)) (by rw [e1];exact (hT u (hR u hu)).goal) b f2
end
def sA (h:m ρ=.ok (.dt L)) (h1:ms ρ=.ok [.s x,.s y]) (h2:md ρ=.ok (.i n)):p5 m ms md ρ=.ok (.i ((zS L [sk x,sk y]).getD n)):=by
 unfold p5
 rw [h,okb]
 show (ms ρ).bind _=_
 rw [h1,okb]
 show (md ρ).bind (IU L [sk x,sk y])=_
 rw [h2,okb];rfl
def ln (F:Str->Ht) (home:Str) (R:List Tp):Int:=rn F home R + fd F (lst home R) home
section
variable {N:MX}{F:Str->Ht}{R:List Tp}{home:Str}{L:Lst}
def Ll (h:i < R.length):pIx (.l (R.map tP)) (.i (i:Int))=.ok (tP R[i]):=by
 rw [Dg (by omega) (by rw [u8];omega),a1s];rfl
def xK (h:k < R.length):lst p (R.take (k + 1))=R[k].2.2.1:=by
 rw [R8 h,sv]
def tot (F:Str->Ht) (home:Str) (R:List Tp) (a b:Int):Nat->Int
 | 0=>a + b
 | k + 1=>rn F home (R.take (k + 1)) + b
def xM (h:k < R.length) (h0:∀ h:0 < R.length,a=fd F home R[0].2.1):tot F home R a b (k + 1)=tot F home R a b k + R[k].2.2.2.2.1 - R[k].2.2.2.1 + if h:0 < k then fd F R[k - 1].2.2.1 R[k].2.1 else 0:=by
 show rn F home (R.take (k + 1)) + b=_
 rw [R8 h,Bq]
 cases k with
 | zero=>
  rw [dif_neg (T6 _),List.take_zero]
  show 0 + (fd F home R[0].2.1 + _ - _) + b=a + b + _ - _ + 0
  rw [<- h0 h];omega
 | succ k=>
  rw [dif_pos (Nat.succ_pos _),xK (by omega)]
  show _=rn F home (R.take (k + 1)) + b + _ - _ + fd F R[k].2.2.1 _
  omega
def xN (hL:LOk N L F) (hT:∀ t∈R,TOk N F t) (hp:R.Pairwise (Lnk F)) (h0:∀ h:0 < R.length,a=fd F home R[0].2.1):∃ x,QG wO wQ (ir 0 R.length) [some (.dt L),some (.s home),some (.l (R.map tP)),some (.i (a + b)),none]=.ok (.nx [some (.dt L),some (.s home),some (.l (R.map tP)),some (.i (tot F home R a b R.length)),x]):=by
 obtain ⟨ρ',⟨x,rfl⟩,e⟩:=JW (g:=wO) (b:=wQ) (fun k ρ=>∃ x,ρ=[some (.dt L),some (.s home),some (.l (R.map tP)),some (.i (tot F home R a b k)),x]) R.length [some (.dt L),some (.s home),some (.l (R.map tP)),some (.i (a + b)),none] ⟨none,rfl⟩ (fun k hk ρ ⟨x,hρ⟩=>by
  subst hρ
  refine ⟨_,rfl,_,⟨some (.i (k:Int)),rfl⟩,.inl ?_⟩
  rw [xM hk h0]
  have i1:=fun {ρ:Sto}(h2:zc 2 ρ=.ok (.l (R.map tP))) (h4:zc 4 ρ=.ok (.i (k:Int)))=>zo (a:=zc 2) (b:=zc 4) h2 h4 (Ll hk)
  refine zf ⟨[some (.dt L),some (.s home),some (.l (R.map tP)),some (.i (tot F home R a b k + R[k].2.2.2.2.1 - R[k].2.2.2.1)),some (.i (k:Int))],yn (zo (zo rfl (zo (i1 rfl rfl) (z:=.i R[k].2.2.2.2.1) rfl rfl) rfl) (zo (i1 rfl rfl) (z:=.i R[k].2.2.2.1) rfl rfl) rfl),(yJ (X8 (x:=(k:Int)) (n:=0) rfl)).trans ?_⟩
  by_cases c:0 < k
  .rw [N7 (show (k:Int) > 0 by omega),if_pos rfl,dif_pos c]
   obtain ⟨y,ey,_⟩:=a07.mp hp (k - 1) k (by omega) hk (by omega)
   have hl:=(hL _ (hT _ (a0g (show k - 1 < R.length by omega))).goal _ (hT _ (a0g hk)).org).trans (cM (by rw [ey];rfl))
   have i2:pIx (.l (R.map tP)) (.i ((k:Int) - 1))=.ok (tP R[k - 1]):=by rw [show (k:Int) - 1=((k - 1:Nat):Int) by omega];exact Ll (by omega)
   exact yn (zo rfl (eJ rfl (zl (zo (zo rfl (zo (y:=.i 1) rfl rfl rfl) i2) rfl rfl) (zl (zo (i1 rfl rfl) rfl rfl) rfl)) hl) rfl)
  .rw [N6 (show ¬ (k:Int) > 0 by omega),if_neg O3,dif_neg c,Int.add_zero];rfl)
 exact ⟨x,e⟩
def eR (hl:R.length<=100) (hL:LOk N L F) (hT:∀ t∈R,TOk N F t) (hp:R.Pairwise (Lnk F)) (hh:home∈N) (hne:R≠[]):ya [.dt L,.s home,.l (R.map tP)]=.ok (.i (ln F home R)):=by
 cases R with
 | nil=>exact absurd rfl hne
 | cons t R=>
  obtain ⟨u,hu,e1,e2⟩:=WT (R:=R) (t:=t) (p:=home)
  have ht:=(hT t v4).org
  have hu':=(hT u hu).goal
  have i0:=zo (f:=pIx) (a:=mOp pIx (zc 2) (mC (.i 0))) (b:=mC (.i 1)) (ρ:=[some (.dt L),some (.s home),some (.l ((t :: R).map tP)),none,none]) (z:=.s t.2.1) (zo rfl rfl ix0) rfl rfl
  have iL:=zo (f:=pIx) (a:=mOp pIx (zc 2) (mUn nq (mC (.i 1)))) (b:=mC (.i 2)) (ρ:=[some (.dt L),some (.s home),some (.l ((t :: R).map tP)),none,none]) (z:=.s u.2.2.1) (zo (x:=.l ((t :: R).map tP)) (y:=.i (-1)) (z:=tP u) rfl rfl (ixL (by rw [List.getLast?_map,e2];rfl))) rfl rfl
  have g1:=sA (m:=zc 0) (md:=mC (.i 0)) (L:=L) rfl (zl (a:=zc 1) rfl (zl (ms:=zr) i0 rfl)) rfl
  have g2:=sA (m:=zc 0) (md:=mC (.i 0)) (L:=L) rfl (zl iL (zl (a:=zc 1) (ms:=zr) rfl rfl)) rfl
  rw [hL home hh _ ht] at g1
  rw [hL _ hu' home hh] at g2
  obtain ⟨x,el⟩:=xN (a:=fd F home t.2.1) (b:=fd F u.2.2.1 home) (home:=home) hL hT hp (fun _=>rfl)
  have et:tot F home (t :: R) (fd F home t.2.1) (fd F u.2.2.1 home) (t :: R).length=ln F home (t :: R):=by
   show rn F home ((t :: R).take (t :: R).length) + _=rn F home (t :: R) + fd F (lst home (t :: R)) home
   rw [a0p,e1]
  rw [et] at el
  exact yc (zf ⟨_,yn (zo g1 g2 rfl),zf ⟨_,jj (bw (zl (zw (zl rfl rfl) vO) rfl) (by omega) (by omega)) (by rw [a1o];exact el),rfl⟩⟩)
end
inductive Rfz where
 | way (a b:Str)
 | long (n:Str)
def Rfz.cls:Rfz->Nat
 | .way _ _=>6
 | .long _=>13
def Rfz.fs:Rfz->List (Str × PV)
 | .way a b=>[("origin",.s a),("goal",.s b)]
 | .long n=>[("name",.s n)]
def Rfz.word:Rfz->PV
 | .way a b=>.t [.s "way",.s a,.s b]
 | .long n=>.t [.s "long",.s n]
def rf (F:Str->Ht) (home:Str) (l:Int) (t:Tp):Option Rfz:=match zS (F home) (sk t.2.1) with
 | none=>some (.way home t.2.1)
 | some _=>match zS (F t.2.2.1) (sk home) with
  | none=>some (.way t.2.2.1 home)
  | some _=>if ln F home [t]<=l then none else some (.long t.1)
def rfs (F:Str->Ht) (home:Str) (l:Int):List Tp->Option Rfz
 | []=>none
 | t :: R=>match rf F home l t with
  | none=>rfs F home l R
  | some r=>some r
structure Gv (F:Str->Ht) (home:Str) (l:Int) (t:Tp):Prop where
 to:(zS (F home) (sk t.2.1)).isSome=true
 fro:(zS (F t.2.2.1) (sk home)).isSome=true
 le:ln F home [t]<=l
section
variable {F:Str->Ht}{home:Str}{l:Int}{t:Tp}
def Dy (h:rf F home l t=none):Gv F home l t:=by
 unfold rf at h
 cases e1:zS (F home) (sk t.2.1) with
 | none=>rw [e1] at h;cases h
 | some a=>
  rw [e1] at h
  cases e2:zS (F t.2.2.1) (sk home) with
  | none=>rw [e2] at h;cases h
  | some b=>
   rw [e2] at h
   dsimp only at h
   split at h
   .rename_i c;exact ⟨by rw [e1];rfl,by rw [e2];rfl,c⟩
   .cases h
def cN:∀ {R:List Tp},rfs F home l R=none->∀ t∈R,Gv F home l t
 | [],_,t,h=>by cases h
 | u :: R,e,t,h=>by
  unfold rfs at e
  cases e1:rf F home l u with
  | some r=>rw [e1] at e;cases e
  | none=>
   rw [e1] at e
   rcases O5.mp h with rfl | h
   .exact Dy e1
   .exact cN e t h
end
def grL {α:Type}(ln:List α->Int) (l:Int):List α->List α->List (List α)
 | cur,[]=>[cur]
 | cur,t :: R=>if ln (cur++[t])<=l then grL ln l (cur++[t]) R else cur :: grL ln l [t] R
def Dz {α:Type}(ln:List α->Int) (l:Int):List α->List (List α)
 | []=>[]
 | t :: R=>grL ln l [t] R
def Mx {α:Type}(ln:List α->Int) (l:Int):List (List α)->Prop
 | []=>True
 | d :: D=>d≠[]/\ln d<=l/\(∀ u X,D.flatten=u :: X->¬ ln (d++[u])<=l)/\Mx ln l D
section
variable {α:Type}{ln:List α->Int}{l:Int}
def cO:∀ {R c:List α},(grL ln l c R).flatten=c++R
 | [],c=>by show [c].flatten=_;simp
 | t :: R,c=>by
  unfold grL
  split
  .rw [cO,P2];rfl
  .rw [a0c,cO];rfl
def DA:∀ {R c:List α},c≠[]->ln c<=l->(∀ t∈R,ln [t]<=l)->Mx ln l (grL ln l c R)
 | [],c,h0,h1,_=>⟨h0,h1,fun u X e=>(by cases e),trivial⟩
 | t :: R,c,h0,h1,h2=>by
  unfold grL
  split
  .rename_i h;exact DA (by simp) h fun u hu=>h2 u (M9 _ hu)
  .rename_i h
   refine ⟨h0,h1,fun u X e=>?_,DA (by simp) (h2 t v4) fun u hu=>h2 u (M9 _ hu)⟩
   rw [cO] at e
   injection e with e
   subst e;exact h
def Gw {T:List α}:(Dz ln l T).flatten=T:=by
 cases T with
 | nil=>rfl
 | cons t R=>exact cO
def Gx {T:List α}(h:∀ t∈T,ln [t]<=l):Mx ln l (Dz ln l T):=by
 cases T with
 | nil=>trivial
 | cons t R=>exact DA (by simp) (h t v4) fun u hu=>h u (M9 _ hu)
end
def LL (b:Nat) (D:List (List PV)):AH:=.l ((List.range D.length).map fun i=>.g (b + 1 + i)) :: D.map fun p=>.l (p.map .v)
abbrev AL (G:AH) (D:List (List PV)):AH:=G++LL G.length D
def gL {α:Type}{A B:List α}{j:Nat}{x:α}(h:A[j]? = some x):(A++B)[j]? = some x:=by
 rw [S8 (O2.mp h).1];exact h
def sC {f:HV->Option PV}:∀ {xs:List HV}{ys:Nj},xs.length=ys.length->(∀ (i:Nat) x y,xs[i]? = some x->ys[i]? = some y->f x=some y)->pO f xs=some ys
 | [],[],_,_=>rfl
 | [],_ :: _,h,_=>by cases h
 | _ :: _,[],h,_=>by cases h
 | x :: xs,y :: ys,h,k=>by
  unfold pO
  rw [k 0 x y rfl rfl,sC (xs:=xs) (ys:=ys) (Nat.succ.inj h) fun i a b h1 h2=>k (i + 1) a b h1 h2];rfl
def Gy {G:AH}{n:Nat}:∀ {xs:Nj},pO (v_ G (n + 1)) (xs.map .v)=some xs
 | []=>rfl
 | x :: xs=>by show (v_ G (n + 1) (.v x)).bind _=_;rw [Gy (xs:=xs)];rfl
def sD (h:G[k]? = some (.l (xs.map .v))):v_ G (n + 2) (.g k)=some (.l xs):=by
 unfold v_;rw [h]
 show (pO (v_ G (n + 1)) _).map PV.l=_
 rw [Gy];rfl
def DB:(AL G D)[G.length]? = some (.l ((List.range D.length).map fun i=>.g (G.length + 1 + i))):=by
 rw [a0B (N1 _),a1D];rfl
def DC (hi:i < D.length):(AL G D)[G.length + 1 + i]? = some (.l (D[i].map .v)):=by
 rw [a0B (by omega),show G.length + 1 + i - G.length=i + 1 by omega]
 unfold LL
 rw [P9,P0,N8 hi];rfl
def sE:v_ (AL G D) 8 (.g G.length)=some (.l (D.map .l)):=by
 unfold v_;rw [DB]
 show (pO (v_ (AL G D) 7) _).map PV.l=_
 rw [sC (ys:=D.map .l) (by simp) fun i x y h1 h2=>by
  rw [P0] at h1 h2
  obtain ⟨j,hj,rfl⟩:=M3.mp h1
  obtain ⟨d,hd,rfl⟩:=M3.mp h2
  obtain ⟨hi,e⟩:=O2.mp hd
  obtain ⟨_,e2⟩:=O2.mp hj
  rw [a1b] at e2
  subst e2 e
  exact sD (n:=5) (DC hi)]
 rfl
def Gz:(AL G (D++[c])).set (G.length + 1 + D.length) (.l (c.map .v++[.v x]))=AL G (D++[c++[x]]):=by
 show (G++LL G.length (D++[c])).set _ _=G++LL G.length (D++[c++[x]])
 rw [a0e _ _ (by omega),show G.length + 1 + D.length - G.length=D.length + 1 by omega]
 unfold LL
 rw [a20,O6,O6,M6,M6]
 congr 2
 rw [a0e _ _ (by rw [u8];exact N1 _),u8,a1D,a1f,a1f,O6];rfl
def GA:(AL G D++[Cell.l (p.map .v)]).set G.length (Cell.l (((List.range D.length).map fun i=>HV.g (G.length + 1 + i))++[HV.g (AL G D).length]))=AL G (D++[p]):=by
 show (G++LL G.length D++_).set _ _=G++LL G.length (D++[p])
 rw [P2,a0e _ _ (N1 _),a1D,M6]
 unfold LL
 rw [a2e,List.set_cons_zero,M6,P1,a2r,O6,O6,v0,u8,show G.length + (D.length + 1)=G.length + 1 + D.length by omega];rfl
def cP (ho:mo ρ G=.ok (.g k) G) (h1:G[k]? = some (.l xs)) (ha:ma ρ G=.ok y G2) (h2:G2[k]? = some (.l xs)) (hl:xs.length<=1000):pS mo ma ρ G=.nx ρ (G2.set k (.l (xs++[y]))):=by
 unfold pS;rw [ho]
 show (match G[k]? with
  | some (.l _)=>(ma ρ G).fw fun y G2=>match G2[k]? with
   | some (.l xs)=>if xs.length < sizeLine then HFw.nx ρ (G2.set k (.l (xs++[y]))) else .wall
   | _=>.wall
  | _=>.wall)=_
 rw [h1];dsimp only;rw [ha]
 show (match G2[k]? with
   | some (.l xs)=>if xs.length < sizeLine then HFw.nx ρ (G2.set k (.l (xs++[y]))) else .wall
   | _=>.wall)=_
 rw [h2];dsimp only;rw [if_pos (Nat.lt_of_le_of_lt hl (by decide))]
def hPc (h:∀ r,m r=.ok x):hP [] m ρ G=.ok (.v x) G:=by
 have v:∀ ρ:ZW,∃ r,K3 [] ρ=some r:=fun ρ=>by
  induction ρ with
  | nil=>exact ⟨_,rfl⟩
  | cons a ρ ih=>obtain ⟨r,e⟩:=ih;exact ⟨none :: r,by show (K3 [] ρ).map _=_;rw [e];rfl⟩
 obtain ⟨r,hr⟩:=v ρ
 exact Uv hr (h r)
def Lm (h:mo ρ (AL G (D++[c]))=.ok (.g G.length) (AL G (D++[c]))):hIx mo (hP [] (mUn nq (mC (.i 1)))) ρ (AL G (D++[c]))=.ok (.g (G.length + 1 + D.length)) (AL G (D++[c])):=by
 unfold hIx;rw [h]
 show (hP [] (mUn nq (mC (.i 1))) ρ (AL G (D++[c]))).bind _=_
 rw [hPc (m:=mUn nq (mC (.i 1))) (x:=.i (-1)) fun _=>rfl]
 show (match ixH (AL G (D++[c])) (.g G.length) (.v (.i (-1))) with | some z=>HX.ok z (AL G (D++[c])) | none=>.wall)=_
 have:ixH (AL G (D++[c])) (.g G.length) (.v (.i (-1)))=some (.g (G.length + 1 + D.length)):=by
  unfold ixH;dsimp only;rw [DB];dsimp only
  rw [iu,M6,P1,a2r,O6]
  simp
 rw [this]
def GB (h:mo ρ (AL G (D++[c]))=.ok (.g G.length) (AL G (D++[c]))) (ha:ma ρ (AL G (D++[c]))=.ok (.v x) (AL G (D++[c]))) (hl:c.length<=1000):pS (hIx mo (hP [] (mUn nq (mC (.i 1))))) ma ρ (AL G (D++[c]))=.nx ρ (AL G (D++[c++[x]])):=by
 have k:(AL G (D++[c]))[G.length + 1 + D.length]? = some (.l (c.map .v)):=by
  rw [DC (by rw [M6,P1];omega),List.getElem_append_right (N1 _)];simp
 refine (cP (Lm h) k ha k (by rw [u8];exact hl)).trans ?_
 rw [Gz]
def sF (h:mo ρ (AL G D)=.ok (.g G.length) (AL G D)) (ha:ma ρ (AL G D)=.ok (.g (AL G D).length) (AL G D++[.l (p.map .v)])) (hl:D.length<=1000):pS mo ma ρ (AL G D)=.nx ρ (AL G (D++[p])):=by
 refine (cP h DB ha (gL DB) (by rw [u8,T4];exact hl)).trans ?_
 rw [GA]
def DD (h0:K3 bs ρ=some r) (h2:m r=.ok x) (hc:u7 x=some c):hF bs m ρ G=.ok (.g G.length) (G++[c]):=by
 unfold hF;rw [h0];dsimp only;rw [h2];dsimp only;rw [hc]
def mX (h0:G[k]? = some (.l xs)) (hi:xs[i]? = some x) (h1:g x ρ=some ρ1) (h2:b ρ1 G=.nx ρ2 G2) (h:vX k g b r (i + 1) ρ2 G2=o):vX k g b (r + 1) i ρ G=o:=by
 unfold vX;rw [h0];dsimp only;rw [hi];dsimp only;rw [h1];dsimp only;rw [h2];exact h
def GD (h0:G[k]? = some (.l xs)) (hi:xs[i]? = some x) (h1:g x ρ=some ρ1) (h2:b ρ1 G=.exc c fs G2):vX k g b (r + 1) i ρ G=.exc c fs G2:=by
 unfold vX;rw [h0];dsimp only;rw [hi];dsimp only;rw [h1];dsimp only;rw [h2]
def eS (h0:G[k]? = some (.l xs)) (hi:xs[i]? = none):vX k g b r i ρ G=.nx ρ G:=by
 unfold vX;rw [h0];dsimp only;rw [hi]
def Kt (h:m ρ G=.ok (.g k) G1) (h0:G1[k]? = some (.l xs)) (h1:vX k g b xs.length 0 ρ G1=o):gh m g b ρ G=o:=by
 unfold gh;rw [h]
 show (match G1[k]? with | some (.l xs)=>vX k g b xs.length 0 ρ G1 | _=>.wall)=_
 rw [h0];exact h1
def xO (h:p ρ G=.exc c fs G1):Zf p q ρ G=.exc c fs G1:=by unfold Zf;rw [h]
def sG (h:m ρ G=.exc c fs G1):Xh m ρ G=.exc c fs G1:=by unfold Xh;rw [h];rfl
def MP (h0:K3 bs ρ=none) (h1:JX G bs ρ=some r) (h2:m r=.exc c fs) (hi:uZ fs=true):hP bs m ρ G=.exc c fs G:=by
 unfold hP;rw [h0,h1];dsimp only;rw [h2];dsimp only;rw [if_pos hi]
def Ub (h:hm (xs.map some++List.replicate (n - xs.length) none) G=.rt x G1):tT n hm xs G=.ok x G1:=by unfold tT;rw [h]
def xP (h:hm (xs.map some++List.replicate (n - xs.length) none) G=.exc c fs G1):tT n hm xs G=.exc c fs G1:=by unfold tT;rw [h]
def Br (ha:a ρ=.exc c fs):mOp f a b ρ=.exc c fs:=by unfold mOp;rw [ha];rfl
def sH (h:m ρ=.exc c fs):yK m ρ=.exc c fs:=by unfold yK;rw [h];rfl
def Bt (h:t ρ=.exc c fs):sIf t a b ρ=.exc c fs:=by unfold sIf;rw [h];rfl
abbrev nms (R:List Tp):List PV:=R.map fun t=>.s t.1
section
variable {P:MX}{W:List Wy}{F:Str->Ht}{T T' R:List Tp}{t u:Tp}{home:Str}{l:Int}{kt kn:Nat}{G:AH}
structure Tab (P:MX) (W:List Wy) (F:Str->Ht) (T' T:List Tp) (home:Str):Prop where
 nd:(T'.map (·.1)).Nodup
 ok:∀ t∈T',TOk P F t
 sub:∀ t∈T,t∈T'
 lnk:T.Pairwise (Lnk F)
 here:home∈P
 own:zS (F home) (sk home)=some 0
 len:T.length<=12
structure sI (P:MX) (W:List Wy) (F:Str->Ht) (T' T:List Tp) (kt kn:Nat) (G:AH):Prop where
 tab:∀ B,v_ (G++B) 8 (.g kt)=some (tb P W F T')
 nms:G[kn]? = some (.l ((nms T).map .v))
def sI.Mc (E:sI P W F T' T kt kn G):v_ G 8 (.g kt)=some (tb P W F T'):=by have:=E.tab [];rwa [O9] at this
def xQ (K:Tab P W F T' T home) (ht:t∈T):qN [tb P W F T',.s home,.s t.1,.i l]=match rf F home l t with | none=>.ok .n | some r=>.exc r.cls r.fs:=by
 have b:=lJ (W:=W) (R:=[t]) K.nd K.ok (fun u hu=>by rw [M8.mp hu];exact K.sub t ht) (a1i _ _) K.here K.own
 have go:∀ {o:Out PV},blk F home [t]=o->zm zV (zb (zc 0) (zb (zc 1) (zb (W4 (zb (zc 2) zr)) zr))) [some (tb P W F T'),some (.s home),some (.s t.1),some (.i l)]=o:=fun {o} h=>by
  unfold zm
  rw [zl (xs:=[.s home,nmL [t]]) rfl (zl rfl (zl (Kr rfl (N2 rfl)) rfl)),okb]
  exact b.trans h
 unfold rf
 rw [blk] at go
 cases e1:zS (F home) (sk t.2.1) with
 | none=>rw [e1] at go;exact ZQ (Bt (sH (Br (go rfl))))
 | some a=>
  rw [e1] at go
  have e0:lst home [t]=t.2.2.1:=rfl
  rw [e0] at go
  cases e2:zS (F t.2.2.1) (sk home) with
  | none=>rw [e2] at go;exact ZQ (Bt (sH (Br (go rfl))))
  | some b=>
   rw [e2] at go
   have el:rn F home [t] + b=ln F home [t]:=by unfold ln;rw [e0];unfold fd;rw [e2];rfl
   have g:=go (o:=.ok (.i (rn F home [t] + b))) rfl
   rw [el] at g
   have t1:=fun P Q=>yJ (a:=P) (b:=Q) (yF (zo (f:=pGt) (b:=zc 3) (y:=.i l) g rfl rfl))
   dsimp only
   by_cases c:ln F home [t]<=l
   .rw [if_pos c]
    rw [N6 (show ¬ ln F home [t] > l by omega)] at t1
    exact Wo rfl ((t1 _ _).trans rfl)
   .rw [if_neg c]
    rw [N7 (show ln F home [t] > l by omega)] at t1
    exact ZQ ((t1 _ _).trans rfl)
abbrev cS (kt kn:Nat) (home:Str) (l:Int) (x y:Option HV):ZW:=[some (.g kt),some (.v (.s home)),some (.g kn),some (.v (.i l)),x,y]
def sJ (e:A++t :: R=T):((nms T).map HV.v)[A.length]? = some (.v (.s t.1)):=by rw [<- e];simp
def Bu (e:A++[]=T):((nms T).map HV.v)[A.length]? = none:=by rw [<- e];simp
def GF {r:Rfz}:uZ r.fs=true:=by cases r <;> rfl
def Bv (K:Tab P W F T' T home) (E:sI P W F T' T kt kn G):∀ {R A:List Tp}{x:Option HV},A++R=T->∃ x',vX kn iT iU R.length A.length (cS kt kn home l x none) G=match rfs F home l R with | none=>.nx (cS kt kn home l x' none) G | some r=>.exc r.cls r.fs G
 | [],A,x,e=>⟨x,eS E.nms (Bu e)⟩
 | t :: R,A,x,e=>by
  have ht:t∈T:=by rw [<- e];simp
  have s:=xQ (l:=l) K ht
  have rs:=Ks E.Mc (Ks (x:=.v (.s home)) rfl (Ys (a:=some (.g kn)) (Ks (x:=.v (.i l)) rfl (Ks (x:=.v (.s t.1)) rfl (Df (a:=none) De)))))
  obtain ⟨x',e'⟩:=Bv K E (R:=R) (A:=A++[t]) (x:=some (.v (.s t.1))) (by rw [<- e];simp)
  rw [M6,P1] at e'
  unfold rfs
  cases er:rf F home l t with
  | none=>
   rw [er] at s
   exact ⟨x',mX E.nms (sJ e) rfl (WR (Lf rfl rs (zw rfl s) rfl)) e'⟩
  | some r=>
   rw [er] at s
   exact ⟨x',GD E.nms (sJ e) rfl (sG (MP rfl rs (lI rfl s) GF))⟩
def sL (K:Tab P W F T' T home) (hf:∀ t∈T,Gv F home l t) (hR:R.Sublist T) (hne:R≠[]):zV [tb P W F T',.s home,nmL R]=.ok (.i (ln F home R)):=by
 have b:=lJ (W:=W) K.nd K.ok (fun t ht=>K.sub t (hR.subset ht)) (K.lnk.sublist hR) K.here K.own
 cases R with
 | nil=>exact absurd rfl hne
 | cons t R=>
  obtain ⟨u,hu,e1,_⟩:=WT (R:=R) (t:=t) (p:=home)
  have f1:=(hf t (hR.subset v4)).to
  have f2:=(hf u (hR.subset hu)).fro
  rw [<- e1] at f2
  rw [blk,cM f1,cM f2] at b
  exact b
def Ln (K:Tab P W F T' T home) (E:sI P W F T' T kt kn G) (hf:∀ t∈T,Gv F home l t) (hR:(c++[t]).Sublist T):hPT [true,true,false,true,true,true] (tN (yK (mOp pGt (zm Ze (zb (zc 5) zr)) (mC (.i 0)))) (yK (mOp pLe (zm zV (zb (zc 0) (zb (zc 1) (zb (mOp yj (mOp pIx (zc 5) (mUn nq (mC (.i 1)))) (W4 (zb (zc 4) zr))) zr)))) (zc 3)))) (cS kt kn home l (some (.v (.s t.1))) (some (.g G.length))) (AL G ((D++[c]).map nms))=.ok (decide (ln F home (c++[t])<=l)) (AL G ((D++[c]).map nms)):=by
 have b:=sL K hf hR (by simp)
 have hc:=hR.length_le
 have:=K.len
 rw [M6,P1] at hc
 have ad:yj (.l (nms c)) (.l [.s t.1])=.ok (nmL (c++[t])):=by
  show (if (nms c).length + 1<=sizeLine then Out.ok (PV.l (nms c++[PV.s t.1])) else .wall)=_
  rw [if_pos (P6 (show (nms c).length + 1<=100 by rw [u8];omega) (by decide))]
  show _=Out.ok (PV.l ((c++[t]).map fun t=>.s t.1))
  rw [O6];rfl
 refine cG (b:=decide (ln F home (c++[t])<=l)) rfl (Ks (E.tab _) (Ks rfl (Ys (Ks rfl (Ks rfl (Ks sE De)))))) ((rB (x:=true) (y:=decide (ln F home (c++[t])<=l)) ((X8 (zw rfl vO)).trans ?_) (yF (zo (zw (zl rfl (zl rfl (zl (zo (zo (y:=.i (-1)) rfl rfl (ixL (x:=.l (nms c)) ?_)) (Kr rfl (N2 rfl)) ad) rfl))) b) rfl rfl))).trans ?_)
 .rw [N7 (by simp)]
 .rw [O6,O6];simp
 .rw [a2N]
def cQ {α:Type}:∀ {D:List (List α)},(∀ d∈D,d≠[])->D.length<=D.flatten.length
 | [],_=>N1 _
 | d :: D,h=>by
  have:=cQ fun d hd=>h d (M9 _ hd)
  have:=a1K.mpr (h d v4)
  rw [a0c,M6,v0];omega
def DE (K:Tab P W F T' T home) (E:sI P W F T' T kt kn G) (hf:∀ t∈T,Gv F home l t):∀ {R:List Tp}{D:List (List Tp)}{c:List Tp}{x:Option HV},D.flatten++c++R=T->c≠[]->(∀ d∈D,d≠[])->∃ x',vX kn cq cw R.length (D.flatten++c).length (cS kt kn home l x (some (.g G.length))) (AL G ((D++[c]).map nms))=.nx (cS kt kn home l x' (some (.g G.length))) (AL G ((D++grL (ln F home) l c R).map nms))
 | [],D,c,x,e,_,_=>⟨x,eS (gL E.nms) (Bu e)⟩
 | t :: R,D,c,x,e,hc,hD=>by
  have sub:(c++[t]).Sublist T:=by
   rw [<- e,P2,show c++t :: R=c++[t]++R by simp]
   exact ((a1g _ _).trans (a08 _ _))
  have lc:=sub.length_le
  have lT:=K.len
  rw [M6,P1] at lc
  have ct:=Ln (l:=l) (D:=D) K E hf sub
  unfold grL
  by_cases h:ln F home (c++[t])<=l
  .rw [if_pos h]
   rw [N7 h] at ct
   obtain ⟨x',e'⟩:=DE K E hf (R:=R) (D:=D) (c:=c++[t]) (x:=some (.v (.s t.1))) (by rw [<- e];simp) (by simp) hD
   rw [<- P2,M6,P1] at e'
   refine ⟨x',mX (ρ2:=cS kt kn home l (some (.v (.s t.1))) (some (.g G.length))) (gL E.nms) (sJ e) rfl ((Gg ct).trans ?_) e'⟩
   rw [O6,O6,a1f,a1f,show nms (c++[t])=nms c++[.s t.1] from O6]
   exact GB rfl rfl (by rw [u8];omega)
  .rw [if_neg h]
   rw [N6 h] at ct
   obtain ⟨x',e'⟩:=DE K E hf (R:=R) (D:=D++[c]) (c:=[t]) (x:=some (.v (.s t.1))) (by rw [<- e];simp) (by simp) (fun d hd=>by
    rcases S5.mp hd with hd | hd
    .exact hD d hd
    .rw [M8.mp hd];exact hc)
   rw [show ((D++[c]).flatten++[t]).length=(D.flatten++c).length + 1 by simp;omega] at e'
   refine ⟨x',mX (ρ2:=cS kt kn home l (some (.v (.s t.1))) (some (.g G.length))) (gL E.nms) (sJ e) rfl ((mQ ct).trans ?_) (e'.trans (by rw [P2];rfl))⟩
   have ld:D.length<=12:=by
    have:=cQ hD
    have e:=S0 List.length e
    rw [M6,M6] at e
    omega
   rw [O6 (l₁:=D++[c])]
   exact sF (p:=[.s t.1]) rfl (DD rfl (Kr rfl (N2 rfl)) rfl) (by rw [u8,M6,P1];omega)
def GG (K:Tab P W F T' T home) (E:sI P W F T' T kt kn G):aH [.g kt,.v (.s home),.g kn,.v (.i l)] G=match rfs F home l T with | none=>.ok (.g G.length) (AL G ((Dz (ln F home) l T).map nms)) | some r=>.exc r.cls r.fs G:=by
 obtain ⟨x,e1⟩:=Bv (l:=l) K E (R:=T) (A:=[]) (x:=none) rfl
 have e0:Xh (hP [true,true,true] (zm qy (zb (zc 0) (zb (zc 1) (zb (zc 2) zr))))) (cS kt kn home l none none) G=.nx (cS kt kn home l none none) G:=WR (Lf rfl (Ks E.Mc (Ks rfl (Ks (sD (n:=6) E.nms) (Df (Df (Df De)))))) (zw rfl (so K.nd K.ok K.sub K.lnk K.here)) rfl)
 have ln1:((nms T).map HV.v).length=T.length:=by simp
 cases er:rfs F home l T with
 | some r=>
  rw [er] at e1
  exact xP (zN e0 (xO (Kt rfl E.nms (by rw [ln1];exact e1))))
 | none=>
  rw [er] at e1
  have hf:=cN er
  have e2:Jw 5 (hF [] (W4 zr)) (cS kt kn home l x none) G=.nx (cS kt kn home l x (some (.g G.length))) (AL G []):=yZ (DD rfl (Kr rfl (N2 rfl)) rfl)
  obtain ⟨x2,e3⟩:∃ x2,vX kn cq cw T.length 0 (cS kt kn home l x (some (.g G.length))) (AL G [])=.nx (cS kt kn home l x2 (some (.g G.length))) (AL G ((Dz (ln F home) l T).map nms)):=by
   cases e:T with
   | nil=>subst e;exact ⟨x,eS (gL E.nms) rfl⟩
   | cons t R=>
    subst e
    obtain ⟨x',e'⟩:=DE (l:=l) K E hf (R:=R) (D:=[]) (c:=[t]) (x:=some (.v (.s t.1))) rfl (by simp) (fun d hd=>(nomatch hd))
    refine ⟨x',mX (ρ2:=cS kt kn home l (some (.v (.s t.1))) (some (.g G.length))) (gL E.nms) (sJ (A:=[]) rfl) rfl ((mQ (cG (b:=false) rfl (Ks (E.tab _) (Ks rfl (Ys (Ks rfl (Ks rfl (Ks sE De)))))) (rC rfl))).trans ?_) e'⟩
    exact sF (D:=[]) (p:=[.s t.1]) rfl (DD rfl (Kr rfl (N2 rfl)) rfl) (by decide)
  exact Ub (zN e0 (zN (Kt rfl E.nms (by rw [ln1];exact e1)) (zN e2 (zN (Kt rfl (gL E.nms) (by rw [ln1];exact e3)) rfl))))
end
section
variable {P:MX}{W:List Wy}{F:Str->Ht}{T T' R:List Tp}{t u:Tp}{home:Str}{l:Int}{kt kn:Nat}{G:AH}{L:Lst}
def sI.app (E:sI P W F T' T kt kn G) (B:AH):sI P W F T' T kt kn (G++B):=⟨fun C=>by rw [P2];exact E.tab _,gL E.nms⟩
def GH (h:m1 ρ G=.nx ρ' G1):bO cs cs2 m1 j m2 m3 ρ G=.nx ρ' G1:=by unfold bO;rw [h]
def Lo (h:m1 ρ G=.exc c fs G1) (hc:c∈cs) (h2:m2 (ρ.set j (some (.v (.x c fs)))) G1=.rt x G2):bO cs cs2 m1 j m2 m3 ρ G=.rt x G2:=by
 unfold bO;rw [h];dsimp only;rw [if_pos hc,h2]
def Lp (h:m1 ρ G=.exc c fs G1) (hc:c∉cs) (hc2:c∈cs2) (h2:m3 (ρ.set j (some (.v (.x c fs)))) G1=.rt x G2):bO cs cs2 m1 j m2 m3 ρ G=.rt x G2:=by
 unfold bO;rw [h];dsimp only;rw [if_neg hc,if_pos hc2,h2]
def xR (K:Tab P W F T' T home) (E:sI P W F T' T kt kn G):km [.g kt,.v (.s home),.g kn,.v (.i l)] G=match rfs F home l T with | none=>.ok (.t [.v (.t [.s "right"]),.g (G.length + 1)]) (AL (G++[.l []]) ((Dz (ln F home) l T).map nms)) | some r=>.ok (.v (.t [r.word,.n])) (G++[.l []]):=by
 have E1:=E.app [.l []]
 have cu:=GG (l:=l) K E1
 have lg:(G++[Cell.l []]).length=G.length + 1:=by simp
 have e4:Jw 4 (hF [] (W4 zr)) [some (.g kt),some (.v (.s home)),some (.g kn),some (.v (.i l)),none,none,none] G=.nx [some (.g kt),some (.v (.s home)),some (.g kn),some (.v (.i l)),some (.g G.length),none,none] (G++[.l []]):=yZ (DD rfl (Kr rfl (N2 rfl)) rfl)
 cases er:rfs F home l T with
 | none=>
  rw [er] at cu
  have b:Jw 4 (az aH (zF (yB 0) (zF (yB 1) (zF (yB 2) (zF (yB 3) K5))))) [some (.g kt),some (.v (.s home)),some (.g kn),some (.v (.i l)),some (.g G.length),none,none] (G++[.l []])=.nx [some (.g kt),some (.v (.s home)),some (.g kn),some (.v (.i l)),some (.g (G.length + 1)),none,none] (AL (G++[.l []]) ((Dz (ln F home) l T).map nms)):=by
   rw [<- lg];exact yZ cu
  refine Ub (zN e4 (zN (GH b) (cH ?_)))
  show ((zF (hP [] (W5 (zb (mC (.s "right")) zr))) (zF (yB 4) K5)) _ _).bind _=_
  unfold zF
  rw [hPc (m:=W5 (zb (mC (.s "right")) zr)) (x:=.t [.s "right"]) fun _=>Y0 rfl (N2 rfl)]
  rfl
 | some r=>
  rw [er] at cu
  have b:Jw 4 (az aH (zF (yB 0) (zF (yB 1) (zF (yB 2) (zF (yB 3) K5))))) [some (.g kt),some (.v (.s home)),some (.g kn),some (.v (.i l)),some (.g G.length),none,none] (G++[.l []])=.exc r.cls r.fs (G++[.l []]):=by
   unfold Jw
   rw [show az aH (zF (yB 0) (zF (yB 1) (zF (yB 2) (zF (yB 3) K5)))) [some (.g kt),some (.v (.s home)),some (.g kn),some (.v (.i l)),some (.g G.length),none,none] (G++[.l []])=_ from cu];rfl
  cases r with
  | way a c=>
   have x1:fW [6] "origin" (zc 5) [none,none,none,none,none,some (.x 6 [("origin",.s a),("goal",.s c)]),none]=.ok (.s a):=by
    show (if 6∈[6] then v7 (List.lookup ("origin" : Str) [("origin",PV.s a),("goal",.s c)]) else .wall)=_
    rw [if_pos v4,Vv];rfl
   have x2:fW [6] "goal" (zc 5) [none,none,none,none,none,some (.x 6 [("origin",.s a),("goal",.s c)]),none]=.ok (.s c):=by
    show (if 6∈[6] then v7 (List.lookup ("goal" : Str) [("origin",PV.s a),("goal",.s c)]) else .wall)=_
    rw [if_pos v4,vo (by decide +kernel),Vv];rfl
   exact Ub (zN e4 (rD (Lo b v4 (cH (Uv rfl (Y0 (zl (Y0 (zl rfl (zl x1 (zl x2 rfl))) (N2 rfl)) (zl rfl rfl)) (N2 rfl)))))))
  | long n=>
   have x1:fW [1,4,5,7,8,9,13] "name" (zc 5) [none,none,none,none,none,some (.x 13 [("name",.s n)]),none]=.ok (.s n):=by
    show (if 13∈[1,4,5,7,8,9,13] then v7 (List.lookup ("name" : Str) [("name",PV.s n)]) else .wall)=_
    rw [if_pos (by decide),Vv];rfl
   exact Ub (zN e4 (rD (Lp b (by show (13:Nat)∉[6];decide) v4 (zN (yZ (Uv (x:=.b false) rfl rfl)) (zN ((mQ (rE (b:=false) rfl rfl)).trans rfl) (cH (Uv rfl (Y0 (zl (Y0 (zl rfl (zl x1 rfl)) (N2 rfl)) (zl rfl rfl)) (N2 rfl)))))))))
def Lq (F:Str->Ht) (home:Str) (l:Int) (R:List Tp):PV:=match rfs F home l R with
 | none=>.t [.s "right"]
 | some r=>r.word
def sO (hL:LOk P L F) (hh:home∈P) {R0:PV}:∀ {R:List Tp}{x:NH},(∀ t∈R,TOk P F t)->∃ x',QG vJ jZ (R.map tP) [some (.dt L),some (.s home),some R0,some (.i l),x]=match rfs F home l R with | none=>.ok (.nx [some (.dt L),some (.s home),some R0,some (.i l),x']) | some r=>.ok (.rt r.word)
 | [],x,_=>⟨x,rfl⟩
 | t :: R,x,hT=>by
  have ht:=hT t v4
  obtain ⟨x',e'⟩:=sO hL hh (R0:=R0) (R:=R) (x:=some (tP t)) fun u hu=>hT u (M9 _ hu)
  refine ⟨x', ?_⟩
  have go:∀ {o:Out Fw},jZ [some (.dt L),some (.s home),some R0,some (.i l),some (tP t)]=o->QG vJ jZ ((t :: R).map tP) [some (.dt L),some (.s home),some R0,some (.i l),x]=o.bind fun f=>match f with
    | .nx ρ2=>QG vJ jZ (R.map tP) ρ2
    | .ct ρ2=>QG vJ jZ (R.map tP) ρ2
    | .bk ρ2=>.ok (.nx ρ2)
    | .rt v=>.ok (.rt v):=fun h=>by rw [<- h];rfl
  have q1:=fun P Q=>yJ (a:=P) (b:=Q) (aN (ρ:=[some (.dt L),some (.s home),some R0,some (.i l),some (tP t)]) (n:=true) (ms:=zb (zc 1) (zb (mOp pIx (zc 4) (mC (.i 1))) zr)) (m:=zc 0) (x:=home) (y:=t.2.1) (L:=L) rfl rfl)
  have q2:=fun P Q=>yJ (a:=P) (b:=Q) (aN (ρ:=[some (.dt L),some (.s home),some R0,some (.i l),some (tP t)]) (n:=true) (ms:=zb (mOp pIx (zc 4) (mC (.i 2))) (zb (zc 1) zr)) (m:=zc 0) (x:=t.2.2.1) (y:=home) (L:=L) rfl rfl)
  rw [hL _ hh _ ht.org] at q1
  rw [hL _ ht.goal _ hh] at q2
  have ll:=eR (R:=[t]) (show 1<=100 by decide) hL (fun u hu=>by rw [M8.mp hu];exact ht) (a1i _ _) hh (by simp)
  have q3:=fun P Q=>yJ (a:=P) (b:=Q) (ρ:=[some (.dt L),some (.s home),some R0,some (.i l),some (tP t)]) (yF (zo (f:=pGt) (y:=.i l) (b:=zc 3) (zw (zl (a:=zc 0) rfl (zl (a:=zc 1) rfl (zl (Kr (ms:=zb (zc 4) zr) rfl (N2 rfl)) (ms:=zr) rfl))) ll) rfl rfl))
  unfold rfs rf
  cases e1:zS (F home) (sk t.2.1) with
  | none=>rw [e1] at q1;exact go (YA ((q1 _ _).trans (ZP (Y0 rfl (N2 rfl)))))
  | some a=>
   rw [e1] at q1
   cases e2:zS (F t.2.2.1) (sk home) with
   | none=>rw [e2] at q2;exact go (zf ⟨_,(q1 _ _).trans rfl,YA ((q2 _ _).trans (ZP (Y0 rfl (N2 rfl))))⟩)
   | some b=>
    rw [e2] at q2
    dsimp only
    by_cases c:ln F home [t]<=l
    .rw [if_pos c]
     rw [N6 (show ¬ ln F home [t] > l by omega)] at q3
     exact (go (zf ⟨_,(q1 _ _).trans rfl,zf ⟨_,(q2 _ _).trans rfl,(q3 _ _).trans rfl⟩⟩)).trans e'
    .rw [if_neg c]
     rw [N7 (show ln F home [t] > l by omega)] at q3
     exact go (zf ⟨_,(q1 _ _).trans rfl,zf ⟨_,(q2 _ _).trans rfl,(q3 _ _).trans (ZP (Y0 rfl (N2 rfl)))⟩⟩)
def GI (hL:LOk P L F) (hh:home∈P) (hT:∀ t∈R,TOk P F t):Zo [.dt L,.s home,.l (R.map tP),.i l]=.ok (Lq F home l R):=by
 obtain ⟨x,e⟩:=sO (l:=l) (R0:=.l (R.map tP)) (x:=none) hL hh hT
 unfold Lq
 cases er:rfs F home l R with
 | none=>rw [er] at e;exact yc (zf ⟨_,jj (yh rfl) e,ZP (Y0 rfl (N2 rfl))⟩)
 | some r=>rw [er] at e;exact yc (YA (jj (yh rfl) e))
end
def six (h:0<=i):HT.sIx n e (some i)=min i.toNat n:=by
 show (if i < 0 then (i + (n:Int)).toNat else min i.toNat n)=_
 rw [if_neg (by omega)]
def Bw {α:Type}{A d B:List α}:Ux (A++d++B) (some (A.length:Int)) (some ((A.length:Int) + (d.length:Int)))=d:=by
 have l:(A++d++B).length=A.length + d.length + B.length:=by rw [M6,M6]
 unfold Ux
 rw [six (by omega),six (by omega),l,show ((A.length:Int) + (d.length:Int)).toNat=A.length + d.length by omega,a1o,a1F (by omega),a1F (by omega),P2,List.drop_left,show A.length + d.length - A.length=d.length by omega,List.take_left]
def xS {α β:Type}{f:α->β}{xs:List α}:Ux (xs.map f) lo hi=(Ux xs lo hi).map f:=by
 unfold Ux;rw [u8,List.map_take,List.map_drop]
def eqN:JQ n (nmL R) (nmL R)=.ok (.b (xor n true)):=by
 have ps:∀ {f:NP}{xs:Nj},(∀ x∈xs,f x x=some true)->tO f xs xs=some true:=fun {f xs} h=>by
  induction xs with
  | nil=>rfl
  | cons x xs ih=>
   show E6 (f x x) (tO f xs xs)=_
   rw [h x v4,ih fun y hy=>h y (M9 _ hy)];rfl
 unfold JQ
 rw [show DU 8 (nmL R) (nmL R)=some true from ps (f:=fj 7) fun x hx=>by
  obtain ⟨t,_,rfl⟩:=a0b.mp hx
  rw [AE,N7 rfl]]
section
variable {ns:Nz}{P:MX}{W:List Wy}{F:Str->Ht}{T R:List Tp}{t u:Tp}{home:Str}{l:Int}{L:Lst}
structure Row (P:MX) (F:Str->Ht) (L:Lst) (T:List Tp) (home:Str):Prop where
 lok:LOk P L F
 ok:∀ t∈T,TOk P F t
 lnk:T.Pairwise (Lnk F)
 here:home∈P
 len:T.length<=12
def Row.ln (K:Row P F L T home) (h:R.Sublist T) (hne:R≠[]):ya [.dt L,.s home,.l (R.map tP)]=.ok (.i (K43.ln F home R)):=eR (by have:=h.length_le;have:=K.len;omega) K.lok (fun t ht=>K.ok t (h.subset ht)) (K.lnk.sublist h) K.here hne
def Lr (ha:a ρ=.ok (.l (T.map tP))) (h1:lo ρ=.ok (.i i)) (h2:hi ρ=.ok (.i j)):mSl pSl a (vW lo) (vW hi) ρ=.ok (.l ((Ux T (some i) (some j)).map tP)):=by
 unfold mSl;rw [ha,okb,Gj h1,okb,Gj h2,okb]
 show Out.ok (PV.l (Ux (T.map tP) (some i) (some j)))=_
 rw [xS]
abbrev gS (L:Lst) (home:Str) (T:List Tp) (l:Int) (D0:PV) (n:Int) (x y:NH):Sto:=[some (.dt L),some (.s home),some (.l (T.map tP)),some (.i l),some D0,some (.i n),x,y]
def GJ (K:Row P F L T home) {D0:PV}:∀ {D:List (List Tp)}{A:List Tp}{x y:NH},A++D.flatten=T->Mx (K43.ln F home) l D->∃ x' y',QG VH wg (D.map fun d=>nmL d) (gS L home T l D0 (A.length:Int) x y)=.ok (.nx (gS L home T l D0 (T.length:Int) x' y'))
 | [],A,x,y,e,_=>by rw [List.flatten_nil,O9] at e;subst e;exact ⟨x,y,rfl⟩
 | d :: D,A,x,y,e,⟨hne,hl,hm,hM⟩=>by
  rw [a0c,<- P2] at e
  have lT:=K.len
  have le:=S0 List.length e
  rw [M6,M6] at le
  have ld:=a1K.mpr hne
  obtain ⟨x',y',e'⟩:=GJ K (D:=D) (A:=A++d) (x:=some (nmL d)) (y:=some (.i ((A.length:Int) + (d.length:Int)))) (D0:=D0) e hM
  refine ⟨x',y', ?_⟩
  have ls:lcP ZL ZM ZN (d.map tP) [none] []=.ok (nmL d):=K1 tP (fun t=>PV.s t.1) (fun ρ=>∃ o,ρ=[o]) _ _ ⟨none,rfl⟩ (fun t _ ρ ⟨o,ho⟩=>by subst ho;exact ⟨_,rfl,⟨_,rfl⟩,zo rfl rfl rfl⟩) (by omega)
  have lT0:∀ {ρ:Sto},zc 2 ρ=.ok (.l (T.map tP))->zm Ze (zb (zc 2) zr) ρ=.ok (.i (T.length:Int)):=fun h=>zw (zl h rfl) vO
  have ld0:∀ {ρ:Sto},zc 6 ρ=.ok (nmL d)->zm Ze (zb (zc 6) zr) ρ=.ok (.i (d.length:Int)):=fun h=>zw (zl h rfl) vO
  have sd:d.Sublist T:=by rw [<- e];exact (a08 _ _).trans (a1g _ _)
  have cd:Ux T (some (A.length:Int)) (some ((A.length:Int) + (d.length:Int)))=d:=by rw [<- e];exact Bw
  have sl:=Lr (T:=T) (a:=zc 2) (lo:=zc 5) (hi:=zc 7) (ρ:=gS L home T l D0 (A.length:Int) (some (nmL d)) (some (.i ((A.length:Int) + (d.length:Int))))) rfl rfl rfl
  rw [cd] at sl
  have s1:sIf (mOr (uE (yK (mUn (Az [(.list,true)]) (zc 6)))) (yK (mOp (JQ false) (zm Ze (zb (zc 6) zr)) (mC (.i 0))))) (vk (mC (.b false))) yA (gS L home T l D0 (A.length:Int) (some (nmL d)) y)=.ok (.nx (gS L home T l D0 (A.length:Int) (some (nmL d)) y)):=(yJ (x:=false) ((U4 (x:=false) rfl (rA (ld0 rfl))).trans (by rw [N6 (by omega)];rfl))).trans rfl
  have s3:sIf (mOr (yK (mOp pGt (zc 7) (zm Ze (zb (zc 2) zr)))) (yK (mOp (JQ true) (zc 6) (mLC (yV (mSl pSl (zc 2) (vW (zc 5)) (vW (zc 7)))) [none] ZL ZM ZN)))) (vk (mC (.b false))) yA (gS L home T l D0 (A.length:Int) (some (nmL d)) (some (.i ((A.length:Int) + (d.length:Int)))))=.ok (.nx (gS L home T l D0 (A.length:Int) (some (nmL d)) (some (.i ((A.length:Int) + (d.length:Int)))))):=(yJ (x:=false) ((U4 (yF (zo (f:=pGt) rfl (lT0 rfl) rfl)) (yF (zo rfl (Uy (yh sl) ls) eqN))).trans (by rw [N6 (by omega)];rfl))).trans rfl
  have s4:sIf (yK (mOp pGt (zm ya (zb (zc 0) (zb (zc 1) (zb (mSl pSl (zc 2) (vW (zc 5)) (vW (zc 7))) zr)))) (zc 3))) (vk (mC (.b false))) yA (gS L home T l D0 (A.length:Int) (some (nmL d)) (some (.i ((A.length:Int) + (d.length:Int)))))=.ok (.nx (gS L home T l D0 (A.length:Int) (some (nmL d)) (some (.i ((A.length:Int) + (d.length:Int)))))):=(yJ (x:=false) ((yF (zo (f:=pGt) (y:=.i l) (zw (zl rfl (zl rfl (zl sl rfl))) (K.ln sd hne)) rfl rfl)).trans (by rw [N6 (by omega)]))).trans rfl
  have s5:sIf (tN (yK (mOp pLt (zc 7) (zm Ze (zb (zc 2) zr)))) (yK (mOp pLe (zm ya (zb (zc 0) (zb (zc 1) (zb (mSl pSl (zc 2) (vW (zc 5)) (vW (mOp yj (zc 7) (mC (.i 1))))) zr)))) (zc 3)))) (vk (mC (.b false))) yA (gS L home T l D0 (A.length:Int) (some (nmL d)) (some (.i ((A.length:Int) + (d.length:Int)))))=.ok (.nx (gS L home T l D0 (A.length:Int) (some (nmL d)) (some (.i ((A.length:Int) + (d.length:Int)))))):=by
   have lt:=yF (zo (ρ:=gS L home T l D0 (A.length:Int) (some (nmL d)) (some (.i ((A.length:Int) + (d.length:Int))))) (a:=zc 7) (f:=pLt) (x:=.i ((A.length:Int) + (d.length:Int))) rfl (lT0 rfl) rfl)
   cases eB:D.flatten with
   | nil=>
    rw [eB] at le
    rw [a0P] at le
    rw [N6 (by omega)] at lt
    exact (yJ (rC lt)).trans rfl
   | cons u X=>
    have hu:=hm u X eB
    have su:(d++[u]).Sublist T:=by
     rw [<- e,eB,show A++d++u :: X=A++(d++[u])++X by simp]
     exact (a08 _ _).trans (a1g _ _)
    have cu:Ux T (some (A.length:Int)) (some ((A.length:Int) + (d.length:Int) + 1))=d++[u]:=by
     rw [<- e,eB,show A++d++u :: X=A++(d++[u])++X by simp,show (A.length:Int) + (d.length:Int) + 1=(A.length:Int) + ((d++[u]).length:Int) by rw [M6,P1];omega]
     exact Bw
    have sl2:=Lr (T:=T) (a:=zc 2) (lo:=zc 5) (hi:=mOp yj (zc 7) (mC (.i 1))) (ρ:=gS L home T l D0 (A.length:Int) (some (nmL d)) (some (.i ((A.length:Int) + (d.length:Int))))) rfl rfl (zo rfl rfl rfl)
    rw [cu] at sl2
    exact (yJ (x:=false) ((rB lt (yF (zo (f:=pLe) (y:=.i l) (zw (zl rfl (zl rfl (zl sl2 rfl))) (K.ln su (by simp))) rfl rfl))).trans (by rw [decide_eq_false hu,Bool.and_false]))).trans rfl
  have eb:wg (gS L home T l D0 (A.length:Int) (some (nmL d)) y)=.ok (.nx (gS L home T l D0 ((A++d).length:Int) (some (nmL d)) (some (.i ((A.length:Int) + (d.length:Int)))))):=by
   rw [show ((A++d).length:Int)=(A.length:Int) + (d.length:Int) by rw [M6];omega]
   exact zf ⟨_,s1,zf ⟨_,yn (zo rfl (ld0 rfl) rfl),zf ⟨_,s3,zf ⟨_,s4,zf ⟨_,s5,rfl⟩⟩⟩⟩⟩
  show (wg (gS L home T l D0 (A.length:Int) (some (nmL d)) y)).bind _=_
  rw [eb];exact e'
def DF (K:Row P F L T home) (e:D.flatten=T) (h:Mx (K43.ln F home) l D):j0 [.dt L,.s home,.l (T.map tP),.i l,.l (D.map fun d=>nmL d)]=.ok (.b true):=by
 obtain ⟨x,y,el⟩:=GJ (l:=l) K (D0:=.l (D.map fun d=>nmL d)) (A:=[]) (x:=none) (y:=none) (by rw [a0z];exact e) h
 exact yc (zf ⟨_,(yJ (x:=false) rfl).trans rfl,zf ⟨_,rfl,zf ⟨_,jj (yh rfl) el,ZP (zo rfl (zw (zl rfl rfl) vO) (Fs.trans (by rw [N7 rfl];rfl)))⟩⟩⟩)
end
section
variable {ns:Nz}{P:MX}{W:List Wy}{F:Str->Ht}{T R:List Tp}{t u:Tp}{home:Str}{L:Lst}
def GK (h:ns≠[]):Ax [.l (ns.map .i)]=.ok (.i (mw ns)):=by
 show v7 ((Aw (ns.map .i)).bind fun ns=>if ns=[] then none else some (PV.i (mw ns)))=_
 rw [iq]
 show v7 (if ns=[] then none else some (PV.i (mw ns)))=_
 rw [if_neg h];rfl
def DG {α:Type}{xs:List α}:(Ux xs lo hi).Sublist xs:=by
 unfold Ux;exact (List.take_sublist _ _).trans (List.drop_sublist _ _)
def xT (K:Row P F L T home) (hF:∀ a b,0<=fd F a b):∃ l:Int,jY [.sc ns,.dt L,.s home,.l (T.map tP)]=.ok (.i l):=by
 obtain ⟨w,w0,w1,ew⟩:=yL (ns:=ns) (k:=100) (m:=8) (by decide) (by decide) (by decide)
 obtain ⟨a,a0,a1,ea⟩:=yL (ns:=ns) (k:=101) (m:=100000000) (by decide) (by decide) (by decide)
 obtain ⟨b,b0,b1,eb⟩:=yL (ns:=ns) (k:=102) (m:=2) (by decide) (by decide) (by decide)
 obtain ⟨z,_,ez⟩:=Bh (xs:=[10 ^ (60:Int).toNat,0 - a]) b0 b1
 have t0:=rA (ρ:=[some (.sc ns),some (.dt L),some (.s home),some (.l (T.map tP)),some (.i w),none,none,none]) (a:=zc 4) (x:=w) (n:=0) rfl
 by_cases c0:w=0
 .rw [N7 c0] at t0
  exact ⟨z,yc (zf ⟨_,yn (zw (xs:=[.sc ns,.i 100,.i 8]) rfl ew),YA ((yJ (rJ t0)).trans (ZP (zo (Kr (zl (x:=.i (10 ^ (60:Int).toNat)) rfl (zl (zo (x:=.i 0) rfl (zw (xs:=[.sc ns,.i 101,.i 100000000]) rfl ea) rfl) rfl)) (N2 rfl)) (zw (xs:=[.sc ns,.i 102,.i 2]) rfl eb) ez)))⟩)⟩
 .rw [N6 c0] at t0
  by_cases hne:T=[]
  .subst hne
   exact ⟨z,yc (zf ⟨_,yn (zw (xs:=[.sc ns,.i 100,.i 8]) rfl ew),YA ((yJ (U4 (y:=true) t0 (yF (zo rfl (Kr rfl (N2 rfl)) rfl)))).trans (ZP (zo (Kr (zl (x:=.i (10 ^ (60:Int).toNat)) rfl (zl (zo (x:=.i 0) rfl (zw (xs:=[.sc ns,.i 101,.i 100000000]) rfl ea) rfl) rfl)) (N2 rfl)) (zw (xs:=[.sc ns,.i 102,.i 2]) rfl eb) ez)))⟩)⟩
  .have ef:JQ false (.l (T.map tP)) (.l [])=.ok (.b false):=by
    cases T with
    | nil=>exact absurd rfl hne
    | cons t R=>rfl
   have q1:=fun P Q=>yJ (a:=P) (b:=Q) (U4 t0 (yF (zo (a:=zc 3) (b:=W4 zr) rfl (Kr rfl (N2 rfl)) ef)))
   have lT:=K.len
   have lp:=a1K.mpr hne
   have s5:lcP QN QO QP (T.map tP) [none,some (.dt L),some (.s home)] []=.ok (.l ((T.map fun t=>ln F home [t]).map .i)):=by
    rw [a0n]
    exact K1 tP (fun t=>PV.i (ln F home [t])) (fun ρ=>∃ o,ρ=[o,some (.dt L),some (.s home)]) _ _ ⟨none,rfl⟩ (fun t ht ρ ⟨o,ho⟩=>by subst ho;exact ⟨_,rfl,⟨_,rfl⟩,zw (zl rfl (zl rfl (zl (Kr rfl (N2 rfl)) rfl))) (K.ln (R:=[t]) (List.singleton_sublist.mpr ht) (by simp))⟩) (by omega)
   obtain ⟨g,eg⟩:∃ i,mw (T.map fun t=>ln F home [t])=i:=⟨_,rfl⟩
   have m5:Ax [.l ((T.map fun t=>ln F home [t]).map .i)]=.ok (.i g):=by rw [<- eg];exact GK (by simpa using hne)
   have g0:0<=g:=by
    have:=bq (ns:=T.map fun t=>ln F home [t]) (by simpa using hne)
    rw [eg] at this
    obtain ⟨t,ht,e⟩:=a0b.mp this
    have h1:=hF home t.2.1
    have h2:=hF t.2.2.1 home
    have h3:=(K.ok t ht).fw
    have:ln F home [t]=fd F home t.2.1 + t.2.2.2.2.1 - t.2.2.2.1 + 0 + fd F t.2.2.1 home:=rfl
    omega
   have t5:=Bf (ρ:=[some (.sc ns),some (.dt L),some (.s home),some (.l (T.map tP)),some (.i w),some (.i g),none,none]) (a:=zc 4) (x:=w) (n:=5) rfl
   have t6:=rA (ρ:=[some (.sc ns),some (.dt L),some (.s home),some (.l (T.map tP)),some (.i w),some (.i g),none,none]) (a:=zc 4) (x:=w) (n:=5) rfl
   have lT0:∀ {ρ:Sto},zc 3 ρ=.ok (.l (T.map tP))->zm Ze (zb (zc 3) zr) ρ=.ok (.i (T.length:Int)):=fun h=>zw (zl h rfl) vO
   by_cases c1:w < 5
   .rw [N7 c1] at t5
    obtain ⟨f,f0,f1,ef1⟩:=yL (ns:=ns) (k:=101) (m:=(T.length:Int)) (by decide) (by decide) (by omega)
    obtain ⟨h,h0,h1,eh⟩:=yL (ns:=ns) (k:=102) (m:=(T.length:Int) - f) (by decide) (by decide) (by omega)
    have cn:Ux T (some f) (some (f + 1 + h))≠[]:=fun hn=>by
     have:=S0 List.length hn
     unfold Ux at this
     rw [six (by omega),six (by omega),a0W,a16,a0P] at this
     omega
    exact ⟨_,yc (zf ⟨_,yn (zw (xs:=[.sc ns,.i 100,.i 8]) rfl ew),zf ⟨_,(q1 _ _).trans rfl,zf ⟨_,yn (zw (zl (Uy (yh rfl) s5) rfl) m5),YA ((yJ t5).trans (zf ⟨_,yn (zw (xs:=[.sc ns,.i 101,.i (T.length:Int)]) (zl rfl (zl rfl (zl (lT0 rfl) rfl))) ef1),zf ⟨_,yn (zo (zo rfl rfl rfl) (zw (xs:=[.sc ns,.i 102,.i ((T.length:Int) - f)]) (zl rfl (zl rfl (zl (zo (lT0 rfl) rfl rfl) rfl))) eh) rfl),ZP (zw (zl rfl (zl (zo (zw (zl rfl (zl rfl (zl (Lr rfl rfl rfl) rfl))) (K.ln DG cn)) (rq rfl (by decide)) rfl) rfl)) rfl)⟩⟩))⟩⟩⟩)⟩
   .rw [N6 c1] at t5
    by_cases c2:w=5
    .rw [N7 c2] at t6
     exact ⟨_,yc (zf ⟨_,yn (zw (xs:=[.sc ns,.i 100,.i 8]) rfl ew),zf ⟨_,(q1 _ _).trans rfl,zf ⟨_,yn (zw (zl (Uy (yh rfl) s5) rfl) m5),zf ⟨_,(yJ t5).trans rfl,YA ((yJ t6).trans (ZP (zo rfl (zw (xs:=[.sc ns,.i 102,.i 2]) rfl eb) rfl)))⟩⟩⟩⟩)⟩
    .rw [N6 c2] at t6
     obtain ⟨f,f0,f1,ef1⟩:=yL (ns:=ns) (k:=101) (m:=1 + g) (by decide) (by decide) (by omega)
     exact ⟨_,yc (zf ⟨_,yn (zw (xs:=[.sc ns,.i 100,.i 8]) rfl ew),zf ⟨_,(q1 _ _).trans rfl,zf ⟨_,yn (zw (zl (Uy (yh rfl) s5) rfl) m5),zf ⟨_,(yJ t5).trans rfl,zf ⟨_,(yJ t6).trans rfl,ZP (zo rfl (zw (xs:=[.sc ns,.i 101,.i (1 + g)]) (zl rfl (zl rfl (zl (zo rfl rfl rfl) rfl))) ef1) rfl)⟩⟩⟩⟩⟩)⟩
def sh (m:Int) (k:Nat) (t:Tp):Tp:=(t.1,t.2.1,t.2.2.1,t.2.2.2.1 + (k:Int) * m,t.2.2.2.2.1 + (k:Int) * m + m,t.2.2.2.2.2)
def shl (m:Int):Nat->List Tp->List Tp
 | _,[]=>[]
 | k,t :: R=>sh m k t :: shl m (k + 1) R
def sP {m:Int}:∀ {R:List Tp}{k:Nat},shl m k (R++[t])=shl m k R++[sh m (k + R.length) t]
 | [],k=>rfl
 | u :: R,k=>by
  show sh m k u :: shl m (k + 1) (R++[t])=sh m k u :: (shl m (k + 1) R++[sh m (k + (R.length + 1)) t])
  rw [sP (R:=R),show k + 1 + R.length=k + (R.length + 1) by omega]
def gG {m:Int}:∀ {R:List Tp}{k:Nat},(shl m k R).length=R.length
 | [],_=>rfl
 | _ :: R,k=>S0 (· + 1) (gG (R:=R) (k:=k + 1))
def sQ {m:Int}:∀ {R:List Tp}{k:Nat},(shl m k R).map (·.1)=R.map (·.1)
 | [],_=>rfl
 | t :: R,k=>S0 (t.1 :: ·) (sQ (R:=R) (k:=k + 1))
def gH {m:Int}:∀ {R:List Tp}{k:Nat}{u:Tp},u∈shl m k R->∃ j t,k<=j/\j < k + R.length/\t∈R/\u=sh m j t
 | [],_,_,h=>by cases h
 | t :: R,k,u,h=>by
  rcases O5.mp h with rfl | h
  .exact ⟨k,t,N1 _,by rw [v0];omega,v4,rfl⟩
  .obtain ⟨j,v,h1,h2,h3,h4⟩:=gH h
   exact ⟨j,v,by omega,by rw [v0];omega,M9 _ h3,h4⟩
def sR {m:Int}(hm:0<=m):∀ {R:List Tp}{k:Nat},R.Pairwise (Lnk F)->(shl m k R).Pairwise (Lnk F)
 | [],_,_=>List.Pairwise.nil
 | t :: R,k,h=>by
  rw [a1e] at h
  refine a1e.mpr ⟨fun u hu=>?_,sR hm h.2⟩
  obtain ⟨j,v,h1,_,h3,rfl⟩:=gH hu
  obtain ⟨y,e,l⟩:=h.1 v h3
  refine ⟨y,e, ?_⟩
  show t.2.2.2.2.1 + (k:Int) * m + m + y<=v.2.2.2.1 + (j:Int) * m
  have:((k:Int) + 1) * m<=(j:Int) * m:=Int.mul_le_mul_of_nonneg_right (by omega) hm
  rw [Int.add_mul,a24] at this
  omega
def GL (hm:0<=m) (h3:m<=3000000) (hl:T.length<=12) (hT:∀ t∈T,TOk P F t/\t.2.2.2.2.1<=519000000):∀ u∈shl m 0 T,TOk P F u:=fun u hu=>by
 obtain ⟨j,t,_,hj,ht,rfl⟩:=gH hu
 obtain ⟨⟨a,b,⟨y,ey,ly⟩,c,d,e,f⟩,g⟩:=hT t ht
 have q0:0<=(j:Int) * m:=Int.mul_nonneg (by omega) hm
 have q1:(j:Int) * m<=12 * 3000000:=Int.mul_le_mul (by omega) h3 hm (by decide)
 exact ⟨a,b,⟨y,ey,by show y<=t.2.2.2.2.1 + (j:Int) * m + m - (t.2.2.2.1 + (j:Int) * m);omega⟩,by show 0<=t.2.2.2.1 + (j:Int) * m;omega,by show t.2.2.2.1 + (j:Int) * m < t.2.2.2.2.1 + (j:Int) * m + m;omega,by show t.2.2.2.2.1 + (j:Int) * m + m<=_;omega,f⟩
def xU (hl:T.length<=12) (hm:0<=m) (h3:m<=3000000):jX [.l (T.map tP),.i m]=.ok (.l ((shl m 0 T).map tP)):=by
 obtain ⟨ρ',⟨x3,x4,x5,x6,x7,x8,x9,rfl⟩,e⟩:=JW (g:=Kh) (b:=Ki) (fun k ρ=>∃ x3 x4 x5 x6 x7 x8 x9,ρ=[some (.l (T.map tP)),some (.i m),some (.l ((shl m 0 (T.take k)).map tP)),x3,x4,x5,x6,x7,x8,x9]) T.length [some (.l (T.map tP)),some (.i m),some (.l []),none,none,none,none,none,none,none] ⟨none,none,none,none,none,none,none,rfl⟩ (fun k hk ρ ⟨x3,x4,x5,x6,x7,x8,x9,hρ⟩=>by
  subst hρ
  refine ⟨_,rfl,_,⟨some (.i (k:Int)),some (.s T[k].1),some (.s T[k].2.1),some (.s T[k].2.2.1),some (.i T[k].2.2.2.1),some (.i T[k].2.2.2.2.1),some (.i T[k].2.2.2.2.2),rfl⟩,.inl (zf ⟨[some (.l (T.map tP)),some (.i m),some (.l ((shl m 0 (T.take k)).map tP)),some (.i (k:Int)),some (.s T[k].1),some (.s T[k].2.1),some (.s T[k].2.2.1),some (.i T[k].2.2.2.1),some (.i T[k].2.2.2.2.1),some (.i T[k].2.2.2.2.2)], ?_,(rV (y:=tP (sh m k T[k])) rfl (Y0 (zl rfl (zl rfl (zl rfl (zl (zo rfl (zo rfl rfl (v8 (by omega) (by omega))) rfl) (zl (zo (zo rfl (zo rfl rfl (v8 (by omega) (by omega))) rfl) rfl rfl) (zl rfl rfl)))))) (N2 rfl)) (by rw [u8,gG,a0W];omega)).trans ?_⟩)⟩
  .unfold He
   rw [zo rfl rfl (Ll hk),okb];rfl
  .rw [R8 hk,sP,a0W,a1F (by omega),a2g,O6];rfl)
 rw [a0p] at e
 exact yc (zf ⟨_,rfl,zf ⟨_,jj (bw (zl (zw (xs:=[.l (T.map tP)]) rfl vO) rfl) (by omega) (by omega)) (by rw [a1o];exact e),rfl⟩⟩)
end
def GN:(AL G (E1++d :: E2)).set (G.length + 1 + E1.length) (.l (d'.map .v))=AL G (E1++d' :: E2):=by
 show (G++LL G.length (E1++d :: E2)).set _ _=G++LL G.length (E1++d' :: E2)
 rw [a0e _ _ (by omega),show G.length + 1 + E1.length - G.length=E1.length + 1 by omega]
 unfold LL
 rw [a20,O6,O6,M6,M6]
 congr 2
 rw [a0e _ _ (by rw [u8];exact N1 _),u8,a1D];rfl
def DH {G X:AH}{k:Nat}{y:Cell}(h:G.length<=k):∃ B,(G++X).set k y=G++B:=⟨_,a0e _ _ h⟩
def sS (h:m ρ G=.ok x G1) (hg:g x ρ=some ρ'):Hg g m ρ G=.nx ρ' G1:=by
 unfold Hg;rw [h]
 show (match g x ρ with | some ρ'=>HFw.nx ρ' G1 | none=>.wall)=_
 rw [hg]
def Ho (h:∀ x∈xs,∃ z,x=.s z):JQ n (.t xs) (.t xs)=.ok (.b (xor n true)):=by
 have ps:∀ {xs:Nj},(∀ x∈xs,∃ z,x=PV.s z)->tO (fj 7) xs xs=some true:=fun {xs} h=>by
  induction xs with
  | nil=>rfl
  | cons x xs ih=>
   obtain ⟨z,rfl⟩:=h x v4
   show E6 (fj 7 (.s z) (.s z)) (tO (fj 7) xs xs)=_
   rw [AE,N7 rfl,ih fun y hy=>h y (M9 _ hy)];rfl
 unfold JQ
 rw [show DU 8 (.t xs) (.t xs)=some true from ps h]
def DI {r:Rfz}{n:Bool}:JQ n r.word r.word=.ok (.b (xor n true)):=by
 cases r with
 | way a b=>exact Ho fun x hx=>by simp only [List.mem_cons,List.not_mem_nil,or_false] at hx;rcases hx with rfl | rfl | rfl <;> exact ⟨_,rfl⟩
 | long a=>exact Ho fun x hx=>by simp only [List.mem_cons,List.not_mem_nil,or_false] at hx;rcases hx with rfl | rfl <;> exact ⟨_,rfl⟩
def DJ {r:Rfz}:JQ false r.word (.t [.s "right"])=.ok (.b false):=by
 cases r <;> rfl
def GO {α:Type}{ln:List α->Int}{l:Int}:∀ {D:List (List α)},Mx ln l D->∀ d∈D,d≠[]
 | [],_,d,hd=>by cases hd
 | e :: D,⟨a,_,_,b⟩,d,hd=>by
  rcases O5.mp hd with rfl | hd
  .exact a
  .exact GO b d hd
def GP {G:AH}{ρ:ZW}(hρ:ρ.length=21) (hk:∀ x:HV,yB 21 (ρ++[some x])=fun G=>HX.ok x G):∀ {E2 E1:List (List PV)}{x:Option HV},(∀ d∈E2,d.length<=100)->∃ E3 x',E3.length=E1.length + E2.length/\vX G.length cy cz E2.length E1.length (ρ++[x]) (AL G (E1++E2))=.nx (ρ++[x']) (AL G E3)
 | [],E1,x,_=>⟨E1,x,rfl,by rw [O9];exact eS DB (by simp)⟩
 | d :: E2,E1,x,hd=>by
  obtain ⟨E3,x',l3,e'⟩:=GP (G:=G) hρ hk (E2:=E2) (E1:=E1++[d++[.s "more"]]) (x:=some (.g (G.length + 1 + E1.length))) fun d hd'=>hd d (M9 _ hd')
  rw [M6,P1] at e'
  refine ⟨E3,x',by rw [l3,M6,P1,v0];omega,mX (x:=.g (G.length + 1 + E1.length)) (ρ1:=ρ++[some (.g (G.length + 1 + E1.length))]) (ρ2:=ρ++[some (.g (G.length + 1 + E1.length))]) DB (by simp) ?_ ?_ e'⟩
  .show some ((ρ++[x]).set 21 _)=_
   rw [a0e _ _ (by omega),hρ];rfl
  .have c:(AL G (E1++d :: E2))[G.length + 1 + E1.length]? = some (.l (d.map .v)):=by
    rw [DC (by simp)];simp
   refine (cP (k:=G.length + 1 + E1.length) (congrFun (hk _) _) c (hPc (m:=mC (.s "more")) (x:=.s "more") fun _=>rfl) c (by rw [u8];have:=hd d v4;omega)).trans ?_
   rw [show (d.map HV.v++[HV.v (PV.s "more")])=(d++[PV.s "more"]).map HV.v by rw [O6];rfl,GN,show E1++(d++[PV.s "more"]) :: E2=E1++[d++[PV.s "more"]]++E2 by simp]
section
variable {ns:Nz}{P:MX}{W:List Wy}{F:Str->Ht}{L:Lst}{c l:Int}{T Tl R T':List Tp}{home oth h:Str}{kt:Nat}{GC B:AH}{a6 a7 a8 a9 a10 a11 a12:HV}
abbrev lB (ns:Nz) (c:Int) (P:MX) (W:List Wy) (L:Lst) (T:List Tp) (a6 a7 a8 a9 a10 a11 a12:HV) (r:ZW):ZW:=[some (.v (.sc ns)),some (.v (.i c)),some (.v (.l (P.map .s))),some (.v (.l (W.map wP))),some (.v (.dt L)),some (.v (.l (T.map tP))),some a6,some a7,some a8,some a9,some a10,some a11,some a12]++r
def it (kt:Nat) (R:List Tp) (h:Str) (l:Int):HV:=.t [.g kt,.v (.l (R.map tP)),.v (.s h),.v (.i l)]
def DK (lok:LOk P L F) (K:Tab P W F T' R h) (en:nms R=nms T) (tab:∀ X,v_ (GC++X) 8 (.g kt)=some (tb P W F T')):∃ y17 y18 y19 y20 y21 B',Kp (lB ns c P W L T a6 a7 a8 a9 a10 a11 a12 [some (.g kt),some (.v (.l (R.map tP))),some (.v (.s h)),some (.v (.i l)),x17,x18,x19,x20,x21]) (GC++B)=.nx (lB ns c P W L T a6 a7 a8 a9 a10 a11 a12 [some (.g kt),some (.v (.l (R.map tP))),some (.v (.s h)),some (.v (.i l)),y17,y18,y19,y20,y21]) (GC++B'):=by
 have lR:=K.len
 have lT:T.length=R.length:=by have:=S0 List.length en;rw [u8,u8] at this;exact this.symm
 have ls:∀ {g:MG}{m:ME},g=gNm 0->m=mOp pIx (zc 0) (mC (.i 0))->lcP g pd m (T.map tP) [none] []=.ok (.l (nms R)):=fun hg hm=>by
  subst hg hm
  rw [en]
  exact K1 tP (fun t=>PV.s t.1) (fun ρ=>∃ o,ρ=[o]) _ _ ⟨none,rfl⟩ (fun t _ ρ ⟨o,ho⟩=>by subst ho;exact ⟨_,rfl,⟨_,rfl⟩,zo rfl rfl rfl⟩) (by omega)
 obtain ⟨G,hG⟩:∃ G,GC++B=G:=⟨_,rfl⟩
 rw [hG]
 have lG:GC.length<=G.length:=by rw [<- hG,M6];omega
 have E:sI P W F T' R kt G.length (G++[.l ((nms R).map .v)]):=⟨fun X=>by rw [<- hG,P2,P2];exact tab _,by simp⟩
 have as:=xR (l:=l) K E
 have du:=GI (l:=l) (R:=R) lok K.here fun t ht=>K.ok t (K.sub t ht)
 unfold Lq at du
 have rw17:∀ X,v_ (G++[.l ((nms R).map .v)]++X) 8 (.g G.length)=some (.l (nms R)):=fun X=>sD (n:=6) (gL (by simp))
 have pre:∀ X:AH,∃ Y,G++X=GC++Y:=fun X=>⟨B++X,by rw [<- hG,P2]⟩
 have lg1:(G++[Cell.l ((nms R).map .v)]).length=G.length + 1:=by simp
 have end_:∀ {X:AH}{ρ:ZW},(∀ H,yB 17 ρ H=.ok (.g G.length) H)->∃ B',pS (yB 17) (hP [] (mC (.s "more"))) ρ (G++[.l ((nms R).map .v)]++X)=.nx ρ (GC++B'):=fun {X ρ} hv=>by
  have cc:(G++[Cell.l ((nms R).map .v)]++X)[G.length]? = some (.l ((nms R).map .v)):=gL (by simp)
  obtain ⟨Y,eY⟩:=pre ([Cell.l ((nms R).map .v)]++X)
  obtain ⟨B',eB⟩:=DH (G:=GC) (X:=Y) (k:=G.length) (y:=.l ((nms R).map .v++[.v (.s "more")])) lG
  refine ⟨B',(cP (k:=G.length) (hv _) cc (hPc (m:=mC (.s "more")) (x:=.s "more") fun _=>rfl) cc (by rw [u8,u8];omega)).trans ?_⟩
  rw [P2,eY,eB]
 have ne:∀ {X:AH}{w d:PV}{x20 x21:Option HV},JQ true w d=.ok (.b false)->hIf (hPT [false,false,false,false,false,true,false,false,false,false,false,false,false,false,false,false,false,true,true,true] (mOr (yK (mOp (JQ true) (zc 19) (zc 18))) (yK (mOp (JQ true) (zc 17) (mLC (yV (zc 5)) [none] iY iZ i4))))) (nu (hP [] (mC (.b false)))) mG (lB ns c P W L T a6 a7 a8 a9 a10 a11 a12 [some (.g kt),some (.v (.l (R.map tP))),some (.v (.s h)),some (.v (.i l)),some (.g G.length),some (.v d),some (.v w),x20,x21]) (G++[.l ((nms R).map .v)]++X)=.nx (lB ns c P W L T a6 a7 a8 a9 a10 a11 a12 [some (.g kt),some (.v (.l (R.map tP))),some (.v (.s h)),some (.v (.i l)),some (.g G.length),some (.v d),some (.v w),x20,x21]) (G++[.l ((nms R).map .v)]++X):=fun {X w d x20 x21} hw=>(mQ (cG (b:=false) rfl (Ys (Ys (Ys (Ys (Ys (Ks rfl (Ys (Ys (Ys (Ys (Ys (Ys (Ys (Ys (Ys (Ys (Ys (Ks (rw17 X) (Ks rfl (Ks rfl (Df (Df De)))))))))))))))))))))) (U4 (x:=false) (y:=false) (yF (zo rfl rfl hw)) (yF (zo rfl (Uy (yh rfl) (ls rfl rfl)) (eqN (R:=R))))))).trans rfl
 cases er:rfs F h l R with
 | some r=>
  rw [er] at as du
  have we:JQ true r.word r.word=.ok (.b false):=DI
  obtain ⟨B',eE⟩:=end_ (X:=[.l []]) (ρ:=lB ns c P W L T a6 a7 a8 a9 a10 a11 a12 [some (.g kt),some (.v (.l (R.map tP))),some (.v (.s h)),some (.v (.i l)),some (.g G.length),some (.v r.word),some (.v r.word),some (.v .n),x21]) fun _=>rfl
  exact ⟨_,_,_,_,_,B',zN (yZ (DD (c:=.l ((nms R).map .v)) rfl (Uy (yh rfl) (ls rfl rfl)) rfl)) (zN (yZ (Uv rfl (zw rfl du))) (zN (sS (show pP km (zF (yB 13) (zF (yB 15) (zF (yB 17) (zF (yB 16) K5)))) _ _=_ from as) rfl) (zN (ne we) (zN ((mQ (rE (b:=false) rfl (yF (zo rfl (Y0 rfl (N2 rfl)) DJ)))).trans rfl) eE))))⟩
 | none=>
  rw [er] at as du
  have hf:=cN er
  have mx:=Gx (ln:=ln F h) (l:=l) (T:=R) fun t ht=>(hf t ht).le
  have fl:=Gw (ln:=ln F h) (l:=l) (T:=R)
  have gd:=DF (l:=l) (L:=L) ⟨lok,fun t ht=>K.ok t (K.sub t ht),K.lnk,K.here,K.len⟩ fl mx
  generalize Dz (ln F h) l R=D at as mx fl gd
  obtain ⟨G0,hG0⟩:∃ G0,G++[Cell.l ((nms R).map .v)]++[.l []]=G0:=⟨_,rfl⟩
  rw [hG0] at as
  have l0:G0.length=G.length + 2:=by rw [<- hG0];simp
  have dl:∀ d∈D.map nms,d.length<=100:=fun d hd=>by
   obtain ⟨e,he,rfl⟩:=a0b.mp hd
   have:=(show e.Sublist R by rw [<- fl];exact List.sublist_flatten_of_mem he).length_le
   rw [u8];omega
  have lD:D.length<=12:=by have:=cQ (GO mx);rw [fl] at this;omega
  have hx:∀ E,∃ X,AL G0 E=G++[.l ((nms R).map .v)]++X:=fun E=>⟨[.l []]++LL G0.length E,by rw [<- hG0];simp⟩
  let s0:ZW:=lB ns c P W L T a6 a7 a8 a9 a10 a11 a12 [some (.g kt),some (.v (.l (R.map tP))),some (.v (.s h)),some (.v (.i l)),some (.g G.length),some (.v (.t [.s "right"])),some (.v (.t [.s "right"])),some (.g G0.length)]
  let st:Option HV->ZW:=fun x=>s0++[x]
  obtain ⟨E3,x',l3,el⟩:=GP (G:=G0) (ρ:=s0) rfl (fun _=>rfl) (E2:=D.map nms) (E1:=[]) (x:=x21) dl
  rw [a0z] at el
  obtain ⟨X,eX⟩:=hx (D.map nms)
  obtain ⟨X2,eX2⟩:=hx (E3++[[.s "more"]])
  obtain ⟨B',eE⟩:=end_ (X:=X2) (ρ:=st x') fun _=>rfl
  have n4:=ne (X:=X) (w:=.t [.s "right"]) (d:=.t [.s "right"]) (x20:=some (.g G0.length)) (x21:=x21) (Ho (n:=true) fun x hx=>by rw [M8.mp hx];exact ⟨_,rfl⟩)
  rw [<- eX] at n4
  rw [<- eX2] at eE
  have gd':j0 [.dt L,.s h,.l (R.map tP),.i l,.l ((D.map nms).map .l)]=.ok (.b true):=by rw [a0n];exact gd
  rw [show (G++[Cell.l ((nms R).map .v)]).length + 1=G0.length by rw [lg1,l0]] at as
  rw [<- show ((List.range (D.map nms).length).map fun i=>HV.g (G0.length + 1 + i)).length=(D.map nms).length by simp] at el
  have f20:=Kt (m:=yB 20) (ρ:=st x21) (g:=cy) (b:=cz) rfl DB el
  have p20:=sF (G:=G0) (D:=E3) (p:=[.s "more"]) (mo:=yB 20) (ρ:=st x') rfl (DD (bs:=[]) (m:=W4 (zb (mC (.s "more")) zr)) rfl (Kr rfl (N2 rfl)) rfl) (by rw [l3,u8];show 0 + _<=_;omega)
  exact ⟨_,_,_,_,_,B',zN (yZ (DD (c:=.l ((nms R).map .v)) rfl (Uy (yh rfl) (ls rfl rfl)) rfl)) (zN (yZ (Uv rfl (zw rfl du))) (zN (sS (show pP km (zF (yB 13) (zF (yB 15) (zF (yB 17) (zF (yB 16) K5)))) _ _=_ from as) rfl) (zN n4 (zN ((Gg (rE (b:=true) rfl (yF (zo rfl (Y0 rfl (N2 rfl)) (Ho (n:=false) fun x hx=>by rw [M8.mp hx];exact ⟨_,rfl⟩))))).trans (zN ((mQ (cG (b:=false) rfl (Ys (Ys (Ys (Ys (Ks rfl (Ys (Ys (Ys (Ys (Ys (Ys (Ys (Ys (Ys (Ks rfl (Ks rfl (Ks rfl (Ys (Ys (Ys (Ks sE (Df De)))))))))))))))))))))) (Bg (yF (zw rfl gd'))))).trans rfl) (zN f20 p20))) eE))))⟩
end
def qO (h:m ρ G=.ok x G1) (h2:ms ρ G1=.ok xs G2):zF m ms ρ G=.ok (x :: xs) G2:=by
 unfold zF;rw [h]
 show (ms ρ G1).bind _=_
 rw [h2];rfl
def Bx (h:ms ρ G=.ok xs G1) (hg:g (.g G1.length :: xs) (G1++[.o c []])=.ok (.v .n) G2):DX c g ms ρ G=.ok (.g G1.length) G2:=by
 unfold DX;rw [h]
 show (match g (.g G1.length :: xs) (G1++[.o c []]) with
  | .ok (.v .n) G2=>HX.ok (HV.g G1.length) G2
  | .exc c fs G2=>.exc c fs G2
  | _=>.wall)=_
 rw [hg]
def rok (hW:WS P W) (nd:P.Nodup) (hP:∀ z∈P,Nm z) (h1:P.length<=5) (h2:W.length<=13):ROk P W:=by
 constructor <;> first | exact nd | exact hP | omega | exact hW.ok
def By {g:HMG}{b:HMS}{GC:AH}{k:Nat}{xs:List HV}{J:ZW->Prop}(hk:∀ B,(GC++B)[k]? = some (.l xs)):∀ {ys zs:List HV}{ρ:ZW}{B:AH},zs++ys=xs->J ρ->(∀ y∈ys,∀ ρ B,J ρ->∃ ρ1,g y ρ=some ρ1/\∃ ρ2 B2,b ρ1 (GC++B)=.nx ρ2 (GC++B2)/\J ρ2)->∃ ρ' B',J ρ'/\vX k g b ys.length zs.length ρ (GC++B)=.nx ρ' (GC++B')
 | [],zs,ρ,B,e,h,_=>⟨ρ,B,h,eS (hk B) (by rw [<- e,O9];simp)⟩
 | y :: ys,zs,ρ,B,e,h,hs=>by
  obtain ⟨ρ1,e1,ρ2,B2,e2,h2⟩:=hs y v4 ρ B h
  obtain ⟨ρ',B',h',e'⟩:=By hk (ys:=ys) (zs:=zs++[y]) (B:=B2) (by rw [<- e];simp) h2 fun z hz=>hs z (M9 _ hz)
  rw [M6,P1] at e'
  exact ⟨ρ',B',h',mX (hk B) (by rw [<- e];simp) e1 e2 e'⟩
def sT (h:ms ρ G=.ok xs G1) (hl:xs.length<=sizeLine):CM ms ρ G=.ok (.g G1.length) (G1++[.l xs]):=by
 unfold CM;rw [h]
 show (if xs.length<=sizeLine then HX.ok (HV.g G1.length) (G1++[.l xs]) else .wall)=_
 rw [if_pos hl]
def DL (h1:m1 ρ G=.ok (.g k) G1) (h2:m2 ρ G1=.ok (.g i) G2) (e1:G2[k]? = some (.l xs)) (e2:G2[i]? = some (.l ys)) (hl:xs.length + ys.length<=sizeLine):FY m1 m2 ρ G=.ok (.g G2.length) (G2++[Cell.l (xs++ys)]):=by
 unfold FY;rw [h1]
 show ((m2 ρ G1).bind _)=_
 rw [h2]
 show (match G2[k]?,G2[i]? with
   | some (.l xs),some (.l ys)=>if xs.length + ys.length<=sizeLine then HX.ok (HV.g G2.length) (G2++[Cell.l (xs++ys)]) else .wall
   | _,_=>.wall)=_
 rw [e1,e2];dsimp only;rw [if_pos hl]
def Uc (hm:ms ρ G=.ok [.g k,.v (.l (R.map tP)),.v (.s h),.v (.i l)] G1):iF ms ρ G=.ok (it k R h l) G1:=by
 unfold iF;rw [hm];rfl
def xV (ns:Nz) (_:ns.length<=k):∃ G,Be [.v (.sc ns)] []=.ok (.v (.b true)) G:=by
 obtain ⟨x1,x10,x11,ex1⟩:=yL (ns:=ns) (k:=3) (m:=3) (by decide) (by decide) (by decide)
 obtain ⟨c,hc,ec⟩:=Bh (xs:=[1,40,100000]) x10 x11
 have c01:1<=c/\c<=100000:=by
  simp only [List.mem_cons,List.not_mem_nil,or_false] at hc
  omega
 obtain ⟨x2,x20,x21,ex2⟩:=yL (ns:=ns) (k:=2) (m:=5) (by decide) (by decide) (by decide)
 obtain ⟨n,hn⟩:=a0J x20
 subst hn
 obtain ⟨a,b,ab,ea⟩:=lE (ns:=ns) (k:=0) (by decide) (by decide)
 obtain ⟨a',b',ab',ea'⟩:=lE (ns:=ns) (k:=7) (by decide) (by decide)
 obtain ⟨P,eP⟩:∃ P:List Str,(List.range (1 + n)).map (nmX a b)=P:=⟨_,rfl⟩
 have lP:P.length=1 + n:=by rw [<- eP,u8,T4]
 have ndP:P.Nodup:=by rw [<- eP];exact Bo (by omega)
 have nmP:∀ z∈P,Nm z:=fun z hz=>by
  rw [<- eP] at hz
  obtain ⟨k,hk,rfl⟩:=a0b.mp hz
  exact Bn ab (by have:=a0i.mp hk;omega)
 have s2:lcP iV iW iX (ir 0 (1 + n)) [none,some (.sc ns)] []=.ok (.l (P.map .s)):=by
  rw [ix,<- eP,a0n]
  exact K1 (fun k:Nat=>PV.i (k:Int)) (fun k=>PV.s (nmX a b k)) (fun ρ=>∃ o,ρ=[o,some (.sc ns)]) _ _ ⟨none,rfl⟩ (fun k hk ρ ⟨o,ho⟩=>by subst ho;exact ⟨_,rfl,⟨_,rfl⟩,zw rfl (ea k (by have:=a0i.mp hk;omega))⟩) (by rw [T4];omega)
 obtain ⟨x3,_,_,ex3⟩:=yL (ns:=ns) (k:=9) (m:=4) (by decide) (by decide) (by decide)
 obtain ⟨W,lW,wsW,eW⟩:=xJ (ns:=ns) (N:=P) (c:=c) (d:=decide (x3 > 0)) (by omega) (by omega) c01.1 c01.2
 have R:=rok wsW ndP nmP (by omega) lW
 obtain ⟨F,kF⟩:=gB R
 have gF:=fun z=>(kF z).1
 obtain ⟨L,hL,eL⟩:=gC wsW (by omega) (by omega) gF
 have far:∀ o∈P,∀ z y,zS (F o) (sk z)=some y->0<=y/\y<=12000000:=fun o ho z y e=>by
  have:=mT wsW (gF o) ho e
  omega
 have nn:∀ a b,0<=fd F a b:=fun a b=>by
  unfold fd
  cases e:zS (F a) (sk b) with
  | none=>exact a0h _
  | some y=>exact (gF a).1.pos _ _ e
 obtain ⟨x4,x40,x41,ex4⟩:=yL (ns:=ns) (k:=8) (m:=13) (by decide) (by decide) (by decide)
 obtain ⟨m,hm⟩:=a0J x40
 subst hm
 obtain ⟨T,hT,lT,bT,eT⟩:=sf (ns:=ns) (m:=m) wsW gF hL (by omega) far c01.1 c01.2 ea' (by omega)
 have ndT:(T.map (·.1)).Nodup:=by rw [hT.nms];exact Bo (by omega)
 have nmT:∀ z∈T.map (·.1),Nm z:=fun z hz=>by
  rw [hT.nms] at hz
  obtain ⟨k,hk,rfl⟩:=a0b.mp hz
  exact Bn ab' (by have:=a0i.mp hk;omega)
 have i1:=Dm R (fun z=>(kF z).2)
 obtain ⟨Tr,eTr⟩:∃ Tr,T.reverse=Tr:=⟨_,rfl⟩
 have mTr:∀ t,t∈Tr↔t∈T:=fun t=>by rw [<- eTr,List.mem_reverse]
 have ndTr:(Tr.map (·.1)).Nodup:=by rw [<- eTr,List.map_reverse];exact (List.reverse_perm _).nodup_iff.mpr ndT
 have lTr:Tr.length=T.length:=by rw [<- eTr,a1J]
 obtain ⟨x6,x60,x61,ex6⟩:=yL (ns:=ns) (k:=18) (m:=(P.length:Int)) (by decide) (by decide) (by omega)
 obtain ⟨home,hh,eh⟩:=QH (xs:=P) x60 x61
 obtain ⟨x7,x70,x71,ex7⟩:=yL (ns:=ns) (k:=20) (m:=(P.length:Int)) (by decide) (by decide) (by omega)
 obtain ⟨oth,ho,eo⟩:=QH (xs:=P) x70 x71
 obtain ⟨l,el⟩:=xT (ns:=ns) (T:=T) (home:=home) (L:=L) (F:=F) ⟨hL,hT.ok,hT.lnk,hh,by omega⟩ nn
 obtain ⟨x8,x80,x81,ex8⟩:=yL (ns:=ns) (k:=103) (m:=30 * c) (by decide) (by decide) (by omega)
 obtain ⟨Tl,eTl⟩:∃ Tl,shl (1 + x8) 0 T=Tl:=⟨_,rfl⟩
 have la:=xU (T:=T) (m:=1 + x8) (by omega) (by omega) (by omega)
 rw [eTl] at la
 have okl:∀ t∈Tl,TOk P F t:=by rw [<- eTl];exact GL (by omega) (by omega) (by omega) fun t ht=>⟨hT.ok t ht,bT t ht⟩
 have nml:Tl.map (·.1)=T.map (·.1):=by rw [<- eTl];exact sQ
 have lkl:Tl.Pairwise (Lnk F):=by rw [<- eTl];exact sR (by omega) hT.lnk
 have lTl:Tl.length=T.length:=by rw [<- eTl];exact gG
 have hO:∀ o,zS (F o) (sk o)=some 0:=fun o=>(gF o).1.own
 have K0:∀ {h:Str},h∈P->Tab P W F Tr T h:=fun hh=>⟨ndTr,fun t ht=>hT.ok t ((mTr t).mp ht),fun t ht=>(mTr t).mpr ht,hT.lnk,hh,hO _,by omega⟩
 have K2:Tab P W F Tl Tl home:=⟨by rw [nml];exact ndT,okl,fun t ht=>ht,lkl,hh,hO _,by omega⟩
 have nmle:nms Tl=nms T:=by have:=S0 (List.map PV.s) nml;rw [a0n,a0n] at this;exact this
 let G4:=Dv (Dv [] (roP P W F) Tr) (roP P W F) Tl
 let tn:List HV:=[it 0 T home l,it 2 Tl home l,it 0 T oth l]
 let tm:List HV:=[it 0 T home (10 ^ (60:Int).toNat),it 0 T home l]
 let GC:AH:=G4++[.l tn]++[.l tm]++[.l (tn++tm)]
 have r0:∀ X,v_ (GC++X) 8 (.g 0)=some (tb P W F Tr):=fun X=>rX (n:=5) (j:=1) rfl rfl
 have r2:∀ X,v_ (GC++X) 8 (.g 2)=some (tb P W F Tl):=fun X=>rX (n:=5) (j:=3) rfl rfl
 have q12:Jw 12 (CM (zF (iF (zF (yB 6) (zF (yB 5) (zF (yB 7) (zF (yB 8) K5))))) (zF (iF (zF (yB 10) (zF (yB 9) (zF (yB 7) (zF (yB 8) K5))))) (zF (iF (zF (yB 6) (zF (yB 5) (zF (yB 11) (zF (yB 8) K5))))) K5)))) (lB ns c P W L T (.g 0) (.v (.s home)) (.v (.i l)) (.v (.l (Tl.map tP))) (.g 2) (.v (.s oth)) (.v .n) (List.replicate 9 none) |>.set 12 none) G4=.nx (lB ns c P W L T (.g 0) (.v (.s home)) (.v (.i l)) (.v (.l (Tl.map tP))) (.g 2) (.v (.s oth)) (.g 4) (List.replicate 9 none)) (G4++[.l tn]):=
  yZ (sT (xs:=tn) (G1:=G4) (qO (Uc rfl) (qO (Uc rfl) (qO (Uc rfl) rfl))) (N2 rfl))
 have p60:∀ {ρ:ZW}{G:AH},hP [] (mOp fO (mC (.i 10)) (mC (.i 60))) ρ G=.ok (.v (.i (10 ^ (60:Int).toNat))) G:=fun {ρ G}=>hPc fun _=>rfl
 have eC:FY (yB 12) (CM (zF (iF (zF (yB 6) (zF (yB 5) (zF (yB 7) (zF (hP [] (mOp fO (mC (.i 10)) (mC (.i 60)))) K5))))) (zF (iF (zF (yB 6) (zF (yB 5) (zF (yB 7) (zF (yB 8) K5))))) K5))) (lB ns c P W L T (.g 0) (.v (.s home)) (.v (.i l)) (.v (.l (Tl.map tP))) (.g 2) (.v (.s oth)) (.g 4) (List.replicate 9 none)) (G4++[.l tn])=.ok (.g 6) GC:=
  DL (k:=4) (i:=5) (xs:=tn) (ys:=tm) rfl (sT (xs:=tm) (G1:=G4++[.l tn]) (qO (Uc (qO rfl (qO rfl (qO rfl (qO p60 rfl))))) (qO (Uc rfl) rfl)) (N2 rfl)) rfl rfl (N2 rfl)
 have go:∀ {kt:Nat}{R T':List Tp}{h:Str}{l':Int},Tab P W F T' R h->nms R=nms T->(∀ X,v_ (GC++X) 8 (.g kt)=some (tb P W F T'))->∀ ρ B,(∃ r,r.length=9/\ρ=lB ns c P W L T (.g 0) (.v (.s home)) (.v (.i l)) (.v (.l (Tl.map tP))) (.g 2) (.v (.s oth)) (.g 4) r)->∃ ρ1,WO (it kt R h l') ρ=some ρ1/\∃ ρ2 B2,Kp ρ1 (GC++B)=.nx ρ2 (GC++B2)/\∃ r,r.length=9/\ρ2=lB ns c P W L T (.g 0) (.v (.s home)) (.v (.i l)) (.v (.l (Tl.map tP))) (.g 2) (.v (.s oth)) (.g 4) r:=fun {kt R T' h l'} K en tab ρ B ⟨r,lr,hr⟩=>by
  subst hr
  match r,lr with
  | [z0,z1,z2,z3,z4,z5,z6,z7,z8],_=>
   obtain ⟨y17,y18,y19,y20,y21,B',e⟩:=DK (ns:=ns) (c:=c) (l:=l') (a6:=.g 0) (a7:=.v (.s home)) (a8:=.v (.i l)) (a9:=.v (.l (Tl.map tP))) (a10:=.g 2) (a11:=.v (.s oth)) (a12:=.g 4) (x17:=z4) (x18:=z5) (x19:=z6) (x20:=z7) (x21:=z8) (B:=B) hL K en tab
   exact ⟨_,rfl,_,B',e,_,rfl,rfl⟩
 obtain ⟨ρ',B',⟨r',lr',hr'⟩,ef⟩:=By (g:=WO) (b:=Kp) (GC:=GC) (k:=6) (xs:=tn++tm) (J:=fun ρ=>∃ r,r.length=9/\ρ=lB ns c P W L T (.g 0) (.v (.s home)) (.v (.i l)) (.v (.l (Tl.map tP))) (.g 2) (.v (.s oth)) (.g 4) r) (fun B=>rfl) (ys:=tn++tm) (zs:=[]) (ρ:=lB ns c P W L T (.g 0) (.v (.s home)) (.v (.i l)) (.v (.l (Tl.map tP))) (.g 2) (.v (.s oth)) (.g 4) (List.replicate 9 none)) (B:=[]) rfl ⟨_,rfl,rfl⟩ (fun y hy ρ B hJ=>by
  simp only [tn,tm,List.cons_append,List.nil_append,List.mem_cons,List.not_mem_nil,or_false] at hy
  rcases hy with rfl | rfl | rfl | rfl | rfl
  .exact go (K0 hh) rfl r0 ρ B hJ
  .exact go K2 nmle r2 ρ B hJ
  .exact go (K0 ho) rfl r0 ρ B hJ
  .exact go (K0 hh) rfl r0 ρ B hJ
  .exact go (K0 hh) rfl r0 ρ B hJ)
 rw [O9] at ef
 have q13:=Kt (g:=WO) (b:=Kp) eC (xs:=tn++tm) rfl ef
 have cW:∀ {ρ:Sto},zc 2 ρ=.ok (.l (P.map .s))->zm Ze (zb (zc 2) zr) ρ=.ok (.i (P.length:Int)):=fun h=>zw (zl h rfl) vO
 exact ⟨GC++B',Ub (zN (yZ (Uv rfl (zo (Kr (xs:=[.i 1,.i 40,.i 100000]) rfl (N2 rfl)) (zw (xs:=[.sc ns,.i 3,.i 3]) rfl ex1) ec))) (zN (yZ (Uv rfl (Uy (bw (n:=1 + (n:Int)) (zl (zo rfl (zw (xs:=[.sc ns,.i 2,.i 5]) rfl ex2) rfl) rfl) (by omega) (by omega)) (by rw [show (1 + (n:Int)).toNat=1 + n by omega];exact s2)))) (zN (yZ (Uv rfl (zw (zl rfl (zl rfl (zl rfl (zl (zo (zw (xs:=[.sc ns,.i 9,.i 4]) rfl ex3) rfl rfl) rfl)))) eW))) (zN (yZ (Uv rfl (zw rfl eL))) (zN (yZ (Uv rfl (zw (zl rfl (zl rfl (zl rfl (zl rfl (zl (zw (xs:=[.sc ns,.i 8,.i 13]) rfl ex4) rfl))))) eT))) (zN (yZ (Bx (G1:=[]) (qO (Uv rfl (zw rfl i1)) (qO (Uv (x:=.l (Tr.map tP)) rfl (zw rfl (by show Out.ok (PV.l (T.map tP).reverse)=_;rw [<- List.map_reverse,eTr]))) rfl)) (lC (A:=[]) (fun t ht=>⟨hT.ok t ((mTr t).mp ht),nmT _ (a0u ((mTr t).mp ht))⟩) ndTr (by omega)))) (zN (yZ (Uv rfl (zo rfl (zw (xs:=[.sc ns,.i 18,.i (P.length:Int)]) (zl rfl (zl rfl (zl (cW rfl) rfl))) ex6) eh))) (zN (yZ (Uv rfl (zw rfl el))) (zN (yZ (Uv rfl (zw (zl rfl (zl (zo rfl (zw (xs:=[.sc ns,.i 103,.i (30 * c)]) (zl rfl (zl rfl (zl (zo rfl rfl (v8 (by decide) (by decide))) rfl))) ex8) rfl) rfl)) la))) (zN (yZ (Bx (G1:=Dv [] (roP P W F) Tr) (qO (Uv rfl (zw rfl i1)) (qO (Uv rfl rfl) rfl)) (lC (fun t ht=>⟨okl t ht,nmT _ (by rw [<- nml];exact a0u ht)⟩) (by rw [nml];exact ndT) (by omega)))) (zN (yZ (Uv rfl (zo rfl (zw (xs:=[.sc ns,.i 20,.i (P.length:Int)]) (zl rfl (zl rfl (zl (cW rfl) rfl))) ex7) eo))) (zN q12 (zN q13 (cH (hPc fun _=>rfl)))))))))))))))⟩
end NCS
def sU (K:Nw):Sp:=fun vs H Q _=>∃ (a:Addr) (ns:Nz),vs=[.ref a]/\SqL K H a (ns.map V.int)/\ns.length<=63/\∀ H',Q (.bl true) H'
def all_mk {l:W.OpenLaw}{w:Nq}{K:Nw}{h:Heap}{mg:MU}{fa Zc j7 jI vU Zq jh qz j5 jt j6 qV qB qA ye V3 V1 Qh V4 KA kO Ji kK Ya Za kT kM Qk jc jH wu j4 Zb kL Q7 wx kh Q5 KO KN Yi Jj Z9 kf Uq vV kg Qj sV aT j8 Yj jJ KJ KI Qb Yo kN Qf sY KQ V5 gO:Addr}{VZ V7 Qm VX KP Yc Jf Yg Z_ Jk kU Yb Qi Ym wt wz Zr Jb Yk Jg wy Jd Q9 KG Kz Ye Q_ Yh Jm Us Qp Jh Qq sX aV Zp Yn Qe KC KH Qn Yf Yp Qd tE KS V2 gM:Nr}{fe Jl Yl Ja lM aU lL e_ aS fg Ql KR:Tok}(X:K.In h) (G:h.Ns mainGlobals mg) (hfa:mg "law" = some (.ref fa))
  (gm:W.nsIn K mainGlobals "LIMIT" = some (some (.int 1000000000 fe)))
  (YO:W.nsIn K mainGlobals "NAME_SIGNS" = some (some (.str "abcdefghijklmnopqrstuvwxyz0123456789" Jl)))
  (wN:W.nsIn K mainGlobals "LONGEST_NAME" = some (some (.int 12 Yl)))
  (YQ:W.nsIn K mainGlobals "MOST_TRIPS" = some (some (.int 40 Ja)))
  (Vy:W.nsIn K mainGlobals "NAME" = some (some (.int 0 lM)))
  (ZJ:W.nsIn K mainGlobals "ORIGIN" = some (some (.int 1 aU)))
  (Xu:W.nsIn K mainGlobals "GOAL" = some (some (.int 2 lL)))
  (YR:W.nsIn K mainGlobals "START" = some (some (.int 3 e_)))
  (wc:W.nsIn K mainGlobals "FINISH" = some (some (.int 4 aS)))
  (gp:W.nsIn K mainGlobals "SEATS" = some (some (.int 5 fg)))
  (ZK:W.nsIn K mainGlobals "MOST_PLACES" = some (some (.int 12 Ql)))
  (JG:W.nsIn K mainGlobals "MOST_WAYS" = some (some (.int 60 KR)))
  (YS:NsR K "FleetError" Zc)
  (J9:NsR K "BadName" j7)
  (JH:NsR K "BadNumber" jI)
  (Xv:NsR K "TooMany" vU)
  (gq:NsR K "Twice" Zq)
  (J_:NsR K "NoPlace" jh)
  (Xw:NsR K "NoWay" qz)
  (WN:NsR K "NoTrip" j5)
  (Vc:NsR K "Backward" jt)
  (Xx:NsR K "TooFast" j6)
  (bX:NsR K "Table" qV)
  (bY:NsR K "Roads" qB)
  (Qz:NsR K "Unlinked" qA)
  (Ka:NsR K "TooLong" ye)
  (p7:NsN K "dict")
  (y4:NsN K "isinstance")
  (kZ:NsN K "len")
  (Zm:NsN K "list")
  (p8:NsN K "max")
  (YT:NsN K "range")
  (Vd:NsN K "reversed")
  (bZ:NsN K "sorted")
  (C9:NsN K "zip")
  (zd:DfN K "_law_draw" K6 V3 VZ)
  (vd:DfN K "_law_ways" K7 V1 V7)
  (qD:DfN K "_law_lengths" ZC Qh Qm)
  (qE:DfN K "_law_name" K8 V4 VX)
  (jS:DfN K "_law_trips" Jx KA KP)
  (m6:XMk K vU kO)
  (Q4:Fun K "__init__" "TooMany.__init__" wB kO Yc)
  (yf:DfN K "check_most" YE Ji Jf)
  (mY:XMk K j7 kK)
  (Q8:Fun K "__init__" "BadName.__init__" wC kK Yg)
  (qf:DfN K "checked_name" wD Ya Z_)
  (x_:XMk K Zq Za)
  (VW:Fun K "__init__" "Twice.__init__" YF Za Jk)
  (zT:DfN K "checked_new_name" jx kT kU)
  (m7:XMk K jh kM)
  (Q6:Fun K "__init__" "NoPlace.__init__" wF kM Yb)
  (zD:DfN K "check_place" ZD Qk Qi)
  (U7:W.findIn K (.ref qB) "length" = some (some (.ref jc)))
  (Zd:Fun K "length" "Roads.length" wG jc Ym)
  (ff:XMk K jI jH)
  (Yd:Fun K "__init__" "BadNumber.__init__" kD jH wt)
  (zz:DfN K "checked_number" kE wu wz)
  (gR:XMk K jt j4)
  (Qg:Fun K "__init__" "Backward.__init__" vq j4 Zr)
  (xZ:XMk K qz Zb)
  (VY:Fun K "__init__" "NoWay.__init__" YG Zb Jb)
  (m8:XMk K j6 kL)
  (Jc:Fun K "__init__" "TooFast.__init__" wH kL Yk)
  (jm:DfN K "check_trip" YH Q7 Jg)
  (qc:DfN K "place_in_order" kG wx wy)
  (fb:W.findIn K (.ref qV) "__init__" = some (some (.ref kh)))
  (V0:Fun K "__init__" "Table.__init__" YI kh Jd)
  (zL:DfN K "_law_length" YJ Q5 Q9)
  (jT:DfN K "_law_limit" Jy KO KG)
  (jU:DfN K "_law_later" Jz KN Kz)
  (qg:DfN K "check_places" wI Yi Ye)
  (jn:DfN K "check_ways" YK Jj Q_)
  (qh:DfN K "heights_from" wJ Z9 Yh)
  (e7:W.findIn K (.ref qB) "__init__" = some (some (.ref kf)))
  (V6:Fun K "__init__" "Roads.__init__" YL kf Jm)
  (Zn:DfN K "_law_due" Xn Uq Us)
  (sW:XMk K j5 vV)
  (KU:Fun K "__init__" "NoTrip.__init__" ZE vV Qp)
  (e9:W.findIn K (.ref qV) "trip" = some (some (.ref kg)))
  (Qc:Fun K "trip" "Table.trip" YM kg Jh)
  (qF:DfN K "check_trips" ZF Qj Qq)
  (mJ:DfN K "gap" C6 sV sX)
  (QA:DfN K "linked" bQ aT aV)
  (gN:XMk K qA j8)
  (Qo:Fun K "__init__" "Unlinked.__init__" vt j8 Zp)
  (qi:DfN K "check_linked" wK Yj Yn)
  (cU:W.findIn K (.ref qB) "names" = some (some (.ref jJ)))
  (ZV:Fun K "names" "Roads.names" ZG jJ Qe)
  (y8:DfN K "check_row" JA KJ KC)
  (y9:DfN K "check_way" JB KI KH)
  (qG:DfN K "check_block" ZH Qb Qn)
  (yo:DfN K "block_length" wL Yo Yf)
  (m4:XMk K ye kN)
  (Je:Fun K "__init__" "TooLong.__init__" wM kN Yp)
  (qH:DfN K "check_short" ZI Qf Qd)
  (mK:DfN K "cut" C7 sY tE)
  (jV:DfN K "_law_asked" JC KQ KS)
  (ve:DfN K "_law_good" K9 V5 V2)
  (p9:DfN K "law" C8 gO gM)
  (gT:Zu K j7)
  (Wv:W.takerIn K j7 "name" = some none)
  (Ws:W.findIn K (.ref j7) "name" = some none)
  (cT:Zu K jI)
  (JJ:W.takerIn K jI "value" = some none)
  (gQ:Zu K vU)
  (Wt:W.takerIn K vU "most" = some none)
  (s_:Zu K Zq)
  (aa:W.takerIn K Zq "name" = some none)
  (U6:W.findIn K (.ref Zq) "name" = some none)
  (gJ:Zu K jh)
  (WC:W.takerIn K jh "name" = some none)
  (Wu:W.findIn K (.ref jh) "name" = some none)
  (tH:Zu K qz)
  (xcbNoWay_NoWay:Catch K qz qz true)
  (WD:W.takerIn K qz "origin" = some none)
  (WA:W.findIn K (.ref qz) "origin" = some none)
  (ag:W.takerIn K qz "goal" = some none)
  (ae:W.findIn K (.ref qz) "goal" = some none)
  (mZ:Zu K j5)
  (Ut:W.takerIn K j5 "name" = some none)
  (Ul:W.findIn K (.ref j5) "name" = some none)
  (fc:Zu K jt)
  (Vn:W.takerIn K jt "name" = some none)
  (Vk:W.findIn K (.ref jt) "name" = some none)
  (gP:Zu K j6)
  (WB:W.takerIn K j6 "name" = some none)
  (Wz:W.findIn K (.ref j6) "name" = some none)
  (e8:Zu K qA)
  (KD:W.takerIn K qA "first" = some none)
  (JI:W.takerIn K qA "second" = some none)
  (gK:Zu K ye)
  (gU:XIs K ye)
  (xcbTooLong_TooLong:Catch K ye ye true)
  (xcnNoWay_TooLong:Catch K ye qz false)
  (Ww:W.takerIn K ye "name" = some none)
  (WE:W.findIn K (.ref ye) "name" = some none)
  (tD:Cls K qV)
  (tF:W.makesIn K qV=true)
  (tq:W.keepIn K (.ref qV)=true)
  (Vm:W.findIn K (.ref qV) "by_name" = some none)
  (Um:W.findIn K (.ref qV) "order" = some none)
  (Uo:W.findIn K (.ref qV) "roads" = some none)
  (U_:W.isFn K (.ref kg)=true)
  (U8:W.isFn K (.ref kh)=true)
  (tw:Cls K qB)
  (tf:W.makesIn K qB=true)
  (sZ:W.keepIn K (.ref qB)=true)
  (Vl:W.findIn K (.ref qB) "lengths" = some none)
  (Wx:W.findIn K (.ref qB) "places" = some none)
  (af:W.findIn K (.ref qB) "ways" = some none)
  (Wr:W.isFn K (.ref jc)=true)
  (Ur:W.isFn K (.ref jJ)=true)
  (U9:W.isFn K (.ref kf)=true)
  (wd:W.kitOne K (.type "list") (.type "list")=some true)
  (jW:DY K ye qA)
  (vz:DY K ye j5)
  (kH:DY K ye jh)
  (je:LU K ye Zc)
  : ∃ fd:FuncData,(∀ (s:MZ) (v:Value),BindsTo s fd ⟨[v],[]⟩ [("_law_script",v)])/\∀ base:Heap,K.In base->base.Ns mainGlobals mg->y3 l.prog w K mg base (CXe l.prog w) 14 fa fd ["_law_script"] (sU K):=by
 have e:gO=fa:=by
  have e:=hfa.symm.trans (S9 X G p9.1)
  injection e with e;injection e with e;exact e.symm
 subst e
 have T:Txt K mg ⟨Zc,j7,jI,vU,Zq,jh,qz,j5,jt,j6,qV,qB,qA,ye,V3,V1,Qh,V4,KA,kO,Ji,kK,Ya,Za,kT,kM,Qk,jc,jH,wu,j4,Zb,kL,Q7,wx,kh,Q5,KO,KN,Yi,Jj,Z9,kf,Uq,vV,kg,Qj,sV,aT,j8,Yj,jJ,KJ,KI,Qb,Yo,kN,Qf,sY,KQ,V5,gO,VZ,V7,Qm,VX,KP,Yc,Jf,Yg,Z_,Jk,kU,Yb,Qi,Ym,wt,wz,Zr,Jb,Yk,Jg,wy,Jd,Q9,KG,Kz,Ye,Q_,Yh,Jm,Us,Qp,Jh,Qq,sX,aV,Zp,Yn,Qe,KC,KH,Qn,Yf,Yp,Qd,tE,KS,V2,gM,fe,Jl,Yl,Ja,lM,aU,lL,e_,aS,fg,Ql,KR⟩:=⟨⟨S9 X G gm,S9 X G YO,S9 X G wN,S9 X G YQ,S9 X G Vy,S9 X G ZJ,S9 X G Xu,S9 X G YR⟩,⟨S9 X G wc,S9 X G gp,S9 X G ZK,S9 X G JG,S9 X G YS,S9 X G J9,S9 X G JH,S9 X G Xv⟩,⟨S9 X G gq,S9 X G J_,S9 X G Xw,S9 X G WN,S9 X G Vc,S9 X G Xx,S9 X G bX,S9 X G bY⟩,⟨S9 X G Qz,S9 X G Ka,a0w X G p7,a0w X G y4,a0w X G kZ,a0w X G Zm,a0w X G p8,a0w X G YT⟩,⟨a0w X G Vd,a0w X G bZ,a0w X G C9,yD X G zd (bn3 fun _ _ _ _ _ _ _ _ _=>rfl),yD X G vd (bn4 fun _ _ _ _ _ _ _ _ _ _=>rfl),yD X G qD (bn2 fun _ _ _ _ _ _ _ _=>rfl),yD X G qE (bn3 fun _ _ _ _ _ _ _ _ _=>rfl),yD X G jS (bn5 fun _ _ _ _ _ _ _ _ _ _ _=>rfl)⟩,⟨Q4,Q4.binds (bn2 fun _ _ _ _ _ _ _ _=>rfl),yD X G yf (bn2 fun _ _ _ _ _ _ _ _=>rfl),Q8,Q8.binds (bn2 fun _ _ _ _ _ _ _ _=>rfl),yD X G qf (bn1 fun _ _ _ _ _ _ _=>rfl),VW,VW.binds (bn2 fun _ _ _ _ _ _ _ _=>rfl)⟩,⟨yD X G zT (bn2 fun _ _ _ _ _ _ _ _=>rfl),Q6,Q6.binds (bn2 fun _ _ _ _ _ _ _ _=>rfl),yD X G zD (bn2 fun _ _ _ _ _ _ _ _=>rfl),Zd,Zd.binds (bn3 fun _ _ _ _ _ _ _ _ _=>rfl),Yd,Yd.binds (bn2 fun _ _ _ _ _ _ _ _=>rfl)⟩,⟨yD X G zz (bn2 fun _ _ _ _ _ _ _ _=>rfl),Qg,Qg.binds (bn2 fun _ _ _ _ _ _ _ _=>rfl),VY,VY.binds (bn3 fun _ _ _ _ _ _ _ _ _=>rfl),Jc,Jc.binds (bn2 fun _ _ _ _ _ _ _ _=>rfl),yD X G jm (bn3 fun _ _ _ _ _ _ _ _ _=>rfl)⟩,⟨yD X G qc (bn1 fun _ _ _ _ _ _ _=>rfl),V0,V0.binds (bn3 fun _ _ _ _ _ _ _ _ _=>rfl),yD X G zL (bn3 fun _ _ _ _ _ _ _ _ _=>rfl),yD X G jT (bn4 fun _ _ _ _ _ _ _ _ _ _=>rfl),yD X G jU (bn2 fun _ _ _ _ _ _ _ _=>rfl),yD X G qg (bn1 fun _ _ _ _ _ _ _=>rfl),yD X G jn (bn2 fun _ _ _ _ _ _ _ _=>rfl)⟩,⟨yD X G qh (bn2 fun _ _ _ _ _ _ _ _=>rfl),V6,V6.binds (bn3 fun _ _ _ _ _ _ _ _ _=>rfl),yD X G Zn (bn4 fun _ _ _ _ _ _ _ _ _ _=>rfl),KU,KU.binds (bn2 fun _ _ _ _ _ _ _ _=>rfl),Qc,Qc.binds (bn2 fun _ _ _ _ _ _ _ _=>rfl)⟩,⟨yD X G qF (bn2 fun _ _ _ _ _ _ _ _=>rfl),yD X G mJ (bn3 fun _ _ _ _ _ _ _ _ _=>rfl),yD X G QA (bn3 fun _ _ _ _ _ _ _ _ _=>rfl),Qo,Qo.binds (bn3 fun _ _ _ _ _ _ _ _ _=>rfl),yD X G qi (bn2 fun _ _ _ _ _ _ _ _=>rfl),ZV,ZV.binds (bn1 fun _ _ _ _ _ _ _=>rfl)⟩,⟨yD X G y8 (bn3 fun _ _ _ _ _ _ _ _ _=>rfl),yD X G y9 (bn3 fun _ _ _ _ _ _ _ _ _=>rfl),yD X G qG (bn3 fun _ _ _ _ _ _ _ _ _=>rfl),yD X G yo (bn3 fun _ _ _ _ _ _ _ _ _=>rfl),Je,Je.binds (bn2 fun _ _ _ _ _ _ _ _=>rfl),yD X G qH (bn4 fun _ _ _ _ _ _ _ _ _ _=>rfl),yD X G mK (bn4 fun _ _ _ _ _ _ _ _ _ _=>rfl)⟩,⟨yD X G jV (bn4 fun _ _ _ _ _ _ _ _ _ _=>rfl),yD X G ve (bn5 fun _ _ _ _ _ _ _ _ _ _ _=>rfl),yD X G p9 (bn1 fun _ _ _ _ _ _ _=>rfl),gT,mY,Wv,Ws,cT⟩,⟨ff,JJ,gQ,m6,Wt,s_,x_,aa⟩,⟨U6,gJ,m7,WC,Wu,tH,xZ,xcbNoWay_NoWay⟩,⟨WD,WA,ag,ae,mZ,sW,Ut,Ul⟩,⟨fc,gR,Vn,Vk,gP,m8,WB,Wz⟩,⟨e8,gN,KD,JI,gK,gU,m4,xcbTooLong_TooLong⟩,⟨xcnNoWay_TooLong,Ww,WE,tD,Vm,Um,Uo,⟨e9,U_,Qc.kp⟩⟩,⟨⟨tF,fb,U8,tq⟩,tw,Vl,Wx,af,⟨U7,Wr,Zd.kp⟩,⟨cU,Ur,ZV.kp⟩,⟨tf,e7,U9,sZ⟩⟩,⟨wd,jW,vz,kH,je⟩⟩
 have eb:∀ (s:MZ) (v:Value),BindsTo s gM ⟨[v],[]⟩ [("_law_script",v)]:=by
  obtain ⟨_,_,_,_,_,_,_,_,_,rfl,_,_⟩:=p9.2.ex
  exact fun s v=>.of_eq rfl
 refine ⟨_,eb,fun base _ _=>(Gf T).imp fun vs H Q E ⟨p,ns,e,hS,hl,k⟩=>?_⟩
 subst e
 exact CT hS (xV ns hl) k
def walk {l:W.OpenLaw}{q:Nk}{loose:MX}{XP:(Str->Option Value)->Heap->Prop}{YP:World->Heap->Prop}{d:DefRec}{K:Params->W.Frag}(hn:l.most=some 63) (hdf:d.params.defaults=[])
  (hY:∀ (w:Nq) (h:Heap),YP w h->(K w.params).In h)
  (F:∀ (w:Nq) (mg:MU) (fa:Addr) (h:Heap),(K w.params).In h->h.Ns mainGlobals mg->mg d.name=some (.ref fa)->
   ∃ fd:FuncData,(∀ (s:MZ) (u:Value),BindsTo s fd ⟨[u],[]⟩ [("_law_script",u)])/\∀ base:Heap,(K w.params).In base->base.Ns mainGlobals mg->y3 l.prog w (K w.params) mg base (CXe l.prog w) 14 fa fd ["_law_script"] (sU (K w.params))):
  W.WalkO q loose XP YP l.row.toRowW d [] (fun f vs=>PySem.call f vs):=
 L2.BW (n:=63) (k:=14) (x := "_law_script") (CX:=fun w=>CXe l.prog w) (sp:=fun w=>sU (K w.params)) hn (by decide) hdf ⟨rfl,by decide,by decide⟩ hY F (fun _ H a ns hl hO hS=>⟨a,ns,rfl,hS,hl,fun _=>rfl⟩) fun _ _ _ _ _ z=>dI z
end K43
open PySem PySem.W PyProof.Rows
namespace PySem.W.Fast
def tw13192679430904787740:=()
def tw18271302284292773900:=()
def tw515729224035039013:=()
def tw13624664198884006453:=()
def tw11194719838904160472:=()
def tw7809312125933380766:=()
def tw2702067916602392616:=()
def tw17779224489335839601:=()
def tw5649372641836207816:=()
def tw11924531767647294519:=()
def tw5244855530089539688:=()
def tw17617902501438432823:=()
def tw18199359191055867145:=()
def tw2717953732804702080:=()
def tw16574511902660974100:=()
def tw5092415385382595807:=()
def tw9066592705124137995:=()
def tw5254956195269774740:=()
def tw2585808961406832163:=()
def tw8102408377405855237:=()
def tw9114096536504299829:=()
def tw10072788938779753229:=()
def tw9590302640595150976:=()
def tw9448753638970628029:=()
def tw6225789489221045025:=()
def tw15879725401724855031:=()
def tw522875137792245566:=()
def tw6109160701968890809:=()
def tw8855318889298292477:=()
def tw5375045352626324803:=()
def tw14892383239093632636:=()
def tw11656276251409156703:=()
def tw5111960557969034370:=()
def tw10718449446323197724:=()
def tw7339870435953477759:=()
def tw10658453780160217495:=()
def tw3668722007565006718:=()
def tw9193581791391325798:=()
def tw3269782131331102543:=()
def tw5968981593918243310:=()
def tw3196166821981701562:=()
def tw10062311156966888076:=()
def tw2862899190543511951:=()
def tw10244414679970303005:=()
def tw16347536557373168259:=()
def tw2239115259412884695:=()
def tw5976063354794723841:=()
def tw16457183061476870412:=()
def tw7475216125573333333:=()
def tw16582390023798977085:=()
def tw15043986538167355757:=()
def tw814127726030921533:=()
def tw17949827159950069467:=()
def tw12583442762209221944:=()
def tw12317859771039482981:=()
def tw14915034665402593928:=()
def tw5140093950401624416:=()
def tw70284809951577960:=()
def tw5561242024692702263:=()
def tw2305703229693861388:=()
def tw1106866126894684088:=()
def tw6245196902380400881:=()
def tw12858875858217436893:=()
def tw6552647115323068057:=()
def tw14781439649011818653:=()
def tw11293263590590034540:=()
def tw3747379819276647658:=()
def tw17318147887589183621:=()
def tw8300351184334280252:=()
def tw12960319021706252284:=()
def tw7692165053668784644:=()
def tw404863810733341653:=()
def tw17920166266207052505:=()
def tw16049671861069291871:=()
def tw7373040238219059826:=()
def tw9799368326681926505:=()
def tw5073580559556953585:=()
def tw448482966931390571:=()
def tw16970477124133247226:=()
def tw9956305613220361866:=()
def tw7744209859078534335:=()
def tw13845186481679425610:=()
def tw12312117438384092011:=()
def tw7944522818619909859:=()
def tw15839945681972196173:=()
def tw15922257394112957670:=()
def tw3795472438824693314:=()
def tw3130118579284140794:=()
def tw12626775957124110402:=()
def tw10537450554826285305:=()
def tw16327127799926435803:=()
def tw5886724329906920821:=()
def tw4080234704502091028:=()
def tw8710526878465314547:=()
def tw7730861843468282594:=()
def tw18271520908542351264:=()
def tw13926470798246316863:=()
def tw13492246975427318992:=()
def tw1409198001493139996:=()
def tw10573175463969652539:=()
def tw11690280665422747116:=()
def tw7519415601414180899:=()
def tw15770745096254166720:=()
def tw14228893444721655040:=()
def tw14487999309490059769:=()
def tw14059538153000585284:=()
def tw10010936702919301417:=()
def tw7876159454751615126:=()
def tw11088487520254566157:=()
def tw17700584954858757818:=()
def tw17673827287177669076:=()
def tw6967068829834042314:=()
def tw12698449843867034004:=()
def tw17525780861122575716:=()
def tw8809520016660761194:=()
def tw17154281361410544764:=()
def tw4320016293478875567:=()
def tw7387158783667310272:=()
def tw13235283754166710954:=()
def tw13620751997678894923:=()
def tw9660017448936429711:=()
def tw5322140775273589896:=()
def tw8813704045395397202:=()
def tw15109474035452631265:=()
def tw5599050977501066571:=()
def tw17037261215103679913:=()
def tw40404658420064987:=()
def tw17682076253893820407:=()
def tw2457987455606902186:=()
def tw9414220322570507675:=()
def tw15001938156233725700:=()
def tw18189152624173721419:=()
def tw15568456265444885608:=()
def tw1253025881538966257:=()
def tw7190780703204579446:=()
def tw10012998810172578474:=()
def tw4113105958596859160:=()
def tw4186976344360489821:=()
def tw16988484297676517557:=()
def tw10359887726819772822:=()
def tw13410465379664530217:=()
def tw8354875384801935283:=()
def tw4816858493719215451:=()
def tw12568924316795272832:=()
def tw3385590075747294668:=()
def tw6219213376932865406:=()
def tw11573098427457033174:=()
def tw2390190416796281221:=()
def tw1913863011304366906:=()
def tw4632243285696409443:=()
def tw16134396032738301861:=()
def tw2972642868241629390:=()
def tw474518750253115506:=()
def tw7460962702883617610:=()
def tw4601497398533563067:=()
def tw16007547538826924871:=()
def tw17967375027963447217:=()
def tw9437223699758577059:=()
def tw18132155390209947990:=()
def tw7205268371787800541:=()
def tw2934362459310900580:=()
def tw9411777253067761896:=()
def tw7288487304021874216:=()
def tw6748452662863301235:=()
def tw3032910892753166088:=()
def tw9659370833928683631:=()
def tw13861210008188075418:=()
def tw3439452362485006946:=()
def tw7459763871474480214:=()
def tw17639208483620078755:=()
def tw10588357990551143426:=()
def tw14243425263165999500:=()
def tw9736835272966029136:=()
def tw3713708037801200500:=()
def tw6406163823016791434:=()
def tw11186147337290504328:=()
def tw16589937638248593571:=()
def tw8751661670603727587:=()
def tw3701650528291442153:=()
def tw8580695388059941854:=()
def tw7814640727117710028:=()
def tw6979289424161146808:=()
def tw9473545988342436802:=()
def tw1420823656831044379:=()
def tw12284176483784818042:=()
def tw9804707164248395221:=()
def tw11820120103532133803:=()
def tw12670297938230878177:=()
def tw979775882795011451:=()
def tw5782435316265758535:=()
def tw10417612141688315168:=()
def tw7883074363631130410:=()
def tw18195593043851421951:=()
def tw15967577658382658837:=()
def tw17212550763017464998:=()
def tw13059695138299451429:=()
def tw12596638143708485504:=()
def tw4469477636935736914:=()
def tw3962139568972249550:=()
def tw7095308180500553129:=()
def tw16437325894550886104:=()
def tw5081080833708067553:=()
def tw497448999998900980:=()
def tw10473260768775657751:=()
def tw5174278151631444145:=()
def tw4360903982509896244:=()
def tw13158835126337723152:=()
def tw15869739688284983701:=()
def tw2569875241559550005:=()
def tw599135731405970285:=()
def tw6428825871860846770:=()
def tw2951115696275094905:=()
def tw6751071300902361508:=()
def tw17703606072744865186:=()
def tw12218335623767226234:=()
def tw7422777723500464099:=()
def tw4096067133897166492:=()
end PySem.W.Fast
set_option maxRecDepth 100000 in
set_option maxHeartbeats 0 in
theorem PySem.Challenge.cw_fleetpath_k43_cut_holds : PySem.Challenge.rw_fleetpath_k43_cut.Holds := by
 w_on;o_law;k_head;(case hw=>w_witness2)
 k_fill
 refine K43.walk (l:=PySem.Challenge.rw_fleetpath_k43_cut) rfl rfl (fun w h Y=>PySem.W.kIn_of Y) ?F
 case F=>
  intro w mg fa h KX G hmg
  refine' K43.all_mk KX G hmg ?_ ?_ ?_ ?_ ?_ ?_ ?_ ?_ ?_ ?_ ?_ ?_ ?_ ?_ ?_ ?_ ?_ ?_ ?_ ?_ ?_ ?_ ?_ ?_ ?_ ?_ ?_ ?_ ?_ ?_ ?_ ?_ ?_ ?_ ?_ ?_ ?_ ?_ ?_ ?_ ?_ ?_ ?_ ?_ ?_ ?_ ?_ ?_ ?_ ?_ ?_ ?_ ?_ ?_ ?_ ?_ ?_ ?_ ?_ ?_ ?_ ?_ ?_ ?_ ?_ ?_ ?_ ?_ ?_ ?_ ?_ ?_ ?_ ?_ ?_ ?_ ?_ ?_ ?_ ?_ ?_ ?_ ?_ ?_ ?_ ?_ ?_ ?_ ?_ ?_ ?_ ?_ ?_ ?_ ?_ ?_ ?_ ?_ ?_ ?_ ?_ ?_ ?_ ?_ ?_ ?_ ?_ ?_ ?_ ?_ ?_ ?_ ?_ ?_ ?_ ?_ ?_ ?_ ?_ ?_ ?_ ?_ ?_ ?_ ?_ ?_ ?_ ?_ ?_ ?_ ?_ ?_ ?_ ?_ ?_ ?_ ?_ ?_ ?_ ?_ ?_ ?_ ?_ ?_ ?_ ?_ ?_ ?_ ?_ ?_ ?_ ?_ ?_ ?_ ?_ ?_ ?_ ?_
  all_goals try (first | ((first | refine' ⟨?_,L2.An ?_ ?_ ?_⟩ | refine' L2.An ?_ ?_ ?_ | refine' K43.F0 ?_ ?_ ?_ ?_ ?_) <;> try first | k_is | kernel_rfl) | (show _=_;first | k_is | kernel_rfl) | (first | refine ⟨?_, ?_, ?_, ?_, ?_⟩ | refine ⟨?_, ?_, ?_, ?_⟩ | refine ⟨?_, ?_, ?_⟩) <;> first | k_is | kernel_rfl)
#print axioms PySem.Challenge.cw_fleetpath_k43_cut_holds

