import PyProof.Rows.All
import Wide.All
import OpenK.AllK
import Wide.FinOn
import Lean
import PyProof.EqAt
import PyProof.EqKinds
import PyProof.TupleCall
import PySem.Challenge.RW_rootcourt_k35_forms_put_in
set_option maxHeartbeats 4000000
set_option Elab.async false
set_option linter.all false
set_option compiler.extract_closed false
local macro_rules|`(tactic|omega)=>`(tactic|lia)
open PyProof.Rows (boot_abs boot_all boot_any boot_bool boot_divmod boot_int boot_list boot_max boot_sorted boot_str boot_tuple callWith_kw kws_cons kws_nil)
open PySem.W (CodeHd Frag KitX cellsFrom_some excIn hasDictIn hideAll hideAll_none instObj isFn isNs_of_in kIn_of ke_depthAll keepIn kitOne kitx_dict kitx_list kitx_tuple lookIn methodObj mg_of plainGet subIn tail_of_in typeIn)
open List (Nodup Pairwise Perm cons_append foldl length length_mapIdx map_drop mem_filterMap nodup_range not_mem_nil of_mem_zip range' range'_succ replicate reverse reverse_cons toArray zipIdx_cons)
open Option (getD_none getD_some isSome_map)
open Nat (lt_or_ge mod_lt mul_add mul_succ pow_add sub_self succ_mul)
open Int (add_mul le_trans natAbs_mul toNat)
open PySem.F (entry_bexc_ga entry_dict_get slot_gs_get)
open Bool (not_eq_true')
open Rat (divInt)
set_option maxRecDepth 100000
abbrev aA:=@PySem.wpAny_bind
abbrev aB:=@PySem.Heap.get?_push_of_some
abbrev aC:=@List.length_map
abbrev aD:=@PySem.wpAny_pure
abbrev aE:=@List.mem_map
abbrev aF:=@if_neg
abbrev aG:=@List.getElem?_eq_getElem
abbrev aH:=@List.length_append
abbrev aI:=@if_pos
abbrev aJ:=@PySem.Heap.lt_size
abbrev aK:=@PySem.Heap.get?_push_size
abbrev aL:=@Nat.le_refl
abbrev aM:=@List.size_toArray
abbrev aN:=@List.getElem?_map
abbrev aO:=@Nat.le_trans
abbrev aP:=@Nat.ne_of_lt
abbrev aQ:=@List.map_append
abbrev aR:=@List.eq_nil_of_length_eq_zero
abbrev aS:=@List.mem_cons
abbrev aU:=@List.getD_eq_getElem?_getD
abbrev aV:=@Bool.false_ne_true
abbrev aW:=@List.getElem?_eq_some_iff
abbrev aX:=@List.pairwise_append
abbrev aY:=@Option.some.inj
abbrev aZ:=@List.map_map
abbrev bA:=@List.mem_singleton
abbrev bB:=@Nat.lt_of_lt_of_le
abbrev bC:=@List.map_cons
abbrev bD:=@List.mem_append_right
abbrev bE:=@congrArg
abbrev bF:=@Array.length_toList
abbrev bG:=@List.mem_append
abbrev bH:=@List.length_cons
abbrev bI:=@List.pairwise_iff_getElem
abbrev bJ:=@boot_tuple
abbrev bK:=@List.mem_append_left
abbrev bL:=@Nat.le_of_ble_eq_true
abbrev bO:=@List.pairwise_map
abbrev bP:=@PySem.wpAny_mono
abbrev bQ:=@PySem.W.mg_none_of
abbrev bR:=@PySem.PassesOwn.never
abbrev bS:=@List.getElem?_eq_none_iff
abbrev bT:=@List.append_nil
abbrev bU:=@Nat.lt_succ_of_lt
abbrev bV:=@List.length_take
abbrev bW:=@PySem.wpAny_setField_rec
abbrev bX:=@PySem.wpAny_newObj_type
abbrev bY:=@decide_eq_false
abbrev bZ:=@PySem.wpAny_call_entry
abbrev cB:=@PySem.wpAny_callSpecial?_slot
abbrev cC:=@Ne.symm
abbrev cD:=@Bool.and_eq_true
abbrev cE:=@PySem.wpAny_loadPart_at
abbrev cG:=@PySem.wpAny_field
abbrev cH:=@Nat.zero_le
abbrev cI:=@List.mem_cons_of_mem
abbrev cJ:=@List.length_range
abbrev cK:=@List.append_assoc
abbrev cM:=@PyProof.Rows.boot_isinstance
abbrev cN:=@Nat.lt_of_le_of_lt
abbrev cO:=@decide_eq_true
abbrev cP:=@Rat.pow_zero
abbrev cQ:=@List.mem_reverse
abbrev cS:=@List.getElem_mem
abbrev cT:=@Int.toNat_natCast
abbrev cU:=@List.pairwise_cons
abbrev cV:=@PySem.W.kia_one
abbrev cW:=@List.mem_range
abbrev cX:=@Int.mul_le_mul_of_nonneg_right
abbrev cY:=@List.mem_cons_self
abbrev cZ:=@Nat.lt_irrefl
abbrev dD:=@List.lookup_cons
abbrev dE:=@List.take_append_drop
abbrev dF:=@List.length_filter_le
abbrev dG:=@PySem.F.plainAttrs_list
abbrev dH:=@PyProof.Rows.slot_tuple_getitem
abbrev dI:=@List.getElem?_append
abbrev dJ:=@List.mem_filter
abbrev dM:=@PySem.Heap.size_push
abbrev dN:=@PySem.wpAny_holding
abbrev dO:=@PySem.Heap.get?_update_other
abbrev dP:=@Nat.ne_of_gt
abbrev dQ:=@PySem.wpAny_seqItems
abbrev dR:=@List.mem_of_getElem?
abbrev dS:=@List.filter_cons_of_neg
abbrev dU:=@PyProof.Rows.callWith_type1
abbrev dW:=@mg_of
abbrev dX:=@PySem.sizeLine_eq
abbrev dY:=@of_decide_eq_true
abbrev dZ:=@List.map_congr_left
abbrev eA:=@List.length_reverse
abbrev eD:=@List.length_nil
abbrev eE:=@Array.getElem?_eq_getElem
abbrev eG:=@List.length_singleton
abbrev eI:=@Perm.append_left
abbrev eJ:=@PySem.F.type_list_append
abbrev eK:=@PySem.F.slot_list_append
abbrev eM:=@Nat.add_assoc
abbrev eN:=@Classical.em
abbrev eO:=@PySem.Heap.get?_update_self
abbrev eP:=@List.filter_cons_of_pos
abbrev eQ:=@List.nodup_cons
abbrev eS:=@beq_eq_false_iff_ne
abbrev eU:=@List.map_eq_nil_iff
abbrev eV:=@Int.toNat_of_nonneg
abbrev eW:=@PySem.F.slot_dict_itemiterator_next
abbrev eY:=@Int.add_comm
abbrev fA:=@PySem.Heap.get?_push_ne
abbrev fC:=@PySem.F.slot_dict_keyiterator_next
abbrev fD:=@Nat.mul_le_mul
abbrev fE:=@List.getElem?_append_right
abbrev fF:=@Bool.false_eq_true
abbrev fG:=@Array.getElem?_toList
abbrev fH:=@Rat.intCast_mul
abbrev fJ:=@Nat.le_antisymm
abbrev fK:=@PySem.wpAny_pyIter_tuple
abbrev fL:=@PySem.wpAny_Call_Name_kw
abbrev fM:=@PySem.W.looks_findIn
abbrev fN:=@PySem.wpAny_execs_nil
abbrev fO:=@Nat.mul_le_mul_left
abbrev fP:=@List.replicate_succ
abbrev fQ:=@List.length_pos_iff
abbrev fR:=@List.getElem?_range
abbrev fS:=@PySem.wpAny_truthy_bool
abbrev fT:=@PySem.boot_len
abbrev fU:=@List.take_length
abbrev fV:=@PySem.wpAny_attempt
abbrev fW:=@if_true
abbrev fX:=@Nat.pos_of_ne_zero
abbrev fY:=@Nat.le_of_lt
abbrev fZ:=@Nat.le_of_eq
abbrev gA:=@List.filter_append
abbrev gC:=@PySem.wpAny_typeNameOfWhole_itemiter
abbrev gD:=@if_false
abbrev gF:=@PySem.F.plain_max_loop
abbrev gG:=@boot_all
abbrev gH:=@List.pairwise_reverse
abbrev gI:=@List.getElem?_eq_none
abbrev gJ:=@PySem.wpAny_typeNameOfWhole_keyiter
abbrev gK:=@PySem.wpAny_letGo
abbrev gL:=@List.flatten_cons
abbrev gO:=@Int.emod_eq_of_lt
abbrev gP:=@Int.add_mul_emod_self_right
abbrev gQ:=@PySem.wpAny_passesOwn
abbrev gR:=@Nat.le_succ
abbrev gS:=@Nat.add_le_add_right
abbrev gT:=@Int.fdiv_eq_ediv_of_nonneg
abbrev gU:=@List.all_eq_true
abbrev gW:=@Int.zero_add
abbrev gX:=@Array.toList_inj
abbrev gY:=@PySem.wpAny_dictEntries
abbrev gZ:=@List.drop_eq_getElem_cons
abbrev hG:=@PySem.mem_of_lookup
abbrev hU:=@PySem.W.hideAll_get
abbrev hV:=@PySem.codeAny_call_builtin
abbrev hX:=@Option.isSome_iff_exists
abbrev iA:=@List.any_cons
abbrev iB:=@PySem.F.slot_tuple_iterator_next
abbrev iC:=@List.forIn_cons
abbrev iD:=@List.find?_cons
abbrev iE:=@Bool.eq_iff_iff
abbrev iF:=@PySem.codeAny_mono
abbrev iG:=@Nat.lt_or_gt_of_ne
abbrev iH:=@PySem.wpAny_typeNameOf_itemiter
abbrev iI:=@PySem.F.attr_ValueError
abbrev iJ:=@PySem.Heap.SameBut.update
abbrev iK:=@PySem.wpAny_typeNameOf_keyiter
abbrev iL:=@Option.map_eq_some_iff
abbrev iM:=@List.take_succ
abbrev iN:=@List.getElem_take
abbrev iO:=@Perm.append_right
abbrev iP:=@Int.ediv_eq_zero_of_lt
abbrev iQ:=@PySem.wpAny_dictEpoch
abbrev iR:=@List.perm_append_comm
abbrev iS:=@List.contains_iff_mem
abbrev iT:=@Nat.le_add_right
abbrev iU:=@List.mem_flatMap
abbrev iV:=@List.length_drop
abbrev iW:=@List.getElem_map
abbrev iX:=@PySem.wpAny_setField
abbrev iY:=@PySem.wpAny_pyIter_list
abbrev iZ:=@List.reverse_reverse
abbrev jA:=@PySem.Calls.callWith_builtin
abbrev jB:=@List.nil_append
abbrev jC:=@List.foldl_cons
abbrev jD:=@PySem.F.slot_enumerate_next
abbrev jE:=@PySem.wpAny_rule
abbrev jF:=@PySem.wpAny_execs_cons
abbrev jG:=@List.map_nil
abbrev jH:=@Int.add_zero
abbrev jI:=@PySem.Heap.size_update
abbrev jJ:=@PySem.wpAny_standAt
abbrev jK:=@PySem.Paired.length
abbrev jL:=@PySem.W.of_hideAll
abbrev jM:=@PySem.W.callWith_K
abbrev jN:=@Option.isSome_some
abbrev jO:=@List.forIn_nil
abbrev jP:=@Perm.refl
abbrev jQ:=@PySem.Heap.get?_push_cases
abbrev jR:=@Array.getElem?_eq_some_iff
abbrev jS:=@List.getElem?_append_left
abbrev jT:=@PySem.wpAny_isSubtype_exc
abbrev jU:=@List.reverse_perm
abbrev jV:=@List.nodup_append
abbrev jW:=@List.map_id
abbrev jX:=@Int.one_mul
abbrev jY:=@PySem.Heap.get?_update_ne
abbrev jZ:=@Function.comp_def
abbrev kA:=@PySem.F.args_tuple_add_2
abbrev kB:=@boot_sorted
abbrev kC:=@Prod.mk.injEq
abbrev kD:=@List.all_cons
abbrev kE:=@PySem.wpAny_tryCatch
abbrev kF:=@PySem.tupleKind_room_in1
abbrev kG:=@PySem.F.entry_tuple_add
abbrev kH:=@PySem.Obj.data_mapFields
abbrev kI:=@Nat.lt_succ_self
abbrev kJ:=@List.pairwise_singleton
abbrev kK:=@List.getElem?_cons_zero
abbrev kL:=@List.ext_getElem
abbrev kM:=@List.any_eq_true
abbrev kN:=@Int.natCast_emod
abbrev kO:=@beq_iff_eq
abbrev kP:=@PySem.F.slot_tuple_add
abbrev kQ:=@Nat.zero_add
abbrev kR:=@List.take_of_length_le
abbrev kT:=@List.getElem?_set_self
abbrev kU:=@Int.add_mul_ediv_right
abbrev kW:=@PySem.wpAny_pyIter_enum
abbrev kX:=@Option.map_some
abbrev kY:=@Nat.min_eq_left
abbrev lA:=@PySem.W.ke_canLayAll0
abbrev lB:=@PySem.W.KF.type_class
abbrev lC:=@PySem.F.slot_dict_get
abbrev lD:=@boot_int
abbrev lE:=@boot_abs
abbrev lF:=@List.getElem?_reverse
abbrev lG:=@Pairwise.and_mem
abbrev lH:=@PySem.wpAny_isInstance
abbrev lI:=@PySem.intBits_le_iff
abbrev lJ:=@Nat.mul_le_mul_right
abbrev lK:=@List.getElem?_set_ne
abbrev lL:=@Int.mul_nonneg
namespace L2
open PySem PySem.Spec PyProof.Rows
noncomputable abbrev Key:=Sum Int Str
noncomputable def Xc:Key->Value->Bool
 | .inl k,v=>Value.isInt k v
 | .inr x,v=>Value.isStrOf x v
noncomputable def Aqc (w:World):Key->Int
 | .inl k=>hashInt k
 | .inr x=>hashStr w x
theorem Cv:∀ {k:Key}{v:Value},Xc k v=true->(∃i t,k=Sum.inl i/\v=Value.int i t)\/(∃x t,k=Sum.inr x/\v=Value.str x t)
 | .inl i,v,h=>by
   obtain⟨t,e⟩:=Value.isInt_shape (k:=i) (v:=v) h
   exact .inl ⟨i,t,rfl,e⟩
 | .inr x,v,h=>by
   obtain⟨t,e⟩:=Value.isStrOf_shape (x:=x) (v:=v) h
   exact .inr ⟨x,t,rfl,e⟩
theorem Zz (i:Int) (t:Tok):Xc (.inl i) (.int i t)=true:=by simp [Xc,Value.isInt]
theorem Z1 (x:Str) (t:Tok):Xc (.inr x) (.str x t)=true:=by simp [Xc,Value.isStrOf]
theorem Ajw (a b:Int):decide ((Sum.inl a:Key)=Sum.inl b)=(a==b):=by
 by_cases e:a=b
 . subst e;simp
 . have h:¬(Sum.inl a:Key)=Sum.inl b:=fun q=>e (Sum.inl.inj q)
   rw [bY h]
   exact(eS.mpr e).symm
theorem Ajz (a b:Str):decide ((Sum.inr a:Key)=Sum.inr b)=decide (a=b):=by
 by_cases e:a=b
 . subst e;simp
 . have h:¬(Sum.inr a:Key)=Sum.inr b:=fun q=>e (Sum.inr.inj q)
   rw [bY h,bY e]
theorem Ajx (a:Int) (b:Str):decide ((Sum.inl a:Key)=Sum.inr b)=false:=bY (fun q=>nomatch q)
theorem Ajy (a:Str) (b:Int):decide ((Sum.inr a:Key)=Sum.inl b)=false:=bY (fun q=>nomatch q)
noncomputable def Cw (prog:Program) (w:World):PySem.KeyKind prog w Key where
 is:=Xc
 hash:=Aqc w
 inj:=fun v a b ha hb=>by
  rcases Cv ha with⟨i,t,rfl,rfl⟩ | ⟨x,t,rfl,rfl⟩
  . rcases Cv hb with⟨j,u,rfl,e⟩ | ⟨y,u,rfl,e⟩
    . injection e with e1 _;rw [e1]
    . exact nomatch e
  . rcases Cv hb with⟨j,u,rfl,e⟩ | ⟨y,u,rfl,e⟩
    . exact nomatch e
    . injection e with e1 _;rw [e1]
 byValue:=fun k v h=>by
  rcases Cv h with⟨i,t,rfl,rfl⟩ | ⟨x,t,rfl,rfl⟩<;>rfl
 pyHash:=fun hv h=>by
  rcases Cv hv with⟨i,t,rfl,rfl⟩ | ⟨x,t,rfl,rfl⟩
  . exact wpAny_pyHash_int h
  . exact wpAny_pyHash_str h
 eqBool:=fun hu hv h=>by
  rcases Cv hu with⟨i,t,rfl,rfl⟩ | ⟨x,t,rfl,rfl⟩
  . rcases Cv hv with⟨j,u,rfl,rfl⟩ | ⟨y,u,rfl,rfl⟩
    . rw [Ajw]at h;exact wpAny_eqBool_int h
    . rw [Ajx]at h;exact SeqAt.EqAt.int_str i t y u _ _ _ _ h
  . rcases Cv hv with⟨j,u,rfl,rfl⟩ | ⟨y,u,rfl,rfl⟩
    . rw [Ajy]at h;exact SeqAt.EqAt.str_int x t j u _ _ _ _ h
    . rw [Ajz]at h;exact wpAny_eqBool_str h
 «strs» :=fun k x t v h=>by
  rcases Cv h with⟨i,u,rfl,e⟩ | ⟨y,u,rfl,e⟩
  . exact nomatch e
  . injection e with e1 _
    subst e1
    cases v<;>rfl
theorem Uj (prog:Program) (w:World) (i:Int) (t:Tok):(Cw prog w).is (.inl i) (.int i t)=true:=Zz i t
theorem Uk (prog:Program) (w:World) (x:Str) (t:Tok):(Cw prog w).is (.inr x) (.str x t)=true:=Z1 x t
inductive V where
 | non | bl (b:Bool) | int (i:Int) | str (x:Str) | byt (b:Array UInt8) | flt (b:UInt64) | ref (a:Addr) | ty (n:String)
 deriving DecidableEq
noncomputable def RelV:V->Value->Prop
 | .non,u=>u=Value.none
 | .bl b,u=>u=Value.bool b
 | .int i,u=>∃t,u=Value.int i t
 | .str x,u=>∃t,u=Value.str x t
 | .byt b,u=>∃t,u=Value.bytes b t
 | .flt b,u=>∃t,u=Value.float b t
 | .ref a,u=>u=Value.ref a
 | .ty n,u=>u=Value.type n
noncomputable abbrev Vals:List V->List Value->Prop:=Paired RelV
theorem Vals.length {xs:List V}{us:List Value} (r:Vals xs us):xs.length=us.length:=jK r
theorem Vals.get:∀ {xs:List V}{us:List Value}{i:Nat}{x:V},Vals xs us->xs[i]? =some x->∃u,us[i]? =some u/\RelV x u
 | _,_,_,_,.nil,e=>by simp at e
 | _,_,0,_,.cons r _,e=>by simp at e;subst e;exact⟨_,rfl,r⟩
 | _,_,i+1,x,.cons _ t,e=>by
   obtain⟨u,h1,h2⟩:=Vals.get (i:=i) (x:=x) t (by simpa using e)
   exact⟨u,by simpa using h1,h2⟩
theorem Vals.set {x:V}{u:Value} (r:RelV x u):∀ {xs:List V}{us:List Value} (i:Nat),Vals xs us->Vals (xs.set i x) (us.set i u)
 | _,_,_,.nil=> .nil
 | _,_,0,.cons _ t=> .cons r t
 | _,_,i+1,.cons q t=> .cons q (Vals.set r i t)
theorem Vals.append:∀ {xs ys:List V}{us G:List Value},Vals xs us->Vals ys G->Vals (xs++ys) (us++G)
 | _,_,_,_,.nil,s=>s
 | _,_,_,_,.cons r t,s=> .cons r (Vals.append t s)
theorem Vals.take:∀ {xs:List V}{us:List Value} (n:Nat),Vals xs us->Vals (xs.take n) (us.take n)
 | _,_,0,_=> .nil
 | _,_,_+1,.nil=> .nil
 | _,_,n+1,.cons r t=> .cons r (Vals.take n t)
theorem Vals.drop:∀ {xs:List V}{us:List Value} (n:Nat),Vals xs us->Vals (xs.drop n) (us.drop n)
 | _,_,0,r=>r
 | _,_,_+1,.nil=> .nil
 | _,_,n+1,.cons _ t=>Vals.drop n t
noncomputable def Vf:Option V->Option Value->Prop
 | some v,some u=>RelV v u
 | none,none=>True
 | _,_=>False
noncomputable def KV {κ:Type}:List (κ × V)->List (κ × Value)->Prop:=Paired fun(p:κ × V) (q:κ × Value)=>p.1=q.1/\RelV p.2 q.2
noncomputable def kV:Key->V
 | .inl i=> .int i
 | .inr x=> .str x
inductive HO where
 | lst (xs:List V)
 | tup (xs:List V)
 | dK (kvs:List (Key × V)) | dT (kvs:List (List Key × V))
 | set (S:Int->Bool) (n:Nat)
 | ins (C dx:Addr) (fs:List (Str × V))
 | own (x:Addr)
 | xd (fs:List (Str × V))
 | met (f x:Addr)
 | rng (lo hi:Int)
 | frz (o:Obj) (u:HO)
 | tbl (ps:Array Value)
 | ext (φ:Heap->Prop)
noncomputable abbrev Hp:=Addr->Option HO
noncomputable def upd (H:Hp) (a:Addr) (o:HO):Hp:=fun b=>if b=a then some o else H b
variable {H:Hp}{a:Addr}
theorem Af {o:HO}:upd H a o a=some o:=by unfold upd;rw [aI rfl]
variable {b:Addr}
theorem Ax {o:HO} (h:b≠a):upd H a o b=H b:=by unfold upd;rw [aF h]
theorem G6 {o u:HO} (h:H a=some o) (h':H b=some u) (d:o≠u):a≠b:=by
 intro e;subst e;rw [h]at h';exact d (aY h')
theorem Ay {o:HO} (h:H a=some o) (h':H b=none):a≠b:=by
 intro e;subst e;rw [h]at h';cases h'
section
variable (P:Program) (w:World)
noncomputable def Cy (H:Hp) (h:Heap) (a:Addr):HO->Prop
 | .lst xs=>xs.length<=sizeLine/\∃(its:List Value) (n:Nat),Vals xs its/\h.get? a=some { cls:= .type "list",data:= .seq its.toArray n}
 | .tup xs=>xs.length<=sizeLine/\∃its:List Value,Vals xs its/\IsTup h a its.toArray
 | .dK kvs=>kvs.length<=sizeLine/\(a==sysModules)=false/\∃vs,KV kvs vs/\h.DictOf (Cw P w) a vs
 | .dT kvs=>kvs.length<=sizeLine/\(a==sysModules)=false/\∃xs:List (List Key × Addr × Value),
    Paired (fun(p:List Key × V) (q:List Key × Addr × Value)=>p.1=q.1/\H q.2.1=some (.tup (p.1.map kV))/\RelV p.2 q.2.2) kvs xs/\
    ∃o es ep,h.get? a=some o/\o.ExactDict/\o.data= .dict es ep/\es.toList=xs.map (entryOfKey (tupleKind (Cw P w)))/\(xs.map (·.1)).Nodup
 | .set S n=>h.SetOf (intKind P w) a S n
 | .ins C dx fs=>H dx=some (.own a)/\fs.length<=1000/\dx≠a/\h.get? a=some (instObj C dx)/\
    ∃mA,h.Ns1 dx mA/\(∀f,Vf (fs.lookup f) (mA f))/\PySem.Within mA (fs.map (·.1))
 | .own _=>∃o,h.get? a=some o
 | .xd fs=>∃mA,h.Ns1 a mA/\∀f,Vf (fs.lookup f) (mA f)
 | .rng lo hi=>∃t u v,h.get? a=some { cls:= .type "range",data:= .fields #[.int lo t,.int hi u,.int 1 v]}
 | .frz o u=>h.get? a=some o/\Cy H h a u
 | .tbl ps=>h.get? a=some { cls:= .none,data:= .fields ps}
 | .met f x=>h.get? a=some (methodObj (.ref f) (.ref x))
 | .ext φ=>φ h/\(∃o,h.get? a=some o)/\∀h1 h2:Heap,φ h1->(∀o,h1.get? a=some o->h2.get? a=some o)->φ h2
noncomputable def HOk (H:Hp) (h:Heap):Prop:=∀a o,H a=some o->Cy P w H h a o
end
section
variable {P:Program}{w:World}{H H':Hp}{h h':Heap}{a:Addr}{o:HO}
theorem Cy.lt (x:Cy P w H h a o):a<h.objs.size:=by
 cases o with
 | lst xs=>obtain⟨_,_,_,_,e⟩:=x;exact aJ e
 | tup xs=>obtain⟨_,_,_,p⟩:=x;exact p.lt
 | dK G=>obtain⟨_,_,_,_,o,_,_,e,_⟩:=x;exact aJ e
 | dT G=>obtain⟨_,_,_,_,o,_,_,e,_⟩:=x;exact aJ e
 | set S n=>obtain⟨o,_,_,_,e,_⟩:=x;exact aJ e
 | ins C dx fs=>obtain⟨_,_,_,e,_⟩:=x;exact aJ e
 | own y=>obtain⟨_,e⟩:=x;exact aJ e
 | xd fs=>obtain⟨_,⟨_,_,_,e,_⟩,_⟩:=x;exact aJ e
 | rng lo hi=>obtain⟨_,_,_,e⟩:=x;exact aJ e
 | frz J u=>obtain⟨e,_⟩:=x;exact aJ e
 | tbl ps=>exact aJ (show h.get? a=some _ from x)
 | met f y=>exact aJ (show h.get? a=some _ from x)
 | ext O=>obtain⟨_,⟨_,e⟩,_⟩:=x;exact aJ e
theorem Paired.mapP {α β:Type}{F G:α->β->Prop}:∀ {J:List α}{O:List β},Paired F J O->(∀a b,F a b->G a b)->Paired G J O
 | _,_,.nil,_=> .nil
 | _,_,.cons r t,f=> .cons (f _ _ r) (Paired.mapP t f)
theorem Cy.stay (x:Cy P w H h a o) (k:∀b u,(b=a\/H b=some (.own a))->h.get? b=some u->h'.get? b=some u)
 (ho:∀b,H b=some (.own a)->H' b=some (.own a)) (Z:∀b xs,H b=some (.tup xs)->H' b=some (.tup xs)):Cy P w H' h' a o:=by
 induction o with
 | lst xs=>obtain⟨z,J,n,r,e⟩:=x;exact⟨z,J,n,r,k _ _ (.inl rfl) e⟩
 | tup xs=>obtain⟨z,J,r,G,e,c⟩:=x;exact⟨z,J,r,G,k _ _ (.inl rfl) e,c⟩
 | dK O=>obtain⟨z,y,vs,r,G,es,ep,e,c⟩:=x;exact⟨z,y,vs,r,G,es,ep,k _ _ (.inl rfl) e,c⟩
 | dT O=>
   obtain⟨z,y,xs,r,G,es,ep,e,c⟩:=x
   exact⟨z,y,xs,Paired.mapP r fun p q z=>⟨z.1,Z _ _ z.2.1,z.2.2⟩,G,es,ep,k _ _ (.inl rfl) e,c⟩
 | set S n=>obtain⟨G,es,ep,t,e,c⟩:=x;exact⟨G,es,ep,t,k _ _ (.inl rfl) e,c⟩
 | ins C dx fs=>
   obtain⟨d,z,ne,e,mA,⟨U,es,ep,e2,c⟩,r⟩:=x
   exact⟨ho _ d,z,ne,k _ _ (.inl rfl) e,mA,⟨U,es,ep,k _ _ (.inr d) e2,c⟩,r⟩
 | own y=>obtain⟨G,e⟩:=x;exact⟨G,k _ _ (.inl rfl) e⟩
 | xd fs=>obtain⟨mA,⟨U,es,ep,e,c⟩,r⟩:=x;exact⟨mA,⟨U,es,ep,k _ _ (.inl rfl) e,c⟩,r⟩
 | rng lo hi=>obtain⟨t,u,v,e⟩:=x;exact⟨t,u,v,k _ _ (.inl rfl) e⟩
 | frz G u ih=>obtain⟨e,q⟩:=x;exact⟨k _ _ (.inl rfl) e,ih q⟩
 | tbl ps=>
   have e:h.get? a=some { cls:= .none,data:= .fields ps}:=x
   show h'.get? a=some { cls:= .none,data:= .fields ps}
   exact k a _ (.inl rfl) e
 | met f y=>
   have e:h.get? a=some (methodObj (.ref f) (.ref y)):=x
   show h'.get? a=some (methodObj (.ref f) (.ref y))
   exact k a _ (.inl rfl) e
 | ext φ=>obtain⟨p,⟨o,e⟩,st⟩:=x;exact⟨st _ _ p fun o q=>k _ _ (.inl rfl) q,⟨o,k _ _ (.inl rfl) e⟩,st⟩
theorem HOk.lt (x:HOk P w H h) (e:H a=some o):a<h.objs.size:=(x a o e).lt
theorem HOk.fresh (x:HOk P w H h) (e:h.objs.size<=a):H a=none:=by
 cases q:H a with
 | none=>rfl
 | some u=>exact absurd (bB (x.lt q) e) (cZ _)
theorem HOk.kept (x:HOk P w H h) (k:∀b u,h.get? b=some u->h'.get? b=some u):HOk P w H h':=fun a o e=>
 (x a o e).stay (fun b u _ q=>k b u q) (fun _ q=>q) fun _ _ q=>q
theorem HOk.laid (x:HOk P w H h) (k:∀b u,h.get? b=some u->h'.get? b=some u) (O:h.objs.size<=a) (new:Cy P w (upd H a o) h' a o):HOk P w (upd H a o) h':=fun b u e=>by
 have G:=x.fresh O
 by_cases J:b=a
 . subst J;rw [Af]at e;cases e;exact new
 . rw [Ax J]at e
   exact(x b u e).stay (fun c v _ q=>k c v q) (fun c q=>by rw [Ax (Ay q G)];exact q) fun c xs q=>by rw [Ax (Ay q G)];exact q
end
noncomputable def Rd (H:Hp) (a:Addr) (u:HO):Prop:=H a=some u\/∃o,H a=some (.frz o u)
theorem Rd.of {u:HO} (h:H a=some u):Rd H a u:= .inl h
variable {P:Program}{w:World}{h:Heap}
theorem Rd.ok {u:HO} (r:Rd H a u) (x:HOk P w H h):Cy P w H h a u:=by
 rcases r with r | ⟨o,r⟩
 . exact x a u r
 . obtain⟨_,q⟩:=x a _ r
   exact q
noncomputable def Mut:Option HO->Prop
 | some (.lst _)=>True
 | some (.dK _)=>True
 | some (.dT _)=>True
 | some (.set _ _)=>True
 | some (.ins _ _ _)=>True
 | some (.ext _)=>True
 | _=>False
section
variable {P:Program}{w:World}{H:Hp}{h h':Heap}{x e:Addr}{o':HO}
theorem HOk.write (ok:HOk P w H h) (U:Mut (H x)) (he:e=x\/H e=some (.own x)) (k:∀b u,b≠e->h.get? b=some u->h'.get? b=some u) (a1:∃u,h'.get? e=some u)
 (new:Cy P w (upd H x o') h' x o'):HOk P w (upd H x o') h':=fun b u q=>by
 have J:∀c y,H c=some (.own y)->c≠x:=fun c y r z=>by subst z;rw [r]at U;exact U
 have O:∀c xs,H c=some (.tup xs)->c≠x:=fun c xs r z=>by subst z;rw [r]at U;exact U
 by_cases W:b=x
 . subst W;rw [Af]at q;cases q;exact new
 . rw [Ax W]at q
   by_cases G:b=e
   . have q':H b=some (.own x):=by
      rcases he with z | z
      . exact absurd (G.trans z) W
      . rw [G];exact z
     rw [q]at q';cases q'
     obtain⟨v,hv⟩:=a1
     exact⟨v,by rw [G];exact hv⟩
   . refine(ok b u q).stay (fun c v Z r=>k c v ?_ r) (fun c r=>by rw [Ax (J c b r)];exact r) fun c xs r=>by rw [Ax (O c xs r)];exact r
     rcases Z with rfl | Z
     . exact G
     . rintro rfl
       rcases he with z | z
       . exact J c b Z z
       . rw [Z]at z;cases z;exact W rfl
end
structure Un (fs ex:List Addr) (H H':Hp) (h h':Heap):Prop where
 keep:∀b o,h.get? b=some o->H b=none->b∉fs->b∉ex->h'.get? b=some o
 slot:∀b o,h.get? b=some o->H b=none->b∈fs->b∉ex->∃sl,h'.get? b=some { o with slots:=sl}
 free:∀b o,h.get? b=some o->H b=none->b∉ex->H' b=none
 there:∀b o,h.get? b=some o->b∉ex->∃o',h'.get? b=some o'
 tups:∀b xs,H b=some (.tup xs)->H' b=some (.tup xs)
 frzs:∀b o u,H b=some (.frz o u)->H' b=some (.frz o u)
 tbls:∀b ps,H b=some (.tbl ps)->∃more,H' b=some (.tbl (ps++more))
section
variable {fs fs' ex ex':List Addr}{H H1 H2:Hp}{h h1 h2 h':Heap}{a x e:Addr}{o:HO}
theorem Un.any (u:Un fs ex H H1 h h1) {G:Obj} (q:h.get? b=some G) (n:H b=none) (J:b∉ex):∃U,h1.get? b=some { G with slots:=U}:=by
 by_cases O:b∈fs
 . exact u.slot b G q n O J
 . exact⟨G.slots,u.keep b G q n O J⟩
theorem Un.trans (a:Un fs ex H H1 h h1) (b:Un fs ex H1 H2 h1 h2):Un fs ex H H2 h h2 where
 keep:=fun c G q n U J=>b.keep c G (a.keep c G q n U J) (a.free c G q n J) U J
 slot:=fun c G q n U J=>by
  obtain⟨sl,O⟩:=a.slot c G q n U J
  obtain⟨W,Z⟩:=b.slot c _ O (a.free c G q n J) U J
  exact⟨W,Z⟩
 free:=fun c G q n J=>by
  obtain⟨o',O⟩:=a.there c G q J
  exact b.free c o' O (a.free c G q n J) J
 there:=fun c G q J=>by
  obtain⟨o',O⟩:=a.there c G q J
  exact b.there c o' O J
 tups:=fun c xs q=>b.tups c xs (a.tups c xs q)
 frzs:=fun c G xs q=>b.frzs c G xs (a.frzs c G xs q)
 tbls:=fun c ps q=>by
  obtain⟨m1,O⟩:=a.tbls c ps q
  obtain⟨m2,Z⟩:=b.tbls c _ O
  exact⟨m1++m2,by rw [Z,Array.append_assoc]⟩
theorem Un.kept (k:∀b u,h.get? b=some u->h'.get? b=some u):Un fs ex H H h h':=
 ⟨fun b G q _ _ _=>k b G q,fun b G q _ _ _=>⟨G.slots,k b G q⟩,fun _ _ _ n _=>n,fun b G q _=>⟨G,k b G q⟩,fun _ _ q=>q,fun _ _ _ q=>q,fun _ ps q=>⟨#[],by rw [q];simp⟩⟩
theorem Un.refl:Un fs ex H H h h:=Un.kept fun _ _ q=>q
theorem Un.laid (k:∀b u,h.get? b=some u->h'.get? b=some u) (J:h.objs.size<=a) (G:H a=none):Un fs ex H (upd H a o) h h' where
 keep:=fun b u q _ _ _=>k b u q
 slot:=fun b u q _ _ _=>⟨u.slots,k b u q⟩
 free:=fun b u q n _=>by rw [Ax (aP (bB (aJ q) J))];exact n
 there:=fun b u q _=>⟨u,k b u q⟩
 tups:=fun b xs q=>by rw [Ax (Ay q G)];exact q
 frzs:=fun b u xs q=>by rw [Ax (Ay q G)];exact q
 tbls:=fun b ps q=>⟨#[],by rw [Ax (Ay q G),q];simp⟩
theorem Un.write (J:Mut (H x)) (he:e=x\/H e=some (.own x)) (k:∀b u,b≠e->h.get? b=some u->h'.get? b=some u) (O:∃u,h'.get? e=some u):Un fs ex H (upd H x o) h h':=by
 have W:∀b,H b=none->b≠x:=fun b n z=>by subst z;rw [n]at J;exact J
 have Z:∀b,H b=none->b≠e:=fun b n z=>by
  subst z
  rcases he with r | r
  . exact W b n r
  . rw [n]at r;cases r
 have U:∀b u,H b=some u->¬Mut (some u)->b≠x:=fun b u q nm z=>by subst z;rw [q]at J;exact nm J
 refine⟨fun b u q n _ _=>k b u (Z b n) q,fun b u q n _ _=>⟨u.slots,k b u (Z b n) q⟩,fun b u q n _=>by rw [Ax (W b n)];exact n,fun b u q _=> ?_,
  fun b xs q=>by rw [Ax (U b _ q fun z=>z)];exact q,fun b u xs q=>by rw [Ax (U b _ q fun z=>z)];exact q,fun b ps q=>⟨#[],by rw [Ax (U b _ q fun z=>z),q];simp⟩⟩
 by_cases G:b=e
 . subst G;exact O
 . exact⟨u,k b u G q⟩
theorem Un.mono (u:Un fs ex H H1 h h1) (U:∀b∈fs,b∈fs') (O:∀b∈ex,b∈ex'):Un fs' ex' H H1 h h1:=
 ⟨fun b J q n W G=>u.keep b J q n (fun z=>W (U b z)) fun z=>G (O b z),fun _ _ q n _ G=>u.any q n fun z=>G (O _ z),fun b J q n G=>u.free b J q n fun z=>G (O b z),fun b J q G=>u.there b J q fun z=>G (O b z),u.tups,u.frzs,u.tbls⟩
end
noncomputable def trk (h:Heap) (H:Hp):List Addr:=(List.range h.objs.size).filter fun a=>(H a).isSome
noncomputable def Ac5 (h:Heap) (H:Hp):Heap:=hideAll h (trk h H)
theorem Zn (h:Heap) (H:Hp):(Ac5 h H).objs.size=h.objs.size:=PySem.W.hideAll_size _ _
variable {o:Obj}
theorem Ac6 (e:h.get? b=some o) (n:H b=none):(Ac5 h H).get? b=some o:=
 hU _ e fun G=>by
  have q:(H b).isSome=true:=(dJ.mp G).2
  rw [n]at q;simp at q
theorem Agv (e:(Ac5 h H).get? b=some o):h.get? b=some o/\H b=none:=by
 have G:h.get? b=some o:=jL (trk h H) e
 refine⟨G,?_⟩
 cases q:H b with
 | none=>rfl
 | some x=>
   have J:b∈trk h H:=dJ.mpr ⟨cW.mpr (aJ G),by simp [q]⟩
   have z:(Ac5 h H).get? b=none:=hideAll_none (trk h H) J
   rw [z]at e;cases e
noncomputable def Af1 (g h:Heap) (L:Addr):List (Addr × Obj):=(List.range h.objs.size).filterMap fun a=>if a=L\/(g.get? a).isSome=true then none else(h.get? a).map fun o=>(a,o)
noncomputable def rest (g h:Heap) (L d:Addr):List (Addr × Obj):=(Af1 g h L).filter fun p=>decide (p.1≠d)
structure Mod (K:Frag) (mg:Str->Option Value) (base:Heap):Prop where
 kin:K.In base
 glob:base.Ns mainGlobals mg
 blt:∃mb,base.Ns builtinsNs mb/\∀x:Str,x≠"__name__"->mb x=bootBuiltins x
 nolimit:base.NoLimit
structure Cx where
 prog:Program
 w:World
 K:Frag
 mg:Str->Option Value
 base:Heap
 A:Around
 N:List Str
 s₀:Shared
 H₀:Hp
 env:Env
 outer:List Env
 stack:List Env
 ex:List Addr
 fn:Str->Bool
 calm:Bool
 pn:List (Addr × Obj)
 xe:Value->Shared->Prop
noncomputable def frs (l:List Env):List Addr:=l.filterMap (·.frame)
noncomputable abbrev Cx.fs (X:Cx):List Addr:=frs X.outer
noncomputable def Vis (sc:Scope) (x:Str):Prop:=sc.names.lookup x=some .local \/sc.names.lookup x=some .cell\/sc.names.lookup x=some .free
noncomputable def Loc (sc:Scope) (x:Str):Prop:=sc.names.lookup x=some .local \/sc.names.lookup x=some .cell
noncomputable def Look (env:Env) (h:Heap) (m:Str->Option Value) (x:Str) (u:Value):Prop:=
 (env.kindOf x=some .local /\m x=some u)\/((env.kindOf x=some .cell\/env.kindOf x=some .free)/\∃c,env.cells.lookup x=some c/\h.IsCell c (some u))
structure Cx.Ok (X:Cx):Prop where
 mod:Mod X.K X.mg X.base
 kind:X.env.scope.kind= .function
 glob:X.env.globals=mainGlobals
 blt:X.env.builtins=builtinsNs
 above:X.s₀.heap.objs.size<=X.env.locals
 inj:∀x y c,X.env.cells.lookup x=some c->X.env.cells.lookup y=some c->x=y
 has:∀x,(X.env.kindOf x=some .cell\/X.env.kindOf x=some .free)->∃c,X.env.cells.lookup x=some c
 cab:∀x c,X.fn x=true->X.env.cells.lookup x=some c->X.s₀.heap.objs.size<=c
 hd:X.calm=true->X.A.handled=none
 frames:X.A.frames=some X.stack
 stk:X.stack=X.outer\/(X.stack=X.env::X.outer/\X.env.frame=some X.env.locals)
 exf:∀b∈X.ex,b≠X.env.locals/\∀x c,X.env.cells.lookup x=some c->c≠b
 bs:∀b o,X.base.get? b=some o->X.s₀.heap.get? b=some o/\X.H₀ b=none
 bsz:X.base.objs.size<=X.s₀.heap.objs.size
 noex:∀b o,X.base.get? b=some o->b∉X.ex
 exfs:∀b∈X.ex,b∉X.fs
 funs:X.s₀.heap.FunFrames X.base X.outer
 frf:∀b∈X.fs,X.H₀ b=none
structure Inv (X:Cx) (pins:List (Addr × Obj)) (σ:List (Option V)) (H:Hp) (s:Shared):Prop where
 ok:X.Ok
 os:s.os=X.s₀.os
 bare:AllBare s.gens
 base:Un X.fs X.ex X.H₀ H X.s₀.heap s.heap
 loc:∃m,s.heap.Ns X.env.locals m/\∀(i:Nat) (x:Str) (v:V),X.N[i]? =some x->σ[i]? =some (some v)->Vis X.env.scope x->∃u,RelV v u/\Look X.env s.heap m x u
 cell:∀x c,X.env.cells.lookup x=some c->∃v,s.heap.IsCell c v
 free:H X.env.locals=none
 freeC:∀x c,X.env.cells.lookup x=some c->H c=none
 pin:∀p∈X.pn++pins,s.heap.get? p.1=some p.2/\H p.1=none/\p.1≠X.env.locals/\p.1∉X.fs/\∀v,p.2.data≠ .cell v
 hok:HOk X.prog X.w H s.heap
 len:σ.length=X.N.length
variable {ch:List Addr}{it:Addr}{N:List Str}{i j:Nat}{x:Str}{v:V}{u:Value}
section
variable {X:Cx}{pins:List (Addr × Obj)}{σ:List (Option V)}{H H':Hp}{s:Shared}{h':Heap}
theorem Cx.Ok.nofr (ok:X.Ok)  (e:X.base.get? b=some o):b∉X.fs:=fun G=>by
 have:=(ok.funs.mem G).1
 rw [e]at this;cases this
theorem Inv.bs (I:Inv X pins σ H s):∀b o,X.base.get? b=some o->s.heap.get? b=some o/\H b=none:=fun b o e=>
 ⟨I.base.keep b o (I.ok.bs b o e).1 (I.ok.bs b o e).2 (I.ok.nofr e) (I.ok.noex b o e),I.base.free b o (I.ok.bs b o e).1 (I.ok.bs b o e).2 (I.ok.noex b o e)⟩
theorem Inv.bk (I:Inv X pins σ H s):∀b o,X.base.get? b=some o->s.heap.get? b=some o:=fun b o e=>(I.bs b o e).1
theorem Inv.mod (I:Inv X pins σ H s):Mod X.K X.mg X.base:=I.ok.mod
theorem Inv.kIn (I:Inv X pins σ H s):X.K.In s.heap:=I.ok.mod.kin.keeps I.bk
theorem Inv.nolimit (I:Inv X pins σ H s):s.heap.NoLimit:=I.ok.mod.nolimit.keeps I.bk
theorem Inv.fr (I:Inv X pins σ H s):∃m,Fr X.base X.env.locals s.heap m:=
 let ⟨m,hn,_⟩:=I.loc
 ⟨m,hn,I.bk,aO I.ok.bsz I.ok.above⟩
theorem Inv.lt (I:Inv X pins σ H s):X.env.locals<s.heap.objs.size:=let ⟨_,hn,_⟩:=I.loc;hn.lt
theorem Inv.sz (I:Inv X pins σ H s):X.s₀.heap.objs.size<=s.heap.objs.size:=aO I.ok.above (fY I.lt)
theorem Inv.nofs (I:Inv X pins σ H s)  (h:s.heap.objs.size<=a):a∉X.fs:=fun G=>by
 obtain⟨_,o,ho,_⟩:=I.ok.funs.mem G
 exact absurd (bB (aJ ho) (aO I.sz h)) (cZ _)
theorem Inv.cne (I:Inv X pins σ H s):∀x c,X.env.cells.lookup x=some c->c≠X.env.locals:=fun x c e z=>by
 obtain⟨v,o,ho,O⟩:=I.cell x c e
 obtain⟨m,⟨o',es,ep,G,J,_⟩,_⟩:=I.loc
 rw [z,G]at ho;cases ho;rw [J]at O;cases O
theorem Inv.funs (I:Inv X pins σ H s):s.heap.FunFrames X.base X.outer:=by
 have all:∀(l:List Env),(∀b∈frs l,b∈X.fs)->X.s₀.heap.FunFrames X.base l->s.heap.FunFrames X.base l:=by
  intro l
  induction l with
  | nil=>intro _ _;trivial
  | cons env r W=>
    intro U Z
    obtain⟨hk,⟨L,o,G,hn,ho,hd⟩,hr⟩:=Z
    have J:L∈X.fs:=U L (by unfold frs;rw [List.filterMap_cons,G];exact cY)
    obtain⟨sl,e⟩:=I.base.slot L o ho (I.ok.frf L J) J fun z=>I.ok.exfs L z J
    exact⟨hk,⟨L,_,G,hn,e,hd⟩,W (fun b O=>U b (by unfold frs;rw [List.filterMap_cons,G];exact cI _ O)) hr⟩
 exact all X.outer (fun _ O=>O) I.ok.funs
theorem Inv.stack (I:Inv X pins σ H s):s.heap.FunFrames X.base X.stack:=by
 rcases I.ok.stk with e | ⟨e,G⟩
 . rw [e];exact I.funs
 . rw [e]
   obtain⟨m,J,_⟩:=I.loc
   refine .cons (by rw [I.ok.kind];decide) G J ?_ I.funs
   exact Heap.get?_none_of_le (aO I.ok.bsz I.ok.above)
theorem Inv.stkSub (I:Inv X pins σ H s):∀b∈frs X.stack,b∈X.env.locals::X.fs:=fun b G=>by
 rcases I.ok.stk with e | ⟨e,J⟩
 . rw [e]at G;exact cI _ G
 . rw [e]at G
   unfold frs at G
   rw [List.filterMap_cons,J]at G
   exact G
theorem Inv.stkFree (I:Inv X pins σ H s):∀b∈frs X.stack,H b=none:=fun b G=>by
 rcases aS.mp (I.stkSub b G)with e | G
 . rw [e];exact I.free
 . obtain⟨_,o,ho,_⟩:=I.ok.funs.mem G
   exact I.base.free b o ho (I.ok.frf b G) fun z=>I.ok.exfs b z G
theorem Inv.step {g':Array GenState}{t':Nat}{d':Drawn}{ch:List Addr} (I:Inv X pins σ H s)
 (J:∀b∈ch,(b∈X.ex\/X.s₀.heap.objs.size<=b)/\b≠X.env.locals/\(∀x c,X.env.cells.lookup x=some c->c≠b)/\∀p∈X.pn++pins,p.1≠b)
 (keep:∀b o,b≠X.env.locals->b∉X.fs->b∉ch->s.heap.get? b=some o->H b=none->h'.get? b=some o)
 (Z:∀b o,b≠X.env.locals->b∈X.fs->b∉ch->s.heap.get? b=some o->H b=none->∃sl,h'.get? b=some { o with slots:=sl}) (free:∀b o,b∉ch->s.heap.get? b=some o->H b=none->H' b=none)
 (there:∀b o,b∉ch->s.heap.get? b=some o->∃o',h'.get? b=some o')
 (a1:∀b xs,H b=some (.tup xs)->H' b=some (.tup xs)) (a2:∀b o u,H b=some (.frz o u)->H' b=some (.frz o u)) (a3:∀b ps,H b=some (.tbl ps)->∃a4,H' b=some (.tbl (ps++a4)))
 (ns:∀m,s.heap.Ns X.env.locals m->h'.Ns X.env.locals m) (a6:HOk X.prog X.w H' h') (hg:AllBare g'):
 Inv X pins σ H' { s with heap:=h',gens:=g',drawn:=d',toks:=t'}:=by
 have a5:∀b o,X.s₀.heap.get? b=some o->b≠X.env.locals:=fun b o e=>aP (bB (aJ e) I.ok.above)
 have U:∀b o,X.s₀.heap.get? b=some o->b∉X.ex->b∉ch:=fun b o e G hb=>by
  rcases(J b hb).1 with z | z
  . exact G z
  . exact absurd (bB (aJ e) z) (cZ _)
 have cellK:∀x c,X.env.cells.lookup x=some c->∀v,s.heap.IsCell c v->h'.IsCell c v:=fun x c e v ⟨o,ho,hd⟩=>by
  have O:c∉ch:=fun z=>(J c z).2.2.1 x c e rfl
  by_cases hc:c∈X.fs
  . obtain⟨sl,q⟩:=Z c o (I.cne x c e) hc O ho (I.freeC x c e)
    exact⟨_,q,hd⟩
  . exact⟨o,keep c o (I.cne x c e) hc O ho (I.freeC x c e),hd⟩
 refine⟨I.ok,I.os,hg,⟨fun b o e n hb G=> ?_,fun b o e n hb G=> ?_,fun b o e n G=> ?_,fun b o e G=> ?_,fun b xs e=>a1 b xs (I.base.tups b xs e),fun b o xs e=>a2 b o xs (I.base.frzs b o xs e),fun b ps e=> ?_⟩,?_,fun x c e=> ?_,?_,fun x c e=> ?_,fun p hp=> ?_,a6,I.len⟩
 . exact keep b o (a5 b o e) hb (U b o e G) (I.base.keep b o e n hb G) (I.base.free b o e n G)
 . obtain⟨sl,W⟩:=I.base.slot b o e n hb G
   obtain⟨a7,e2⟩:=Z b _ (a5 b o e) hb (U b o e G) W (I.base.free b o e n G)
   exact⟨a7,e2⟩
 . obtain⟨o',W⟩:=I.base.there b o e G
   exact free b o' (U b o e G) W (I.base.free b o e n G)
 . obtain⟨o',W⟩:=I.base.there b o e G
   exact there b o' (U b o e G) W
 . obtain⟨m1,W⟩:=I.base.tbls b ps e
   obtain⟨m2,e2⟩:=a3 b _ W
   exact⟨m1++m2,by rw [e2,Array.append_assoc]⟩
 . obtain⟨m,hn,hl⟩:=I.loc
   refine⟨m,ns m hn,fun i x v W e2 e3=> ?_⟩
   obtain⟨u,r,l⟩:=hl i x v W e2 e3
   refine⟨u,r,?_⟩
   rcases l with l | ⟨k,c,e,z⟩
   . exact .inl l
   . exact .inr ⟨k,c,e,cellK x c e _ z⟩
 . obtain⟨v,z⟩:=I.cell x c e
   exact⟨v,cellK x c e v z⟩
 . obtain⟨m,⟨o,_,_,ho,_⟩,_⟩:=I.loc
   exact free _ o (fun z=>(J _ z).2.1 rfl) ho I.free
 . obtain⟨v,o,ho,hd⟩:=I.cell x c e
   exact free c o (fun z=>(J c z).2.2.1 x c e rfl) ho (I.freeC x c e)
 . obtain⟨e,n,ne,nf,d⟩:=I.pin p hp
   have O:p.1∉ch:=fun z=>(J p.1 z).2.2.2 p hp rfl
   exact⟨keep p.1 p.2 ne nf O e n,free p.1 p.2 O e n,ne,nf,d⟩
theorem Inv.un {t':Nat} (I:Inv X pins σ H s) (u:Un X.fs [] H H' s.heap h') (J:HOk X.prog X.w H' h'):Inv X pins σ H' { s with heap:=h',toks:=t'}:=by
 obtain⟨m,⟨o,es,ep,ho,r⟩,_⟩:=id I.loc
 obtain⟨sl,Z⟩:=u.any ho I.free (by simp)
 exact I.step (g':=s.gens) (d':=s.drawn) (ch:=[]) (fun _ z=>nomatch z) (fun b o _ O _ e n=>u.keep b o e n O (by simp)) (fun b o _ O _ e n=>u.slot b o e n O (by simp)) (fun b o _ e n=>u.free b o e n (by simp)) (fun b o _ e=>u.there b o e (by simp)) u.tups u.frzs u.tbls (fun m' hm=>by
  obtain⟨o',U,W,G,r'⟩:=hm
  rw [ho]at G;cases G
  exact⟨_,U,W,Z,r'⟩) J I.bare
theorem Inv.call {g':Array GenState}{t':Nat}{d':Drawn} (I:Inv X pins σ H s) (u:Un (frs X.stack) ch H H' s.heap h') (U:HOk X.prog X.w H' h') (hg:AllBare g')
 (J:∀b∈ch,(b∈X.ex\/X.s₀.heap.objs.size<=b)/\b≠X.env.locals/\(∀x c,X.env.cells.lookup x=some c->c≠b)/\∀p∈X.pn++pins,p.1≠b):
 Inv X pins σ H' { s with heap:=h',gens:=g',drawn:=d',toks:=t'}:=by
 obtain⟨m,⟨o,es,ep,ho,r⟩,_⟩:=id I.loc
 obtain⟨sl,W⟩:=u.any ho I.free fun z=>(J _ z).2.1 rfl
 exact I.step (ch:=ch) J (fun b o W hb G e n=>u.keep b o e n (fun z=>(aS.mp (I.stkSub b z)).elim W hb) G) (fun b o _ _ G e n=>u.any e n G) (fun b o G e n=>u.free b o e n G) (fun b o G e=>u.there b o e G) u.tups u.frzs u.tbls (fun m' hm=>by
  obtain⟨o',Z,a1,O,r'⟩:=hm
  rw [ho]at O;cases O
  exact⟨_,Z,a1,W,r'⟩) U hg
theorem Inv.turned {t':Nat} (I:Inv X pins σ H s) (k:∀b o,b≠it->s.heap.get? b=some o->h'.get? b=some o) (U:H it=none) (O:it≠X.env.locals)
 (h1:it∈X.ex\/X.s₀.heap.objs.size<=it) (h2:∀x c,X.env.cells.lookup x=some c->c≠it) (W:∀p∈X.pn++pins,p.1≠it):Inv X pins σ H { s with heap:=h',toks:=t'}:=by
 have J:∀b u,H b=some u->b≠it:=fun b u e z=>by rw [z,U]at e;cases e
 refine I.step (g':=s.gens) (d':=s.drawn) (ch:=[it]) (fun b Z=> ?_) (fun b o _ _ G e _=>k b o (fun z=>G (by simp [z])) e) (fun b o _ _ G e _=>⟨o.slots,k b o (fun z=>G (by simp [z])) e⟩) (fun _ _ _ _ n=>n)
  (fun b o G e=>⟨o,k b o (fun z=>G (by simp [z])) e⟩) (fun _ _ e=>e) (fun _ _ _ e=>e) (fun b ps e=>⟨#[],by rw [e];simp⟩) (fun m hm=> ?_) (fun b u e=> ?_) I.bare
 . have e:b=it:=by simpa using Z
   subst e
   exact⟨h1,O,h2,W⟩
 . obtain⟨o,es,ep,ho,r⟩:=hm
   exact⟨o,es,ep,k _ o (cC O) ho,r⟩
 . refine(I.hok b u e).stay (fun c v G q=>k c v ?_ q) (fun _ q=>q) fun _ _ q=>q
   rcases G with z | z
   . rw [z];exact J b u e
   . exact J c _ z
theorem Inv.tok (I:Inv X pins σ H s) (t:Nat):Inv X pins σ H { s with toks:=t}:=I.un (h':=s.heap) (t':=t) Un.refl I.hok
theorem Inv.kept {t':Nat} (I:Inv X pins σ H s) (k:∀b u,s.heap.get? b=some u->h'.get? b=some u):Inv X pins σ H { s with heap:=h',toks:=t'}:=I.un (Un.kept k) (I.hok.kept k)
theorem Inv.laid {a:Addr}{o:HO}{t':Nat} (I:Inv X pins σ H s) (k:∀b u,s.heap.get? b=some u->h'.get? b=some u) (G:s.heap.objs.size<=a) (new:Cy X.prog X.w (upd H a o) h' a o):
 Inv X pins σ (upd H a o) { s with heap:=h',toks:=t'}:=I.un (Un.laid k G (I.hok.fresh G)) (I.hok.laid k G new)
theorem Inv.write {x e:Addr}{o:HO}{t':Nat} (I:Inv X pins σ H s) (J:Mut (H x)) (O:e=x\/H e=some (.own x)) (k:∀b u,b≠e->s.heap.get? b=some u->h'.get? b=some u) (G:∃u,h'.get? e=some u)
 (new:Cy X.prog X.w (upd H x o) h' x o):Inv X pins σ (upd H x o) { s with heap:=h',toks:=t'}:=I.un (Un.write J O k G) (I.hok.write J O k G new)
theorem Inv.weak {G:List (Option V)} (I:Inv X pins σ H s) (J:G.length=σ.length) (w:∀(i:Nat) v,G[i]? =some (some v)->σ[i]? =some (some v)):Inv X pins G H s:=
 ⟨I.ok,I.os,I.bare,I.base,let ⟨m,hn,hl'⟩:=I.loc;⟨m,hn,fun i x v O U W=>hl' i x v O (w i v U) W⟩,I.cell,I.free,I.freeC,I.pin,I.hok,J.trans I.len⟩
theorem Inv.pins_of {G:List (Addr × Obj)} (I:Inv X pins σ H s) (h:∀p∈G,s.heap.get? p.1=some p.2/\H p.1=none/\p.1≠X.env.locals/\p.1∉X.fs/\∀v,p.2.data≠ .cell v):Inv X G σ H s:=
 ⟨I.ok,I.os,I.bare,I.base,I.loc,I.cell,I.free,I.freeC,fun p J=>(bG.mp J).elim (fun z=>I.pin p (bK _ z)) (h p),I.hok,I.len⟩
theorem Qe (G:N.Nodup)  (a:N[i]? =some x) (b:N[j]? =some x):i=j:=by
 obtain⟨h1,J⟩:=aW.mp a
 obtain⟨h2,O⟩:=aW.mp b
 exact(List.getElem_inj G).mp (J.trans O.symm)
theorem Abg {M:Model}{A:Around}{E:Value->Shared->Prop}{Q:Unit->Shared->Prop} (I:Inv X pins σ H s) (hN:X.N.Nodup) (hi:X.N[i]? =some x) (U:Loc X.env.scope x) (r:RelV v u)
 (h:∀s',Inv X pins (σ.set i (some v)) H s'->(∃a,Heap.SameBut a s.heap s'.heap/\(a=X.env.locals\/X.env.cells.lookup x=some a))->Q () s') (hf:X.fn x=true\/X.env.scope.names.lookup x=some .local :=by first | exact .inl rfl | exact .inr rfl | assumption):wpAny M A (storeName X.env x u) Q E s:=by
 obtain⟨m,hn,hl⟩:=id I.loc
 have a3:(X.env.scope.kind== .class||(X.env.scope.kind== .module&&X.env.locals != X.env.globals))=false:=by rw [I.ok.kind];rfl
 have a1:i<σ.length:=by rw [I.len];exact(aW.mp hi).1
 have cne:=I.cne
 have tracked:∀ {a:Addr}{h':Heap},(∃o,s.heap.get? a=some o/\H a=none)->Heap.SameBut a s.heap h'->HOk X.prog X.w H h':=fun {a h'} ha G b ob e=>by
  obtain⟨_,_,W⟩:=ha
  refine(I.hok b ob e).stay (fun c w' O q=>(G.2 c ?_).trans q) (fun _ q=>q) fun _ _ q=>q
  rintro rfl
  rcases O with rfl | O
  . rw [W]at e;cases e
  . rw [W]at O;cases O
 rcases U with hk | hk
 . refine wpAny_storeName_local hk hn (fun h' a8 G=> ?_) a3
   obtain⟨oL,_,_,a9,_⟩:=id hn
   refine h _ ⟨I.ok,I.os,I.bare,⟨fun b o e n hb U=> ?_,fun b o e n hb U=> ?_,I.base.free,fun b o e U=> ?_,I.base.tups,I.base.frzs,I.base.tbls⟩,⟨_,a8,fun j y v' J Z e3=> ?_⟩,fun y c e=> ?_,I.free,I.freeC,fun p hp=> ?_,tracked ⟨oL,a9,I.free⟩ G,by simpa using I.len⟩ ⟨_,G,.inl rfl⟩
   . exact(G.2 b (aP (bB (aJ e) I.ok.above))).trans (I.base.keep b o e n hb U)
   . obtain⟨sl,J⟩:=I.base.slot b o e n hb U
     exact⟨sl,(G.2 b (aP (bB (aJ e) I.ok.above))).trans J⟩
   . obtain⟨o',J⟩:=I.base.there b o e U
     exact⟨o',(G.2 b (aP (bB (aJ e) I.ok.above))).trans J⟩
   . by_cases hj:j=i
     . subst hj
       rw [hi]at J;cases J
       rw [kT a1]at Z
       cases Z
       exact⟨u,r,.inl ⟨hk,by simp⟩⟩
     . rw [lK (cC hj)]at Z
       obtain⟨u',r',q⟩:=hl j y v' J Z e3
       refine⟨u',r',?_⟩
       rcases q with⟨k,e⟩ | ⟨k,c,e,z⟩
       . refine .inl ⟨k,?_⟩
         have:y≠x:=fun e=>hj (Qe hN J (e▸hi))
         simp [this,e]
       . exact .inr ⟨k,c,e,z.sameBut G (cne y c e)⟩
   . obtain⟨w',z⟩:=I.cell y c e
     exact⟨w',z.sameBut G (cne y c e)⟩
   . obtain⟨e,n,ne,nf,d⟩:=I.pin p hp
     exact⟨(G.2 p.1 ne).trans e,n,ne,nf,d⟩
 . have a2:X.fn x=true:=by
    rcases hf with z | z
    . exact z
    . rw [z]at hk;cases hk
   obtain⟨c,O⟩:=I.ok.has x (.inl hk)
   obtain⟨w',z⟩:=I.cell x c O
   refine wpAny_storeName_cell I.ok.kind hk O z (fun h' a4 G=> ?_)
   obtain⟨oc,a5,a6⟩:=id z
   refine h { s with heap:=h'} ⟨I.ok,I.os,I.bare,⟨fun b o e n hb U=> ?_,fun b o e n hb U=> ?_,I.base.free,fun b o e U=> ?_,I.base.tups,I.base.frzs,I.base.tbls⟩,⟨m,hn.sameBut G (cC (cne x c O)),fun j y v' J Z e3=> ?_⟩,fun y c' e=> ?_,I.free,I.freeC,fun p hp=> ?_,tracked ⟨oc,a5,I.freeC x c O⟩ G,by simpa using I.len⟩ ⟨c,G,.inr O⟩
   . exact(G.2 b (aP (bB (aJ e) (I.ok.cab x c a2 O)))).trans (I.base.keep b o e n hb U)
   . obtain⟨sl,J⟩:=I.base.slot b o e n hb U
     exact⟨sl,(G.2 b (aP (bB (aJ e) (I.ok.cab x c a2 O)))).trans J⟩
   . obtain⟨o',J⟩:=I.base.there b o e U
     exact⟨o',(G.2 b (aP (bB (aJ e) (I.ok.cab x c a2 O)))).trans J⟩
   . by_cases hj:j=i
     . subst hj
       rw [hi]at J;cases J
       rw [kT a1]at Z
       cases Z
       exact⟨u,r,.inr ⟨.inl hk,c,O,a4⟩⟩
     . rw [lK (cC hj)]at Z
       obtain⟨u',r',q⟩:=hl j y v' J Z e3
       refine⟨u',r',?_⟩
       rcases q with q | ⟨k,c',e,z'⟩
       . exact .inl q
       . refine .inr ⟨k,c',e,z'.sameBut G ?_⟩
         rintro rfl
         exact hj (Qe hN J (I.ok.inj _ _ _ e O▸hi))
   . by_cases a7:c'=c
     . subst a7;exact⟨_,a4⟩
     . obtain⟨w2,z2⟩:=I.cell y c' e
       exact⟨w2,z2.sameBut G a7⟩
   . obtain⟨e,n,ne,nf,d⟩:=I.pin p hp
     refine⟨(G.2 p.1 ?_).trans e,n,ne,nf,d⟩
     intro q
     rw [q,a5]at e
     have q':oc=p.2:=aY e
     exact d w' (by rw [<-q'];exact a6)
theorem J1 {M:Model}{A:Around}{E:Value->Shared->Prop}{Q:Unit->Shared->Prop} (I:Inv X pins σ H s) (G:X.N.Nodup) (hi:X.N[i]? =some x) (J:Loc X.env.scope x) (r:RelV v u)
 (h:∀s',Inv X pins (σ.set i (some v)) H s'->Q () s') (O:X.fn x=true\/X.env.scope.names.lookup x=some .local :=by first | exact .inl rfl | exact .inr rfl | assumption):wpAny M A (storeName X.env x u) Q E s:=
 Abg I G hi J r (fun s' U _=>h s' U) O
theorem Inv.call' {s':Shared} (I:Inv X pins σ H s) (ho:s'.os=s.os) (u:Un (frs X.stack) ch H H' s.heap s'.heap) (G:HOk X.prog X.w H' s'.heap) (Z:AllBare s'.gens)
 (J:∀b∈ch,(b∈X.ex\/X.s₀.heap.objs.size<=b)/\b≠X.env.locals/\(∀x c,X.env.cells.lookup x=some c->c≠b)/\∀p∈X.pn++pins,p.1≠b):Inv X pins σ H' s':=by
 obtain⟨h',O,U,W,o'⟩:=s'
 have e:o'=s.os:=ho
 subst e
 exact I.call (g':=O) (t':=W) (d':=U) u G Z J
end
noncomputable abbrev XK:=Value->Option Addr->Hp->Prop
noncomputable abbrev St:=List (Option V)
noncomputable abbrev VK:=V->Hp->Prop
noncomputable abbrev TE:=St->Hp->VK->Prop
noncomputable abbrev TT:=St->Hp->(Bool->Hp->Prop)->Prop
noncomputable abbrev TA:=St->Hp->(List V->Hp->Prop)->Prop
structure Ends where
 nx:St->Hp->Prop
 rt:VK
 bk:St->Hp->Prop:=fun _ _=>False
 ct:St->Hp->Prop:=fun _ _=>False
noncomputable abbrev TS:=Ends->St->Hp->Prop
noncomputable def EP (X:Cx) (pins:List (Addr × Obj)) (σ:St) (Q:VK) (u:Value) (s':Shared):Prop:=∃v H',Inv X pins σ H' s'/\RelV v u/\Q v H'
noncomputable def TP (X:Cx) (pins:List (Addr × Obj)) (σ:St) (Q:Bool->Hp->Prop) (b:Bool) (s':Shared):Prop:=∃H',Inv X pins σ H' s'/\Q b H'
noncomputable def AP (X:Cx) (pins:List (Addr × Obj)) (σ:St) (Q:List V->Hp->Prop) (us:List Value) (s':Shared):Prop:=∃vs H',Inv X pins σ H' s'/\Vals vs us/\Q vs H'
noncomputable def SP (X:Cx) (pins:List (Addr × Obj)) (D:Ends) (f:Flow) (s':Shared):Prop:=
 match f with
 | .next=>∃σ' H',Inv X pins σ' H' s'/\D.nx σ' H'
 | .brk=>∃σ' H',Inv X pins σ' H' s'/\D.bk σ' H'
 | .cont=>∃σ' H',Inv X pins σ' H' s'/\D.ct σ' H'
 | .ret u=>∃v σ' H',Inv X pins σ' H' s'/\RelV v u/\D.rt v H'
noncomputable def PE (X:Cx) (e:Expr) (t:TE):Prop:=
 ∀(pins:List (Addr × Obj)) (s:Shared) (σ:St) (H:Hp) (Q:VK),Inv X pins σ H s->t σ H Q->wpAny (model X.prog X.w) X.A (eval e X.env) (EP X pins σ Q) X.xe s
noncomputable def PT (X:Cx) (e:Expr) (t:TT):Prop:=
 ∀(pins:List (Addr × Obj)) (s:Shared) (σ:St) (H:Hp) (Q:Bool->Hp->Prop),Inv X pins σ H s->t σ H Q->wpAny (model X.prog X.w) X.A (isTrue e X.env (eval e X.env)) (TP X pins σ Q) X.xe s
noncomputable def PW (X:Cx) (e:Expr) (t:TT):Prop:=
 ∀(whole:Sem Value) (pins:List (Addr × Obj)) (s:Shared) (σ:St) (H:Hp) (Q:Bool->Hp->Prop),Inv X pins σ H s->t σ H Q->wpAny (model X.prog X.w) X.A (isTrue e X.env whole) (TP X pins σ Q) X.xe s
theorem PW.pt {X:Cx}{e:Expr}{t:TT} (h:PW X e t):PT X e t:=h _
noncomputable def PA (X:Cx) (es:List Expr) (t:TA):Prop:=
 ∀(pos:Pos) (pins:List (Addr × Obj)) (s:Shared) (σ:St) (H:Hp) (Q:List V->Hp->Prop),Inv X pins σ H s->t σ H Q->wpAny (model X.prog X.w) X.A (spliced (backTo pos (starEach es X.env))) (AP X pins σ Q) X.xe s
noncomputable def PS (X:Cx) (st:Stmt) (t:TS):Prop:=
 ∀(pins:List (Addr × Obj)) (s:Shared) (σ:St) (H:Hp) (D:Ends),Inv X pins σ H s->t D σ H->wpAny (model X.prog X.w) X.A (exec st X.env) (SP X pins D) X.xe s
noncomputable def PSs (X:Cx) (st:List Stmt) (t:TS):Prop:=
 ∀(pins:List (Addr × Obj)) (s:Shared) (σ:St) (H:Hp) (D:Ends),Inv X pins σ H s->t D σ H->wpAny (model X.prog X.w) X.A (execs st X.env) (SP X pins D) X.xe s
variable {M:Model}{A:Around}{s:Shared}
theorem thn {α:Type}{t:Sem α}{Q G:α->Shared->Prop}{E:Value->Shared->Prop} (h:wpAny M A t Q E s) (J:∀a s,Q a s->G a s):wpAny M A t G E s:=bP h J fun _ _ x=>x
variable {pins:List (Addr × Obj)}{σ:St}
section
variable {X:Cx}
theorem bin {a b:Expr}{ta tb:TE} (U:PE X a ta) (W:PE X b tb) {R:V->V->Hp->Prop} (I:Inv X pins σ H s) (h:ta σ H fun x H1=>tb σ H1 fun y H2=>R x y H2)
 {α:Type}{Q:α->Shared->Prop}{f:Value->Value->Sem α}
 (Z:∀v u O x y H2,Inv X pins σ H2 O->RelV x v->RelV y u->R x y H2->wpAny (model X.prog X.w) X.A (f v u) Q X.xe O):
 wpAny (model X.prog X.w) X.A (eval a X.env) (fun v G=>wpAny (model X.prog X.w) X.A (eval b X.env) (fun u J=>wpAny (model X.prog X.w) X.A (f v u) Q X.xe J) X.xe G) X.xe s:=by
 refine thn (U pins s σ H _ I h) fun v s1 ⟨x,H1,I1,r1,q1⟩=> ?_
 refine thn (W pins s1 σ H1 _ I1 q1) fun u O ⟨y,H2,I2,r2,q2⟩=> ?_
 exact Z v u O x y H2 I2 r1 r2 q2
noncomputable def Afq (i:Nat):TE:=fun σ H Q=>∃v,σ[i]? =some (some v)/\Q v H
noncomputable def tC (v:V):TE:=fun _ H Q=>Q v H
theorem Akx {pos:Pos} (hN:X.N[i]? =some x) (hv:Vis X.env.scope x) (U:(x==("__debug__":Str))=false:=by decide) (W:(x==("__classdict__":Str))=false:=by decide):PE X (.Name x pos) (Afq i):=by
 intro pins s σ H Q I h
 obtain⟨v,e,h⟩:=h
 obtain⟨m,hn,hl⟩:=I.loc
 obtain⟨u,r,l⟩:=hl i x v hN e hv
 have J:EP X pins σ Q u s:=⟨v,H,I,r,h⟩
 rcases l with⟨O,hm⟩ | ⟨O,c,Z,G⟩
 . exact wpAny_Name (wpAny_loadName_local I.ok.kind O hn hm J) U
 . rcases O with O | O
   . exact wpAny_Name (wpAny_loadName_cell I.ok.kind O Z G J) U
   . exact wpAny_Name (wpAny_loadName_free I.ok.kind O Z G J W) U
theorem Akq {i j pos}:PE X (.Constant (.int i) j pos) (tC (.int i)):=fun _ _ _ H _ I h=>wpAny_Constant_int ⟨.int i,H,I.tok _,⟨_,rfl⟩,h⟩
theorem Anq {b j pos}:PE X (.Constant (.bool b) j pos) (tC (.bl b)):=fun _ _ _ H _ I h=>Constant_bool ⟨.bl b,H,I,rfl,h⟩
theorem Aks {j pos}:PE X (.Constant .none j pos) (tC .non):=fun _ _ _ H _ I h=>Constant_none ⟨.non,H,I,rfl,h⟩
theorem Akv {x j pos}:PE X (.Constant (.str x) j pos) (tC (.str x)):=fun _ _ _ H _ I h=>Calls.Constant_str ⟨.str x,H,I.tok _,⟨_,rfl⟩,h⟩
noncomputable def Gl (X:Cx) (x:Str):Prop:=X.env.kindOf x=some .globalImplicit
theorem Kd {E:Value->Shared->Prop}{pos:Pos}{Q:Value->Shared->Prop} (I:Inv X pins σ H s) (G:Gl X x) (J:X.mg x=some u) (h:Q u s)
 (O:(x==("__debug__":Str))=false:=by decide):wpAny (model X.prog X.w) X.A (eval (.Name x pos) X.env) Q E s:=
 Calls.Name_function_global I.ok.kind G (Calls.loadGlobal_global (by rw [I.ok.glob];exact I.mod.glob.keeps I.bk) J h) O
theorem Jm {E:Value->Shared->Prop}{pos:Pos}{Q:Value->Shared->Prop} (I:Inv X pins σ H s) (G:Gl X x) (J:X.mg x=none) (O:bootBuiltins x=some u) (h:Q u s)
 (U:x≠"__name__":=by decide) (W:(x==("__debug__":Str))=false:=by decide):wpAny (model X.prog X.w) X.A (eval (.Name x pos) X.env) Q E s:=by
 obtain⟨Z,h1,h2⟩:=I.mod.blt
 exact Calls.Name_function_global I.ok.kind G (Calls.loadGlobal_builtin (by rw [I.ok.glob];exact I.mod.glob.keeps I.bk) J (by rw [I.ok.blt];exact h1.keeps I.bk) ((h2 x U).trans O) h) W
theorem Aar {x:Str}{v:V}{u:Value}{pos:Pos} (G:Gl X x) (J:X.mg x=some u) (r:RelV v u) (O:(x==("__debug__":Str))=false:=by decide):PE X (.Name x pos) (tC v):=
 fun _ _ _ H _ I h=>Kd I G J ⟨v,H,I,r,h⟩ O
theorem Uv {x:Str}{v:V}{u:Value}{pos:Pos} (G:Gl X x) (J:X.mg x=none) (O:bootBuiltins x=some u) (r:RelV v u) (U:x≠"__name__":=by decide) (W:(x==("__debug__":Str))=false:=by decide):PE X (.Name x pos) (tC v):=
 fun _ _ _ H _ I h=>Jm I G J O ⟨v,H,I,r,h⟩ U W
variable {a b:Expr}{ta tb:TE}{pos:Pos}
noncomputable def tB (t:TE):TT:=fun σ H Q=>t σ H fun x H1=>∃c,x= .bl c/\Q c H1
theorem Afi {e:Expr}{t:TE} (h:PE X e t) (G:∀whole,isTrue e X.env whole=(do let v<-whole;standAt e.pos;holding [v] (truthy v)):=by intro _;rfl):PT X e (tB t):=by
 intro pins s σ H Q I J
 refine isTrue_plain (thn (h pins s σ H _ I J) fun v Z ⟨x,H1,O,U,W⟩=> ?_) (G _)
 obtain⟨d,rfl,q⟩:=W
 cases U
 exact fS ⟨H1,O,q⟩
variable {tA tB':TT}{rest:List Expr}
noncomputable def An5 (t u:TT):TT:=fun σ H Q=>t σ H fun c H1=>if c=true then u σ H1 Q else Q false H1
noncomputable def tOr (t u:TT):TT:=fun σ H Q=>t σ H fun c H1=>if c=true then Q true H1 else u σ H1 Q
noncomputable def Aob (t:TT):TT:=fun σ H Q=>t σ H fun c H1=>Q (!c) H1
theorem Ahk (G:PT X a tA):PW X (.BoolOp .And [a] pos) tA:=by
 intro J pins s σ H Q I h
 refine isTrue_and (thn (G pins s σ H Q I h) fun c O e=> ?_)
 cases c with
 | true=>exact isTrue_and_nil e
 | false=>exact e
theorem Ali (G:PT X a tA):PW X (.BoolOp .Or [a] pos) tA:=by
 intro J pins s σ H Q I h
 refine isTrue_or (thn (G pins s σ H Q I h) fun c O e=> ?_)
 cases c with
 | false=>exact isTrue_or_nil e
 | true=>exact e
theorem Alh (O:PT X a tA) (U:PW X (.BoolOp .And (b::rest) pos) tB'):PW X (.BoolOp .And (a::b::rest) pos) (An5 tA tB'):=by
 intro W pins s σ H Q I h
 refine isTrue_and (thn (O pins s σ H _ I h) fun c Z ⟨H1,G,J⟩=> ?_)
 cases c with
 | true=>exact U W pins Z σ H1 Q G J
 | false=>exact⟨H1,G,J⟩
theorem Anw (O:PT X a tA) (U:PW X (.BoolOp .Or (b::rest) pos) tB'):PW X (.BoolOp .Or (a::b::rest) pos) (tOr tA tB'):=by
 intro W pins s σ H Q I h
 refine isTrue_or (thn (O pins s σ H _ I h) fun c Z ⟨H1,G,J⟩=> ?_)
 cases c with
 | true=>exact⟨H1,G,J⟩
 | false=>exact U W pins Z σ H1 Q G J
theorem Ala (G:PT X a tA):PT X (.UnaryOp .Not a pos) (Aob tA):=by
 intro pins s σ H Q I h
 exact isTrue_not (G pins s σ H (fun c H1=>Q (!c) H1) I h)
noncomputable def Ahx (ta tb:TE):TE:=fun σ H Q=>ta σ H fun x H1=>∃c,x= .bl c/\if c=true then tb σ H1 Q else Q (.bl false) H1
noncomputable def Ah4 (ta:TE):TE:=fun σ H Q=>ta σ H fun x H1=>∃c,x= .bl c/\Q (.bl (!c)) H1
theorem Aku {op}{t:TE} (h:PE X a t):PE X (.BoolOp op [a] pos) t:=fun pins s σ H Q I G=>BoolOp_one (h pins s σ H Q I G)
theorem Akp (O:PE X a ta) (U:PE X (.BoolOp .And (b::rest) pos) tb):PE X (.BoolOp .And (a::b::rest) pos) (Ahx ta tb):=by
 intro pins s σ H Q I h
 refine BoolOp_and (thn (O pins s σ H _ I h) fun v W ⟨x,H1,J,Z,G⟩=> ?_)
 obtain⟨c,rfl,G⟩:=G
 cases Z
 refine fS ?_
 cases c with
 | true=>exact U pins W σ H1 Q J G
 | false=>exact⟨.bl false,H1,J,rfl,G⟩
theorem Akt (J:PE X a ta):PE X (.UnaryOp .Not a pos) (Ah4 ta):=by
 intro pins s σ H Q I h
 refine UnaryOp_ (thn (J pins s σ H _ I h) fun v W ⟨x,H1,O,U,G⟩=> ?_)
 obtain⟨c,rfl,G⟩:=G
 cases U
 exact not_of (fS ⟨.bl (!c),H1,O,rfl,G⟩)
noncomputable def tIf (t:TT) (ta tb:TE):TE:=fun σ H Q=>t σ H fun c H1=>if c=true then ta σ H1 Q else tb σ H1 Q
theorem Ads {c:Expr} (U:PT X c tA) (W:PE X a ta) (Z:PE X b tb):PE X (.IfExp c a b pos) (tIf tA ta tb):=by
 intro pins s σ H Q I h
 refine wpAny_IfExp (thn (U pins s σ H _ I h) fun d G ⟨H1,J,O⟩=> ?_)
 cases d with
 | true=>exact W pins G σ H1 Q J O
 | false=>exact Z pins G σ H1 Q J O
end
noncomputable def SqL (K:Frag) (H:Hp) (a:Addr) (xs:List V):Prop:=
 Rd H a (.lst xs)\/
  ∃(o:Obj) (its:Array Value) (n:Nat),K.lookup a=some o/\o.cls= .type "list"/\o.dict=none/\o.data= .seq its n/\its.size<=sizeLine/\Vals xs its.toList
noncomputable def SqT (K:Frag) (H:Hp) (a:Addr) (xs:List V):Prop:=
 Rd H a (.tup xs)\/
  ∃(o:Obj) (its:Array Value) (n:Nat),K.lookup a=some o/\o.cls= .type "tuple"/\o.data= .seq its n/\its.size<=sizeLine/\Vals xs its.toList
noncomputable def Ap3:Value->Option V
 | .none=>some .non
 | .bool b=>some (.bl b)
 | .int i _=>some (.int i)
 | .str x _=>some (.str x)
 | .bytes b _=>some (.byt b)
 | .float b _=>some (.flt b)
 | .ref a=>some (.ref a)
 | .type n=>some (.ty n)
 | _=>none
theorem RelV.abs {x:V} (r:RelV x u):Ap3 u=some x:=by
 cases x with
 | non=>cases r;rfl
 | bl _=>cases r;rfl
 | int _=>obtain⟨t,rfl⟩:=r;rfl
 | str _=>obtain⟨t,rfl⟩:=r;rfl
 | byt _=>obtain⟨t,rfl⟩:=r;rfl
 | flt _=>obtain⟨t,rfl⟩:=r;rfl
 | ref _=>cases r;rfl
 | ty _=>cases r;rfl
theorem RelV.inj {x y:V}{u:Value} (r:RelV x u) (q:RelV y u):x=y:=aY (r.abs.symm.trans q.abs)
theorem Vals.inj:∀ {xs ys:List V}{us:List Value},Vals xs us->Vals ys us->xs=ys
 | _,_,_,.nil,.nil=>rfl
 | _,_,_,.cons r t,.cons r' t'=>by rw [r.inj r',Vals.inj t t']
section
variable {X:Cx}{pins:List (Addr × Obj)}{σ:St}{H:Hp}{s:Shared}{a:Addr}{xs ys:List V}
theorem SqL.of {K:Frag} (h:H a=some (.lst xs)):SqL K H a xs:= .inl (.inl h)
theorem SqT.of {K:Frag} (h:H a=some (.tup xs)):SqT K H a xs:= .inl (.inl h)
theorem Inv.list (I:Inv X pins σ H s) (h:SqL X.K H a xs):∃G:List Value,Vals xs G/\PlainL s.heap a G.toArray/\xs.length<=sizeLine:=by
 rcases h with h | ⟨o,G,n,J,O,U,W,Z,r⟩
 . obtain⟨z,G,n,r,e⟩:=h.ok I.hok
   exact⟨G,r,⟨_,n,e,rfl,rfl,rfl⟩,z⟩
 . refine⟨G.toList,r,⟨o,n,I.kIn a o J,O,U,by simpa using W⟩,?_⟩
   have e:=r.length
   simp only [bF]at e
   omega
theorem Inv.tuple (I:Inv X pins σ H s) (h:SqT X.K H a xs):∃G:List Value,Vals xs G/\IsTup s.heap a G.toArray/\xs.length<=sizeLine:=by
 rcases h with h | ⟨o,G,n,J,O,U,W,r⟩
 . obtain⟨z,G,r,p⟩:=h.ok I.hok
   exact⟨G,r,p,z⟩
 . refine⟨G.toList,r,⟨o,I.kIn a o J,O,n,by simpa using U⟩,?_⟩
   have e:=r.length
   simp only [bF]at e
   omega
theorem Inv.list_inj (I:Inv X pins σ H s) (h:SqL X.K H a xs) (h':SqL X.K H a ys):xs=ys:=by
 obtain⟨J,r,⟨o,n,e,_,_,d⟩,_⟩:=I.list h
 obtain⟨G,W,⟨o',Z,O,_,_,U⟩,_⟩:=I.list h'
 rw [e]at O;cases O
 rw [d]at U
 injection U with d1 _
 have:J=G:=by simpa using bE Array.toList d1
 subst this
 exact r.inj W
theorem Inv.tuple_inj (I:Inv X pins σ H s) (h:SqT X.K H a xs) (h':SqT X.K H a ys):xs=ys:=by
 obtain⟨J,r,⟨o,e,_,n,d⟩,_⟩:=I.tuple h
 obtain⟨G,W,⟨o',O,_,Z,U⟩,_⟩:=I.tuple h'
 rw [e]at O;cases O
 rw [d]at U
 injection U with d1 _
 have:J=G:=by simpa using bE Array.toList d1
 subst this
 exact r.inj W
end
noncomputable abbrev Cx.wish (X:Cx) (E:Value->Shared->Prop):Cx:={ X with xe:=E}
noncomputable abbrev Cx.nox (X:Cx):Cx:=X.wish fun _ _=>False
theorem Cx.Ok.wish {X:Cx} (ok:X.Ok) (E:Value->Shared->Prop):(X.wish E).Ok:=
 ⟨ok.mod,ok.kind,ok.glob,ok.blt,ok.above,ok.inj,ok.has,ok.cab,ok.hd,ok.frames,ok.stk,ok.exf,ok.bs,ok.bsz,ok.noex,ok.exfs,ok.funs,ok.frf⟩
variable {X:Cx}
theorem Cx.Ok.unwish {E:Value->Shared->Prop} (ok:(X.wish E).Ok):X.Ok:=
 ⟨ok.mod,ok.kind,ok.glob,ok.blt,ok.above,ok.inj,ok.has,ok.cab,ok.hd,ok.frames,ok.stk,ok.exf,ok.bs,ok.bsz,ok.noex,ok.exfs,ok.funs,ok.frf⟩
section
variable {X:Cx}{pins:List (Addr × Obj)}{σ:St}{H:Hp}{s:Shared}{E:Value->Shared->Prop}
theorem Inv.wish (I:Inv X pins σ H s) (E:Value->Shared->Prop):Inv (X.wish E) pins σ H s:=⟨I.ok.wish E,I.os,I.bare,I.base,I.loc,I.cell,I.free,I.freeC,I.pin,I.hok,I.len⟩
theorem Inv.unwish (I:Inv (X.wish E) pins σ H s):Inv X pins σ H s:=⟨I.ok.unwish,I.os,I.bare,I.base,I.loc,I.cell,I.free,I.freeC,I.pin,I.hok,I.len⟩
theorem SP.unwish {D:Ends}{f:Flow}{s':Shared} (h:SP (X.wish E) pins D f s'):SP X pins D f s':=by
 cases f with
 | next=>obtain⟨G,H',I,q⟩:=h;exact⟨G,H',I.unwish,q⟩
 | brk=>obtain⟨G,H',I,q⟩:=h;exact⟨G,H',I.unwish,q⟩
 | cont=>obtain⟨G,H',I,q⟩:=h;exact⟨G,H',I.unwish,q⟩
 | ret u=>obtain⟨v,G,H',I,r,q⟩:=h;exact⟨v,G,H',I.unwish,r,q⟩
theorem PE.nox {e:Expr}{t:TE} (h:PE X.nox e t):PE X e t:=fun pins s σ H Q I G=>
 bP (h pins s σ H Q (I.wish _) G) (fun _ _ ⟨v,H',J,r,q⟩=>⟨v,H',J.unwish,r,q⟩) fun _ _ z=>False.elim z
theorem PT.nox {e:Expr}{t:TT} (h:PT X.nox e t):PT X e t:=fun pins s σ H Q I G=>
 bP (h pins s σ H Q (I.wish _) G) (fun _ _ ⟨H',J,q⟩=>⟨H',J.unwish,q⟩) fun _ _ z=>False.elim z
theorem PSs.nox {st:List Stmt}{t:TS} (h:PSs X.nox st t):PSs X st t:=fun pins s σ H D I G=>
 bP (h pins s σ H D (I.wish _) G) (fun _ _ q=>q.unwish) fun _ _ z=>False.elim z
end
section
variable {X:Cx}{st:Stmt}{rest:List Stmt}{t u:TS}{e:Expr}{te:TE}{pos:Pos}
noncomputable def Ah3:TS:=fun D σ H=>D.nx σ H
noncomputable def Amy (t u:TS):TS:=fun D σ H=>t { D with nx:=u D} σ H
theorem Ahf:PSs X [] Ah3:=fun _ _ σ H _ I h=>fN ⟨σ,H,I,h⟩
theorem Adz (h1:PS X st t) (h2:PSs X rest u):PSs X (st::rest) (Amy t u):=by
 intro pins s σ H D I h
 refine jF (thn (h1 pins s σ H { D with nx:=u D} I h) fun f J q=> ?_)
 cases f with
 | next=>
   obtain⟨G,H',O,q⟩:=q
   exact h2 pins J G H' D O q
 | ret v=>exact q
 | brk=>exact q
 | cont=>exact q
theorem Ahg (h1:PS X st t):PSs X [st] t:=by
 intro pins s σ H D I h
 refine jF (thn (h1 pins s σ H D I h) fun f G q=> ?_)
 cases f with
 | next=>exact fN q
 | ret v=>exact q
 | brk=>exact q
 | cont=>exact q
theorem Inv.quiet (I:Inv X pins σ H s):interactive X.env=false:=by simp [interactive,I.ok.kind]
noncomputable def Ah0 (te:TE):TS:=fun D σ H=>te σ H fun _ H1=>D.nx σ H1
theorem Aaw (G:PE X e te) (J:swapsWith e none pos.line X.env=pure false:=by rfl):PS X (.Expr e pos) (Ah0 te):=by
 intro pins s σ H D I h
 exact wpAny_Expr_any (thn (G pins s σ H _ I h) fun v W ⟨x,H1,O,Z,U⟩=>⟨σ,H1,O,U⟩) I.quiet J
noncomputable def Aod (te:TE):TS:=fun D σ H=>te σ H D.rt
theorem Ak8 (G:PE X e te):PS X (.Return (some e) pos) (Aod te):=by
 intro pins s σ H D I h
 exact wpAny_Return_some (thn (G pins s σ H _ I h) fun v W ⟨x,H1,J,O,U⟩=>⟨x,σ,H1,J,O,U⟩)
noncomputable def An8 (c:TT) (t u:TS):TS:=fun D σ H=>c σ H fun b H1=>if b=true then t D σ H1 else u D σ H1
theorem Anv {c:Expr}{a b:List Stmt}{tc:TT} (U:PT X c tc) (W:PSs X a t) (Z:PSs X b u):PS X (.If c a b pos) (An8 tc t u):=by
 intro pins s σ H D I h
 refine wpAny_If (thn (U pins s σ H _ I h) fun d G ⟨H1,J,O⟩=> ?_)
 cases d with
 | true=>exact W pins G σ H1 D J O
 | false=>exact Z pins G σ H1 D J O
noncomputable def Afp:TS:=fun _ _ _=>False
theorem Adx:PS X st Afp:=fun _ _ _ _ _ _ h=>h.elim
end
noncomputable abbrev TG:=V->St->Hp->(St->Hp->Prop)->Prop
noncomputable abbrev TGs:=List V->St->Hp->(St->Hp->Prop)->Prop
noncomputable def PG (X:Cx) (target:Expr) (t:TG):Prop:=
 ∀(pins:List (Addr × Obj)) (s:Shared) (σ:St) (H:Hp) (v:V) (u:Value) (Q:St->Hp->Prop),Inv X pins σ H s->RelV v u->t v σ H Q->
   wpAny (model X.prog X.w) X.A (assign target X.env u) (fun _ s'=>∃σ' H',Inv X pins σ' H' s'/\Q σ' H') X.xe s
noncomputable def PGs (X:Cx) (ts:List Expr) (t:TGs):Prop:=
 ∀(pins:List (Addr × Obj)) (s:Shared) (σ:St) (H:Hp) (vs:List V) (us:List Value) (Q:St->Hp->Prop),Inv X pins σ H s->Vals vs us->t vs σ H Q->
   wpAny (model X.prog X.w) X.A (assignInOrder ((assignEach ts X.env).map (·.2)) us) (fun _ s'=>∃σ' H',Inv X pins σ' H' s'/\Q σ' H') X.xe s
noncomputable abbrev Aiw:=V->V->V->Hp->(Hp->Prop)->Prop
noncomputable def Am2 (X:Cx) (t:Aiw):Prop:=
 ∀(pins:List (Addr × Obj)) (s:Shared) (σ:St) (H:Hp) (o i v:V) (ov iv u:Value) (Q:Hp->Prop),Inv X pins σ H s->RelV o ov->RelV i iv->RelV v u->t o i v H Q->
   wpAny (model X.prog X.w) X.A (setItem ov iv u) (fun _ s'=>∃H',Inv X pins σ H' s'/\Q H') X.xe s
section
variable {X:Cx}{pos:Pos}
noncomputable def Mt (i:Nat):TG:=fun v σ H Q=>Q (σ.set i (some v)) H
theorem Uw {i:Nat}{x:Str} (G:X.N.Nodup) (hi:X.N[i]? =some x) (J:Loc X.env.scope x) (O:X.fn x=true\/X.env.scope.names.lookup x=some .local :=by first | exact .inl rfl | exact .inr rfl | assumption):PG X (.Name x pos) (Mt i):=by
 intro pins s σ H v u Q I r h
 exact wpAny_assign_Name (J1 I G hi J r (fun s' U=>⟨_,H,U,h⟩) O)
noncomputable def Anb:TGs:=fun vs σ H Q=>vs=[]/\Q σ H
noncomputable def Ac3 (t:TG) (u:TGs):TGs:=fun vs σ H Q=>∃v r,vs=v::r/\t v σ H fun σ' H'=>u r σ' H' Q
theorem Ag8:PGs X [] Anb:=by
 intro pins s σ H G us Q I r h
 obtain⟨e,h⟩:=h
 subst e
 cases r
 exact assignInOrder_nil ⟨σ,H,I,h⟩
theorem V8 {e:Expr}{es:List Expr}{t:TG}{u:TGs} (h1:PG X e t) (h2:PGs X es u)
 (J:(assignEach (e::es) X.env).map (·.2)=assign e X.env::(assignEach es X.env).map (·.2):=by rfl):PGs X (e::es) (Ac3 t u):=by
 intro pins s σ H vs us Q I r h
 obtain⟨v,vr,O,h⟩:=h
 subst O
 cases r with
 | cons r U=>
   rw [J]
   refine assignInOrder_cons (thn (h1 pins s σ H _ _ _ I r h) fun _ W ⟨G,H1,Z,q1⟩=> ?_)
   exact h2 pins W G H1 _ _ Q Z U q1
noncomputable def Ajr (K:Frag) (n:Nat) (t:TGs):TG:=fun v σ H Q=>∃a xs,v= .ref a/\SqT K H a xs/\xs.length=n/\t xs σ H Q
theorem V7 {es:List Expr}{k:Nat}{t:TGs}{n:Nat} (U:X.calm=true) (h:PGs X es t)
 (W:(assignEach es X.env).length=n:=by rfl) (G:(assignEach es X.env).findIdx? (·.1)=none:=by rfl):PG X (.Tuple es k pos) (Ajr X.K n t):=by
 intro pins s σ H v u Q I r J
 obtain⟨a,xs,Z,hq,hl,J⟩:=J
 subst Z
 cases r
 obtain⟨a1,O,ht,hz⟩:=I.tuple hq
 refine assign_Tuple_tuple (I.ok.hd U) ht (by simp [W,<-hl,O.length]) G fun h' hx=> ?_
 have I1:Inv X pins σ H { s with heap:=h'}:=I.kept (t':=s.toks) fun b o e=>hx b o (aP (aJ e)) e
 exact h pins _ σ H xs _ Q I1 (by simpa using O) J
noncomputable def Anc (to ti:TE) (t:Aiw):TG:=fun v σ H Q=>to σ H fun o H1=>ti σ H1 fun i H2=>t o i v H2 fun H3=>Q σ H3
theorem Afd {o i:Expr}{to O:TE}{t:Aiw} (ho:PE X o to) (hi:PE X i O) (U:Am2 X t)
 (W:∀v,assign (.Subscript o i pos) X.env v=(do
   let G<-holding [v] (eval o X.env)
   let J<-holding [v,G] (eval i X.env)
   standAt pos
   holding [v,G,J] (setItem G J v)
   release [v,G,J] []):=by intro _;rfl):PG X (.Subscript o i pos) (Anc to O t):=by
 intro pins s σ H v u Q I r h
 rw [W]
 refine aA (dN (thn (ho pins s σ H _ I h) fun G Z ⟨x,H1,I1,r1,q1⟩=> ?_))
 refine aA (dN (thn (hi pins Z σ H1 _ I1 q1) fun J s2 ⟨y,H2,I2,r2,q2⟩=> ?_))
 refine aA (jJ (aA (dN (thn (U pins s2 σ H2 x y v G J u _ I2 r1 r2 r q2) fun _ s3 ⟨H3,I3,q3⟩=> ?_))))
 exact wpAny_release ⟨σ,H3,I3,q3⟩
noncomputable def Ad8 (te:TE) (g:TG):TS:=fun D σ H=>te σ H fun x H1=>g x σ H1 D.nx
theorem Wa {tg e:Expr}{te:TE}{g:TG} (G:PE X e te) (J:PG X tg g) (O:swapsWithSole [tg] e pos.line X.env=pure false:=by rfl) (U:swappedStores [tg] e X.env=pure none:=by rfl)
 (h1:(assignEach [tg] X.env).map (·.2)=[assign tg X.env]:=by rfl):PS X (.Assign [tg] e pos) (Ad8 te g):=by
 intro pins s σ H D I h
 refine wpAny_Assign_stores (thn (G pins s σ H _ I h) fun v W ⟨x,H1,Z,r1,q1⟩=> ?_) O U
 rw [h1]
 exact thn (J pins W σ H1 x v _ Z r1 q1) fun _ s2 q=>q
theorem Wb {i:Nat}{x:Str}{e:Expr}{te:TE}{pos':Pos} (G:X.N.Nodup) (hi:X.N[i]? =some x) (J:Loc X.env.scope x) (O:PE X e te) (U:swapsWith e (some (.Name x pos')) pos.line X.env=pure false:=by rfl) (W:X.fn x=true\/X.env.scope.names.lookup x=some .local :=by first | exact .inl rfl | exact .inr rfl | assumption):
 PS X (.Assign [.Name x pos'] e pos) (Ad8 te (Mt i)):=by
 intro pins s σ H D I h
 refine wpAny_Assign_Name (thn (O pins s σ H _ I h) fun v s1 ⟨y,H1,Z,r1,q1⟩=> ?_) U
 exact J1 Z G hi J r1 (fun s2 I2=>⟨_,H1,I2,q1⟩) W
noncomputable def Aoc (i j:Nat) (ta:TA):TS:=fun D σ H=>ta σ H fun vs H1=>∃v w,vs=[v,w]/\D.nx ((σ.set i (some v)).set j (some w)) H1
theorem Afh {i j:Nat}{x y:Str}{a b:Expr}{ta:TA}{U W pt:Pos}{kt k2 pt2} (hc:X.calm=true) (hN:X.N.Nodup) (hi:X.N[i]? =some x) (hj:X.N[j]? =some y) (Z:i≠j)
 (hx:X.env.scope.names.lookup x=some .local) (hy:X.env.scope.names.lookup y=some .local) (ha:PA X [a,b] ta)
 (hw:swappedStores [.Tuple [.Name x U,.Name y W] kt pt] (.Tuple [a,b] k2 pt2) X.env=pure (some [x,y]))
 (hs:swapsWithSole [.Tuple [.Name x U,.Name y W] kt pt] (.Tuple [a,b] k2 pt2) pos.line X.env=pure false:=by rfl):
 PS X (.Assign [.Tuple [.Name x U,.Name y W] kt pt] (.Tuple [a,b] k2 pt2) pos) (Aoc i j ta):=by
 intro pins s σ H D I h
 rw [exec_Assign_arm]
 refine aA (jJ ?_)
 rw [hs]
 refine aA (aD ?_)
 rw [aF (by decide)]
 refine aA (Tuple_ (thn (ha _ pins s σ H _ I h) fun us G ⟨vs,H1,I1,r1,q1⟩=> ?_))
 obtain⟨v,w,e1,q1⟩:=q1
 subst e1
 obtain⟨J,O,rfl,rv,a1⟩:∃J O,us=[J,O]/\RelV v J/\RelV w O:=by
  cases r1 with
  | cons p q=>
    cases q with
    | cons p' q'=>
      cases q'
      exact⟨_,_,rfl,p,p'⟩
 refine bX ?_ (by show 2<=sizeLine;decide)
 have I2:Inv X pins σ H1 { G with heap:=G.heap.push { cls:= .type "tuple",data:= .seq [J,O].toArray}}:=I1.kept (t':=G.toks) fun b o e=>aB _ e
 rw [hw]
 refine aA (aD ?_)
 show wpAny (model X.prog X.w) X.A (do rule "assign.swapped-stores";let items<-unpackItems (.ref G.heap.objs.size) 2 none;assignInOrder [fun v=>bindName X.env y v,fun v=>bindName X.env x v] items.reverse;pure Flow.next) _ _ _
 refine aA (jE (aA (unpackItems_tuple (items:= #[J,O]) (I.ok.hd hc) (IsTup.new G.heap _) fun h' a2=> ?_)))
 have I3:=I2.kept (h':=h') (t':=G.toks) fun b o e=>a2 b o (aP (aJ e)) e
 show wpAny _ _ (assignInOrder [fun v=>bindName X.env y v,fun v=>bindName X.env x v] [O,J]>>=fun _=>pure Flow.next) _ _ _
 refine aA (assignInOrder_cons (wpAny_bindName (J1 I3 hN hj (.inl hy) a1 (fun s2 I4=> ?_) (.inr hy))))
 refine assignInOrder_cons (wpAny_bindName (J1 I4 hN hi (.inl hx) rv (fun s3 I5=>assignInOrder_nil (aD ?_)) (.inr hx)))
 rw [List.set_comm _ _ (cC Z)]at I5
 exact⟨_,H1,I5,q1⟩
end
section
variable {X:Cx}{pos:Pos}
noncomputable def Wo (c:TT) (tb:TS):TS:=fun D σ H=>∃W:Nat->St->Hp->Prop,(∃m,W m σ H)/\∀m σ H,W m σ H->
 c σ H fun b H1=>if b=true then ∃N:St->Hp->Prop,(∀σ' H',N σ' H'->∃m',m'<m/\W m' σ' H')/\tb { D with nx:=N,ct:=N,bk:=D.nx} σ H1 else D.nx σ H1
theorem Ady {c:Expr}{O:List Stmt}{tc:TT}{tb:TS} (hp:PassesOwn (model X.prog X.w) X.A X.env X.xe) (hc:PT X c tc) (hb:PSs X O tb):PS X (.While c O [] pos) (Wo tc tb):=by
 intro pins s σ H D I h
 obtain⟨W,⟨m0,w0⟩,U⟩:=h
 refine wpAny_While (codeAny_whileLoop (fun n s'=>∃Z H',Inv X pins Z H' s'/\W n Z H') ?_ m0 ⟨σ,H,I,w0⟩)
 rintro n s1 ⟨J,H1,I1,w1⟩
 refine gQ hp (thn (hc pins s1 J H1 _ I1 (U n J H1 w1)) fun b s2 ⟨H2,I2,q2⟩=> ?_)
 cases b with
 | true=>
   obtain⟨N,hN,q2⟩:=q2
   rw [aI rfl]
   refine gQ hp (thn (hb pins s2 J H2 _ I2 q2) fun f s3 q3=> ?_)
   cases f with
   | next=>
     obtain⟨G,H3,I3,n3⟩:=q3
     obtain⟨m',hm,w3⟩:=hN G H3 n3
     exact⟨m',hm,G,H3,I3,w3⟩
   | cont=>
     obtain⟨G,H3,I3,n3⟩:=q3
     obtain⟨m',hm,w3⟩:=hN G H3 n3
     exact⟨m',hm,G,H3,I3,w3⟩
   | brk=>exact q3
   | ret v=>exact q3
 | false=>
   rw [aF aV]
   exact fN ⟨J,H2,I2,q2⟩
end
structure It where
 go:Nat->Hp->Prop
 yld:Nat->Hp->V->Hp->Prop
 stop:Nat->Hp->Prop
noncomputable def O2 (X:Cx) (pins:List (Addr × Obj)) (H:Hp) (b:Addr):Prop:=
 H b=none/\b≠X.env.locals/\b∉X.fs/\(b∈X.ex\/X.s₀.heap.objs.size<=b)/\(∀x c,X.env.cells.lookup x=some c->c≠b)/\∀p∈X.pn++pins,p.1≠b
variable {H':Hp}
theorem Inv.fpOk (I:Inv X pins σ H s) (G:s.heap.objs.size<=b) (J:H' b=none):O2 X pins H' b:=by
 refine⟨J,dP (bB I.lt G),I.nofs G,.inr (aO I.sz G),fun x c e z=> ?_,fun p O z=> ?_⟩
 . obtain⟨v,q⟩:=I.cell x c e
   exact absurd (bB q.lt (by rw [z];exact G)) (cZ _)
 . exact absurd (bB (aJ (I.pin p O).1) (by rw [z];exact G)) (cZ _)
structure Turn (P:Program) (w:World) (K:Frag) (tg:Expr) (J:It) (fp:List Addr) (it:Addr) (tn:Nat->Heap->Prop):Prop where
 mem:it∈fp
 obj:∀i h,tn i h->∀b∈fp,∃o,h.get? b=some o/\∀v,o.data≠ .cell v
 keep:∀i h h',tn i h->(∀b∈fp,∀o,h.get? b=some o->h'.get? b=some o)->tn i h'
 item:∀(X:Cx),X.prog=P->X.w=w->X.K=K->X.calm=true->∀(i:Nat) (pins:List (Addr × Obj)) (s:Shared) (σ:St) (H:Hp) (E:Value->Shared->Prop),Inv X pins σ H s->(∀b∈fp,O2 X pins H b)->tn i s.heap->J.go i H->
  wpAny (model P w) X.A (pyNext (.ref it)) (fun r s1=>∃u,r=some u/\
   wpAny (model P w) X.A (letOwnedTupleGo tg (.ref it) u) (fun _ s2=>∃x H',Inv X pins σ H' s2/\RelV x u/\J.yld i H x H'/\tn (i+1) s2.heap/\∀b∈fp,H' b=none) E s1) E s
 done:∀(X:Cx),X.prog=P->X.w=w->X.K=K->X.calm=true->∀(i:Nat) (pins:List (Addr × Obj)) (s:Shared) (σ:St) (H:Hp) (E:Value->Shared->Prop),Inv X pins σ H s->(∀b∈fp,O2 X pins H b)->tn i s.heap->J.stop i H->
  wpAny (model P w) X.A (pyNext (.ref it)) (fun r s1=>r=none/\Inv X pins σ H s1) E s
 self:∀(A:Around) (i:Nat) (s:Shared) (Q:Value->Shared->Prop) (E:Value->Shared->Prop),tn i s.heap->Q (.ref it) s->wpAny (model P w) A (pyIter (.ref it)) Q E s
noncomputable abbrev TI:=St->Hp->(It->Hp->Prop)->Prop
noncomputable def PIE (X:Cx) (pins:List (Addr × Obj)) (σ:St) (tg:Expr) (R:It->Hp->Prop) (itv:Value) (s2:Shared):Prop:=
 ∃(it:Addr) (fp:List Addr) (tn:Nat->Heap->Prop) (J:It) (H':Hp),itv= .ref it/\Inv X pins σ H' s2/\Turn X.prog X.w X.K tg J fp it tn/\tn 0 s2.heap/\(∀b∈fp,O2 X pins H' b)/\R J H'
noncomputable def PI (X:Cx) (tg iter:Expr) (wi:TI):Prop:=
 ∀(pins:List (Addr × Obj)) (s:Shared) (σ:St) (H:Hp) (R:It->Hp->Prop),Inv X pins σ H s->wi σ H R->
   wpAny (model X.prog X.w) X.A (eval iter X.env) (fun v s1=>wpAny (model X.prog X.w) X.A (pyIter v) (PIE X pins σ tg R) X.xe s1) X.xe s
theorem Ac4 {M:Model}{A:Around}{E:Value->Shared->Prop}{tg:Expr}{u:Value}{n:String}{vs:Array Value}{Q:Unit->Shared->Prop} (ho:s.heap.get? it=some o) (J:o.cls= .type n) (O:o.data= .fields vs)
 (U:["enumerate","zip","dict_itemiterator","dict_reverseitemiterator","odict_iterator","itertools.zip_longest","itertools.pairwise"].contains n=false) (G:Q () s):wpAny M A (letOwnedTupleGo tg (.ref it) u) Q E s:=by
 unfold letOwnedTupleGo
 cases tg<;>first
  | exact aD G
  | (cases u<;>first
      | exact aD G
      | (refine aA (wpAny_load ho ?_)
         rw [J,O]
         show wpAny M A (if(["enumerate","zip","dict_itemiterator","dict_reverseitemiterator","odict_iterator","itertools.zip_longest","itertools.pairwise"].contains n&&vs[0]? ==some (rawInt _))=true then _ else _) Q E s
         rw [aF (by intro h;rw [U,Bool.false_and]at h;cases h)]
         exact aD G))
noncomputable def Itl (K:Frag) (a:Addr):It:=
 ⟨fun i H=>∃xs x,SqL K H a xs/\xs[i]? =some x,fun i H x H'=>H'=H/\∀xs,SqL K H a xs->xs[i]? =some x,fun i H=>∃xs,SqL K H a xs/\xs.length<=i⟩
noncomputable def Itt (K:Frag) (a:Addr):It:=
 ⟨fun i H=>∃xs x,SqT K H a xs/\xs[i]? =some x,fun i H x H'=>H'=H/\∀xs,SqT K H a xs->xs[i]? =some x,fun i H=>∃xs,SqT K H a xs/\xs.length<=i⟩
noncomputable def Itr (lo:Int) (n:Nat):It:=⟨fun i _=>i<n,fun i H x H'=>H'=H/\x= .int (lo+i),fun i _=>n<=i⟩
variable {tg:Expr}
theorem Sy {K:Frag} (a it:Addr):Turn P w K tg (Itl K a) [it] it (fun i h=>h.IsListIter it a i) where
 mem:=by simp
 obj:=fun i h st b G=>by
  have e:b=it:=by simpa using G
  subst e
  obtain⟨o,e,c,d⟩:=st
  exact⟨o,e,fun v z=>by rw [d]at z;cases z⟩
 keep:=fun i h h' st k=>st.at fun o e=>k it (by simp) o e
 item:=by
  intro X Z hw hK hc i pins s σ H E I O st hg
  subst Z hw hK
  obtain⟨xs,x,U,hx⟩:=hg
  obtain⟨a1,rv,p,hz⟩:=I.list U
  obtain⟨u,hu,ru⟩:=rv.get hx
  obtain⟨f0,f1,f2,f3,f4,f5⟩:=O it (by simp)
  refine wpAny_pyNext_list_item st p.isList (x:=u) (by simpa using hu) fun h' J sb=> ?_
  have I1:Inv X pins σ H { s with heap:=h'}:=I.turned (t':=s.toks) (fun b o G e=>(sb.2 b G).trans e) f0 f1 f3 f4 f5
  obtain⟨o,e,c,d⟩:=id J
  exact⟨u,rfl,Ac4 (s:={ s with heap:=h'}) e c d (by decide) ⟨x,H,I1,ru,⟨rfl,fun ys hy=>by rw [I.list_inj hy U];exact hx⟩,J,fun b G=>(O b G).1⟩⟩
 done:=by
  intro X Z hw hK hc i pins s σ H E I O st hg
  subst Z hw hK
  obtain⟨xs,U,hx⟩:=hg
  obtain⟨a1,rv,p,hz⟩:=I.list U
  obtain⟨f0,f1,f2,f3,f4,f5⟩:=O it (by simp)
  have hl:=rv.length
  exact wpAny_pyNext_list_end (I.ok.hd hc) st p.isList (by simp;omega) fun h' eb=>⟨rfl,I.turned (t':=s.toks) (fun b o G e=>eb b o G e) f0 f1 f3 f4 f5⟩
 self:=fun _ _ _ _ _ st h=>wpAny_pyIter_listiter st h
theorem O1 {K:Frag} (a it:Addr):Turn P w K tg (Itt K a) [it] it (fun i h=>h.IsTupleIter it a i) where
 mem:=by simp
 obj:=fun i h st b G=>by
  have e:b=it:=by simpa using G
  subst e
  obtain⟨o,e,c,d⟩:=st
  exact⟨o,e,fun v z=>by rw [d]at z;cases z⟩
 keep:=fun i h h' st k=>st.at fun o e=>k it (by simp) o e
 item:=by
  intro X hP hw hK hc i pins s σ H E I U st hg
  subst hP hw hK
  obtain⟨xs,x,Z,hx⟩:=hg
  obtain⟨J,rv,p,hz⟩:=I.tuple Z
  obtain⟨u,hu,ru⟩:=rv.get hx
  obtain⟨f0,f1,f2,f3,f4,f5⟩:=U it (by simp)
  refine wpAny_pyNext_tuple_item st (show s.heap.IsTuple a J.toArray from p) (x:=u) (by simpa using hu) fun h' O sb=> ?_
  have I1:Inv X pins σ H { s with heap:=h'}:=I.turned (t':=s.toks) (fun b o G e=>(sb.2 b G).trans e) f0 f1 f3 f4 f5
  obtain⟨o,e,c,d⟩:=id O
  exact⟨u,rfl,Ac4 (s:={ s with heap:=h'}) e c d (by decide) ⟨x,H,I1,ru,⟨rfl,fun ys hy=>by rw [I.tuple_inj hy Z];exact hx⟩,O,fun b G=>(U b G).1⟩⟩
 done:=by
  intro X hP hw hK hc i pins s σ H E I U st hg
  subst hP hw hK
  obtain⟨xs,Z,hx⟩:=hg
  obtain⟨J,rv,p,hz⟩:=I.tuple Z
  obtain⟨f0,f1,f2,f3,f4,f5⟩:=U it (by simp)
  have hl:=rv.length
  exact wpAny_pyNext_tuple_end (I.ok.hd hc) st (show s.heap.IsTuple a J.toArray from p) (by simp;omega) fun h' eb=>⟨rfl,I.turned (t':=s.toks) (fun b o G e=>eb b o G e) f0 f1 f3 f4 f5⟩
 self:=fun _ _ _ _ _ st h=>wpAny_pyIter_tupleiter st h
theorem X8 {K:Frag} (it:Addr) (lo:Int) (n:Nat):Turn P w K tg (Itr lo n) [it] it (fun i h=>IsRangeIter h it (lo+(i:Nat)*1) ((n:Int)-(i:Nat)) 1) where
 mem:=by simp
 obj:=fun i h st b G=>by
  have e:b=it:=by simpa using G
  subst e
  exact⟨_,st,fun v z=>by
   have z':Data.fields _=Data.cell v:=z
   cases z'⟩
 keep:=fun i h h' st k=>k it (by simp) _ st
 item:=by
  intro X U Z hK hc i pins s σ H E I O st hg
  subst U Z hK
  obtain⟨f0,f1,f2,f3,f4,f5⟩:=O it (by simp)
  have W:=Walks.range (prog:=X.prog) (w:=X.w) (I.ok.hd hc) it lo 1 n
  refine W.item i s _ _ hg st fun v h' tk hv J kk=> ?_
  obtain⟨t,rfl⟩:=hv
  have I1:Inv X pins σ H { s with heap:=h',toks:=tk}:=I.turned (fun b o G e=>kk b o (by simpa using G) e) f0 f1 f3 f4 f5
  refine⟨_,rfl,Ac4 (s:={ s with heap:=h',toks:=tk}) (n:="range_iterator") J rfl rfl (by decide) ⟨.int (lo+i),H,I1,⟨t,?_⟩,⟨rfl,rfl⟩,J,fun b G=>(O b G).1⟩⟩
  rw [Int.mul_one]
 done:=by
  intro X U Z hK hc i pins s σ H E I O st hg
  subst U Z hK
  obtain⟨f0,f1,f2,f3,f4,f5⟩:=O it (by simp)
  exact wpAny_pyNext_range_end (I.ok.hd hc) st (by have:n<=i:=hg;omega) fun h' eb=>⟨rfl,I.turned (t':=s.toks) (fun b o G e=>eb b o G e) f0 f1 f3 f4 f5⟩
 self:=fun _ _ _ _ _ st h=>wpAny_pyIter_rangeiter st h
variable {fp:List Addr}
section
variable {X:Cx}{tg:Expr}
noncomputable def Agh (K:Frag) (tl:TE):TI:=fun σ H R=>tl σ H fun x H1=>∃a,x= .ref a/\(∃xs,SqL K H1 a xs)/\R (Itl K a) H1
noncomputable def Anh (K:Frag) (tl:TE):TI:=fun σ H R=>tl σ H fun x H1=>∃a,x= .ref a/\(∃xs,SqT K H1 a xs)/\R (Itt K a) H1
theorem Ag9 {l:Expr}{tl:TE} (O:PE X l tl):PI X tg l (Agh X.K tl):=by
 intro pins s σ H R I h
 refine thn (O pins s σ H _ I h) fun v G ⟨x,H1,J,U,W⟩=> ?_
 obtain⟨a,e,⟨xs,Z⟩,q⟩:=W
 subst e
 cases U
 obtain⟨a1,rv,p,hz⟩:=J.list Z
 refine iY p.isList ?_
 refine⟨G.heap.objs.size,[G.heap.objs.size],_,_,H1,rfl,J.kept (t':=G.toks) fun b o e=>aB _ e,Sy a _,⟨_,aK _ rfl,rfl,rfl⟩,fun b hb=> ?_,q⟩
 have e:b=G.heap.objs.size:=by simpa using hb
 subst e
 exact J.fpOk (aL _) (J.hok.fresh (aL _))
theorem Ak0 {l:Expr}{tl:TE} (U:PE X l tl):PI X tg l (Anh X.K tl):=by
 intro pins s σ H R I h
 refine thn (U pins s σ H _ I h) fun v G ⟨x,H1,J,W,Z⟩=> ?_
 obtain⟨a,e,⟨xs,hq⟩,q⟩:=Z
 subst e
 cases W
 obtain⟨O,rv,p,hz⟩:=J.tuple hq
 refine fK (show G.heap.IsTuple a O.toArray from p) ?_
 refine⟨G.heap.objs.size,[G.heap.objs.size],_,_,H1,rfl,J.kept (t':=G.toks) fun b o e=>aB _ e,O1 a _,⟨_,aK _ rfl,rfl,rfl⟩,fun b hb=> ?_,q⟩
 have e:b=G.heap.objs.size:=by simpa using hb
 subst e
 exact J.fpOk (aL _) (J.hok.fresh (aL _))
theorem Ad0 {R:It->Hp->Prop}{E:Value->Shared->Prop}{lo hi:Int}{t u v:Tok}{tk:Nat} (I:Inv X pins σ H s) (h1: -(2^62)<=lo) (h2:lo<2^62) (J: -(2^62)<=hi) (O:hi<2^62)
 (q:R (Itr lo (hi-lo).toNat) H):wpAny (model X.prog X.w) X.A (pyIter (.ref s.heap.objs.size)) (PIE X pins σ tg R) E { s with heap:=s.heap.push { cls:= .type "range",data:= .fields #[.int lo t,.int hi u,.int 1 v]},toks:=tk}:=by
 refine wpAny_pyIter_range (IsRange.new ..) (small_one h1 h2 J O) ?_
 have G:Inv X pins σ H { s with heap:=s.heap.push { cls:= .type "range",data:= .fields #[.int lo t,.int hi u,.int 1 v]},toks:=tk}:=I.kept fun b o e=>aB _ e
 refine⟨(s.heap.push { cls:= .type "range",data:= .fields #[.int lo t,.int hi u,.int 1 v]}).objs.size,[(s.heap.push { cls:= .type "range",data:= .fields #[.int lo t,.int hi u,.int 1 v]}).objs.size],_,_,H,rfl,
  G.kept (t':=tk) fun b o e=>aB _ e,X8 _ lo (hi-lo).toNat,?_,fun b U=> ?_,q⟩
 . have W:lo+((0:Nat):Int)*1=lo:=by simp
   have Z:(((hi-lo).toNat:Nat):Int)-((0:Nat):Int)=Builtin.Range.rangeSize lo hi 1:=by rw [rangeSize_one];split<;>omega
   show IsRangeIter _ _ (lo+((0:Nat):Int)*1) ((((hi-lo).toNat:Nat):Int)-((0:Nat):Int)) 1
   rw [W,Z]
   exact aK _ rfl
 . have e:b=(s.heap.push { cls:= .type "range",data:= .fields #[.int lo t,.int hi u,.int 1 v]}).objs.size:=by simpa using U
   subst e
   exact G.fpOk (aL _) (G.hok.fresh (aL _))
noncomputable def Agi (ta:TA):TI:=fun σ H R=>ta σ H fun vs H1=>∃j:Int,vs=[.int j]/\ -(2^62)<=j/\j<2^62/\R (Itr 0 j.toNat) H1
theorem R9 {a:Expr}{ta:TA}{p pos:Pos} (J:Gl X "range") (O:X.mg "range"=none) (U:PA X [a] ta) (W:starEach [a] X.env=[(false,eval a X.env)]:=by rfl):PI X tg (.Call (.Name "range" p) [a] [] pos) (Agi ta):=by
 intro pins s σ H R I h
 refine Call_ (Jm I J O boot_range (dU (thn (U pos pins s σ H _ I h) fun us s1 ⟨vs,H1,Z,r1,G⟩=> ?_) W rfl))
 obtain⟨j,e,G,q2,q⟩:=G
 subst e
 cases r1 with
 | cons r rr=>
   cases rr
   obtain⟨t,rfl⟩:=r
   exact call_range_1 (Ad0 Z (by omega) (by omega) G q2 (by simpa using q))
noncomputable def An7 (wi:TI) (g:TG) (tb:TS):TS:=fun D σ H=>wi σ H fun J H1=>∃W:Nat->Nat->St->Hp->Prop,(∃m,W 0 m σ H1)/\∀i m σ H,W i m σ H->
 (J.stop i H/\D.nx σ H)\/(J.go i H/\∃N:St->Hp->Prop,(∀σ' H',N σ' H'->∃m',m'<m/\W (i+1) m' σ' H')/\∀x H',J.yld i H x H'->g x σ H' fun σ2 H2=>tb { D with nx:=N,ct:=N,bk:=D.nx} σ2 H2)
noncomputable def Sd (fp:List Addr) (h:Heap):List (Addr × Obj):=fp.filterMap fun b=>(h.get? b).map fun o=>(b,o)
theorem Gq (G:b∈fp) (e:h.get? b=some o):(b,o)∈Sd fp h:=mem_filterMap.mpr ⟨b,G,by rw [e];rfl⟩
theorem Aaf {p:Addr × Obj} (G:p∈Sd fp h):p.1∈fp/\h.get? p.1=some p.2:=by
 obtain⟨b,J,e⟩:=mem_filterMap.mp G
 cases q:h.get? b with
 | none=>rw [q]at e;cases e
 | some o=>
   rw [q]at e
   have O:(b,o)=p:=aY e
   subst O
   exact⟨J,q⟩
theorem Inv.pinned (I:Inv X pins σ H s) (O:∀b∈fp,O2 X pins H b) (ho:∀b∈fp,∃o,s.heap.get? b=some o/\∀v,o.data≠ .cell v):Inv X (pins++Sd fp s.heap) σ H s:=
 I.pins_of fun p U=>(bG.mp U).elim (fun z=>I.pin p (bD _ z)) fun z=>by
  obtain⟨G,e⟩:=Aaf z
  obtain⟨W,Z,f2,_⟩:=O p.1 G
  obtain⟨o,J,d⟩:=ho p.1 G
  rw [e]at J;cases J
  exact⟨e,W,Z,f2,d⟩
theorem Inv.unpinned {pl:List (Addr × Obj)} (I:Inv X (pins++pl) σ H s):Inv X pins σ H s:=I.pins_of fun p G=>I.pin p (bD _ (bK _ G))
theorem Afg {iter:Expr}{a2:List Stmt}{wi:TI}{g:TG}{tb:TS}{pos:Pos} (hp:PassesOwn (model X.prog X.w) X.A X.env X.xe) (hc:X.calm=true) (hi:PI X tg iter wi) (hg:PG X tg g) (O:PSs X a2 tb)
 (hs:∀x,foldedSetIterable iter X.env x=pure x:=by intro _;rfl):PS X (.For tg iter a2 [] pos) (An7 wi g tb):=by
 intro pins s σ H D I h
 refine wpAny_For (thn (hi pins s σ H _ I h) fun v s1 h1=>thn h1 fun ad s2 h2=> ?_) hs
 obtain⟨it,fp,tn,J,H2,e,I2,T,a8,f2,W,⟨m0,w0⟩,a4⟩:=h2
 subst e
 have U:∀ {H':Hp},(∀b∈fp,H' b=none)->∀b∈fp,O2 X pins H' b:=fun hn b O=>⟨hn b O,(f2 b O).2⟩
 refine codeAny_forLoop_any (fun n s'=>∃i Z H',Inv X pins Z H' s'/\tn i s'.heap/\(∀b∈fp,H' b=none)/\W i n Z H') ?_ m0 ⟨0,σ,H2,I2,a8,fun b O=>(f2 b O).1,w0⟩
 rintro n s3 ⟨i,a1,H3,I3,a5,a6,w3⟩
 rcases a4 i n a1 H3 w3 with⟨a7,qn⟩ | ⟨go,N,hN,step⟩
 . refine gQ hp (thn (T.done X rfl rfl rfl hc i pins s3 a1 H3 X.xe I3 (U a6) a5 a7) fun r s4 ⟨hr,I4⟩=> ?_)
   subst hr
   exact fN ⟨a1,H3,I4,qn⟩
 . refine gQ hp (thn (T.item X rfl rfl rfl hc i pins s3 a1 H3 X.xe I3 (U a6) a5 go) fun r s4 ⟨u,hr,h4⟩=> ?_)
   subst hr
   refine gQ hp (thn h4 fun _ s5 ⟨x,H5,I5,r5,y5,a3,a9⟩=> ?_)
   have aa:=I5.pinned (U a9) (T.obj _ _ a3)
   refine gQ hp (thn (hg _ s5 a1 H5 x u _ aa r5 (step x H5 y5)) fun _ s6 ⟨ac,H6,I6,q6⟩=> ?_)
   refine gQ hp (thn (O _ s6 ac H6 _ I6 q6) fun f s7 q7=> ?_)
   have again:∀ {G:St}{H7:Hp},Inv X (pins++Sd fp s5.heap) G H7 s7->N G H7->∃m,m<n/\∃i Z H',Inv X pins Z H' s7/\tn i s7.heap/\(∀b∈fp,H' b=none)/\W i m Z H':=fun {G H7} I7 n7=>by
    obtain⟨m',hm,w7⟩:=hN G H7 n7
    refine⟨m',hm,i+1,G,H7,I7.unpinned,T.keep _ _ _ a3 fun b O o e=>(I7.pin (b,o) (bD _ (bD _ (Gq O e)))).1,fun b O=> ?_,w7⟩
    obtain⟨o,e,d⟩:=T.obj _ _ a3 b O
    exact(I7.pin (b,o) (bD _ (bD _ (Gq O e)))).2.1
   cases f with
   | next=>obtain⟨G,H7,I7,n7⟩:=q7;exact again I7 n7
   | cont=>obtain⟨G,H7,I7,n7⟩:=q7;exact again I7 n7
   | brk=>obtain⟨G,H7,I7,q7⟩:=q7;exact⟨G,H7,I7.unpinned,q7⟩
   | ret v=>obtain⟨x7,G,H7,I7,r7,q7⟩:=q7;exact⟨x7,G,H7,I7.unpinned,r7,q7⟩
end
theorem Aee {c:TT}{tb:TS}{D:Ends} (J:St->Hp->Prop) (O:St->Hp->Nat) (W:J σ H)
 (Z:∀σ H,J σ H->c σ H fun b H1=>if b=true then tb { D with nx:=fun G H'=>J G H'/\O G H'<O σ H,ct:=fun G H'=>J G H'/\O G H'<O σ H,bk:=D.nx} σ H1 else D.nx σ H1)
 (mono:∀σ H Q U,(∀b H1,Q b H1->U b H1)->c σ H Q->c σ H U):Wo c tb D σ H:=by
 refine⟨fun m σ H=>m=O σ H/\J σ H,⟨_,rfl,W⟩,?_⟩
 rintro m σ H ⟨rfl,p⟩
 refine mono σ H _ _ (fun b H1 q=> ?_) (Z σ H p)
 cases b with
 | true=>exact⟨_,fun G H' ⟨p',l⟩=>⟨_,l,rfl,p'⟩,q⟩
 | false=>exact q
noncomputable abbrev R2:=V->V->Hp->VK->Prop
noncomputable def OpR (X:Cx) (f:Value->Value->Sem Value) (r:R2):Prop:=
 ∀(pins:List (Addr × Obj)) (s:Shared) (σ:St) (H:Hp) (x y:V) (v u:Value) (Q:VK),Inv X pins σ H s->RelV x v->RelV y u->r x y H Q->
   wpAny (model X.prog X.w) X.A (f v u) (EP X pins σ Q) X.xe s
noncomputable def UnR (X:Cx) (f:Value->Sem Value) (r:V->Hp->VK->Prop):Prop:=
 ∀(pins:List (Addr × Obj)) (s:Shared) (σ:St) (H:Hp) (x:V) (v:Value) (Q:VK),Inv X pins σ H s->RelV x v->r x H Q->
   wpAny (model X.prog X.w) X.A (f v) (EP X pins σ Q) X.xe s
noncomputable def Er (X:Cx) (f:Value) (r:List V->Hp->VK->Prop):Prop:=
 ∀(pins:List (Addr × Obj)) (s:Shared) (σ:St) (H:Hp) (xs:List V) (us:List Value) (Q:VK),Inv X pins σ H s->Vals xs us->r xs H Q->
   wpAny (model X.prog X.w) X.A (call f us) (EP X pins σ Q) X.xe s
noncomputable def tOp (r:R2) (ta tb:TE):TE:=fun σ H Q=>ta σ H fun x H1=>tb σ H1 fun y H2=>r x y H2 Q
noncomputable def tUn (r:V->Hp->VK->Prop) (ta:TE):TE:=fun σ H Q=>ta σ H fun x H1=>r x H1 Q
noncomputable def rI (C:Int->Int->Prop) (g:Int->Int->V):R2:=fun x y H Q=>∃i j,x= .int i/\y= .int j/\C i j/\Q (g i j) H
noncomputable def rI0 (g:Int->Int->V):R2:=fun x y H Q=>∃i j,x= .int i/\y= .int j/\Q (g i j) H
noncomputable def rU (g:Int->V):V->Hp->VK->Prop:=fun x H Q=>∃i,x= .int i/\Q (g i) H
section
variable {X:Cx}{a b c:Expr}{ta tb tc:TE}{pos:Pos}
theorem Am4 (U:PE X a ta) (W:PE X b tb) {R:V->V->Hp->Prop} (I:Inv X pins σ H s)
 (h:ta σ H fun x H1=>tb σ H1 fun y H2=>R x y H2) {Q:Value->Shared->Prop}{f:Value->Value->Sem Value}
 (Z:∀v u O x y H2,Inv X pins σ H2 O->RelV x v->RelV y u->R x y H2->wpAny (model X.prog X.w) X.A (f v u) Q X.xe O):
 wpAny (model X.prog X.w) X.A (eval a X.env) (fun v G=>wpAny (model X.prog X.w) X.A (eval b X.env) (fun u J=>wpAny (model X.prog X.w) X.A (f v u) Q X.xe J) X.xe G) X.xe s:=by
 refine thn (U pins s σ H _ I h) fun v s1 ⟨x,H1,I1,r1,q1⟩=> ?_
 refine thn (W pins s1 σ H1 _ I1 q1) fun u O ⟨y,H2,I2,r2,q2⟩=> ?_
 exact Z v u O x y H2 I2 r1 r2 q2
theorem Ans {op:Operator}{r:R2} (ho:OpR X (binaryOp op) r) (G:PE X a ta) (J:PE X b tb):PE X (.BinOp a op b pos) (tOp r ta tb):=by
 intro pins s σ H Q I h
 exact wpAny_BinOp (Am4 G J I h fun v u O x y H2 U W Z q=>ho pins O σ H2 x y v u Q U W Z q)
theorem Ant {op:UnaryOp}{r:V->Hp->VK->Prop} (ho:UnR X (unaryOp op) r) (G:PE X a ta):PE X (.UnaryOp op a pos) (tUn r ta):=by
 intro pins s σ H Q I h
 exact UnaryOp_ (thn (G pins s σ H _ I h) fun v J ⟨x,H1,O,U,W⟩=>ho pins J σ H1 x v Q O U W)
theorem opI {f:Value->Value->Sem Value}{C:Int->Int->Prop}{g:Int->Int->Int}
 (G:∀(i j:Int) (t u:Tok) (s:Shared) (Q:Value->Shared->Prop) (E:Value->Shared->Prop),C i j->Q (.int (g i j) s.toks) { s with toks:=s.toks+1}->wpAny (model X.prog X.w) X.A (f (.int i t) (.int j u)) Q E s):
 OpR X f (rI C fun i j=> .int (g i j)):=by
 intro pins s σ H x y v u Q I J O h
 obtain⟨i,j,rfl,rfl,U,q⟩:=h
 obtain⟨t,rfl⟩:=J
 obtain⟨W,rfl⟩:=O
 exact G i j t W s _ _ U ⟨.int (g i j),H,I.tok _,⟨_,rfl⟩,q⟩
theorem Apn {f:Value->Value->Sem Value}{g:Int->Int->Int}
 (G:∀(i j:Int) (t u:Tok) (s:Shared) (Q:Value->Shared->Prop) (E:Value->Shared->Prop),Q (.int (g i j) s.toks) { s with toks:=s.toks+1}->wpAny (model X.prog X.w) X.A (f (.int i t) (.int j u)) Q E s):
 OpR X f (rI0 fun i j=> .int (g i j)):=by
 intro pins s σ H x y v u Q I J O h
 obtain⟨i,j,rfl,rfl,q⟩:=h
 obtain⟨t,rfl⟩:=J
 obtain⟨U,rfl⟩:=O
 exact G i j t U s _ _ ⟨.int (g i j),H,I.tok _,⟨_,rfl⟩,q⟩
theorem Ann {f:Value->Value->Sem Value}{g:Int->Int->Bool}
 (G:∀(i j:Int) (t u:Tok) (s:Shared) (Q:Value->Shared->Prop) (E:Value->Shared->Prop),Q (.bool (g i j)) s->wpAny (model X.prog X.w) X.A (f (.int i t) (.int j u)) Q E s):
 OpR X f (rI0 fun i j=> .bl (g i j)):=by
 intro pins s σ H x y v u Q I J O h
 obtain⟨i,j,rfl,rfl,q⟩:=h
 obtain⟨t,rfl⟩:=J
 obtain⟨U,rfl⟩:=O
 exact G i j t U s _ _ ⟨.bl (g i j),H,I,rfl,q⟩
noncomputable def Apx (i j:Int):Prop:=0<j/\j<1073741824
noncomputable def Apy (i j:Int):Prop:=0<=j/\j<=1000000/\i.natAbs<2^64
noncomputable def Apb (i j:Int):Prop:=(-(2^64)<i/\i<2^64)\/(-(2^64)<j/\j<2^64)
theorem Apb.ok {i j:Int} (h:Apb i j):IntMulOk i j:=by
 rcases h with⟨h1,h2⟩ | ⟨h1,h2⟩
 . exact .of_left (intBits_le_64 h1 h2)
 . exact .of_right (intBits_le_64 h1 h2)
theorem Bw:OpR X (binaryOp .Add) (rI0 fun i j=> .int (i+j)):=Apn fun _ _ _ _ _ _ _ q=>add_int q
theorem Ot:OpR X (binaryOp .Sub) (rI0 fun i j=> .int (i-j)):=Apn fun _ _ _ _ _ _ _ q=>sub_int q
theorem Hv:OpR X (binaryOp .Mod) (rI (fun _ j=>0<j) fun i j=> .int (i%j)):=opI fun i j _ _ _ _ _ G q=>by
 have h1:(0:Int)<j:=G
 exact mod_int' (by omega) (by rw [Int.fmod_eq_emod_of_nonneg i (by omega)];exact q)
theorem Hw:OpR X (binaryOp .Pow) (rI Apy fun i j=> .int (i^j.toNat)):=opI fun _ _ _ _ _ _ _ G q=>pow_int_small G.1 G.2.1 G.2.2 q
theorem unI {f:Value->Sem Value}{g:Int->Int}
 (G:∀(i:Int) (t:Tok) (s:Shared) (Q:Value->Shared->Prop) (E:Value->Shared->Prop),Q (.int (g i) s.toks) { s with toks:=s.toks+1}->wpAny (model X.prog X.w) X.A (f (.int i t)) Q E s):
 UnR X f (rU fun i=> .int (g i)):=by
 intro pins s σ H x v Q I J h
 obtain⟨i,rfl,q⟩:=h
 obtain⟨t,rfl⟩:=J
 exact G i t s _ _ ⟨.int (g i),H,I.tok _,⟨_,rfl⟩,q⟩
theorem Abv:UnR X (unaryOp .USub) (rU fun i=> .int (-i)):=unI fun _ _ _ _ _ q=>neg_int q
end
noncomputable def Air:V->V->Bool
 | .non,.non=>true | .non,.int _=>true | .int _,.non=>true | .non,.bl _=>true | .bl _,.non=>true | .non,.str _=>true | .str _,.non=>true
 | .int _,.int _=>true | .bl _,.bl _=>true | .str _,.str _=>true | .byt _,.byt _=>true
 | .int _,.str _=>true | .str _,.int _=>true | .bl _,.str _=>true | .str _,.bl _=>true
 | _,_=>false
noncomputable def rEq:R2:=fun x y H Q=>Air x y=true/\Q (.bl (decide (x=y))) H
noncomputable def rNe:R2:=fun x y H Q=>Air x y=true/\Q (.bl (!decide (x=y))) H
theorem Y8 {i j:Int}:decide (V.int i=V.int j)=(i==j):=by
 rw [iE]
 simp
theorem Aer {i j:Bool}:decide (V.bl i=V.bl j)=(i==j):=by
 rw [iE]
 simp
theorem Y9 {i j:Str}:decide (V.str i=V.str j)=(i==j):=by
 rw [iE]
 simp
theorem Y7 {i j:Array UInt8}:decide (V.byt i=V.byt j)=(i.toList==j.toList):=by
 rw [iE]
 cases i
 cases j
 simp
variable {Q:VK}{us:List Value}{y:V}
section
variable {X:Cx}{a b c:Expr}{ta tb tc:TE}{pos:Pos}
theorem Cd {k G:Bool} (I:Inv X pins σ H s) (q:Q (.bl k) H) (e:k=G):EP X pins σ Q (.bool G) s:=by
 subst e
 exact⟨.bl k,H,I,rfl,q⟩
theorem Kf:OpR X (compareOp .Eq) rEq:=by
 intro pins s σ H x y v u Q I U G h
 obtain⟨O,q⟩:=h
 cases x with
 | non=>
   cases U
   cases y with
   | non=>cases G;exact PySem.EqNone.eq_none_none (Cd I q (by simp))
   | bl j=>cases G;exact PySem.EqNone.eq_none_bool (Cd I q (by simp))
   | int j=>obtain⟨J,rfl⟩:=G;exact PySem.EqNone.eq_none_int (Cd I q (by simp))
   | str j=>obtain⟨J,rfl⟩:=G;exact PySem.EqNone.eq_none_str (Cd I q (by simp))
   | _=>exact absurd (show false=true from O) aV
 | bl i=>
   cases U
   cases y with
   | non=>cases G;exact PySem.EqNone.eq_bool_none (Cd I q (by simp))
   | bl j=>cases G;exact eq_bool (Cd I q Aer)
   | str j=>obtain⟨J,rfl⟩:=G;exact PySem.EqMixed.eq_bool_str (Cd I q (by simp))
   | _=>exact absurd (show false=true from O) aV
 | int i=>
   obtain⟨t,rfl⟩:=U
   cases y with
   | non=>cases G;exact PySem.EqNone.eq_int_none (Cd I q (by simp))
   | int j=>obtain⟨J,rfl⟩:=G;exact eq_int (Cd I q Y8)
   | str j=>obtain⟨J,rfl⟩:=G;exact PySem.EqMixed.eq_int_str (Cd I q (by simp))
   | _=>exact absurd (show false=true from O) aV
 | str i=>
   obtain⟨t,rfl⟩:=U
   cases y with
   | non=>cases G;exact PySem.EqNone.eq_str_none (Cd I q (by simp))
   | bl j=>cases G;exact PySem.EqMixed.eq_str_bool (Cd I q (by simp))
   | int j=>obtain⟨J,rfl⟩:=G;exact PySem.EqMixed.eq_str_int (Cd I q (by simp))
   | str j=>obtain⟨J,rfl⟩:=G;exact eq_str (Cd I q Y9)
   | _=>exact absurd (show false=true from O) aV
 | byt i=>
   obtain⟨t,rfl⟩:=U
   cases y with
   | byt j=>obtain⟨J,rfl⟩:=G;exact PySem.W.eq_bytes (Cd I q Y7)
   | _=>exact absurd (show false=true from O) aV
 | _=>cases y<;>exact absurd (show false=true from O) aV
theorem Qi:OpR X (compareOp .NotEq) rNe:=by
 intro pins s σ H x y v u Q I U G h
 obtain⟨O,q⟩:=h
 cases x with
 | non=>
   cases U
   cases y with
   | non=>cases G;exact PySem.EqNone.ne_none_none (Cd I q (by simp))
   | bl j=>cases G;exact PySem.EqNone.ne_none_bool (Cd I q (by simp))
   | int j=>obtain⟨J,rfl⟩:=G;exact PySem.EqNone.ne_none_int (Cd I q (by simp))
   | str j=>obtain⟨J,rfl⟩:=G;exact PySem.EqNone.ne_none_str (Cd I q (by simp))
   | _=>exact absurd (show false=true from O) aV
 | bl i=>
   cases U
   cases y with
   | non=>cases G;exact PySem.EqNone.ne_bool_none (Cd I q (by simp))
   | bl j=>cases G;exact ne_bool (Cd I q (bE not Aer))
   | str j=>obtain⟨J,rfl⟩:=G;exact PySem.EqMixed.ne_bool_str (Cd I q (by simp))
   | _=>exact absurd (show false=true from O) aV
 | int i=>
   obtain⟨t,rfl⟩:=U
   cases y with
   | non=>cases G;exact PySem.EqNone.ne_int_none (Cd I q (by simp))
   | int j=>obtain⟨J,rfl⟩:=G;exact ne_int (Cd I q (bE not Y8))
   | str j=>obtain⟨J,rfl⟩:=G;exact PySem.EqMixed.ne_int_str (Cd I q (by simp))
   | _=>exact absurd (show false=true from O) aV
 | str i=>
   obtain⟨t,rfl⟩:=U
   cases y with
   | non=>cases G;exact PySem.EqNone.ne_str_none (Cd I q (by simp))
   | bl j=>cases G;exact PySem.EqMixed.ne_str_bool (Cd I q (by simp))
   | int j=>obtain⟨J,rfl⟩:=G;exact PySem.EqMixed.ne_str_int (Cd I q (by simp))
   | str j=>obtain⟨J,rfl⟩:=G;exact ne_str (Cd I q (bE not Y9))
   | _=>exact absurd (show false=true from O) aV
 | byt i=>
   obtain⟨t,rfl⟩:=U
   cases y with
   | byt j=>obtain⟨J,rfl⟩:=G;exact PySem.W.ne_bytes (Cd I q (bE not Y7))
   | _=>exact absurd (show false=true from O) aV
 | _=>cases y<;>exact absurd (show false=true from O) aV
theorem Ag0:OpR X (compareOp .Lt) (rI0 fun i j=> .bl (decide (i<j))):=Ann fun _ _ _ _ _ _ _ q=>lt_int q
theorem Adm:OpR X (compareOp .Gt) (rI0 fun i j=> .bl (decide (j<i))):=Ann fun _ _ _ _ _ _ _ q=>gt_int q
theorem Ano:OpR X (compareOp .GtE) (rI0 fun i j=> .bl (decide (j<=i))):=Ann fun _ _ _ _ _ _ _ q=>ge_int q
theorem Bl (b:Expr) {op:CmpOp} (h:op≠ .In:=by decide) (h2:op≠ .NotIn:=by decide):behindInMarks op b=false:=by
 have G:(op==CmpOp.In)=false:=by cases op<;>first | rfl | exact absurd rfl h
 have J:(op==CmpOp.NotIn)=false:=by cases op<;>first | rfl | exact absurd rfl h2
 cases b<;>simp [behindInMarks,G,J]
theorem Ag5 {op:CmpOp}{r:R2} (ho:OpR X (compareOp op) r) (G:PE X a ta) (J:PE X b tb) (O:behindInMarks op b=false):PE X (.Compare a [op] [b] pos) (tOp r ta tb):=by
 intro pins s σ H Q I h
 exact wpAny_Compare1 (Am4 G J I h fun v u U x y H2 W Z ry q=>ho pins U σ H2 x y v u Q W Z ry q) O
noncomputable def Ah6 (t:TE):TT:=fun σ H Q=>t σ H fun x H'=>∃k,x= .bl k/\Q k H'
theorem Ahh {op:CmpOp}{r:R2} (ho:OpR X (compareOp op) r) (G:PE X a ta) (J:PE X b tb) (O:behindInMarks op b=false):PT X (.Compare a [op] [b] pos) (Ah6 (tOp r ta tb)):=by
 intro pins s σ H Q I h
 refine wpAny_isTrue_Compare1 (thn (G pins s σ H _ I h) fun v U ⟨x,H1,W,Z,q1⟩=>thn (J pins U σ H1 _ W q1) fun u s2 ⟨y,H2,I2,r2,q2⟩=>
  thn (ho pins s2 σ H2 x y v u _ I2 Z r2 q2) fun c s3 ⟨z,H3,I3,r3,k,e,q3⟩=> ?_) O
 subst e
 cases r3
 exact fS ⟨H3,I3,q3⟩
theorem Rz:(sizeLine:Nat)<2^63:=by rw [dX];decide
theorem vals1 {x:V} (r:Vals [x] us):∃u,us=[u]/\RelV x u:=by
 cases r with
 | cons G J=>cases J;exact⟨_,rfl,G⟩
theorem vals2 {x:V} (r:Vals [x,y] us):∃u G,us=[u,G]/\RelV x u/\RelV y G:=by
 cases r with
 | cons J O=>
   cases O with
   | cons U W=>cases W;exact⟨_,_,rfl,J,U⟩
theorem O6:Er X (.builtin "abs") (fun xs H Q=>∃i,xs=[.int i]/\Q (.int (if i<0 then-i else i)) H):=by
 intro pins s σ H xs us Q I r h
 obtain⟨i,rfl,q⟩:=h
 obtain⟨u,rfl,t,rfl⟩:=vals1 r
 exact call_abs_int fun u tk=>⟨.int (if i<0 then-i else i),H,I.tok _,⟨_,rfl⟩,q⟩
theorem Ro:Er X (.type "int") (fun xs H Q=>(∃i,xs=[.int i]/\Q (.int i) H)\/∃k,xs=[.bl k]/\Q (.int (if k then 1 else 0)) H):=by
 intro pins s σ H xs us Q I r h
 rcases h with⟨i,rfl,q⟩ | ⟨k,rfl,q⟩
 . obtain⟨u,rfl,t,rfl⟩:=vals1 r
   exact call_int_int ⟨.int i,H,I,⟨_,rfl⟩,q⟩
 . obtain⟨u,rfl,G⟩:=vals1 r
   cases G
   exact call_int_bool ⟨.int (if k then 1 else 0),H,I.tok _,⟨_,rfl⟩,q⟩
theorem Tr:Er X (.builtin "divmod") (fun xs H Q=>∃i j,xs=[.int i,.int j]/\Apx i j/\∀p,H p=none->Q (.ref p) (upd H p (.tup [.int (i/j),.int (i%j)]))):=by
 intro pins s σ H xs us Q I r h
 obtain⟨i,j,rfl,⟨h1,h2⟩,q⟩:=h
 obtain⟨u,J,rfl,⟨t,rfl⟩,⟨O,rfl⟩⟩:=vals2 r
 refine divmod_int (by omega) ?_ (.inl (PyProof.noPylong_small (by omega)))
 rw [gT i (by omega),Int.fmod_eq_emod_of_nonneg i (by omega)]
 have G:H s.heap.objs.size=none:=I.hok.fresh (aL _)
 refine⟨.ref s.heap.objs.size,_,?_,rfl,q _ G⟩
 refine I.laid (fun b o e=>aB _ e) (aL _) ⟨by simp only [bH,eD];rw [dX];decide,[.int (i/j) s.toks,.int (i%j) (s.toks+1)],.cons ⟨_,rfl⟩ (.cons ⟨_,rfl⟩ .nil),?_⟩
 exact⟨_,aK s.heap rfl,rfl,0,rfl⟩
end
structure Am1 (h:Heap) (x dx C:Addr) (mA:Str->Option Value):Prop where
 obj:h.get? x=some (instObj C dx)
 ns:h.Ns1 dx mA
 ne:dx≠x
variable {dx:Addr}
theorem Z7 {mA:Str->Option Value} (n:h.Ns1 dx mA):∃J,h.get? dx=some J/\∀name,lookIn name J=some (mA name):=by
 obtain⟨o,es,ep,ho,O,U,_,Z⟩:=n
 refine⟨o,ho,fun name=> ?_⟩
 have e:=Z name
 unfold nsFind findBy at e
 rw [<-Array.find?_toList]at e
 unfold lookIn
 rw [O]
 dsimp only
 split
 . rename_i y q
   rw [q]at e
   exact bE some e
 . rename_i q
   rw [q]at e
   have a:es.toList.any (·.refKey)=false:=by
    rw [List.any_eq_false]
    intro y hy
    obtain⟨z,t,G⟩:=U y (Array.mem_toList_iff.mp hy)
    simp [DictEntry.refKey,G]
   have a':¬es.toList.any (·.refKey)=true:=by rw [a];exact aV
   rw [aF a']
   exact bE some e
variable {C:Addr}
theorem Am1.look {x:Addr}{mA:Str->Option Value} (I:Am1 h x dx C mA):∃G,PySem.W.InstAt h x (instObj C dx) C (some G)/\∀name,lookIn name G=some (mA name):=
 let ⟨G,ho,hl⟩:=Z7 I.ns
 ⟨G,⟨I.obj,rfl,rfl,ho⟩,hl⟩
theorem Vf.some_of {o:Option Value} (r:Vf (some v) o):∃u,o=some u/\RelV v u:=by
 cases o with
 | none=>exact(show False from r).elim
 | some u=>exact⟨u,rfl,r⟩
section
variable {P:Program}{w:World}{H H':Hp}{h h':Heap}{a C dx:Addr}{fs fs':List (Str × V)}
theorem Agk (G:HOk P w H h) (e:H a=some (.ins C dx fs)):∃mA,Am1 h a dx C mA/\(∀f,Vf (fs.lookup f) (mA f))/\PySem.Within mA (fs.map (·.1))/\fs.length<=1000/\H dx=some (.own a):=by
 obtain⟨d,z,J,O,mA,n,r,q⟩:=(show Cy P w H h a (.ins C dx fs)from G a _ e)
 exact⟨mA,⟨O,n,J⟩,r,q,z,d⟩
end
structure Cls (K:Frag) (C:Addr):Prop where
 pg:plainGet K C Str.empty=true
 hd:hasDictIn K C=true
 po:PySem.W.plainOver K C=true
 sa:PySem.W.findIn K (.ref C) "__setattr__"=some (some (.builtin "object.__setattr__"))
theorem Cls.get {K:Frag}{C:Addr} (c:Cls K C) (f:Str):plainGet K C f=true:=c.pg
structure Con (K:Frag) (C:Addr) (f:Str) (v:V) (u:Value):Prop where
 at_:PySem.W.findIn K (.ref C) f=some (some u)
 rel:RelV v u
 get:PySem.W.specialIn K u "__get__"=some none
 cp:PySem.W.copiedNames.contains f=false
structure Meth (K:Frag) (C:Addr) (m:Str) (f:Addr):Prop where
 at_:PySem.W.findIn K (.ref C) m=some (some (.ref f))
 fn:isFn K (.ref f)=true
 kp:keepIn K (.ref f)=true
variable {env:Env}{e:Expr}
section
variable {X:Cx}{pins:List (Addr × Obj)}{σ:St}{H:Hp}{s:Shared}{a C dx:Addr}{fs:List (Str × V)}{f:Str}{v:V}{A:Around}{E:Value->Shared->Prop}
theorem Af2 {prog:Program}{w:World}{f:Str}{pos:Pos}{s:Shared}{Q:Value->Shared->Prop} (J:attributeBase e f env (eval e env)=eval e env)
 (h:wpAny (model prog w) A (eval e env) (fun o G=>wpAny (model prog w) A (getAttr o f true) Q E G) E s):wpAny (model prog w) A (eval (.Attribute e f pos) env) Q E s:=
 Attribute_any_ h (by rw [arm_eval_Attribute,J])
end
section
variable {X:Cx}{pins:List (Addr × Obj)}{σ:St}{H:Hp}{s:Shared}{A:Around}{E:Value->Shared->Prop}{Q:Value->Shared->Prop}{c:Value}{b:Bool}
inductive S8 (K:Frag) (H:Hp):V->Value->Prop where
 | non:S8 K H .non (.type "NoneType")
 | bl (x:Bool):S8 K H (.bl x) (.type "bool")
 | int (i:Int):S8 K H (.int i) (.type "int")
 | str (x:Str):S8 K H (.str x) (.type "str")
 | flt (x:UInt64):S8 K H (.flt x) (.type "float")
 | lst {a:Addr}{xs:List V} (e:H a=some (.lst xs)):S8 K H (.ref a) (.type "list")
 | frz {a:Addr}{o:Obj}{xs:List V} (e:H a=some (.frz o (.lst xs))):S8 K H (.ref a) (.type "list")
 | tup {a:Addr}{xs:List V} (e:H a=some (.tup xs)):S8 K H (.ref a) (.type "tuple")
 | dK {a:Addr}{kvs:List (Key × V)} (e:H a=some (.dK kvs)):S8 K H (.ref a) (.type "dict")
 | dT {a:Addr}{kvs:List (List Key × V)} (e:H a=some (.dT kvs)):S8 K H (.ref a) (.type "dict")
 | ins {a C dx:Addr}{fs:List (Str × V)} (e:H a=some (.ins C dx fs)) (cl:Cls K C) (ha:PySem.W.findIn K (.ref C) "__class__"=some (some (.builtin "object.__class__")))
    (hn:PySem.W.specialIn K (.builtin "object.__class__") "__get__"=some (some (.builtin "getset_descriptor.__get__"))) (htk:PySem.W.takesIn K (.builtin "object.__class__")=some true)
    (hm:PySem.W.mroIn K C (.type "object")=some true):S8 K H (.ref a) (.ref C)
theorem Zv {x:V}{t:Value} (I:Inv X pins σ H s) (G:RelV x u) (ty:S8 X.K H x t) (e:kitOne X.K t c=some b) (h:∀tk,Q (.bool b) { s with toks:=tk}):
 wpAny (model X.prog X.w) A (call (.builtin "isinstance") [u,c]) Q E s:=by
 cases ty with
 | non=>cases(show u=Value.none from G);exact cV PySem.W.kitx_none I.kIn True.intro e (fun z=>nomatch z) h
 | bl y=>cases(show u=Value.bool y from G);exact cV PySem.W.kitx_bool I.kIn True.intro e (fun z=>nomatch z) h
 | int i=>obtain⟨t,q⟩:=(show ∃t,u=Value.int i t from G);cases q;exact cV PySem.W.kitx_int I.kIn True.intro e (fun z=>nomatch z) h
 | str y=>obtain⟨t,q⟩:=(show ∃t,u=Value.str y t from G);cases q;exact cV PySem.W.kitx_str I.kIn True.intro e (fun z=>nomatch z) h
 | flt y=>obtain⟨t,q⟩:=(show ∃t,u=Value.float y t from G);cases q;exact cV PySem.W.kitx_float I.kIn True.intro e (fun z=>nomatch z) h
 | @lst a xs U=>
   cases(show u=Value.ref a from G)
   obtain⟨_,_,n,_,h1⟩:=(show Cy X.prog X.w H s.heap a (.lst xs)from I.hok a _ U)
   exact cV kitx_list I.kIn ⟨_,h1,rfl⟩ e (fun z=>nomatch z) h
 | @frz a ob xs U=>
   cases(show u=Value.ref a from G)
   obtain⟨_,_,_,n,_,h1⟩:=(show Cy X.prog X.w H s.heap a (.frz ob (.lst xs))from I.hok a _ U)
   exact cV kitx_list I.kIn ⟨_,h1,rfl⟩ e (fun z=>nomatch z) h
 | @tup a xs U=>
   cases(show u=Value.ref a from G)
   obtain⟨_,_,_,p⟩:=(show Cy X.prog X.w H s.heap a (.tup xs)from I.hok a _ U)
   obtain⟨o,h1,h2,_⟩:=p
   exact cV kitx_tuple I.kIn ⟨o,h1,h2⟩ e (fun z=>nomatch z) h
 | @dK a Z U=>
   cases(show u=Value.ref a from G)
   obtain⟨_,_,vs,_,p⟩:=(show Cy X.prog X.w H s.heap a (.dK Z)from I.hok a _ U)
   obtain⟨o,es,ep,h1,h2,_⟩:=p
   exact cV kitx_dict I.kIn ⟨o,h1,h2.1⟩ e (fun z=>nomatch z) h
 | @dT a Z U=>
   cases(show u=Value.ref a from G)
   obtain⟨_,_,xs,_,o,es,ep,h1,h2,_⟩:=(show Cy X.prog X.w H s.heap a (.dT Z)from I.hok a _ U)
   exact cV kitx_dict I.kIn ⟨o,h1,h2.1⟩ e (fun z=>nomatch z) h
 | @ins a C dx fs U cl ha hn a1 hm=>
   cases(show u=Value.ref a from G)
   obtain⟨mA,O,_⟩:=Agk I.hok U
   obtain⟨od,J,_⟩:=O.look
   exact cV (PySem.W.kitx_own (cl.get _) cl.hd ha hn a1 hm) I.kIn J e (fun z=>nomatch z) h
end
structure Hi (k:Nat) (A:Around):Prop where
 hd:A.handled=none
 dp:A.depth+3*k+5<recursionLimit
 un:A.units+16*k+200<cLine
theorem Hi.mono {k:Nat} (r:Hi k A) (h:j<=k):Hi j A:=⟨r.hd,by have:=r.dp;omega,by have:=r.un;omega⟩
theorem Hi.deeper {k:Nat}{A:Around} (r:Hi (k+1) A) (env:Env):Hi k (A.deeper env):=
 ⟨r.hd,by have:=r.dp;show A.depth+1+3*k+5<_;omega,by have:=r.un;show A.units+3+16*k+200<_;omega⟩
theorem Hi.in1 {k:Nat}{A:Around} (r:Hi (k+1) A):Hi k A.in1:=
 ⟨r.hd,by have:=r.dp;show A.depth+3*k+5<_;omega,by have:=r.un;show A.units+1+16*k+200<_;omega⟩
theorem Xe {kw:List (Str × Value)}:(A.under (.builtin "type.__call__" ⟨.ref C::us,kw⟩)).depth=A.depth+1:=by
 first | rfl | simp [Around.under,Code.weight,Code.isCreation,Code.isGuard,Code.isCaller,Code.frames,Code.isFrame,guardIds]
theorem Xf {kw:List (Str × Value)}:(A.under (.builtin "type.__call__" ⟨.ref C::us,kw⟩)).units=A.units+1:=by
 first | rfl | simp [Around.under,Code.cUnits,Code.frames,Code.isFrame]
theorem Hi.make {k:Nat} (r:Hi (k+1) A) (C:Addr) (us:List Value) (kw:List (Str × Value)):Hi k (A.under (.builtin "type.__call__" ⟨.ref C::us,kw⟩)):=
 ⟨r.hd,by have:=r.dp;rw [Xe];omega,by have:=r.un;rw [Xf];omega⟩
theorem Hi.depth {k:Nat}{A:Around} (r:Hi k A):A.depth<recursionLimit:=by have:=r.dp;omega
theorem Hi.units {k:Nat}{A:Around} (r:Hi k A):A.units+64<cLine:=by have:=r.un;omega
noncomputable def Aoa:TA:=fun _ H Q=>Q [] H
noncomputable def Ad9 (ta:TE) (tr:TA):TA:=fun σ H Q=>ta σ H fun x H1=>tr σ H1 fun xs H2=>Q (x::xs) H2
section
variable {X:Cx}{e:Expr}{es:List Expr}{te:TE}{t:TA}{pos:Pos}
theorem Akn:PA X [] Aoa:=fun _ _ _ _ H Q I h=>Calls.spliced_nil ⟨[],H,I,.nil,h⟩
theorem Ag2 (G:PE X e te) (J:PA X es t) (O:starEach (e::es) X.env=(false,eval e X.env)::starEach es X.env:=by rfl):PA X (e::es) (Ad9 te t):=by
 intro pos pins s σ H Q I h
 rw [O]
 show wpAny _ _ (spliced ((false,eval e X.env)::backTo pos (starEach es X.env))) _ _ s
 refine Calls.spliced_cons (thn (G pins s σ H _ I h) fun u U ⟨x,H1,W,Z,q1⟩=> ?_)
 exact thn (J pos pins U σ H1 _ W q1) fun us s2 ⟨xs,H2,I2,r2,q2⟩=>⟨x::xs,H2,I2,.cons Z r2,q2⟩
noncomputable def Aoe (t:TA):TE:=fun σ H Q=>t σ H fun xs H1=>xs.length<=sizeLine/\∀p,H1 p=none->Q (.ref p) (upd H1 p (.tup xs))
noncomputable def An9 (t:TA):TE:=fun σ H Q=>t σ H fun xs H1=>xs.length<=sizeLine/\∀p,H1 p=none->Q (.ref p) (upd H1 p (.lst xs))
theorem Akw {x1} (h:PA X es t):PE X (.Tuple es x1 pos) (Aoe t):=by
 intro pins s σ H Q I O
 refine wpAny_Tuple_spliced (thn (h pos pins s σ H _ I O) fun us G ⟨xs,H1,J,r,z,q⟩=>⟨by rw [<-r.length];exact z,?_⟩)
 have U:H1 G.heap.objs.size=none:=J.hok.fresh (aL _)
 refine⟨.ref G.heap.objs.size,upd H1 G.heap.objs.size (.tup xs),J.laid (t':=G.toks) (fun b u e=>aB _ e) (aL _) ?_,rfl,q _ U⟩
 exact⟨z,us,r,⟨_,aK _ rfl,rfl,_,rfl⟩⟩
theorem Akr (h:PA X es t):PE X (.List es pos) (An9 t):=by
 intro pins s σ H Q I O
 refine wpAny_List_spliced (thn (h pos pins s σ H _ I O) fun us G ⟨xs,H1,J,r,z,q⟩=>⟨by rw [<-r.length];exact z,?_⟩)
 have U:H1 G.heap.objs.size=none:=J.hok.fresh (aL _)
 refine⟨.ref G.heap.objs.size,upd H1 G.heap.objs.size (.lst xs),J.laid (t':=G.toks) (fun b u e=>aB _ e) (aL _) ?_,rfl,q _ U⟩
 exact⟨z,us,0,r,aK _ rfl⟩
end
noncomputable abbrev Sp:=List V->Hp->VK->XK->Prop
noncomputable abbrev CXT:=List Env->Hp->Shared->XK->Value->Shared->Prop
structure Ab5 (P:Program) (w:World) (K:Frag) (mg:Str->Option Value) (base:Heap) (A:Around) (outer:List Env) (s:Shared) (H:Hp):Prop where
 frames:A.frames=some outer
 mod:Mod K mg base
 bs:∀b o,base.get? b=some o->s.heap.get? b=some o/\H b=none
 bsz:base.objs.size<=s.heap.objs.size
 funs:s.heap.FunFrames base outer
 frf:∀b∈frs outer,H b=none
 hok:HOk P w H s.heap
 bare:AllBare s.gens
noncomputable def CE (outer:List Env) (P:Program) (w:World) (H:Hp) (s:Shared) (Q:VK) (u:Value) (s':Shared):Prop:=
 ∃v H',s'.os=s.os/\AllBare s'.gens/\Un (frs outer) [] H H' s.heap s'.heap/\HOk P w H' s'.heap/\RelV v u/\Q v H'
noncomputable def CR (CX:CXT) (outer:List Env) (P:Program) (w:World) (H:Hp) (s:Shared) (Q:VK) (E:XK) (r:Result) (s':Shared):Prop:=
 match r with
 | .ok (.ret u)=>CE outer P w H s Q u s'
 | .ok _=>False
 | .error e=>CX outer H s E e s'
structure Lq (P:Program) (w:World) (K:Frag) (mg:Str->Option Value) (base:Heap) (CX:CXT) (k:Nat) (f:Addr) (fd:FuncData) (ps:List Str) (sp:Sp):Prop where
 len:∀vs H Q E,sp vs H Q E->vs.length=ps.length
 run:∀(A:Around) (outer:List Env) (s:Shared) (H:Hp) (args:Args) (us:List Value) (vs:List V) (Q:VK) (E:XK),Hi k A->Ab5 P w K mg base A outer s H->BindsTo s fd args (ps.zip us)->Vals vs us->sp vs H Q E->
  codeAny (model P w) A (.call (.ref f) args) (CR CX outer P w H s Q E) s
theorem Lq.mono {P:Program}{w:World}{K:Frag}{mg:Str->Option Value}{base:Heap}{CX:CXT}{j k:Nat}{f:Addr}{fd:FuncData}{ps:List Str}{sp:Sp} (F:Lq P w K mg base CX j f fd ps sp) (h:j<=k):
 Lq P w K mg base CX k f fd ps sp:=⟨F.len,fun A outer s H args us G Q E J=>F.run A outer s H args us G Q E (J.mono h)⟩
variable {mg:Str->Option Value}{base:Heap}{CX:CXT}{f:Addr}{fd:FuncData}{ps:List Str}{sp:Sp}
theorem Lq.imp {K:Frag}{k:Nat}{J:Sp} (F:Lq P w K mg base CX k f fd ps sp)
 (h:∀G H Q E,J G H Q E->sp G H Q E):Lq P w K mg base CX k f fd ps J:=
 ⟨fun G H Q E q=>F.len G H Q E (h _ _ _ _ q),fun A outer s H args us G Q E O U Z hv hs=>F.run A outer s H args us G Q E O U Z hv (h _ _ _ _ hs)⟩
variable {outer:List Env}
theorem Ab5.make {K:Frag} (e:Ab5 P w K mg base A outer s H) (C:Addr) (us:List Value) (kw:List (Str × Value)):
 Ab5 P w K mg base (A.under (.builtin "type.__call__" ⟨.ref C::us,kw⟩)) outer s H:=⟨by first | exact e.frames | (simpa [Around.under,Code.envs,Code.isFrame,pushEnvs]using e.frames),e.mod,e.bs,e.bsz,e.funs,e.frf,e.hok,e.bare⟩
theorem Ab5.in1 {P:Program}{w:World}{K:Frag}{mg:Str->Option Value}{base:Heap}{A:Around}{outer:List Env}{s:Shared}{H:Hp} (e:Ab5 P w K mg base A outer s H):
 Ab5 P w K mg base A.in1 outer s H:=⟨e.frames,e.mod,e.bs,e.bsz,e.funs,e.frf,e.hok,e.bare⟩
section
variable {X:Cx}{pins:List (Addr × Obj)}{σ:St}{H:Hp}{s s':Shared}
theorem Inv.env0 (I:Inv X pins σ H s):Ab5 X.prog X.w X.K X.mg X.base X.A X.stack s H:=
 ⟨I.ok.frames,I.ok.mod,I.bs,aO I.ok.bsz I.sz,I.stack,I.stkFree,I.hok,I.bare⟩
theorem Inv.after (I:Inv X pins σ H s) (h:CE X.stack X.prog X.w H s Q u s'):EP X pins σ Q u s':=by
 obtain⟨v,H',os,G,un,J,r,q⟩:=h
 obtain⟨U,g,d,t,O⟩:=s'
 obtain rfl:O=s.os:=os
 exact⟨v,H',I.call (h':=U) (g':=g) (d':=d) (t':=t) (ch:=[]) un J G (fun b z=>absurd z (by simp)),r,q⟩
end
noncomputable def Qy (sp:Sp) (dvs:List V) (E:XK) (t:TA):TE:=fun σ H Q=>t σ H fun vs H1=>sp (vs++dvs) H1 Q E
noncomputable def Binds (K:Frag) (fd:FuncData) (ps:List Str) (ds:List Value):Prop:=
 ∀(s:Shared) (us:List Value),K.In s.heap->(us++ds).length=ps.length->BindsTo s fd ⟨us,[]⟩ (ps.zip (us++ds))
theorem Binds.all {K:Frag} (h:∀us:List Value,us.length=ps.length->bindArgs fd ⟨us,[]⟩=pure (ps.zip us)):Binds K fd ps []:=fun s us _ G=>by
 rw [bT]at G ⊢
 exact .of_eq (h us G)
noncomputable def Passes (CX:CXT) (X:Cx) (E:XK):Prop:=∀(pins:List (Addr × Obj)) (σ:St) (H:Hp) (s:Shared) (e:Value) (s':Shared),Inv X pins σ H s->CX X.stack H s E e s'->X.xe e s'
section
variable {X:Cx}{CX:CXT}{k:Nat}{f C:Addr}{fd:FuncData}{ps:List Str}{sp:Sp}{dvs:List V}{ds:List Value}{E:XK}{x m:Str}{p pos apos:Pos}{e o:Expr}{es:List Expr}{ta:TE}{t:TA}
theorem Afn {pins:List (Addr × Obj)}{σ:St}{H:Hp}{s:Shared}{Q:VK}{us:List Value}{vs:List V} (F:Lq X.prog X.w X.K X.mg X.base CX k f fd ps sp) (O:Hi k X.A) (U:Binds X.K fd ps ds) (W:Vals dvs ds) (Z:Passes CX X E)
 (I:Inv X pins σ H s) (r:Vals vs us) (h:sp (vs++dvs) H Q E):wpAny (model X.prog X.w) X.A (call (.ref f) us) (EP X pins σ Q) X.xe s:=by
 have J:Vals (vs++dvs) (us++ds):=r.append W
 have hl:(us++ds).length=ps.length:=by rw [<-J.length];exact F.len _ _ _ _ h
 refine wpAny_call (iF (F.run X.A X.stack s H ⟨us,[]⟩ (us++ds) (vs++dvs) Q E O I.env0 (U s us I.kIn hl) J h) fun r s' G=> ?_)
 cases r with
 | error e=>exact Z pins σ H s e s' I G
 | ok fl=>
   cases fl with
   | ret u=>exact I.after G
   | next=>exact False.elim G
   | brk=>exact False.elim G
   | cont=>exact False.elim G
theorem Aap (F:Lq X.prog X.w X.K X.mg X.base CX k f fd ps sp) (U:Hi k X.A) (Z:Gl X x) (hm:X.mg x=some (.ref f)) (hk:keepIn X.K (.ref f)=true) (hb:Binds X.K fd ps ds) (hd:Vals dvs ds) (hx:Passes CX X E)
 (ha:PA X (e::es) t) (G:(x==("__debug__":Str))=false:=by decide) (he:starEach (e::es) X.env=(false,eval e X.env)::starEach es X.env:=by rfl) (J:(backTo pos (starEach es X.env)).any (·.1)=false:=by rfl):
 PE X (.Call (.Name x p) (e::es) [] pos) (Qy sp dvs E t):=by
 intro pins s σ H Q I h
 refine fL (Kd I Z hm ?_ G)
 refine jM (h₀:=X.base) I.ok.mod.kin hk (thn (ha pos pins s σ H _ I h) fun us s1 ⟨vs,H1,O,r,q⟩=>⟨O.kIn,?_⟩) he J
 exact Afn F U hb hd hx O r q
structure Mk (K:Frag) (C f:Addr):Prop where
 makes:PySem.W.makesIn K C=true
 init:PySem.W.findIn K (.ref C) "__init__"=some (some (.ref f))
 fn:isFn K (.ref f)=true
 kp:keepIn K (.ref C)=true
end
section
variable {X:Cx}{CX:CXT}{k:Nat}{f C:Addr}{fd:FuncData}{ps ks:List Str}{sp:Sp}{E:XK}{x m:Str}{p pos apos kpos:Pos}{e o:Expr}{es:List Expr}{kws:List Keyword}{te ta:TE}{t tk:TA}{nm:Option Str}
structure Ape (K:Frag) (fd:FuncData) (ps ks:List Str) (g:List Value->List Value->List Value) (gV:List V->List V->List V):Prop where
 to:∀(s:Shared) (us ws:List Value),K.In s.heap->(g us ws).length=ps.length->BindsTo s fd ⟨us,ks.zip ws⟩ (ps.zip (g us ws))
 rel:∀ {vs:List V}{us:List Value}{zs:List V}{ws:List Value},Vals vs us->Vals zs ws->Vals (gV vs zs) (g us ws)
variable {g:List Value->List Value->List Value}{gV:List V->List V->List V}
end
structure Bb (N P:List Str) (sc:Scope):Prop where
 kind:sc.kind= .function
 co:sc.isCoroutine=false
 gen:sc.isGenerator=false
 nd:N.Nodup
 pre:N.take P.length=P
 par:∀x∈P,sc.names.lookup x=some .local \/sc.names.lookup x=some .cell
 nofree:∀y∈sc.names,y.2≠ .free
theorem Rm {kindOf:Str->Option NameKind}{x:Str}:∀ {binds:List (Str × Value)}{m:Str->Option Value},(∀v,(x,v)∉binds)->bindL kindOf binds m x=m x
 | [],_,_=>rfl
 | (n,v)::r,m,h=>by
   unfold bindL
   rw [Rm fun w G=>h w (cI _ G)]
   split
   . have:x≠n:=by rintro rfl;exact h v cY
     simp [this]
   . rfl
theorem Rj {kindOf:Str->Option NameKind}{x:Str}:∀ {binds:List (Str × Value)}{m:Str->Option Value},(∀v,(x,v)∉binds)->bindC kindOf binds m x=m x
 | [],_,_=>rfl
 | (n,v)::r,m,h=>by
   unfold bindC
   rw [Rj fun w G=>h w (cI _ G)]
   split
   . rfl
   . have:x≠n:=by rintro rfl;exact h v cY
     simp [this]
theorem Rk {kindOf:Str->Option NameKind}{x:Str}{v:Value}:∀ {P:List Str}{vs:List Value}{i:Nat}{m:Str->Option Value},P.Nodup->P[i]? =some x->vs[i]? =some v->kindOf x=some .local ->
 bindL kindOf (P.zip vs) m x=some v
 | [],_,_,_,_,h,_,_=>by simp at h
 | _::_,[],_,_,_,_,h,_=>by simp at h
 | p::P,w::vs,0,m,nd,h1,h2,hk=>by
   simp at h1 h2;subst h1;subst h2
   show bindL kindOf ((p,w)::P.zip vs) m p=_
   unfold bindL
   rw [Rm fun v G=>(eQ.mp nd).1 (of_mem_zip G).1,aI hk]
   simp
 | p::P,w::vs,i+1,m,nd,h1,h2,hk=>by
   show bindL kindOf ((p,w)::P.zip vs) m x=_
   unfold bindL
   exact Rk (i:=i) (eQ.mp nd).2 (by simpa using h1) (by simpa using h2) hk
theorem Ri {kindOf:Str->Option NameKind}{x:Str}{v:Value}:∀ {P:List Str}{vs:List Value}{i:Nat}{m:Str->Option Value},P.Nodup->P[i]? =some x->vs[i]? =some v->kindOf x≠some .local ->
 bindC kindOf (P.zip vs) m x=some v
 | [],_,_,_,_,h,_,_=>by simp at h
 | _::_,[],_,_,_,_,h,_=>by simp at h
 | p::P,w::vs,0,m,nd,h1,h2,hk=>by
   simp at h1 h2;subst h1;subst h2
   show bindC kindOf ((p,w)::P.zip vs) m p=_
   unfold bindC
   rw [Rj fun v G=>(eQ.mp nd).1 (of_mem_zip G).1,aF hk]
   simp
 | p::P,w::vs,i+1,m,nd,h1,h2,hk=>by
   show bindC kindOf ((p,w)::P.zip vs) m x=_
   unfold bindC
   exact Ri (i:=i) (eQ.mp nd).2 (by simpa using h1) (by simpa using h2) hk
noncomputable def start (N:List Str) (vs:List V):St:=vs.map some++replicate (N.length-vs.length) none
noncomputable def Mp (CX:CXT) (P:Program) (w:World) (K:Frag) (mg:Str->Option Value) (base:Heap) (N:List Str) (qual:Str) (scope:Scope) (f:Addr) (cd:Value) (A:Around) (outer:List Env) (s:Shared) (H:Hp) (E:XK):Cx where
 prog:=P
 w:=w
 K:=K
 mg:=mg
 base:=base
 A:=A.deeper (envOfC qual scope s.heap.objs.size f cd)
 N:=N
 s₀:=s
 H₀:=H
 env:=envOfC qual scope s.heap.objs.size f cd
 outer:=outer
 stack:=envOfC qual scope s.heap.objs.size f cd::outer
 ex:=[]
 calm:=true
 fn:=fun _=>true
 pn:=[]
 xe:=fun e s'=>wpAny (model P w) (A.deeper (envOfC qual scope s.heap.objs.size f cd)) (leaving (envOfC qual scope s.heap.objs.size f cd) e) (fun _ s''=>CX outer H s E e s'') (fun e' s''=>CX outer H s E e' s'') s'
variable {n:Nat}
theorem Vi {sc:Scope} (h:sc.names.lookup x=some .cell):∃c,(cellsFrom n sc.names []).lookup x=some c:=by
 have q:=cellsFrom_some sc.names n [] (.inl h)
 exact hX.mp q
theorem Zu {CX:CXT}{P:Program}{w:World}{K:Frag}{mg:Str->Option Value}{base:Heap}{N ps:List Str}{qual:Str}{scope:Scope}{f:Addr}{cd:Value}{A:Around}{outer:List Env}{s s1:Shared}{H:Hp}{E:XK}{us:List Value}{vs:List V}
 (S:Bb N ps scope) (hd:A.handled=none) (G:Ab5 P w K mg base A outer s H) (hl:vs.length=ps.length) (r:Vals vs us)
 (x:InCallC s s.heap.objs.size (bindL (envOfC qual scope s.heap.objs.size f cd).kindOf (ps.zip us) fun _=>none) (cellsFrom (s.heap.objs.size+1) scope.names []) (bindC (envOfC qual scope s.heap.objs.size f cd).kindOf (ps.zip us) fun _=>none) s1):
 Inv (Mp CX P w K mg base N qual scope f cd A outer s H E) [] (start N vs) H s1:=by
 have a1:ps.length<=N.length:=by have:=bE length S.pre;rw [bV]at this;omega
 obtain⟨h1,tk,rfl,hk⟩:=x.done
 have J:∀b:Addr,b∉(Mp CX P w K mg base N qual scope f cd A outer s H E).ex:=fun b z=>absurd (show b∈([]:List Addr)from z) (by simp)
 refine⟨⟨G.mod,S.kind,rfl,rfl,aL _,fun y z c h1 h2=> ?_,fun y O=> ?_,fun y c _ h=> ?_,fun _=>hd,Around.frames_deeper G.frames,.inr ⟨rfl,rfl⟩,fun b z=>absurd z (J b),G.bs,G.bsz,fun b _ _=>J b,fun b z=>absurd z (J b),G.funs,G.frf⟩,
  rfl,G.bare,Un.kept hk,⟨_,x.toInCall.ns,fun i y v h1 h2 h3=> ?_⟩,fun y c h=>⟨_,x.cell y c h⟩,G.hok.fresh (aL _),fun y c h=> ?_,fun p U=>absurd (show p∈([]:List (Addr × Obj))from U) (by simp),G.hok.kept hk,?_⟩
 . exact name_of_addr x.apart (hG h1) (hG h2)
 . have O:scope.names.lookup y=some .cell\/scope.names.lookup y=some .free:=O
   rcases O with O | O
   . exact Vi O
   . exact absurd rfl (S.nofree _ (hG O))
 . exact fY (x.above y c (hG h))
 . have hi:i<vs.length:=by
    unfold start at h2
    by_cases hi:i<vs.length
    . exact hi
    . rw [fE (by simpa using hi)]at h2
      rw [List.getElem?_replicate]at h2
      split at h2<;>cases h2
   have ha:vs[i]? =some v:=by
    unfold start at h2
    rw [jS (by simpa using hi),aN]at h2
    cases e:vs[i]? with
    | none=>rw [e]at h2;cases h2
    | some a=>rw [e]at h2;cases h2;rfl
   obtain⟨u,hu,rv⟩:=r.get ha
   have U:ps[i]? =some y:=by
    rw [<-S.pre,List.getElem?_take_of_lt (by omega)];exact h1
   have Z:ps.Nodup:=by rw [<-S.pre];exact S.nd.sublist (List.take_sublist _ _)
   refine⟨u,rv,?_⟩
   rcases S.par y (dR U)with k | k
   . exact .inl ⟨k,Rk Z U hu k⟩
   . obtain⟨c,e⟩:=Vi (n:=s.heap.objs.size+1) k
     refine .inr ⟨.inl k,c,e,?_⟩
     have q:=x.cell y c e
     rw [Ri Z U hu (by show scope.names.lookup y≠_;rw [k];decide)]at q
     exact q
 . exact G.hok.fresh (fY (x.above y c (hG h)))
 . unfold start
   show _=N.length
   rw [aH,aC,List.length_replicate]
   omega
theorem Ajm {CX:CXT}{P:Program}{w:World}{K:Frag}{mg:Str->Option Value}{base:Heap}{k:Nat}{f:Addr}{name qual:Str}{params:Arguments}{O:List Stmt}{scope:Scope}{dV kV a2 pm G ct oc:Value}{an od:Option Addr}
 {a5:Array (Option Value)}{N ps:List Str}{sp:Sp} (lk:K.lookup f=some ⟨oc,od,.func (PySem.W.fnOf name qual params O scope dV kV a2 pm an G ct),a5⟩) (a6:PySem.W.codeIn K G qual=true) (S:Bb N ps scope)
 (len:∀vs H Q E,sp vs H Q E->vs.length=ps.length)
 (Z:∀(A:Around) (outer:List Env) (s:Shared) (H:Hp) (vs:List V) (Q:VK) (E:XK),Hi k (A.deeper (envOfC qual scope s.heap.objs.size f G))->sp vs H Q E->
   ∃t,PSs (Mp CX P w K mg base N qual scope f G A outer s H E) O t/\t { nx:=fun _ H'=>Q .non H',rt:=Q} (start N vs) H):
 Lq P w K mg base CX (k+1) f (PySem.W.fnOf name qual params O scope dV kV a2 pm an G ct) ps sp:=by
 refine⟨len,fun A outer s H args us vs Q E hr e0 hb r a3=> ?_⟩
 have hl:=len _ _ _ _ a3
 have KX:K.In s.heap:=e0.mod.kin.keeps fun b o e=>(e0.bs b o e).1
 have a7:s.heap.NoLimit:=e0.mod.nolimit.keeps fun b o e=>(e0.bs b o e).1
 have a1:∀y∈ps.zip us,scope.names.lookup y.1=some .local \/(scope.names.lookup y.1=some .cell/\((cellsFrom (s.heap.objs.size+1) scope.names []).lookup y.1).isSome=true):=fun⟨n,v⟩ hy=>by
  rcases S.par n (of_mem_zip hy).1 with q | q
  . exact .inl q
  . exact .inr ⟨q,cellsFrom_some _ _ _ (.inl q)⟩
 refine codeAny_call_function hr.depth (KX _ _ lk) rfl S.co S.gen rfl (PySem.W.codeRec_of KX a6) (hb _ _ _ _ ?_)
 refine wpAny_newFunctionEnv_cells S.kind a1 fun env he s1 x=> ?_
 subst he
 refine⟨a7.keeps x.toInCall.keep,codeAny_func ?_⟩
 obtain⟨t,ht,hq⟩:=Z A outer s H vs Q E (hr.deeper _) a3
 have I:Inv (Mp CX P w K mg base N qual scope f G A outer s H E) [] (start N vs) H s1:=Zu S hr.hd e0 hl r x
 refine bP (ht [] s1 (start N vs) H _ I hq) (fun fl s' hs=> ?_) fun e s' hs=>hs
 have a4:∀ {U:St}{H':Hp}{v:V}{u:Value},Inv (Mp CX P w K mg base N qual scope f G A outer s H E) [] U H' s'->RelV v u->Q v H'->CE outer P w H s Q u s':=
  fun {U H' v u} J rv q=>⟨v,H',J.os,J.bare,J.base,J.hok,rv,q⟩
 cases fl with
 | ret u=>
   obtain⟨v,U,H',J,rv,q⟩:=hs
   exact a4 J rv q
 | next=>
   obtain⟨U,H',J,q⟩:=hs
   exact a4 (v:=V.non) (u:=Value.none) J rfl q
 | brk=>
   obtain⟨_,_,_,q⟩:=hs
   exact False.elim q
 | cont=>
   obtain⟨_,_,_,q⟩:=hs
   exact False.elim q
section
variable {X:Cx}{x:Str}{p pos:Pos}{e:Expr}{es:List Expr}{t:TA}{id T:String}{r:List V->Hp->VK->Prop}
noncomputable def tCB (r:List V->Hp->VK->Prop) (t:TA):TE:=fun σ H Q=>t σ H fun vs H1=>r vs H1 Q
theorem Adn (O:Er X (.builtin id) r) (U:Gl X x) (W:X.mg x=none) (Z:bootBuiltins x=some (.builtin id)) (ha:PA X (e::es) t) (hn:x≠"__name__":=by decide) (G:(x==("__debug__":Str))=false:=by decide)
 (he:starEach (e::es) X.env=(false,eval e X.env)::starEach es X.env:=by rfl) (J:(backTo pos (starEach es X.env)).any (·.1)=false:=by rfl):PE X (.Call (.Name x p) (e::es) [] pos) (tCB r t):=by
 intro pins s σ H Q I h
 refine fL (Jm I U W Z ?_ hn G)
 exact PyProof.Rows.callWith_builtin1 (thn (ha pos pins s σ H _ I h) fun us s1 ⟨vs,H1,I1,r1,q1⟩=>O pins s1 σ H1 vs us Q I1 r1 q1) he J
theorem Aaq (O:Er X (.type T) r) (U:Gl X x) (W:X.mg x=none) (Z:bootBuiltins x=some (.type T)) (ha:PA X (e::es) t) (hn:x≠"__name__":=by decide) (G:(x==("__debug__":Str))=false:=by decide)
 (he:starEach (e::es) X.env=(false,eval e X.env)::starEach es X.env:=by rfl) (J:(backTo pos (starEach es X.env)).any (·.1)=false:=by rfl):PE X (.Call (.Name x p) (e::es) [] pos) (tCB r t):=by
 intro pins s σ H Q I h
 refine fL (Jm I U W Z ?_ hn G)
 exact dU (thn (ha pos pins s σ H _ I h) fun us s1 ⟨vs,H1,I1,r1,q1⟩=>O pins s1 σ H1 vs us Q I1 r1 q1) he J
end
end L2
namespace HT
open PySem PyProof.Rows
noncomputable def lexLt:List Int->List Int->Bool
 | [],[]=>false
 | [],_::_=>true
 | _::_,[]=>false
 | x::xs,y::ys=>if x=y then lexLt xs ys else decide (x<y)
theorem Bh (x y:Int) (xs ys:List Int):lexLt (x::xs) (y::ys)=if x=y then lexLt xs ys else decide (x<y):=rfl
theorem Py:lexLt [] []=false:=rfl
theorem Nx (y:Int) (ys:List Int):lexLt [] (y::ys)=true:=rfl
theorem Nv (x:Int) (xs:List Int):lexLt (x::xs) []=false:=rfl
theorem Acw (A:Around) (s:Shared) (a:Int) (t:Tok) (c:Int) (u:Tok):∃e,SeqAt.EqAt A s (.int a t) (.int c u) e/\(e=true↔a=c):=
 ⟨(a==c),SeqAt.EqAt.int_int a t c u,by simp⟩
theorem Ad1 (A:Around) (s:Shared) (a:Int) (t:Tok) (c:Int) (u:Tok) (prog:Program) (w:World) (E:Value->Shared->Prop) (Q:Value->Shared->Prop) (h:Q (.bool (decide (a<c))) s):
 wpAny (model prog w) A (richCompare .Lt (.int a t) (.int c u)) Q E s:=
 (PyProof.Rows.lt_int h:wpAny (model prog w) A (compareOp .Lt (.int a t) (.int c u)) Q E s)
section
open PySem.SeqAt
open PySem.AutoSeq1 (wpAny_loadPart')
open PySem.MeetsSeq PySem.MeetsSeq2 PySem.MeetsSeq3
theorem Q5 (l b:Addr) (items G:Array Value) (n n2:Nat) (dd a6:Option Addr) (sl a7:Array (Option Value)) (ns ms:List Int) (hi:IntsAre items.toList ns) (hj:IntsAre G.toList ms):
 Meets (Builtin.«tuple.__lt__» ⟨[.ref l,.ref b],[]⟩)
  (fun _ R s=>s.heap.get? l=some { cls:= .type "tuple",dict:=dd,data:= .seq items n,slots:=sl}/\s.heap.get? b=some { cls:= .type "tuple",dict:=a6,data:= .seq G n2,slots:=a7}/\
    R (.ok (.ret (.bool (lexLt ns ms)))) s):=
 .of_wp fun prog w A R s h=>by
  obtain⟨hp,g,d,tk,os⟩:=s;obtain⟨hl,hb,h⟩:=h
  have f2:=AutoSeq1.sub_tuple_tuple
  have z1:items.size=ns.length:=by rw [<-hi.length];simp
  have z2:G.size=ms.length:=by rw [<-hj.length];simp
  wp_walk using wpAny_loadPart' hl,wpAny_loadPart' hb,wpAny_forIn_list _ (fun rest b s'=>b.1=none/\s'=⟨hp,g,d,tk,os⟩/\∃(vs ws:List Value) (O U:List Int),rest=vs.zip ws/\
   IntsAre vs O/\IntsAre ws U/\O.length+G.size=U.length+items.size/\R (.ok (.ret (.bool (lexLt O U)))) ⟨hp,g,d,tk,os⟩) _
  case turn=>
   rintro⟨y,x⟩ rest b s' ⟨a2,rfl,vs,ws,O,U,W,a3,Z,J,hR⟩
   cases a3 with
   | nil=>rw [List.zip_nil_left]at W;cases W
   | cons a t a4=>
     cases Z with
     | nil=>rw [List.zip_nil_right]at W;cases W
     | cons c u a5=>
       rw [List.zip_cons_cons]at W
       injection W with hyx hrest
       injection hyx with hy hx
       subst hy hx
       rw [Bh]at hR
       simp only [bH]at J
       obtain⟨e,he,a1⟩:=Acw A.in1 ⟨hp,g,d,tk,os⟩ a t c u
       refine aA (he prog w _ _ ?_)
       cases e with
       | true=>
         rw [aI (a1.mp rfl)]at hR
         wp_walk
         exact⟨rfl,rfl,_,_,_,_,hrest,a4,a5,by omega,hR⟩
       | false=>
         rw [aF (fun q=>absurd (a1.mpr q) aV)]at hR
         have a8:=Ad1 A.in1 ⟨hp,g,d,tk,os⟩ a t c u prog w
         wp_walk using a8
         exact⟨_,rfl,by simpa using hR⟩
  case fin=>
   rintro⟨b1,b2⟩ s' ⟨a2,rfl,vs,ws,O,U,W,a3,Z,J,hR⟩
   simp only at a2
   subst a2
   have hv:lexLt O U=decide (items.size<G.size):=by
    cases a3 with
    | nil=>
      cases Z with
      | nil=>
        simp only [eD]at J
        rw [Py]
        exact(bY (by omega)).symm
      | cons c u hw=>
        simp only [eD,bH]at J
        rw [Nx]
        exact(cO (by omega)).symm
    | cons a t hv=>
      cases Z with
      | nil=>
        simp only [eD,bH]at J
        rw [Nv]
        exact(bY (by omega)).symm
      | cons c u hw=>
        rw [List.zip_cons_cons]at W
        cases W
   rw [hv]at hR
   wp_walk
   exact⟨_,rfl,by simpa [Builtin.Tuple.tupleCompareSizes]using hR⟩
  case h=>
   exact⟨rfl,rfl,items.toList,G.toList,ns,ms,rfl,hi,hj,by omega,h⟩
end
section
variable {prog:Program}{w:World}{A:Around}{E:Value->Shared->Prop}{s:Shared}
theorem Oo {l b:Addr}{items G:Array Value}{ns ms:List Int}{Q:Value->Shared->Prop} (hl:IsTup s.heap l items) (hb:IsTup s.heap b G) (hi:IntsAre items.toList ns) (hj:IntsAre G.toList ms)
 (hu:A.units<cLine) (h:Q (.bool (lexLt ns ms)) s):wpAny (model prog w) A (compareOp .Lt (.ref l) (.ref b)) Q E s:=by
 obtain⟨⟨cls,dd,data,sl⟩,ho,hc,n,hd⟩:=id hl
 obtain⟨⟨a1,W,data2,Z⟩,J,O,n2,U⟩:=id hb
 simp only at hc hd O U
 subst hc hd O U
 exact richCompare_meets_room (op:= .Lt) ⟨_,ho,rfl⟩ ⟨_,J,rfl⟩ PySem.F.slot_tuple_lt PySem.F.entry_tuple_lt (PySem.F.args_tuple_lt_2 _ _) (Q5 l b items G n n2 dd W sl Z ns ms hi hj)
  ⟨ho,J,show Value.bool (lexLt ns ms)≠Value.notImplemented/\Q (.bool (lexLt ns ms)) s from⟨(fun x=>nomatch x),h⟩⟩ hu
theorem Af5 {t b:Addr}{vs G:List Value}{Q:Value->Shared->Prop} (ht:IsTup s.heap t vs.toArray) (hb:IsTup s.heap b G.toArray) (hv:vs≠ [])
 (h1:G=[]->Q (.ref t) s) (h2:G≠ []->Q (.ref s.heap.objs.size) { s with heap:=s.heap.push { cls:= .type "tuple",data:= .seq (vs++G).toArray}})
 (hsz:vs.length+G.length<=sizeLine):wpAny (model prog w) A (binaryOp .Add (.ref t) (.ref b)) Q E s:=by
 obtain⟨⟨cls,dd,data,sl⟩,ho,hc,n,hd⟩:=id ht
 obtain⟨⟨a1,O,data2,U⟩,J,W,n2,Z⟩:=id hb
 simp only at hc hd W Z
 subst hc hd W Z
 have e:vs.toArray++G.toArray=(vs++G).toArray:=by simp
 by_cases hw:G=[]
 . exact concat_meets ⟨_,ho,rfl⟩ ⟨_,J,rfl⟩ noFill_tuple_add seq_tuple_add kP kG (kA _ _)
    (tuple_addW1 t b vs.toArray G.toArray n n2 dd O sl U (by simpa using hv) (by simp [hw])) ⟨ho,J,h1 hw⟩
 . refine concat_meets ⟨_,ho,rfl⟩ ⟨_,J,rfl⟩ noFill_tuple_add seq_tuple_add kP kG (kA _ _)
    (tuple_addW2 t b vs.toArray G.toArray n n2 dd O sl U (by simpa using hv) (by simpa using hw) (by rw [aM,aM];exact hsz)) ⟨ho,J,?_⟩
   rw [e]
   exact h2 hw
noncomputable def sIx (n d:Nat):Option Int->Nat
 | none=>d
 | some v=>if v<0 then(v+(n:Int)).toNat else min v.toNat n
theorem Ad4 (n d:Nat):sIx n d none=d:=rfl
theorem Ahr (n d k:Nat):sIx n d (some (k:Int))=min k n:=by
 show(if(k:Int)<0 then((k:Int)+(n:Int)).toNat else min (k:Int).toNat n)=min k n
 rw [aF (by omega),cT]
theorem Als (n d:Nat) (J:d<=n) (o:Option Int):sIx n d o<=n:=by
 cases o with
 | none=>exact J
 | some v=>
   show(if v<0 then(v+(n:Int)).toNat else min v.toNat n)<=n
   by_cases G:v<0
   . rw [aI G];omega
   . rw [aF G];exact Nat.min_le_right _ _
theorem Yt (v:Int) (n d:Nat):(if v<0 then max (v+(n:Int)) 0 else min v (n:Int))=((sIx n d (some v):Nat):Int):=by
 show(if v<0 then max (v+(n:Int)) 0 else min v (n:Int))=(((if v<0 then(v+(n:Int)).toNat else min v.toNat n):Nat):Int)
 by_cases G:v<0
 . simp only [aI G];omega
 . simp only [aF G];omega
theorem W0 (lo hi:Option Int) (n:Nat):Builtin.Slice.sliceAdjust lo hi 1 (n:Int)=(((sIx n 0 lo:Nat):Int),((sIx n n hi:Nat):Int)):=by
 have h1:¬((1:Int)<0):=by omega
 unfold Builtin.Slice.sliceAdjust
 simp only [h1,gD]
 refine Prod.ext ?_ ?_
 . cases lo with
   | none=>rfl
   | some v=>exact Yt v n 0
 . cases hi with
   | none=>rfl
   | some v=>exact Yt v n n
theorem Xw (i j:Nat):Builtin.Slice.slicePlaces (i:Int) (j:Int) 1=j-i:=by
 unfold Builtin.Slice.slicePlaces
 have h1:(1:Int)>0:=by omega
 simp only [h1,fW,Int.ediv_one]
 split<;>omega
theorem Ou {v:Value}{o:Option Int}{Q:Option Int->Shared->Prop} (p:IsPart v o) (h:Q o s):wpAny (model prog w) A (Builtin.Slice.slicePartIndex v) Q E s:=by
 cases p with
 | none=>exact slicePart_none h
 | int i t=>exact slicePart_int h
theorem Hl {W:Addr}{O U:Value}{lo hi:Option Int}{n:Nat}{Q:Int × Int × Nat->Shared->Prop} (Z:s.heap.IsSliceOf W O U .none) (pl:IsPart O lo) (pu:IsPart U hi)
 (h:Q (((sIx n 0 lo:Nat):Int),1,sIx n n hi-sIx n 0 lo) s):wpAny (model prog w) A (Builtin.Slice.sliceApplied (.ref W) (pure (n:Int))) Q E s:=by
 obtain⟨os,G,a1,J⟩:=id Z
 unfold Builtin.Slice.sliceApplied Builtin.Slice.sliceFields
 refine aA (aA (cG G J (x:=O) rfl (aA (cG G J (x:=U) rfl (aA (cG G J (x:= .none) rfl (aD ?_)))))))
 refine aA (slicePart_none ?_)
 show wpAny _ _ (if((1:Int)==0)=true then _ else _) _ _ s
 rw [aF (by decide)]
 refine aA (Ou pl (aA (Ou pu (aA (aD ?_)))))
 show wpAny _ _ (match Builtin.Slice.sliceAdjust lo hi 1 (n:Int)with | (lo,hi)=>pure (lo,(1:Int),Builtin.Slice.slicePlaces lo hi 1)) _ _ s
 rw [W0 lo hi n]
 show wpAny _ _ (pure (((sIx n 0 lo:Nat):Int),(1:Int),Builtin.Slice.slicePlaces ((sIx n 0 lo:Nat):Int) ((sIx n n hi:Nat):Int) 1)) _ _ s
 rw [Xw]
 exact aD h
theorem Adw (xs:Array Value) (i k:Nat):((List.range k).filterMap fun(m:Nat)=>xs[((i:Int)+(m:Int)*1).toNat]?).toArray=((xs.toList.drop i).take k).toArray:=by
 have e:(fun(m:Nat)=>xs[((i:Int)+(m:Int)*1).toNat]?)=fun m=>xs[i+m]? :=by
  funext m
  have:((i:Int)+(m:Int)*1).toNat=i+m:=by omega
  rw [this]
 rw [e]
 have:=pick_run xs i k
 rw [List.filterMap_map]at this
 have G:((fun x=>xs[x]?) ∘ fun x=>i+x)=fun m=>xs[i+m]? :=rfl
 rw [G]at this
 rw [this]
theorem Ka {t O:Addr}{items:Array Value}{vl vu:Value}{lo hi:Option Int}{Q:Value->Shared->Prop} (J:IsTup s.heap t items) (hs:s.heap.IsSliceOf O vl vu .none) (pl:IsPart vl lo) (pu:IsPart vu hi)
 (hw:¬(sIx items.size 0 lo=0/\sIx items.size items.size hi=items.size))
 (h:Q (.ref s.heap.objs.size) { s with heap:=s.heap.push { cls:= .type "tuple",data:= .seq ((items.toList.drop (sIx items.size 0 lo)).take (sIx items.size items.size hi-sIx items.size 0 lo)).toArray}})
 (hsz:items.size<=sizeLine):wpAny (model prog w) A (getItem (.ref t) (.ref O)) Q E s:=by
 have G:sizeOk (.seq ((items.toList.drop (sIx items.size 0 lo)).take (sIx items.size items.size hi-sIx items.size 0 lo)).toArray):=by
  show((items.toList.drop (sIx items.size 0 lo)).take (sIx items.size items.size hi-sIx items.size 0 lo)).toArray.size<=sizeLine
  rw [aM,bV,iV,bF]
  omega
 have hj:sIx items.size items.size hi<=items.size:=Als _ _ (aL _) hi
 obtain⟨os,U,W,a2⟩:=id hs
 have Z:s.TypeIs (.ref O) "slice":=⟨os,U,W⟩
 unfold getItem
 try with_reducible refine dN ?_
 first | refine aA (aD ?_) | skip
 refine aA (wpAny_sequenceKey J.typeIs (by decide) ?_)
 refine aA (cB (name:=Str.ofString "__getitem__") J.typeIs dH
  (bZ dH J.typeIs entry_tuple_getitem ?_ (args_tuple_getitem _ _)))
 show wpAny _ _ (Builtin.Tuple.tupleItemsOf (.ref t)>>=_) _ _ s
 refine aA (tupleItemsOf_ J ?_)
 refine aA (wpAny_typeOf Z ?_)
 rw [aI (by decide)]
 refine aA (Hl hs pl pu ?_)
 have a1:¬((((sIx items.size 0 lo:Nat):Int)==0&&(1:Int)==1&&(sIx items.size items.size hi-sIx items.size 0 lo)==items.size)=true):=by
  intro q
  rw [cD,cD]at q
  have q1:((sIx items.size 0 lo:Nat):Int)=0:=eq_of_beq q.1.1
  have q2:sIx items.size items.size hi-sIx items.size 0 lo=items.size:=eq_of_beq q.2
  exact hw ⟨by omega,by omega⟩
 show wpAny _ _ (if(((sIx items.size 0 lo:Nat):Int)==0&&(1:Int)==1&&(sIx items.size items.size hi-sIx items.size 0 lo)==items.size)=true then _ else _) _ _ s
 rw [aF a1,Adw]
 first
  | exact aA (m:=Builtin.Tuple.tupleExact _) (bX (aD ⟨_,rfl,aD h⟩) G)
  | exact aA (m:=Builtin.Tuple.tupleExact _) (bX (aA (aD (aD ⟨_,rfl,aD h⟩))) G)
  | exact aA (aA (m:=Builtin.Tuple.tupleExact _) (bX (aD (aD ⟨_,rfl,aD h⟩)) G))
  | exact aA (aA (m:=Builtin.Tuple.tupleExact _) (bX (aD ⟨_,rfl,aD h⟩) G))
end
end HT
namespace L2
open PySem PySem.Spec PyProof.Rows
noncomputable abbrev TO:=St->Hp->(Option Int->Hp->Prop)->Prop
noncomputable def PO (X:Cx) (e:Option Expr) (t:TO):Prop:=
 ∀(pins:List (Addr × Obj)) (s:Shared) (σ:St) (H:Hp) (Q:Option Int->Hp->Prop),Inv X pins σ H s->t σ H Q->
   wpAny (model X.prog X.w) X.A (evalPart e X.env) (fun u s'=>∃o H',Inv X pins σ H' s'/\IsPart u o/\Q o H') X.xe s
noncomputable def Va:TO:=fun _ H Q=>Q none H
noncomputable def Ah5 (t:TE):TO:=fun σ H Q=>t σ H fun x H1=>∃i,x= .int i/\Q (some i) H1
variable {ns:List Int}
theorem intsAre_of:∀ {us:List Value},Vals (ns.map V.int) us->IntsAre us ns:=by
 induction ns with
 | nil=>intro us r;rw [jG]at r;cases r;exact .nil
 | cons n ns G=>
   intro us r
   rw [bC]at r
   cases r with
   | cons J O=>
     obtain⟨t,e⟩:=J
     subst e
     exact .cons n t (G O)
variable {xs:List V}{us:List Value}
section
variable {X:Cx}{e:Expr}{te:TE}{lo hi:Option Expr}{tl th:TO}{pos p2:Pos}
theorem Ahc:PO X none Va:=by
 intro pins s σ H Q I h
 rw [evalPart_none]
 exact aD ⟨none,H,I,.none,h⟩
theorem Ahd (h:PE X e te):PO X (some e) (Ah5 te):=by
 intro pins s σ H Q I G
 rw [evalPart_some]
 refine thn (h pins s σ H _ I G) fun u W ⟨x,H1,J,O,U⟩=> ?_
 obtain⟨i,rfl,q⟩:=U
 obtain⟨t,rfl⟩:=O
 exact⟨some i,H1,J,.int i t,q⟩
noncomputable def SlR (X:Cx) (r:V->Option Int->Option Int->Hp->VK->Prop):Prop:=
 ∀(pins:List (Addr × Obj)) (s:Shared) (σ:St) (H:Hp) (x:V) (v vl vu:Value) (lo hi:Option Int) (sl:Addr) (Q:VK),Inv X pins σ H s->RelV x v->s.heap.IsSliceOf sl vl vu .none->IsPart vl lo->IsPart vu hi->r x lo hi H Q->
   ∃T id,typeLookup (.type T) "__getitem__"=pure (some (.builtin id))/\s.TypeIs v T/\wpAny (model X.prog X.w) X.A (getItem v (.ref sl)) (EP X pins σ Q) X.xe s
noncomputable def tSl (r:V->Option Int->Option Int->Hp->VK->Prop) (te:TE) (tl th:TO):TE:=fun σ H Q=>te σ H fun x H1=>tl σ H1 fun l H2=>th σ H2 fun u H3=>r x l u H3 Q
theorem Adt {r:V->Option Int->Option Int->Hp->VK->Prop} (W:SlR X r) (Z:PE X e te) (hl:PO X lo tl) (hu:PO X hi th):PE X (.Subscript e (.Slice lo hi none p2) pos) (tSl r te tl th):=by
 intro pins s σ H Q I h
 refine Subscript_ (thn (Z pins s σ H _ I h) fun v s1 ⟨x,H1,I1,r1,q1⟩=> ?_)
 refine wpAny_Slice (thn (hl pins s1 σ H1 _ I1 q1) fun J s2 ⟨l,H2,I2,pl,q2⟩=>thn (hu pins s2 σ H2 _ I2 q2) fun O G ⟨u,U,I3,pu,q3⟩=> ?_)
 rw [evalPart_none]
 refine aD ?_
 have I4:Inv X pins σ U { G with heap:=G.heap.push { cls:= .type "slice",data:= .fields #[J,O,.none]}}:=I3.kept (t':=G.toks) fun b ob q=>aB _ q
 obtain⟨T,id,hT,ht,hg⟩:=W pins { G with heap:=G.heap.push { cls:= .type "slice",data:= .fields #[J,O,.none]}} σ U x v J O l u G.heap.objs.size Q I4 r1 (Heap.IsSliceOf.new ..) pl pu q3
 show wpAny (model X.prog X.w) X.A (subscriptTail e (.Slice lo hi none p2) v (.ref G.heap.objs.size)) (EP X pins σ Q) X.xe { G with heap:=G.heap.push { cls:= .type "slice",data:= .fields #[J,O,.none]}}
 exact tail_any (ops:=[.ref G.heap.objs.size,v]) ht hT hg (by with_unfolding_all rfl)
noncomputable def Ih (xs:List V) (lo hi:Option Int):List V:=(xs.drop (HT.sIx xs.length 0 lo)).take (HT.sIx xs.length xs.length hi-HT.sIx xs.length 0 lo)
theorem Mj (xs:List V) (lo hi:Option Int):(Ih xs lo hi).length<=xs.length:=by
 unfold Ih
 rw [bV,iV]
 omega
noncomputable def Aqm (K:Frag):V->Option Int->Option Int->Hp->VK->Prop:=fun x lo hi H Q=>∃a xs,x= .ref a/\SqT K H a xs/\
 ¬(HT.sIx xs.length 0 lo=0/\HT.sIx xs.length xs.length hi=xs.length)/\∀p,H p=none->Q (.ref p) (upd H p (.tup (Ih xs lo hi)))
theorem Alu:SlR X (Aqm X.K):=by
 intro pins s σ H x v vl vu lo hi sl Q I W Z pl pu h
 obtain⟨a,xs,rfl,hx,hw,q⟩:=h
 cases W
 obtain⟨J,r,O,U⟩:=I.tuple hx
 have G:J.toArray.size=xs.length:=by rw [aM];exact r.length.symm
 refine⟨"tuple",_,dH.lookup,O.typeIs,?_⟩
 refine HT.Ka O Z pl pu (by rw [G];exact hw) ?_ (by rw [G];exact U)
 rw [G]
 refine⟨.ref s.heap.objs.size,_,I.laid (t':=s.toks) (o:= .tup (Ih xs lo hi)) (fun b ob q=>aB _ q) (aL _) ?_,rfl,q _ (I.hok.fresh (aL _))⟩
 exact⟨aO (Mj xs lo hi) U,_,(r.drop (HT.sIx xs.length 0 lo)).take (HT.sIx xs.length xs.length hi-HT.sIx xs.length 0 lo),IsTup.new _ _⟩
noncomputable def Aps (K:Frag):R2:=fun x y H Q=>∃a b ns ms,x= .ref a/\y= .ref b/\SqT K H a (ns.map V.int)/\SqT K H b (ms.map V.int)/\Q (.bl (HT.lexLt ns ms)) H
theorem Akk (O:X.A.units<cLine):OpR X (compareOp .Lt) (Aps X.K):=by
 intro pins s σ H x y v u Q I U W h
 obtain⟨a,b,ns,ms,rfl,rfl,Z,hb,q⟩:=h
 cases U
 cases W
 obtain⟨J,r1,p1,_⟩:=I.tuple Z
 obtain⟨G,r2,p2,_⟩:=I.tuple hb
 have i1:IntsAre J.toArray.toList ns:=intsAre_of r1
 have i2:IntsAre G.toArray.toList ms:=intsAre_of r2
 exact HT.Oo p1 p2 i1 i2 O ⟨.bl (HT.lexLt ns ms),H,I,rfl,q⟩
noncomputable def Anz (K:Frag):R2:=fun x y H Q=>∃a b xs ys,x= .ref a/\y= .ref b/\SqT K H a xs/\SqT K H b ys/\xs≠ []/\xs.length+ys.length<=sizeLine/\
 (ys=[]->Q (.ref a) H)/\(ys≠ []->∀p,H p=none->Q (.ref p) (upd H p (.tup (xs++ys))))
theorem Vals.nil_iff (r:Vals xs us):us=[]↔xs=[]:=by
 cases r with
 | nil=>simp
 | cons _ _=>simp
theorem Qh:OpR X (binaryOp .Add) (Anz X.K):=by
 intro pins s σ H x y v u Q I W Z h
 obtain⟨a,b,xs,ys,rfl,rfl,ha,hb,hx,O,q1,q2⟩:=h
 cases W
 cases Z
 obtain⟨a1,J,p1,_⟩:=I.tuple ha
 obtain⟨U,G,p2,_⟩:=I.tuple hb
 refine HT.Af5 p1 p2 (fun z=>hx (J.nil_iff.mp z)) (fun z=>⟨.ref a,H,I,rfl,q1 (G.nil_iff.mp z)⟩) (fun z=> ?_) (by rw [<-J.length,<-G.length];exact O)
 refine⟨.ref s.heap.objs.size,_,I.laid (t':=s.toks) (o:= .tup (xs++ys)) (fun b ob q=>aB _ q) (aL _) ?_,rfl,q2 (fun w=>z (G.nil_iff.mpr w)) _ (I.hok.fresh (aL _))⟩
 exact⟨by rw [aH];exact O,_,J.append G,IsTup.new _ _⟩
end
noncomputable def ixN (n:Nat) (i:Int):Option Nat:=if 0<=i then(if i<n then some i.toNat else none)else if-(n:Int)<=i then some (i+n).toNat else none
noncomputable def atI {α:Type} (xs:List α) (i:Int):Option α:=(ixN xs.length i).bind fun j=>xs[j]?
variable {n j:Nat}
theorem Zx {i:Int} (h:ixN n i=some j):seqIndex? i n=some j/\j<n/\ -(n:Int)<=i/\i<n:=by
 unfold ixN at h
 by_cases G:0<=i
 . rw [aI G]at h
   by_cases h1:i<n
   . rw [aI h1]at h
     have e:i.toNat=j:=aY h
     exact⟨by rw [seqIndex_of G h1,e],by omega,by omega,h1⟩
   . rw [aF h1]at h;cases h
 . rw [aF G]at h
   by_cases h1: -(n:Int)<=i
   . rw [aI h1]at h
     have e:(i+n).toNat=j:=aY h
     exact⟨by rw [seqIndex_neg (by omega) h1,e],by omega,h1,by omega⟩
   . rw [aF h1]at h;cases h
theorem Tn {α:Type}{xs:List α}{i:Int}{v:α} (h:atI xs i=some v):∃j,seqIndex? i xs.length=some j/\xs[j]? =some v/\j<xs.length/\ -(xs.length:Int)<=i/\i<xs.length:=by
 unfold atI at h
 cases e:ixN xs.length i with
 | none=>rw [e]at h;cases h
 | some j=>
   rw [e]at h
   obtain⟨h1,h2,G,J⟩:=Zx e
   exact⟨j,h1,h,h2,G,J⟩
theorem Es {α:Type}{xs:List α}{v:α} (h:xs[j]? =some v):atI xs (j:Int)=some v:=by
 have G:j<xs.length:=(aW.mp h).1
 have e:ixN xs.length (j:Int)=some j:=by
  unfold ixN
  rw [aI (by omega),aI (by omega)];simp
 unfold atI;rw [e];exact h
theorem Aca {α:Type} (xs:List α) (v:α):atI (xs++ [v]) (-1)=some v:=by
 have G:(xs++ [v]).length=xs.length+1:=by simp
 have e:ixN (xs++ [v]).length (-1)=some xs.length:=by
  unfold ixN
  rw [G,aF (by decide),aI (by omega)]
  congr 1
  omega
 unfold atI
 rw [e]
 show(xs++ [v])[xs.length]? =some v
 simp
noncomputable def Yd (b:Expr):Prop:=∀o i,subscripted b false o i=operate [o,i] (getItem o i)
noncomputable def IxR (X:Cx) (r:R2):Prop:=
 ∀(value slice:Expr) (pins:List (Addr × Obj)) (s:Shared) (σ:St) (H:Hp) (x y:V) (v u:Value) (Q:VK),Inv X pins σ H s->RelV x v->RelV y u->r x y H Q->
   subscripted slice false v u=operate [v,u] (getItem v u)->wpAny (model X.prog X.w) X.A (subscriptTail value slice v u) (EP X pins σ Q) X.xe s
noncomputable def MtR (X:Cx) (id:String) (r:V->List V->Hp->VK->Prop):Prop:=
 ∀(pins:List (Addr × Obj)) (s:Shared) (σ:St) (H:Hp) (x:V) (xs:List V) (v:Value) (us:List Value) (Q:VK),Inv X pins σ H s->RelV x v->Vals xs us->r x xs H Q->
   wpAny (model X.prog X.w) X.A (call (.builtin id) (v::us)) (EP X pins σ Q) X.xe s
variable {pins:List (Addr × Obj)}{σ:St}{H:Hp}{s:Shared}{p:Addr}{A:Around}{y:V}{u:Value}{T:String}
section
variable {X:Cx}{a b:Expr}{ta tb:TE}{pos:Pos}
theorem Anr {r:R2} (G:IxR X r) (J:PE X a ta) (O:PE X b tb) (U:Yd b):PE X (.Subscript a b pos) (tOp r ta tb):=by
 intro pins s σ H Q I h
 exact Subscript_ (Am4 J O I h fun v u W x y H2 Z rx ry q=>G a b pins W σ H2 x y v u Q Z rx ry q (U _ _))
noncomputable def Apo (K:Frag):R2:=fun x y H Q=>∃p xs i v,x= .ref p/\y= .int i/\SqL K H p xs/\atI xs i=some v/\Q v H
noncomputable def An1 (K:Frag):R2:=fun x y H Q=>∃p xs i v,x= .ref p/\y= .int i/\SqT K H p xs/\atI xs i=some v/\Q v H
noncomputable def Apq:R2:=fun x y H Q=>∃z i c,x= .str z/\y= .int i/\z.length<=sizeLine/\atI z.cps.toList i=some c/\Q (.str ⟨#[c]⟩) H
theorem Fp:IxR X (Apo X.K):=by
 intro value slice pins s σ H x y v u Q I rx ry h Z
 obtain⟨p,xs,i,z,rfl,rfl,hq,he,q⟩:=h
 cases rx
 obtain⟨t,rfl⟩:=ry
 obtain⟨J,r,O,hz⟩:=I.list hq
 obtain⟨j,h1,h2,h3,h4,h5⟩:=Tn he
 obtain⟨w,ew,U⟩:=r.get h2
 have hl:=r.length
 have hn:=Rz
 have G:EP X pins σ Q w s:=⟨z,H,I,U,q⟩
 by_cases h0:0<=i
 . have W:i.toNat=j:=by
    rw [seqIndex_of h0 h5]at h1
    exact aY h1
   exact item_listR O.isList h0 (by omega) (by rw [W];simpa using ew) G Z
 . have W:(i+(J.toArray.size:Int)).toNat=j:=by
    rw [seqIndex_neg (by omega) h4]at h1
    rw [aM,<-hl]
    exact aY h1
   exact subscriptTail_builtinR (x:=w) O.isList.typeIs slot_list_getitem.lookup
    (wpAny_getItem_list_neg (Q:=fun r s'=>r=w/\EP X pins σ Q r s') O.isList (by omega) (by rw [aM]<;>omega) (by omega) (by rw [W];simpa using ew) ⟨rfl,G⟩) Z
theorem Jl:IxR X (An1 X.K):=by
 intro value slice pins s σ H x y v u Q I U W h Z
 obtain⟨p,xs,i,z,rfl,rfl,hq,he,q⟩:=h
 cases U
 obtain⟨t,rfl⟩:=W
 obtain⟨a1,r,O,hz⟩:=I.tuple hq
 obtain⟨j,h1,h2,h3,h4,h5⟩:=Tn he
 obtain⟨w,ew,G⟩:=r.get h2
 have hl:=r.length
 have hn:=Rz
 have J:EP X pins σ Q w s:=⟨z,H,I,G,q⟩
 exact subscriptTail_builtinR (x:=w) O.typeIs slot_tuple_getitem.lookup
  (getItem_tuple (j:=j) (Q:=fun r s'=>r=w/\EP X pins σ Q r s') O (by omega) (by omega) (by rw [aM,<-hl];exact h1) (by simpa using ew) ⟨rfl,J⟩) Z
theorem Ajv:IxR X Apq:=by
 intro value slice pins s σ H x y v u Q I G J h O
 obtain⟨z,i,c,rfl,rfl,hz,U,q⟩:=h
 obtain⟨t,rfl⟩:=G
 obtain⟨t',rfl⟩:=J
 obtain⟨j,h1,h2,h3,W,Z⟩:=Tn U
 have hl:z.cps.toList.length=z.length:=by simp [Str.length]
 rw [hl]at h1 W Z
 have hn:=Rz
 exact tail_any (typeIs_str s z t) slot_str_getitem.lookup (getItem_str (c:=c) (by
  have e1:decide (i< -(2^63:Int))=false:=bY (by omega)
  have e2:decide (i>=2^63)=false:=bY (by omega)
  rw [e1,e2,Bool.or_false]) (by rw [h1];simpa using h2) ⟨.str ⟨#[c]⟩,H,I.tok _,⟨_,rfl⟩,q⟩) O
theorem Xg (its:List Value) (n j:Nat) (u:Value):Obj.mapSeq (·.setIfInBounds j u) { cls:= .type "list",data:= .seq its.toArray n}={ cls:= .type "list",data:= .seq (its.set j u).toArray n}:=by
 simp [Obj.mapSeq]
theorem Inv.lst {pins:List (Addr × Obj)}{σ:St}{H:Hp}{s:Shared}{p:Addr}{xs:List V} (I:Inv X pins σ H s) (h:H p=some (.lst xs)):
 ∃(its:List Value) (n:Nat),Vals xs its/\s.heap.get? p=some { cls:= .type "list",data:= .seq its.toArray n}/\xs.length<=sizeLine:=by
 obtain⟨z,its,n,r,e⟩:=I.hok p _ h
 exact⟨its,n,r,e,z⟩
theorem Inv.lstUpd {ys:List V}{its its':List Value}{n G:Nat}{f:Obj->Obj} (I:Inv X pins σ H s) (h:H p=some (.lst xs))
 (ho:s.heap.get? p=some { cls:= .type "list",data:= .seq its.toArray n}) (J:f { cls:= .type "list",data:= .seq its.toArray n}={ cls:= .type "list",data:= .seq its'.toArray G}) (r:Vals ys its') (O:ys.length<=sizeLine) (t:Nat):
 Inv X pins σ (upd H p (.lst ys)) { s with heap:=s.heap.update p f,toks:=t}:=by
 have e:(s.heap.update p f).get? p=some { cls:= .type "list",data:= .seq its'.toArray G}:=by
  rw [eO f ho (by rw [J]<;>rfl),J]
 refine I.write (x:=p) (e:=p) (by rw [h];trivial) (.inl rfl) (fun b u U q=>(dO _ _ (cC U)).trans q) ⟨_,e⟩ ?_
 exact⟨O,its',G,r,e⟩
noncomputable def Aln:V->V->V->Hp->(Hp->Prop)->Prop:=fun o i v H Q=>∃p xs k j,o= .ref p/\i= .int k/\H p=some (.lst xs)/\ixN xs.length k=some j/\Q (upd H p (.lst (xs.set j v)))
theorem set_list:Am2 X Aln:=by
 intro pins s σ H o i v ov iv u Q I ro ri rv h
 obtain⟨p,xs,k,j,rfl,rfl,U,hj,q⟩:=h
 cases ro
 obtain⟨t,rfl⟩:=ri
 obtain⟨G,n,r,ho,hz⟩:=I.lst U
 obtain⟨h1,h2,Z,h4⟩:=Zx hj
 have J:=r.length
 have hn:=Rz
 have I':Inv X pins σ (upd H p (.lst (xs.set j v))) { s with heap:=s.heap.update p (Obj.mapSeq (·.setIfInBounds j u))}:=
  I.lstUpd U ho (Xg G n j u) (r.set rv j) (by rw [List.length_set];exact hz) s.toks
 by_cases h0:0<=k
 . have O:k.toNat=j:=by
    rw [seqIndex_of h0 h4]at h1
    exact aY h1
   exact PySem.W.ki_setAt ho h0 (by omega) (by rw [aM,<-J];exact h4) (by rw [O];exact⟨_,I',q⟩)
 . have O:(k+(G.toArray.size:Int)).toNat=j:=by
    rw [seqIndex_neg (by omega) Z]at h1
    rw [aM,<-J]
    exact aY h1
   exact PySem.W.ki_setBack ho (by omega) (by rw [aM,<-J];exact Z) (by omega) (by rw [O];exact⟨_,I',q⟩)
theorem Ss (lo hi:Option Int) (n:Nat):(sliceBounds lo hi none n).1=((HT.sIx n 0 lo:Nat):Int)/\(sliceBounds lo hi none n).2.1=((HT.sIx n n hi:Nat):Int)/\(sliceBounds lo hi none n).2.2=1:=by
 refine⟨?_,?_,rfl⟩
 . cases lo with
   | none=>simp [sliceBounds,HT.sIx]
   | some i=>
     simp only [sliceBounds,HT.sIx,getD_none,show(1:Int)>0 by decide,fW]
     by_cases h:i<0
     . simp only [h,fW]<;>omega
     . simp only [h,gD]<;>omega
 . cases hi with
   | none=>simp [sliceBounds,HT.sIx]
   | some i=>
     simp only [sliceBounds,HT.sIx,getD_none,show(1:Int)>0 by decide,fW]
     by_cases h:i<0
     . simp only [h,fW]<;>omega
     . simp only [h,gD]<;>omega
theorem Qv (its:List Value) (lo hi:Option Int):slicePick its.toArray lo hi none=((its.drop (HT.sIx its.length 0 lo)).take (HT.sIx its.length its.length hi-HT.sIx its.length 0 lo)).toArray:=by
 obtain⟨h1,h2,G⟩:=Ss lo hi its.toArray.size
 unfold slicePick
 rw [h1,h2,G]
 simp only [sliceRange_one,pick_run,aM]<;>rfl
noncomputable def Aql (K:Frag):V->Option Int->Option Int->Hp->VK->Prop:=fun x lo hi H Q=>∃a xs,x= .ref a/\SqL K H a xs/\∀p,H p=none->Q (.ref p) (upd H p (.lst (Ih xs lo hi)))
theorem U8:SlR X (Aql X.K):=by
 intro pins s σ H x v vl vu lo hi sl Q I O U W Z h
 obtain⟨a,xs,rfl,hx,q⟩:=h
 cases O
 obtain⟨a1,r,J,hz⟩:=I.list hx
 have G:=r.length
 refine⟨"list",_,slot_list_getitem.lookup,J.isList.typeIs,?_⟩
 refine wpAny_getItem_list_slice J.isList U W Z .none (by simp) ?_ (by rw [aM]<;>omega)
 rw [Qv,<-G]
 refine⟨.ref s.heap.objs.size,_,I.laid (t':=s.toks) (o:= .lst (Ih xs lo hi)) (fun b ob q=>aB _ q) (aL _) ?_,rfl,q _ (I.hok.fresh (aL _))⟩
 exact⟨aO (Mj xs lo hi) hz,_,0,(r.drop (HT.sIx xs.length 0 lo)).take (HT.sIx xs.length xs.length hi-HT.sIx xs.length 0 lo),aK _ rfl⟩
noncomputable def Ms:V->Bool
 | .non=>true
 | .bl _=>true
 | .int _=>true
 | .str _=>true
 | _=>false
noncomputable def eqV:V->V->Bool
 | .non,.non=>true
 | .bl a,.bl b=>a==b
 | .bl a,.int b=>(if a then 1 else 0)==b
 | .int a,.bl b=>a==(if b then 1 else 0)
 | .int a,.int b=>a==b
 | .str a,.str b=>a==b
 | _,_=>false
theorem Ajj {x:V}{v:Value} (O:RelV y u) (G:RelV x v) (U:Ms y=true) (fx:Ms x=true):SeqAt.EqAt A s u v (eqV y x):=by
 cases y with
 | non=>
   cases O
   cases x with
   | non=>cases G;exact SeqAt.EqAt.same _
   | bl b=>cases G;exact SeqAt.EqAt.none_bool b
   | int b=>obtain⟨t,rfl⟩:=G;exact SeqAt.EqAt.none_int b t
   | str b=>obtain⟨t,rfl⟩:=G;exact SeqAt.EqAt.none_str b t
   | _=>exact absurd (show false=true from fx) aV
 | bl a=>
   cases O
   cases x with
   | non=>cases G;exact SeqAt.EqAt.bool_none a
   | bl b=>cases G;exact SeqAt.EqAt.bool_bool a b
   | int b=>obtain⟨t,rfl⟩:=G;exact SeqAt.EqAt.bool_int a b t
   | str b=>obtain⟨t,rfl⟩:=G;exact SeqAt.EqAt.bool_str a b t
   | _=>exact absurd (show false=true from fx) aV
 | int a=>
   obtain⟨J,rfl⟩:=O
   cases x with
   | non=>cases G;exact SeqAt.EqAt.int_none a J
   | bl b=>cases G;exact SeqAt.EqAt.int_bool a J b
   | int b=>obtain⟨t,rfl⟩:=G;exact SeqAt.EqAt.int_int a J b t
   | str b=>obtain⟨t,rfl⟩:=G;exact SeqAt.EqAt.int_str a J b t
   | _=>exact absurd (show false=true from fx) aV
 | str a=>
   obtain⟨J,rfl⟩:=O
   cases x with
   | non=>cases G;exact SeqAt.EqAt.str_none a J
   | bl b=>cases G;exact SeqAt.EqAt.str_bool a J b
   | int b=>obtain⟨t,rfl⟩:=G;exact SeqAt.EqAt.str_int a J b t
   | str b=>obtain⟨t,rfl⟩:=G;exact SeqAt.EqAt.str_str a J b t
   | _=>exact absurd (show false=true from fx) aV
 | _=>exact absurd (show false=true from U) aV
noncomputable def eqU (x:V) (u:Value):Bool:=match u with
 | .none=>eqV .non x
 | .bool b=>eqV (.bl b) x
 | .int i _=>eqV (.int i) x
 | .str z _=>eqV (.str z) x
 | _=>false
theorem Zc {x:V} (r:RelV y u) (f:Ms y=true):eqU x u=eqV y x:=by
 cases y with
 | non=>cases r;rfl
 | bl b=>cases r;rfl
 | int i=>obtain⟨t,rfl⟩:=r;rfl
 | str z=>obtain⟨t,rfl⟩:=r;rfl
 | _=>exact absurd (show false=true from f) aV
theorem Tj {x:V}:∀ {xs:List V}{us:List Value},Vals xs us->xs.all Ms=true->us.any (eqU x)=xs.any fun y=>eqV y x
 | _,_,.nil,_=>rfl
 | y::xs,u::us,.cons r t,f=>by
   rw [kD,cD]at f
   rw [iA,iA,Zc r f.1,Tj t f.2]
theorem Lg {A:Around}{s:Shared}{x:V}{v:Value} (J:RelV x v) (fx:Ms x=true):∀ {xs:List V}{us:List Value},Vals xs us->xs.all Ms=true->∀u∈us,SeqAt.EqAt A s u v (eqU x u)
 | _,_,.nil,_=>fun u G=>by cases G
 | y::xs,u::us,.cons r t,f=>fun O G=>by
   rw [kD,cD]at f
   rcases aS.mp G with rfl | G
   . rw [Zc r f.1];exact Ajj r J f.1 fx
   . exact Lg J fx t f.2 O G
noncomputable def inV (x:V) (xs:List V):Bool:=xs.any fun y=>eqV y x
noncomputable def rIn (K:Frag) (neg:Bool):R2:=fun x y H Q=>∃p xs,y= .ref p/\(SqL K H p xs\/SqT K H p xs)/\Ms x=true/\xs.all Ms=true/\Q (.bl (if neg then !inV x xs else inV x xs)) H
theorem R7:OpR X (compareOp .NotIn) (rIn X.K true):=by
 intro pins s σ H x y v u Q I W Z h
 obtain⟨p,xs,rfl,J,fx,fs,q⟩:=h
 cases Z
 rcases J with J | J
 . obtain⟨G,r,O,hz⟩:=I.list J
   refine SeqAt.notIn_listAt (eqU x) O.isList (fun w U=>Lg W fx r fs w (by simpa using U)) ⟨.bl _,H,I,rfl,?_⟩
   rw [show G.toArray.any (eqU x)=G.any (eqU x)by simp,Tj r fs]
   exact q
 . obtain⟨G,r,O,hz⟩:=I.tuple J
   refine SeqAt.notIn_tupleAt (eqU x) O (fun w U=>Lg W fx r fs w (by simpa using U)) ⟨.bl _,H,I,rfl,?_⟩
   rw [show G.toArray.any (eqU x)=G.any (eqU x)by simp,Tj r fs]
   exact q
theorem Cq:Er X (.builtin "len") (fun xs H Q=>∃p ys,xs=[.ref p]/\(SqL X.K H p ys\/SqT X.K H p ys)/\Q (.int ys.length) H):=by
 intro pins s σ H xs us Q I r h
 obtain⟨p,ys,rfl,J,q⟩:=h
 obtain⟨u,rfl,Z⟩:=vals1 r
 cases Z
 have hn:=Rz
 rcases J with J | J
 . obtain⟨O,U,W,hz⟩:=I.list J
   have G:=U.length
   exact Calls.call_len_list W.isList (by simp only [aM]<;>omega) ⟨.int ys.length,H,I.tok _,⟨s.toks+1,by rw [aM,G]⟩,q⟩
 . obtain⟨O,U,W,hz⟩:=I.tuple J
   have G:=U.length
   exact len_tuple W (by simp only [aM]<;>omega) ⟨.int ys.length,H,I.tok _,⟨s.toks+1,by rw [aM,G]⟩,q⟩
theorem Rq:Er X (.type "list") (fun xs H Q=>∃p ys,xs=[.ref p]/\(SqL X.K H p ys\/SqT X.K H p ys)/\∀l,H l=none->Q (.ref l) (upd H l (.lst ys))):=by
 intro pins s σ H xs us Q I r h
 obtain⟨p,ys,rfl,U,q⟩:=h
 obtain⟨u,rfl,rx⟩:=vals1 r
 cases rx
 have W:∀(G:List Value),Vals ys G->ys.length<=sizeLine->∀(h':Heap) (J:Nat),(∀b o',s.heap.get? b=some o'->h'.get? b=some o')->
  h'.get? s.heap.objs.size=some { cls:= .type "list",dict:=none,data:= .seq G.toArray J,slots:= #[]}->EP X pins σ Q (.ref s.heap.objs.size) { s with heap:=h'}:=fun G O Z h' J kp e=>
  ⟨.ref s.heap.objs.size,_,I.laid (t':=s.toks) kp (aL _) (show Cy X.prog X.w _ h' _ (.lst ys)from⟨Z,G,J,O,e⟩),rfl,q _ (I.hok.fresh (aL _))⟩
 rcases U with U | U
 . obtain⟨G,O,pl,Z⟩:=I.list U
   have a1:=O.length
   obtain⟨o,ho,hc,n,hd⟩:=pl.isList
   exact call_list_seq p (.inl rfl) ho hc hd (fun h' J kp e=>W G O Z h' J kp e) (by simp only [aM]<;>omega)
 . obtain⟨G,O,pl,Z⟩:=I.tuple U
   have a1:=O.length
   obtain⟨o,ho,hc,n,hd⟩:=pl
   exact call_list_seq p (.inr rfl) ho hc hd (fun h' J kp e=>W G O Z h' J kp e) (by simp only [aM]<;>omega)
theorem Bm:Er X (.type "tuple") (fun xs H Q=>∃p ys,xs=[.ref p]/\((SqL X.K H p ys/\∀l,H l=none->Q (.ref l) (upd H l (.tup ys)))\/(SqT X.K H p ys/\Q (.ref p) H))):=by
 intro pins s σ H xs us Q I r h
 obtain⟨p,ys,rfl,h⟩:=h
 obtain⟨u,rfl,rx⟩:=vals1 r
 cases rx
 rcases h with⟨J,q⟩ | ⟨J,q⟩
 . obtain⟨G,O,U,W⟩:=I.list J
   have Z:=O.length
   refine call_tuple_list U.isList (fun h' kp=> ?_) (by simp only [aM]<;>omega)
   have I1:Inv X pins σ H { s with heap:=h'}:=I.kept (t':=s.toks) kp
   have I2:Inv X pins σ (upd H h'.objs.size (.tup ys)) { s with heap:=h'.push { cls:= .type "tuple",data:= .seq G.toArray}}:=
    I1.laid (t':=s.toks) (fun b o e=>aB _ e) (aL _) (show Cy X.prog X.w _ _ _ (.tup ys)from⟨W,G,O,IsTup.new _ _⟩)
   exact⟨.ref h'.objs.size,_,I2,rfl,q _ (I1.hok.fresh (aL _))⟩
 . obtain⟨G,O,U,W⟩:=I.tuple J
   exact call_tuple_same U ⟨.ref p,H,I,rfl,q⟩
noncomputable def tyV (K:Frag) (T:String) (x:V) (H:Hp):Prop:=match x with
 | .str _=>T="str"
 | .int _=>T="int"
 | .ref p=>(T="list"/\∃xs,SqL K H p xs)\/(T="tuple"/\∃o,K.lookup p=some o/\o.cls= .type "tuple"/\o.dict=none)\/
    (T="dict"/\((∃kvs,H p=some (.dK kvs))\/∃kvs,H p=some (.dT kvs)))\/(T="set"/\∃S n,H p=some (.set S n))
 | _=>False
theorem Afs {x:V}{v:Value} (I:Inv X pins σ H s) (r:RelV x v) (ty:tyV X.K T x H):
 s.TypeIs v T/\∀a,v= .ref a->∃W,s.heap.get? a=some W/\W.dict=none:=by
 cases x with
 | str z=>
   obtain⟨t,rfl⟩:=r
   cases(show T="str" from ty)
   exact⟨typeIs_str s z t,fun _ e=>nomatch e⟩
 | int i=>
   obtain⟨t,rfl⟩:=r
   cases(show T="int" from ty)
   exact⟨typeIs_int s i t,fun _ e=>nomatch e⟩
 | ref p=>
   cases r
   rcases ty with⟨rfl,xs,hq⟩ | ⟨rfl,o,G,hc,J⟩ | ⟨rfl,G⟩ | ⟨rfl,S,n,G⟩
   . obtain⟨a1,_,Z,_⟩:=I.list hq
     refine⟨Z.isList.typeIs,fun a e=> ?_⟩
     cases e
     obtain⟨o,n,e,c,J,_⟩:=Z
     exact⟨o,e,J⟩
   . refine⟨⟨o,I.kIn p o G,hc⟩,fun a e=> ?_⟩
     cases e
     exact⟨o,I.kIn _ o G,J⟩
   . have z:∃o,s.heap.get? p=some o/\o.ExactDict:=by
      rcases G with⟨O,G⟩ | ⟨O,G⟩
      . obtain⟨_,_,_,_,o,_,_,e,ex,_⟩:=I.hok p _ G
        exact⟨o,e,ex⟩
      . obtain⟨_,_,_,_,o,_,_,e,ex,_⟩:=I.hok p _ G
        exact⟨o,e,ex⟩
     obtain⟨o,e,ex⟩:=z
     refine⟨⟨o,e,ex.1⟩,fun a U=> ?_⟩
     cases U
     exact⟨o,e,ex.2.1⟩
   . obtain⟨o,_,_,_,e,ex,_⟩:=I.hok p _ G
     refine⟨⟨o,e,ex.1⟩,fun a U=> ?_⟩
     cases U
     exact⟨o,e,ex.2.1⟩
 | _=>exact False.elim ty
noncomputable def An6 (K:Frag) (T:String) (r:V->List V->Hp->VK->Prop) (to:TE):TE:=fun σ H Q=>to σ H fun x H1=>tyV K T x H1/\r x [] H1 Q
noncomputable def tBM (K:Frag) (T:String) (r:V->List V->Hp->VK->Prop) (to:TE) (t:TA):TE:=fun σ H Q=>to σ H fun x H1=>tyV K T x H1/\t σ H1 fun xs H2=>r x xs H2 Q
variable {o e:Expr}{es:List Expr}{to:TE}{t:TA}{name:Str}{apos cpos:Pos}{T id:String}{r:V->List V->Hp->VK->Prop}
theorem Aan (pa:PlainAttrs T) (O:Slot T name id) (U:typeOf (.builtin id)=pure (.type "method_descriptor")) (hm:MtR X id r) (ho:PE X o to)
 (G:attributeBase o name X.env (eval o X.env)=eval o X.env:=by rfl) (J:(apos.endLine==cpos.line)=true:=by rfl):PE X (.Call (.Attribute o name apos) [] [] cpos) (An6 X.K T r to):=by
 intro pins s σ H Q I h
 refine wpAny_Call_method0_late G J (thn (ho pins s σ H _ I h) fun v s1 ⟨x,H1,W,Z,ty,q1⟩=> ?_)
 obtain⟨h1,h2⟩:=Afs W Z ty
 exact⟨T,id,pa,O,U,h1,h2,jA rfl (PySem.evalArgs_none (hm pins s1 σ H1 x [] v [] Q W Z .nil q1))⟩
theorem Xr (pa:PlainAttrs T) (U:Slot T name id) (Z:typeOf (.builtin id)=pure (.type "method_descriptor")) (hm:MtR X id r) (ho:PE X o to) (ha:PA X (e::es) t)
 (J:attributeBase o name X.env (eval o X.env)=eval o X.env:=by rfl)
 (W:((backTo cpos (starEach (e::es) X.env)).all (fun x=> !x.1)&&(backToKw cpos (keywordEach [] X.env)).all (fun x=>x.1.isSome)
   &&decide ((e::es).length+([]:List Keyword).length+(if([]:List Keyword).isEmpty then 0 else 1)<30))=true:=by rfl)
 (O:(apos.endLine==cpos.line)=true:=by rfl) (hs:starEach (e::es) X.env=(false,eval e X.env)::starEach es X.env:=by rfl) (G:(backTo cpos (starEach es X.env)).any (·.1)=false:=by rfl):
 PE X (.Call (.Attribute o name apos) (e::es) [] cpos) (tBM X.K T r to t):=by
 intro pins s σ H Q I h
 refine wpAny_Call_method_late J W O rfl (thn (ho pins s σ H _ I h) fun v s1 ⟨x,H1,I1,r1,ty,q1⟩=> ?_)
 obtain⟨h1,h2⟩:=Afs I1 r1 ty
 refine⟨T,id,pa,U,Z,h1,h2,?_⟩
 have hA:=ha cpos pins s1 σ H1 _ I1 q1
 rw [hs]at hA ⊢
 refine jA (by show(false||(backTo cpos (starEach es X.env)).any (·.1))=false;rw [G]<;>rfl) (Calls.evalArgs_plain ?_)
 exact thn hA fun us s2 ⟨vs,H2,I2,r2,q2⟩=>hm pins s2 σ H2 x vs v us Q I2 r1 r2 q2
/-xs.append(e),list.index on a module's tuple .. are MtR facts of 06m-/
end
noncomputable def MtM (X:Cx) (id:String) (r:V->List V->Hp->VK->Prop):Prop:=
 ∀(pins:List (Addr × Obj)) (s:Shared) (σ:St) (H:Hp) (x:V) (xs:List V) (v:Value) (us:List Value) (Q:VK),Inv X pins σ H s->RelV x v->Vals xs us->r x xs H Q->
   wpAny (model X.prog X.w) X.A (call (.builtin id) (v::us)) (EP X pins σ Q) X.xe s
theorem Vals.one:∀ {x:V}{us:List Value},Vals [x] us->∃u,us=[u]/\RelV x u
 | _,_,.cons r .nil=>⟨_,rfl,r⟩
theorem Vals.two:∀ {x y:V}{us:List Value},Vals [x,y] us->∃u v,us=[u,v]/\RelV x u/\RelV y v
 | _,_,_,.cons r (.cons q .nil)=>⟨_,_,rfl,r,q⟩
theorem Vals.zero:∀ {us:List Value},Vals [] us->us=[]
 | _,.nil=>rfl
theorem Vals.dropLast {xs:List V}{us:List Value} (h:Vals xs us):Vals xs.dropLast us.dropLast:=by
 induction h with
 | nil=>exact .nil
 | cons r t G=>
   cases t with
   | nil=>exact .nil
   | cons q J=>exact .cons r G
theorem Vals.eraseIdx:∀ {xs:List V}{us:List Value} (i:Nat),Vals xs us->Vals (xs.eraseIdx i) (us.eraseIdx i)
 | _,_,_,.nil=> .nil
 | _,_,0,.cons _ t=>t
 | _,_,i+1,.cons r t=> .cons r (Vals.eraseIdx i t)
theorem Vals.reverse {xs:List V}{us:List Value} (h:Vals xs us):Vals xs.reverse us.reverse:=by
 induction h with
 | nil=>exact .nil
 | cons r t G=>rw [reverse_cons,reverse_cons];exact Vals.append G (.cons r .nil)
theorem Vals.rep {xs:List V}{us:List Value} (h:Vals xs us):∀k:Nat,Vals (replicate k xs).flatten (replicate k us).flatten
 | 0=> .nil
 | k+1=>by
   rw [fP,fP,gL,gL]
   exact Vals.append h (Vals.rep h k)
theorem Ry {α:Type}:∀(l:List α) (i:Nat),(l.eraseIdx i).length<=l.length
 | [],_=>aL _
 | _::_,0=>gR _
 | _::r,i+1=>Nat.succ_le_succ (Ry r i)
theorem foldl_rep (its:List Value):∀(k:Nat) (G:List Value),
 foldl (fun x1 J=>x1++J) G.toArray (replicate k its.toArray)=(G++(replicate k its).flatten).toArray
 | 0,G=>by simp
 | k+1,G=>by
   have e:G.toArray++its.toArray=(G++its).toArray:=by simp
   have O:(G++its)++(replicate k its).flatten=G++(replicate (k+1) its).flatten:=by
    rw [fP,gL,cK]
   rw [<-O,<-foldl_rep its k (G++its),<-e,fP,jC]
variable {its:List Value}
section
variable {X:Cx}{pins:List (Addr × Obj)}{σ:St}{H:Hp}{s:Shared}{l b:Addr}{xs ys zs:List V}
theorem Inv.lset {its its':List Value}{n:Nat}{f:Array Value->Array Value}{t':Nat} (I:Inv X pins σ H s) (G:H l=some (.lst xs))
 (e:s.heap.get? l=some { cls:= .type "list",data:= .seq its.toArray n}) (J:f its.toArray=its'.toArray) (O:Vals ys its') (U:ys.length<=sizeLine):
 Inv X pins σ (upd H l (.lst ys)) { s with heap:=s.heap.update l (Obj.mapSeq f),toks:=t'}:=by
 have q:=PySem.IsL.update e f
 rw [J]at q
 refine I.write (x:=l) (e:=l) (by rw [G];exact trivial) (.inl rfl) (fun b' u W Z=>(dO s.heap (Obj.mapSeq f) (cC W)).trans Z) ⟨_,q⟩ ?_
 exact⟨U,its',_,O,q⟩
theorem Inv.lnew {t':Nat} (I:Inv X pins σ H s) (G:Vals ys its) (J:ys.length<=sizeLine):
 Inv X pins σ (upd H s.heap.objs.size (.lst ys)) { s with heap:=s.heap.push { cls:= .type "list",data:= .seq its.toArray},toks:=t'}:=
 I.laid (fun _ _ q=>aB _ q) (aL _) ⟨J,its,0,G,aK _ rfl⟩
theorem Inv.fresh (I:Inv X pins σ H s):H s.heap.objs.size=none:=I.hok.fresh (aL _)
theorem Inv.lstM (I:Inv X pins σ H s) (G:H l=some (.lst xs)):xs.length<=sizeLine/\∃(its:List Value) (n:Nat),Vals xs its/\xs.length=its.length/\s.heap.get? l=some { cls:= .type "list",data:= .seq its.toArray n}:=by
 obtain⟨z,its,n,r,e⟩:=I.hok l _ G
 exact⟨z,its,n,r,r.length,e⟩
theorem Adh (h:n<=sizeLine):Builtin.List.listTooLong n=false:=by
 unfold Builtin.List.listTooLong
 exact bY (by omega)
end
section
variable {X:Cx}
noncomputable def Ahl:V->List V->Hp->VK->Prop:=fun x vs H Q=>∃l xs y,x= .ref l/\vs=[y]/\H l=some (.lst xs)/\xs.length<sizeLine/\Q .non (upd H l (.lst (xs++ [y])))
theorem Fv:MtM X "list.append" Ahl:=by
 intro pins s σ H x Z v us Q I O U h
 obtain⟨l,xs,y,rfl,rfl,J,hz,q⟩:=h
 cases O
 obtain⟨u,rfl,W⟩:=U.one
 obtain⟨z,G,n,r,hl,e⟩:=I.lstM J
 refine call_meets F.slot_list_append ⟨_,e,rfl⟩ F.entry_list_append (F.args_list_append_2 _ _) (PySem.list_append l G.toArray n u (by rw [aM];omega)) ⟨e,?_⟩
 refine⟨.non,_,I.lset (its':=G++ [u]) J e (by simp) (r.append (.cons W .nil)) ?_,rfl,q⟩
 rw [aH,eG]
 omega
noncomputable def Alm:V->List V->Hp->VK->Prop:=fun x vs H Q=>∃l xs i k y,x= .ref l/\vs=[.int i]/\H l=some (.lst xs)/\ -(2^63)<=i/\i<2^63/\seqIndex? i xs.length=some k/\xs[k]? =some y/\Q y (upd H l (.lst (xs.eraseIdx k)))
theorem Ade:MtM X "list.pop" Alm:=by
 intro pins s σ H x vs v us Q I U W h
 obtain⟨l,xs,i,k,y,rfl,rfl,O,h1,h2,Z,hy,q⟩:=h
 cases U
 obtain⟨u,rfl,ru⟩:=W.one
 obtain⟨t,rfl⟩:=ru
 obtain⟨z,G,n,r,hl,e⟩:=I.lstM O
 obtain⟨w,hw,J⟩:=r.get hy
 refine call_meets F.slot_list_pop ⟨_,e,rfl⟩ F.entry_list_pop (F.args_list_pop_2 _ _)
  (MeetsSeq.list_pop_at l G.toArray n i t k w (fitsIndex_both h1 h2) (by rw [aM,<-hl];exact Z) (by rw [<-fG];exact hw) (by rw [aM];omega)) ⟨e,?_⟩
 refine⟨y,_,I.lset (its':=G.eraseIdx k) O e ?_ (r.eraseIdx k) ?_,J,q⟩
 . show G.toArray.eraseIdxIfInBounds k=(G.eraseIdx k).toArray
   rw [List.eraseIdxIfInBounds_toArray]
 . have:=Ry xs k
   omega
noncomputable def Alj:V->List V->Hp->VK->Prop:=fun x vs H Q=>∃l xs,x= .ref l/\vs=[]/\H l=some (.lst xs)/\Q .non (upd H l (.lst []))
theorem Adc:MtM X "list.clear" Alj:=by
 intro pins s σ H x Z v us Q I U W h
 obtain⟨l,xs,rfl,rfl,O,q⟩:=h
 cases U
 have G:=W.zero
 subst G
 obtain⟨z,J,n,r,hl,e⟩:=I.lstM O
 refine call_meets F.slot_list_clear ⟨_,e,rfl⟩ F.entry_list_clear (F.args_list_clear_1 _) (AutoSeq1.list_clear_list_0 l J.toArray n (by rw [aM];omega)) ⟨e,?_⟩
 exact⟨.non,_,I.lset (its':=[]) (ys:=[]) O e rfl .nil (cH _),rfl,q⟩
noncomputable def Aqi:R2:=fun x y H Q=>∃l b xs zs,x= .ref l/\y= .ref b/\H l=some (.lst xs)/\H b=some (.lst zs)/\xs.length+zs.length<=sizeLine/\∀p,H p=none->Q (.ref p) (upd H p (.lst (xs++zs)))
theorem V3:OpR X (binaryOp .Add) Aqi:=by
 intro pins s σ H x y v u Q I O U h
 obtain⟨l,b,xs,zs,rfl,rfl,W,Z,hz,q⟩:=h
 cases O
 cases U
 obtain⟨z,J,n,r,hl,e⟩:=I.lstM W
 obtain⟨z2,G,n2,r2,a1,e2⟩:=I.lstM Z
 refine PySem.P.add_list e e2 ?_ (by rw [aM,aM];omega)
 have ea:J.toArray++G.toArray=(J++G).toArray:=by simp
 rw [ea]
 exact⟨.ref _,_,I.lnew (t':=s.toks) (r.append r2) (by rw [aH];omega),rfl,q _ I.fresh⟩
noncomputable def Aqj:R2:=fun x y H Q=>∃l k xs,x= .ref l/\y= .int k/\H l=some (.lst xs)/\ -(2^63)<=k/\k<2^63/\xs.length*k.toNat<=sizeLine/\
 ∀p,H p=none->Q (.ref p) (upd H p (.lst (replicate k.toNat xs).flatten))
theorem len_rep {α:Type} (xs:List α) (k:Nat):(replicate k xs).flatten.length=k*xs.length:=by
 induction k with
 | zero=>simp
 | succ k G=>rw [fP,gL,aH,G,succ_mul,Nat.add_comm]
theorem Akm:OpR X (binaryOp .Mult) Aqj:=by
 intro pins s σ H x y v u Q I rx ry h
 obtain⟨l,k,xs,rfl,rfl,hH,h1,h2,hz,q⟩:=h
 cases rx
 obtain⟨t,rfl⟩:=ry
 obtain⟨z,G,n,r,hl,e⟩:=I.lstM hH
 have O:G.toArray.size*k.toNat<=sizeLine:=by rw [aM,<-hl];exact hz
 have W:¬G.toArray.size*k.toNat>(2^63-1)/8:=by
  have:(sizeLine:Nat)<=(2^63-1)/8:=by decide
  omega
 have Z:¬(!Builtin.List.listFitsIndex k)=true:=by
  rw [fitsIndex_both h1 h2]
  exact aV
 have J:¬Builtin.List.listTooLong (G.toArray.size*k.toNat)=true:=by
  rw [Adh O]
  exact aV
 have a1:foldl (fun x1 x2=>x1++x2) #[] (replicate (if G.toArray.isEmpty=true then 0 else k.toNat) G.toArray)=(replicate k.toNat G).flatten.toArray:=by
  have f0:∀m:Nat,foldl (fun x1 x2=>x1++x2) #[] (replicate m G.toArray)=(replicate m G).flatten.toArray:=fun m=>by
   have:=foldl_rep G m []
   rw [jB]at this
   exact this
  rw [f0]
  cases G with
  | nil=>simp
  | cons a r'=>rw [aF (by simp)]
 refine wpAny_binaryOp_repeat_ref (T:="list") (U:="int") (by decide) ⟨_,e,rfl⟩ (fun s'=>typeIs_int s' k t) noFill_list_mul F.fills_int_mul F.slot_int_rmul repeat_list F.slot_int_index.lookup
  (call_meets F.slot_int_rmul (typeIs_int s k t) F.entry_int_rmul (F.args_int_rmul_2 _ _) (int___rmul___int_list k t l G.toArray n)
    ⟨e,rfl,⟨_,e,rfl⟩,call_meets F.slot_list_mul ⟨_,e,rfl⟩ F.entry_list_mul (F.args_list_mul_2 _ _) (AutoListH.list___mul___list_int_3 l G.toArray n k t Z W J) ⟨e,?_⟩⟩)
 rw [a1]
 exact⟨.ref _,_,I.lnew (t':=s.toks) (r.rep k.toNat) (by rw [len_rep,Nat.mul_comm];exact hz),rfl,q _ I.fresh⟩
end
end L2
namespace Att
open PySem PySem.W PySem.Calls PyProof.Rows
theorem Mu {P:Params}{h:Heap}:∀(ns:List Int) (vs:List Value),WellAll P h vs (ns.map WData.int)->IntsAre vs ns:=by
 intro ns
 induction ns with
 | nil=>
   intro vs w
   rw [jG]at w
   cases w
   exact .nil
 | cons n ns G=>
   intro vs w
   rw [bC]at w
   cases w with
   | cons a b=>
     cases a
     exact .cons _ _ (G _ b)
theorem Abe {l:OpenLaw}{n:Nat} (hn:l.most=some n) {P:Params}{h:Heap}{args:List WData}{G:List Value}
 (J:l.row.toRowW.claim.pre args=true) (a1:WellAll P h G args):
 ∃a vs ns,G=[Value.ref a]/\args=[WData.list (ns.map WData.int)]/\h.get? a=some { cls:= .type "list",data:= .seq vs.toArray}/\IntsAre vs ns/\ns.length<=n:=by
 have a2:WShape.hasAll [] args [.list .int]=true:=(pre_splitW J).1
 have hc:l.pre.holds [] { args:=args}=true:=(pre_splitW J).2
 obtain⟨d,r,rfl,h1,h2⟩:=hasAllW_cons a2
 obtain rfl:=hasAllW_nil h2
 obtain⟨xs,rfl,h3⟩:=hasW_list h1
 obtain⟨ns,rfl⟩:=items_int h3
 have O:ns.length<=n:=by
  unfold OpenLaw.pre at hc
  have W:(WTm.not (.lt (.lit (.int (n:Int))) (.len (.arg 0)))).holds [] { args:=[.list (ns.map .int)]}=true:=by
   have W:=(holds_andW hc).1
   rw [hn]at W
   exact W
  have Z:=condW_of W (w_not (w_lt w_lit (w_len_list (w_arg rfl))))
  rw [aC]at Z
  refine Nat.le_of_not_lt fun q=> ?_
  have q':(n:Int)<((ns.length:Nat):Int):=by omega
  first
   | (rw [cO q']at Z;exact absurd Z (by decide))
   | (simp at Z;omega)
 cases a1 with
 | cons w1 w2=>
   cases w2
   cases w1 with
   | list ho U=>exact⟨_,_,ns,rfl,rfl,ho,Mu ns _ U,O⟩
theorem Aav (l:OpenLaw) (args:List WData):l.row.toRowW.claim.post args (.bool true) args=true:=
 postW_of (r:=l.row.toRowW) (X:=(true==true))
  (show WShape.has [] (.bool true) .bool=true by first | rfl | decide | simp [WShape.has,WShape.arms,WShape.armsAll])
  (show(WTm.eq .res (.lit (.bool true))).value [] { args:=args,res:=some (.bool true),after:=args}=some (.bool (true==true))from w_eq_bool (w_res rfl) w_lit) rfl
theorem Tp {l:OpenLaw}{n:Nat}{q:Program}{O:List Str}{XP:(Str->Option Value)->Heap->Prop}{YP:World->Heap->Prop}{d:DefRec}
 (hn:l.most=some n) (a4:d.params.defaults=[])
 (call:∀(w:World) (U J:Shared) (mg mb:Str->Option Value) (fa:Addr) (o:Obj) (pm cd W:Value) (a:Addr) (vs:List Value) (ns:List Int),
   Ground q O [] XP w U mg mb J.heap->YP w J.heap->
   J.heap.get? fa=some o->o.data= .func (docDef d.name d.params d.body d.scope pm cd W)->J.heap.CodeRec cd d.name->mg d.name=some (.ref fa)->
   J.heap.get? a=some { cls:= .type "list",data:= .seq vs.toArray}->IntsAre vs ns->ns.length<=n->J.gens= #[]->
   codeAny (model l.prog w) callerA (.call (.ref fa) ⟨[.ref a],[]⟩) (fun r s'=>r= .ok (.ret (.bool true))/\OldK J.heap s'.heap/\s'.os=J.os/\AllBare s'.gens) J):
 WalkO q O XP YP l.row.toRowW d [] (fun f vs=>PySem.call f vs):=by
 intro w U J mg mb G Y fa o pm cd W dV kV ho hd a5 hD a6 hg args a8 as a1 a9 aa a7 ac
 obtain rfl:dV= .none:=Dflts.none hD a4
 obtain rfl:kV= .none:=Dflts.noKw hD
 obtain⟨a,vs,ns,rfl,rfl,a2,Z,a3⟩:=Abe hn a1 a7
 refine enter_call (iF (call w U J mg mb fa o pm cd W a vs ns G Y ho (fd_plain hd) a5 a6 a2 Z a3 hg) fun r s' hq=> ?_)
 obtain⟨rfl,h2,h3,h4⟩:=hq
 exact⟨.inl ⟨.bool true,.bool true,[],rfl,fun _=>rfl,.bool true,Aav l _,fun _=>⟨Pairwise.nil,fun _ hm=>(nomatch hm)⟩⟩,h2,h3,h4⟩
end Att
namespace L2
open PySem PySem.Spec PyProof.Rows
theorem S6:∀ {vs:List Value}{ns:List Int},IntsAre vs ns->Vals (ns.map V.int) vs
 | _,_,.nil=> .nil
 | _,_,.cons n t h=> .cons ⟨t,rfl⟩ (S6 h)
noncomputable def Only (H:Hp):Prop:=∀b,H b=none\/∃o xs,H b=some (.frz o (.lst xs))
theorem Ada {P:Program}{w:World}{K:Frag}{mg mb:Str->Option Value}{CX:CXT}{k:Nat}{fa a:Addr}{fd:FuncData}{x:Str}{sp:Sp}{G:Shared}{vs:List Value}{ns:List Int}
 (KX:K.In G.heap) (a2:G.heap.Ns mainGlobals mg) (O:G.heap.Ns builtinsNs mb) (a9:∀x:Str,x≠"__name__"->mb x=bootBuiltins x) (a3:G.heap.NoLimit) (hg:G.gens= #[])
 (ha:G.heap.get? a=some { cls:= .type "list",data:= .seq vs.toArray}) (hi:IntsAre vs ns) (hl:ns.length<=sizeLine) (hr:Hi k callerA)
 (F:∀base:Heap,K.In base->base.Ns mainGlobals mg->Lq P w K mg base CX k fa fd [x] sp) (a1:∀(s:Shared) (u:Value),BindsTo s fd ⟨[u],[]⟩ [(x,u)])
 (aa:∀H:Hp,Only H->SqL K H a (ns.map V.int)->sp [.ref a] H (fun v _=>v= .bl true) fun _ _ _=>False)
 (ac:∀H e s',CX [] H G (fun _ _ _=>False) e s'->False):
 codeAny (model P w) callerA (.call (.ref fa) ⟨[.ref a],[]⟩) (fun r s'=>r= .ok (.ret (.bool true))/\OldK G.heap s'.heap/\s'.os=G.os/\AllBare s'.gens) G:=by
 have rv:=S6 hi
 have a4:=hi.length
 have Z:∀H:Hp,Only H->SqL K H a (ns.map V.int)->HOk P w H G.heap->(∀b,H b≠none->b=a)->(H a≠none->K.lookup a=none)->
  codeAny (model P w) callerA (.call (.ref fa) ⟨[.ref a],[]⟩) (fun r s'=>r= .ok (.ret (.bool true))/\OldK G.heap s'.heap/\s'.os=G.os/\AllBare s'.gens) G:=by
  intro H hO hS a5 hA hK
  have J:∀ {b:Addr}{o:Obj},G.heap.get? b=some o->H b=none->(Ac5 G.heap H).get? b=some o:=fun e n=>Ac6 e n
  have ad:∀ {b:Addr}{o:Obj}{es:Array DictEntry}{ep:Nat},G.heap.get? b=some o->o.data= .dict es ep->H b=none:=fun {b o es ep} e d=>by
   cases q:H b with
   | none=>rfl
   | some u=>
     have e':b=a:=hA b (by rw [q];simp)
     subst e'
     rw [ha]at e;cases e
     have d':Data.seq vs.toArray _=Data.dict es ep:=d
     cases d'
  have U:∀ {b:Addr}{m:Str->Option Value},G.heap.Ns b m->(Ac5 G.heap H).Ns b m:=fun {b m} ⟨o,es,ep,e,d,r⟩=>⟨o,es,ep,J e (ad e d),d,r⟩
  have a6:K.In (Ac5 G.heap H):=fun b o e=>J (KX b o e) (by
   cases q:H b with
   | none=>rfl
   | some u=>
     have e':b=a:=hA b (by rw [q];simp)
     subst e'
     rw [hK (by rw [q];simp)]at e;cases e)
  have hM:Mod K mg (Ac5 G.heap H):=⟨a6,U a2,⟨mb,U O,a9⟩,let ⟨mc,h1,h2⟩:=a3;⟨mc,U h1,h2⟩⟩
  have e0:Ab5 P w K mg (Ac5 G.heap H) callerA [] G H:=⟨rfl,hM,fun b o e=>Agv e,fZ (Zn _ _),trivial,fun b O=>absurd (show b∈([]:List Addr)from O) (by simp),a5,.of_eq hg⟩
  refine iF ((F _ a6 (U a2)).run callerA [] G H ⟨[.ref a],[]⟩ [.ref a] [.ref a] _ _ hr e0 (a1 G (.ref a)) (.cons rfl .nil) (aa H hO hS)) fun r s' h=> ?_
  cases r with
  | error e=>exact(ac H e s' h).elim
  | ok fl=>
    cases fl with
    | next=>exact False.elim h
    | brk=>exact False.elim h
    | cont=>exact False.elim h
    | ret u=>
      obtain⟨v,H',os,a7,un,a8,r',q⟩:=h
      have q':v= .bl true:=q
      subst q'
      obtain rfl:u=Value.bool true:=r'
      refine⟨rfl,OldK.of_keep fun b o e=> ?_,os,a7⟩
      cases q:H b with
      | none=>exact un.keep b o e q (by intro z;exact absurd (show b∈([]:List Addr)from z) (by simp)) (by simp)
      | some u=>
        rcases hO b with z | ⟨ob,xs,z⟩
        . rw [q]at z;cases z
        . have z2:=un.frzs b ob _ z
          obtain⟨e1,_⟩:=a5 b _ z
          obtain⟨e2,_⟩:=a8 b _ z2
          rw [e]at e1;cases e1
          exact e2
 cases hk:K.lookup a with
 | some o=>
   have e:=KX a o hk
   rw [ha]at e
   cases e
   refine Z (fun _=>none) (fun _=> .inl rfl) (.inr ⟨_,vs.toArray,_,hk,rfl,rfl,rfl,by rw [aM,a4];exact hl,by simpa using rv⟩) (fun b u z=>by have z':(none:Option HO)=some u:=z;cases z') (fun b z=>absurd rfl z) fun z=>absurd rfl z
 | none=>
   refine Z (fun b=>if b=a then some (.frz { cls:= .type "list",data:= .seq vs.toArray} (.lst (ns.map V.int)))else none) (fun b=> ?_) (.inl (.inr ⟨{ cls:= .type "list",data:= .seq vs.toArray},aI rfl⟩)) (fun b u z=> ?_) (fun b z=> ?_) fun _=>hk
   . by_cases O:b=a
     . exact .inr ⟨_,_,aI O⟩
     . exact .inl (aF O)
   . by_cases O:b=a
     . have z':=(aI O).symm.trans z
       cases z'
       subst O
       exact⟨ha,by rw [aC];exact hl,vs,_,rv,ha⟩
     . have z':=(aF O).symm.trans z
       cases z'
   . by_cases O:b=a
     . exact O
     . exact absurd (aF O) z
theorem Aby {l:PySem.W.OpenLaw}{n k:Nat}{q:Program}{O:List Str}{XP:(Str->Option Value)->Heap->Prop}{YP:World->Heap->Prop}{d:DefRec}{K:Params->Frag}{CX:World->CXT}{sp:World->Sp}{x:Str}
 (hn:l.most=some n) (a2:n<=sizeLine) (a3:d.params.defaults=[]) (hr:Hi k callerA)
 (hY:∀(w:World) (h:Heap),YP w h->(K w.params).In h)
 (F:∀(w:World) (mg:Str->Option Value) (fa:Addr) (h:Heap),(K w.params).In h->h.Ns mainGlobals mg->mg d.name=some (.ref fa)->
   ∃fd:FuncData,(∀(s:Shared) (u:Value),BindsTo s fd ⟨[u],[]⟩ [(x,u)])/\
    ∀base:Heap,(K w.params).In base->base.Ns mainGlobals mg->Lq l.prog w (K w.params) mg base (CX w) k fa fd [x] (sp w))
 (a4:∀(w:World) (H:Hp) (a:Addr) (ns:List Int),ns.length<=n->Only H->SqL (K w.params) H a (ns.map V.int)->sp w [.ref a] H (fun v _=>v= .bl true) fun _ _ _=>False)
 (a5:∀(w:World) (H:Hp) (s:Shared) (e:Value) (s':Shared),CX w [] H s (fun _ _ _=>False) e s'->False):
 PySem.W.WalkO q O XP YP l.row.toRowW d [] (fun f vs=>PySem.call f vs):=by
 refine Att.Tp hn a3 fun w a7 Z mg mb fa o pm cd a8 a vs ns G Y ho hd a9 a6 a1 U J hg=> ?_
 have KX:=hY w _ Y
 obtain⟨fd,hb,hF⟩:=F w mg fa _ KX G.T.g a6
 exact Ada KX G.T.g G.T.b G.T.builtins G.T.nolimit hg a1 U (aO J a2) hr hF hb (fun H hO hS=>a4 w H a ns J hO hS) fun H e s'=>a5 w H Z e s'
end L2
/-THE LAST THEOREM (shape;LID,My.*are yours):
 My.Adr:a structure of the addresses that your layer names (classes,functions);My.Txt K t:a structure (Prop) of the equations over K;
 My.txt_mk:{K}{implicit addresses ..} (e1:nsIn K mainGlobals "law"=some (some (.ref f))) (e2:K.lookup f=some ⟨oc,od,.func (fnOf "law" "law" params body scope dV kV doc pm an cdv ct),sl⟩) (e3:codeIn K cdv "law"=true) .. :∃t,My.Txt K t
set_option maxRecDepth 100000 in
set_option maxHeartbeats 0 in
theorem PySem.Challenge.cw_LID_holds : PySem.Challenge.rw_LID.Holds := by
 w_on;o_law;k_head;(case hw=>w_witness2)
 k_fill
 refine L2.Aby (l:=PySem.Challenge.rw_LID) (n:=63) (k:=40) (x:="script") (CX:=fun w=> ..) (sp:=fun _=>My.sp_law) rfl (by decide) rfl ⟨rfl,by decide,by decide⟩ (fun w h Y=>kIn_of Y) ?F ?S ?C
 case F=>
  intro w mg fa h KX G a1
  have T:∃t,My.Txt (L2.KOf KX) t:=by
   dsimp only [L2.KOf]                          --K must stand as «<heap const>w.params» for J
   refine' My.txt_mk ?e1 ?e2 ?e3 ..
   (case e1=>PySem.W.k_is)                    --in U order:a name->its address->its object->its parts
   (case e2=>PySem.W.k_is)
   ..
  obtain⟨t,T⟩:=T
  have e0:=a1.symm.trans (dW KX G T.law)
  cases e0                                       --fa is U law's own address
  exact⟨_,fun s u=> .of_eq rfl,fun base kb nb=>My.law_fn T kb nb⟩     --if «.of_eq rfl» comes too early:refine' ⟨_,?b,fun base kb nb=>My.law_fn T kb nb⟩;exact fun s u=> .of_eq rfl
 case S=>exact fun w H a ns hl hO hS=> ..
 case C=>exact ..
(U Z J has no O:write J)-/
namespace L2
open PySem PySem.Spec PyProof.Rows
noncomputable def Hs (s:Stmt):Arguments:=match s with
 | .FunctionDef _ a _ _ _ _ _ _ _ _=>a
 | _=>{ posonlyargs:=[],args:=[],vararg:=none,kwonlyargs:=[],kw_defaults:=[],kwarg:=none,defaults:=[]}
noncomputable def Gj (s:Stmt):List Stmt:=match s with
 | .FunctionDef _ _ b _ _ _ _ _ _ _=>b
 | _=>[]
noncomputable def Ak (s:Stmt):Scope:=match s with
 | .FunctionDef _ _ _ _ _ _ sc _ _ _=>sc
 | _=>{ kind:= .function,names:=[],isGenerator:=false,isCoroutine:=false}
noncomputable abbrev CX0:CXT:=fun _ _ _ _ _ _=>False
noncomputable abbrev E0:XK:=fun _ _ _=>False
variable {X:Cx}
theorem Ako:Passes CX0 X E0:=fun _ _ _ _ _ _ _ h=>h.elim
structure Fun (K:Frag) (x qual:Str) (st:Stmt) (f:Addr) (fd:FuncData):Prop where
 ex:∃(oc:Value) (od:Option Addr) (kV doc pm:Value) (an:Option Addr) (cdv ct:Value) (osl:Array (Option Value)),
  fd=PySem.W.fnOf x qual (Hs st) (Gj st) (Ak st) .none kV doc pm an cdv ct/\K.lookup f=some ⟨oc,od,.func fd,osl⟩/\PySem.W.codeIn K cdv qual=true
 kp:keepIn K (.ref f)=true
variable {x qual:Str}{f:Addr}{fd:FuncData}{N ps:List Str}{sp:Sp}
section
variable {P:Program}{w:World}{K:Frag}{mg:Str->Option Value}{base:Heap}
theorem Fun.ok {st:Stmt}{k:Nat} (F:Fun K x qual st f fd) (S:Bb N ps (Ak st)) (len:∀vs H Q E,sp vs H Q E->vs.length=ps.length)
 (J:∀(G:Value) (A:Around) (outer:List Env) (s:Shared) (H:Hp) (vs:List V) (Q:VK) (E:XK),Hi k (A.deeper (envOfC qual (Ak st) s.heap.objs.size f G))->sp vs H Q E->
   ∃t,PSs (Mp CX0 P w K mg base N qual (Ak st) f G A outer s H E).nox (Gj st) t/\t { nx:=fun _ H'=>Q .non H',rt:=Q} (start N vs) H):Lq P w K mg base CX0 (k+1) f fd ps sp:=by
 obtain⟨oc,od,kV,W,pm,an,G,ct,Z,rfl,lk,O⟩:=F.ex
 refine Ajm lk O S len fun A outer s H vs Q E hr U=> ?_
 obtain⟨t,h,q⟩:=J G A outer s H vs Q E hr U
 exact⟨t,h.nox,q⟩
theorem Fun.binds {st:Stmt}{ps:List Str} (F:Fun K x qual st f fd)
 (h:∀(kV G O:Value) (U:Option Addr) (J ct:Value) (us:List Value),us.length=ps.length->bindArgs (PySem.W.fnOf x qual (Hs st) (Gj st) (Ak st) .none kV G O U J ct) ⟨us,[]⟩=pure (ps.zip us)):Binds K fd ps []:=by
 obtain⟨oc,od,kV,G,O,U,J,ct,Z,rfl,lk,a1⟩:=F.ex
 exact .all (h kV G O U J ct)
theorem Vr {st:Stmt}{oc:Value}{od U:Option Addr}{O:Array (Option Value)}{kV J Z G ct:Value} (l:K.lookup f=some ⟨oc,od,.func (PySem.W.fnOf x qual (Hs st) (Gj st) (Ak st) .none kV J Z U G ct),O⟩)
 (c:PySem.W.codeIn K G qual=true) (k:keepIn K (.ref f)=true):Fun K x qual st f (PySem.W.fnOf x qual (Hs st) (Gj st) (Ak st) .none kV J Z U G ct):=⟨⟨oc,od,kV,J,Z,U,G,ct,O,rfl,l,c⟩,k⟩
end
section
variable {X:Cx}
theorem pv (i:Nat) {x:Str}{pos:Pos} (J:X.N[i]? =some x:=by rfl) (O:Vis X.env.scope x:=by first | exact Or.inl rfl | exact Or.inr (Or.inl rfl) | exact Or.inr (Or.inr rfl)) (U:(x==("__debug__":Str))=false:=by decide)
 (G:(x==("__classdict__":Str))=false:=by decide):PE X (.Name x pos) (Afq i):=Akx J O U G
end
noncomputable def Same (H H':Hp):Prop:=∀b o,H b=some o->H' b=some o
theorem Same.refl (H:Hp):Same H H:=fun _ _ h=>h
variable {H H1:Hp}
theorem Same.trans {H2:Hp} (a:Same H H1) (b:Same H1 H2):Same H H2:=fun c o h=>b c o (a c o h)
variable {H':Hp}
theorem Same.free (e:Same H H') {l:Addr} (h:H' l=Option.none):H l=Option.none:=by
 cases q:H l with
 | none=>rfl
 | some o=>
   rw [e l o q]at h
   cases h
variable {a:Addr}{xs:List V}
theorem Same.seq {K:Frag} (e:Same H H') (h:SqL K H a xs):SqL K H' a xs:=by
 rcases h with(h | ⟨o,h⟩) | h
 . exact .inl (.inl (e _ _ h))
 . exact .inl (.inr ⟨o,e _ _ h⟩)
 . exact .inr h
noncomputable def Cal (P:Program) (w:World) (K:Frag) (mg:Str->Option Value) (base:Heap) (k:Nat) (x:Str) (ps:List Str) (sp:Sp):Prop:=
 ∃f fd,Lq P w K mg base CX0 k f fd ps sp/\mg x=some (.ref f)/\keepIn K (.ref f)=true/\Binds K fd ps []
structure Df (K:Frag) (mg:Str->Option Value) (x:Str) (st:Stmt) (ps:List Str) (f:Addr) (fd:FuncData):Prop where
 fn:Fun K x x st f fd
 bd:Binds K fd ps []
 at':mg x=some (.ref f)
theorem Df.cal {P:Program}{w:World}{K:Frag}{mg:Str->Option Value}{base:Heap}{k:Nat}{x:Str}{st:Stmt}{ps:List Str}{f:Addr}{fd:FuncData}{sp:Sp}
 (F:Df K mg x st ps f fd) (G:Lq P w K mg base CX0 k f fd ps sp):Cal P w K mg base k x ps sp:=⟨f,fd,G,F.at',F.fn.kp,F.bd⟩
theorem Cal.imp {P:Program}{w:World}{K:Frag}{mg:Str->Option Value}{base:Heap}{k:Nat}{x:Str}{ps:List Str}{sp J:Sp}
 (C:Cal P w K mg base k x ps sp) (h:∀O H Q E,J O H Q E->sp O H Q E):Cal P w K mg base k x ps J:=by
 obtain⟨f,fd,G,a,b,c⟩:=C
 exact⟨f,fd,G.imp h,a,b,c⟩
theorem Ado {X:Cx}{k:Nat}{x:Str}{ps:List Str}{sp:Sp}{p pos:Pos}{e:Expr}{es:List Expr}{t:TA}
 (C:Cal X.prog X.w X.K X.mg X.base k x ps sp) (U:Hi k X.A) (W:PA X (e::es) t) (Z:Gl X x:=by rfl) (J:(x==("__debug__":Str))=false:=by decide)
 (he:starEach (e::es) X.env=(false,eval e X.env)::starEach es X.env:=by rfl) (O:(backTo pos (starEach es X.env)).any (·.1)=false:=by rfl):
 PE X (.Call (.Name x p) (e::es) [] pos) (Qy sp [] E0 t):=by
 obtain⟨f,fd,G,a,b,c⟩:=C
 exact Aap G U Z a b c .nil Ako W J he O
noncomputable def Sz (n:Nat) (a:Int):Prop:=a.natAbs<2^n
variable {m n:Nat}
theorem Sz.mono {a:Int} (h:Sz m a) (l:m<=n):Sz n a:=bB h (Nat.pow_le_pow_right (by decide) l)
theorem Sz.mul {a b:Int} (h:Sz m a) (g:Sz n b):Sz (m+n) (a*b):=by
 unfold Sz at*
 rw [natAbs_mul,pow_add]
 exact Nat.mul_lt_mul'' h g
theorem Sz.add {a b:Int} (h:Sz m a) (g:Sz n b):Sz (max m n+1) (a+b):=by
 have h1:Sz (max m n) a:=h.mono (Nat.le_max_left _ _)
 have h2:Sz (max m n) b:=g.mono (Nat.le_max_right _ _)
 unfold Sz at*
 have:=Int.natAbs_add_le a b
 rw [Nat.pow_succ]
 omega
theorem Sz.neg {a:Int} (h:Sz n a):Sz n (-a):=by
 unfold Sz at*
 rw [Int.natAbs_neg]
 exact h
theorem Sz.sub {a b:Int} (h:Sz m a) (g:Sz n b):Sz (max m n+1) (a-b):=by
 rw [Int.sub_eq_add_neg]
 exact h.add g.neg
theorem Sz.of_abs {a b:Int} (h:Sz n b) (l:a.natAbs<=b.natAbs):Sz n a:=cN l h
theorem Sz.mulOk {a b:Int} (h:Sz m a) (g:Sz n b) (l:m+n<=134217728):IntMulOk a b:=
 IntMulOk.of_le (lI.mpr h) (lI.mpr g) l
theorem Sz.log2 {n:Nat}{a:Int} (h:Sz n a) (G:a≠0) (l:n<=9000):a.natAbs.log2<9000:=
 bB ((Nat.log2_lt (by omega)).mpr h) l
section
variable {X:Cx}{a b:Expr}{ta tb:TE}{pos:Pos}
theorem Dm:OpR X (binaryOp .Mult) (rI IntMulOk fun i j=> .int (i*j)):=opI fun _ _ _ _ _ _ _ G q=>mul_int q G
noncomputable def Afx (_ j:Int):Prop:=j≠0/\j.natAbs.log2<9000
theorem V4:OpR X (binaryOp .FloorDiv) (rI Afx fun i j=> .int (i.fdiv j)):=opI fun _ _ _ _ _ _ _ G q=>floordiv_int G.1 q (.inl (PyProof.noPylong_of_log2 G.2))
end
mutual
inductive RdD (K:Frag) (H:Hp):V->PyData->Prop where
 | non:RdD K H .non .none
 | bl (b:Bool):RdD K H (.bl b) (.bool b)
 | int (i:Int):RdD K H (.int i) (.int i)
 | str (x:Str):RdD K H (.str x) (.str x)
 | tup {a:Addr}{xs:List V}{ds:List PyData}:SqT K H a xs->Q8 K H xs ds->RdD K H (.ref a) (.tuple ds)
 | lst {a:Addr}{xs:List V}{ds:List PyData}:SqL K H a xs->Q8 K H xs ds->RdD K H (.ref a) (.list ds)
inductive Q8 (K:Frag) (H:Hp):List V->List PyData->Prop where
 | nil:Q8 K H [] []
 | cons {x:V}{d:PyData}{xs:List V}{ds:List PyData}:RdD K H x d->Q8 K H xs ds->Q8 K H (x::xs) (d::ds)
end
section
variable {X:Cx}{pins:List (Addr × Obj)}{σ:St}{H:Hp}{s:Shared}
mutual
theorem RdD.reads (I:Inv X pins σ H s):∀ {x:V}{d:PyData}{u:Value},RdD X.K H x d->RelV x u->∃as,Reads s.heap u d as
 | _,_,_,.non,r=>by cases r;exact⟨_,.none⟩
 | _,_,_,.bl b,r=>by cases r;exact⟨_,.bool b⟩
 | _,_,_,.int i,r=>by obtain⟨t,rfl⟩:=r;exact⟨_,.int i t⟩
 | _,_,_,.str x,r=>by obtain⟨t,rfl⟩:=r;exact⟨_,.str x t⟩
 | _,_,_,.tup hq hr,r=>by
   cases r
   obtain⟨its,rv,pl,hz⟩:=I.tuple hq
   obtain⟨as,q⟩:=Q8.reads I hr rv
   obtain⟨o,ho,hc,n,hd⟩:=pl
   exact⟨_,.tuple ho hc hd (by simpa using q)⟩
 | _,_,_,.lst hq hr,r=>by
   cases r
   obtain⟨its,rv,pl,hz⟩:=I.list hq
   obtain⟨as,q⟩:=Q8.reads I hr rv
   obtain⟨o,ho,hc,n,hd⟩:=pl.isList
   exact⟨_,.list ho hc hd (by simpa using q)⟩
theorem Q8.reads (I:Inv X pins σ H s):∀ {xs:List V}{ds:List PyData}{us:List Value},Q8 X.K H xs ds->Vals xs us->∃as,ReadsAll s.heap us ds as
 | _,_,_,.nil,r=>by cases r;exact⟨_,.nil⟩
 | _,_,_,.cons h t,r=>by
   cases r with
   | cons r1 r2=>
     obtain⟨as,q⟩:=RdD.reads I h r1
     obtain⟨bs,p⟩:=Q8.reads I t r2
     exact⟨_,.cons q p⟩
end
end
theorem Q8.ints {K:Frag}{H:Hp}:∀ns:List Int,Q8 K H (ns.map V.int) (ns.map PyData.int)
 | []=> .nil
 | n::r=> .cons (.int n) (Q8.ints r)
theorem RdD.ints {K:Frag}{H:Hp}{a:Addr}{ns:List Int} (h:SqT K H a (ns.map V.int)):RdD K H (.ref a) (.tuple (ns.map PyData.int)):= .tup h (.ints ns)
theorem RdD.lints {K:Frag}{H:Hp}{a:Addr}{ns:List Int} (h:SqL K H a (ns.map V.int)):RdD K H (.ref a) (.list (ns.map PyData.int)):= .lst h (.ints ns)
theorem Jj:∀ns ms:List Int,PyData.eqvAll (ns.map PyData.int) (ms.map PyData.int)=decide (ns=ms)
 | [],[]=>by simp [PyData.eqvAll]
 | [],_::_=>by simp [PyData.eqvAll]
 | _::_,[]=>by simp [PyData.eqvAll]
 | a::r,b::t=>by
   simp only [bC,PyData.eqvAll,PyData.eqv,Jj r t]
   by_cases h:a=b<;>by_cases h':r=t<;>simp [h,h']
theorem shaped_ints (ns:List Int):SeqAt.shaped (.tuple (ns.map PyData.int))=true:=by
 simp [SeqAt.shaped,PyData.canLay0,PyData.depth,lA,ke_depthAll]
section
variable {X:Cx}
noncomputable def Alk (K:Frag) (f:Bool->Bool):R2:=fun x y H Q=>∃d e,RdD K H x d/\RdD K H y e/\SeqAt.shaped d=true/\SeqAt.shaped e=true/\Q (.bl (f (PyData.eqv d e))) H
theorem Oq (G:X.A.units+64<cLine):OpR X (compareOp .Eq) (Alk X.K fun b=>b):=by
 intro pins s σ H x y v u Q I J O h
 obtain⟨d,e,U,W,Z,s2,q⟩:=h
 obtain⟨as,r1⟩:=RdD.reads I U J
 obtain⟨bs,r2⟩:=RdD.reads I W O
 exact eq_dataH r1 r2 Z s2 G ⟨.bl _,H,I,rfl,q⟩
theorem V5 (G:X.A.units+64<cLine):OpR X (compareOp .NotEq) (Alk X.K fun b=> !b):=by
 intro pins s σ H x y v u Q I J O h
 obtain⟨d,e,U,W,Z,s2,q⟩:=h
 obtain⟨as,r1⟩:=RdD.reads I U J
 obtain⟨bs,r2⟩:=RdD.reads I W O
 exact ne_dataH r1 r2 Z s2 G ⟨.bl _,H,I,rfl,q⟩
noncomputable def An0 (K:Frag) (f:Bool->Bool):R2:=fun x y H Q=>∃(a b:Addr) (ns ms:List Int),x= .ref a/\y= .ref b/\SqT K H a (ns.map V.int)/\SqT K H b (ms.map V.int)/\Q (.bl (f (decide (ns=ms)))) H
theorem Afb (G:X.A.units+64<cLine):OpR X (compareOp .Eq) (An0 X.K fun b=>b):=by
 intro pins s σ H x y v u Q I J O h
 obtain⟨a,b,ns,ms,rfl,rfl,U,W,q⟩:=h
 exact Oq G pins s σ H _ _ v u Q I J O ⟨_,_,.ints U,.ints W,shaped_ints _,shaped_ints _,by rw [PyData.eqv,Jj];exact q⟩
theorem Akl (G:X.A.units+64<cLine):OpR X (compareOp .NotEq) (An0 X.K fun b=> !b):=by
 intro pins s σ H x y v u Q I J O h
 obtain⟨a,b,ns,ms,rfl,rfl,U,W,q⟩:=h
 exact V5 G pins s σ H _ _ v u Q I J O ⟨_,_,.ints U,.ints W,shaped_ints _,shaped_ints _,by rw [PyData.eqv,Jj];exact q⟩
theorem Jh:Er X (.builtin "isinstance") (fun xs H Q=>∃x t T b,xs=[x,.ty T]/\S8 X.K H x t/\kitOne X.K t (.type T)=some b/\Q (.bl b) H):=by
 intro pins s σ H xs us Q I r h
 obtain⟨x,t,T,b,rfl,G,J,q⟩:=h
 obtain⟨u,c,rfl,O,U⟩:=vals2 r
 cases U
 exact Zv I O G J fun tk=>⟨.bl b,H,I.tok tk,rfl,q⟩
end
theorem Same.tup {K:Frag}{H H':Hp}{a:Addr}{xs:List V} (e:Same H H') (h:SqT K H a xs):SqT K H' a xs:=by
 rcases h with(h | ⟨o,h⟩) | h
 . exact .inl (.inl (e _ _ h))
 . exact .inl (.inr ⟨o,e _ _ h⟩)
 . exact .inr h
theorem Same.upd {H:Hp}{p:Addr} (h:H p=none) (o:HO):Same H (upd H p o):=fun b u q=>by
 rw [Ax (Ay q h)]
 exact q
section
variable {X:Cx}{K:Frag}{σ:St}{H:Hp}{Q:VK}{D:Ends}{B:Bool->Hp->Prop}
theorem Ao7 {t u:TS}:Amy t u D σ H=t { D with nx:=u D} σ H:=rfl
theorem Aml:Ah3 D σ H=D.nx σ H:=rfl
theorem Aov {c:TT}{t u:TS}:An8 c t u D σ H=c σ H (fun b H1=>if b=true then t D σ H1 else u D σ H1):=rfl
theorem Ao6 {te:TE}:Aod te D σ H=te σ H D.rt:=rfl
theorem Ama {te:TE}:Ah0 te D σ H=te σ H (fun _ H1=>D.nx σ H1):=rfl
theorem Aoi {te:TE}{g:TG}:Ad8 te g D σ H=te σ H (fun x H1=>g x σ H1 D.nx):=rfl
theorem Aij {i:Nat}{v:V}{R:St->Hp->Prop}:Mt i v σ H R=R (σ.set i (some v)) H:=rfl
theorem Ao4 {i j:Nat}{ta:TA}:Aoc i j ta D σ H=ta σ H (fun G H1=>∃v w,G=[v,w]/\D.nx ((σ.set i (some v)).set j (some w)) H1):=rfl
theorem Amq {v:V}{r:St}:Afq 0 (some v::r) H Q=Q v H:=propext ⟨fun⟨_,e,h⟩=>by cases e;exact h,fun h=>⟨v,rfl,h⟩⟩
theorem Amr {i:Nat}{o:Option V}{r:St}:Afq (i+1) (o::r) H Q=Afq i r H Q:=rfl
theorem z_c {v:V}:tC v σ H Q=Q v H:=rfl
theorem Apw {r:R2}{ta tb:TE}:tOp r ta tb σ H Q=ta σ H (fun x H1=>tb σ H1 fun y H2=>r x y H2 Q):=rfl
theorem Aq0 {r:V->Hp->VK->Prop}{ta:TE}:tUn r ta σ H Q=ta σ H (fun x H1=>r x H1 Q):=rfl
theorem Aqw {C:Int->Int->Prop}{g:Int->Int->V}{i j:Int}:rI C g (.int i) (.int j) H Q=(C i j/\Q (g i j) H):=
 propext ⟨fun⟨_,_,e,f,h⟩=>by cases e;cases f;exact h,fun h=>⟨i,j,rfl,rfl,h⟩⟩
theorem Ao5 {g:Int->Int->V}{i j:Int}:rI0 g (.int i) (.int j) H Q=Q (g i j) H:=
 propext ⟨fun⟨_,_,e,f,h⟩=>by cases e;cases f;exact h,fun h=>⟨i,j,rfl,rfl,h⟩⟩
theorem Aqx {g:Int->V}{i:Int}:rU g (.int i) H Q=Q (g i) H:=propext ⟨fun⟨_,e,h⟩=>by cases e;exact h,fun h=>⟨i,rfl,h⟩⟩
theorem Aon {i j:Int}:rEq (.int i) (.int j) H Q=Q (.bl (decide (i=j))) H:=by
 unfold rEq
 simp only [Air,V.int.injEq,true_and]
theorem Ao1 {i j:Int}:rNe (.int i) (.int j) H Q=Q (.bl (!decide (i=j))) H:=by
 unfold rNe
 simp only [Air,V.int.injEq,true_and]
theorem Aom {i j:Bool}:rEq (.bl i) (.bl j) H Q=Q (.bl (decide (i=j))) H:=by
 unfold rEq
 simp only [Air,V.bl.injEq,true_and]
theorem Ao0 {i j:Bool}:rNe (.bl i) (.bl j) H Q=Q (.bl (!decide (i=j))) H:=by
 unfold rNe
 simp only [Air,V.bl.injEq,true_and]
theorem Afv {t:TE}:Ah6 t σ H B=t σ H (fun x H'=>∃k,x= .bl k/\B k H'):=rfl
theorem Aqz {t:TE}:tB t σ H B=t σ H (fun x H'=>∃k,x= .bl k/\B k H'):=rfl
theorem Aop {b:Bool}{p:Bool->Prop}:(∃k,V.bl b= .bl k/\p k)=p b:=propext ⟨fun⟨_,e,h⟩=>by cases e;exact h,fun h=>⟨b,rfl,h⟩⟩
theorem Aor {b:Int}{p:Int->Prop}:(∃k,V.int b= .int k/\p k)=p b:=propext ⟨fun⟨_,e,h⟩=>by cases e;exact h,fun h=>⟨b,rfl,h⟩⟩
theorem Aoo {a b:V}{p:V->V->Prop}:(∃v w,[a,b]=[v,w]/\p v w)=p a b:=propext ⟨fun⟨_,_,e,h⟩=>by cases e;exact h,fun h=>⟨a,b,rfl,h⟩⟩
theorem Amb {b:Int}{p:Int->Prop}:(∃k,[V.int b]=[.int k]/\p k)=p b:=propext ⟨fun⟨_,e,h⟩=>by cases e;exact h,fun h=>⟨b,rfl,h⟩⟩
theorem Amc {a b:Int}{p:Int->Int->Prop}:(∃i j,[V.int a,V.int b]=[.int i,.int j]/\p i j)=p a b:=propext ⟨fun⟨_,_,e,h⟩=>by cases e;exact h,fun h=>⟨a,b,rfl,h⟩⟩
theorem Ao3 {t:TT}:Aob t σ H B=t σ H (fun c H1=>B (!c) H1):=rfl
theorem Aoh {t u:TT}:An5 t u σ H B=t σ H (fun c H1=>if c=true then u σ H1 B else B false H1):=rfl
theorem Aqv {t u:TT}:tOr t u σ H B=t σ H (fun c H1=>if c=true then B true H1 else u σ H1 B):=rfl
theorem Al3 {ta tb:TE}:Ahx ta tb σ H Q=ta σ H (fun x H1=>∃c,x= .bl c/\if c=true then tb σ H1 Q else Q (.bl false) H1):=rfl
theorem Amm {ta:TE}:Ah4 ta σ H Q=ta σ H (fun x H1=>∃c,x= .bl c/\Q (.bl (!c)) H1):=rfl
theorem Aqu {t:TT}{ta tb:TE}:tIf t ta tb σ H Q=t σ H (fun c H1=>if c=true then ta σ H1 Q else tb σ H1 Q):=rfl
theorem Al4 {sp:Sp}{dvs:List V}{E:XK}{t:TA}:Qy sp dvs E t σ H Q=t σ H (fun G H1=>sp (G++dvs) H1 Q E):=rfl
theorem Ao2 {R:List V->Hp->Prop}:Aoa σ H R=R [] H:=rfl
theorem Al6 {te:TE}{t:TA}{R:List V->Hp->Prop}:Ad9 te t σ H R=te σ H (fun x H1=>t σ H1 fun xs H2=>R (x::xs) H2):=rfl
theorem Aqs {r:List V->Hp->VK->Prop}{t:TA}:tCB r t σ H Q=t σ H (fun G H1=>r G H1 Q):=rfl
theorem Ao8 {t:TA}:Aoe t σ H Q=t σ H (fun xs H1=>xs.length<=sizeLine/\∀p,H1 p=none->Q (.ref p) (upd H1 p (.tup xs))):=rfl
theorem Aoz {t:TA}:An9 t σ H Q=t σ H (fun xs H1=>xs.length<=sizeLine/\∀p,H1 p=none->Q (.ref p) (upd H1 p (.lst xs))):=rfl
theorem Ip {a:Addr}{xs:List V}{i:Int}{v:V} (h:SqT K H a xs) (e:atI xs i=some v) (q:Q v H):An1 K (.ref a) (.int i) H Q:=⟨a,xs,i,v,rfl,rfl,h,e,q⟩
theorem Nr {a:Addr}{xs:List V}{i:Int}{v:V} (h:SqL K H a xs) (e:atI xs i=some v) (q:Q v H):Apo K (.ref a) (.int i) H Q:=⟨a,xs,i,v,rfl,rfl,h,e,q⟩
end
noncomputable def Ais (_ j:Int):Prop:=0<j/\j.natAbs.log2<9000
theorem G7 {X:Cx}:OpR X (binaryOp .FloorDiv) (rI Ais fun i j=> .int (i/j)):=opI fun i j _ _ _ _ _ G q=>by
 have h:j≠0:=by have:=G.1;omega
 refine floordiv_int h ?_ (.inl (PyProof.noPylong_of_log2 G.2))
 rw [gT _ (Int.le_of_lt G.1)]
 exact q
theorem Alv:(1:Nat)<=sizeLine:=by decide
theorem Alw:(2:Nat)<=sizeLine:=by decide
noncomputable def clF (env:Env) (cs:List (Str × Addr)) (x:Str × NameKind):List (Str × Addr):=if x.2== .free then(x.1,(env.cells.lookup x.1).getD 0)::cs else cs
theorem W4 {scope:Scope}{env:Env} (h:∀x∈scope.names,x.2= .free->∃c,env.cells.lookup x.1=some c):closureFor scope env=pure (scope.names.foldl (clF env) []):=by
 unfold closureFor
 have O:∀(names:List (Str × NameKind)) (G:List (Str × Addr)),(∀x∈names,x.2= .free->∃c,env.cells.lookup x.1=some c)->
  (forIn names G (fun(x:Str × NameKind) (cs:List (Str × Addr))=>(if x.2== .free then(do let c<-cellOf env x.1;pure (ForInStep.yield ((x.1,c)::cs)))else pure (ForInStep.yield cs):Sem (ForInStep (List (Str × Addr))))))=(pure (names.foldl (clF env) G):Sem (List (Str × Addr))):=by
  intro names
  induction names with
  | nil=>intro G _;rfl
  | cons x r ih=>
    intro G U
    rw [iC,jC]
    by_cases J:x.2= .free
    . obtain⟨c,hc⟩:=U x cY J
      have e1:cellOf env x.1=pure c:=by unfold cellOf;rw [hc]
      have W:clF env G x=(x.1,c)::G:=by unfold clF;rw [J,hc];rfl
      rw [W,<-ih _ fun y Z=>U y (cI _ Z)]
      rw [J,e1]
      rfl
    . have e0:(x.2==NameKind.free)=false:=by simpa using J
      have W:clF env G x=G:=by unfold clF;rw [e0];rfl
      rw [W,<-ih _ fun y Z=>U y (cI _ Z),e0]
      rfl
 exact(bE (fun m=>m>>=fun r=>pure r) (O scope.names [] h)).trans (by rfl)
theorem Pa {env:Env}:∀(names:List (Str × NameKind)) (G:List (Str × Addr)) (y:Str) (c:Addr),(∀x∈names,x.2= .free->∃c,env.cells.lookup x.1=some c)->(names.foldl (clF env) G).lookup y=some c->G.lookup y=some c\/env.cells.lookup y=some c
 | [],_,_,_,_,h=> .inl h
 | x::r,G,y,c,hx,h=>by
   rw [jC]at h
   rcases Pa r _ y c (fun z U=>hx z (cI _ U)) h with h1 | h1
   . unfold clF at h1
     by_cases J:x.2= .free
     . obtain⟨d,O⟩:=hx x cY J
       rw [J,O]at h1
       change List.lookup y ((x.1,d)::G)=some c at h1
       rw [dD]at h1
       cases hy:y==x.1 with
       | true=>
         rw [hy]at h1
         have:y=x.1:=by simpa using hy
         subst this
         exact .inr (O.trans h1)
       | false=>
         rw [hy]at h1
         exact .inl h1
     . have W:(x.2==NameKind.free)=false:=by simpa using J
       rw [W]at h1
       exact .inl h1
   . exact .inr h1
theorem O9 {env:Env}:∀(names:List (Str × NameKind)) (G:List (Str × Addr)) (y:Str),((∃x∈names,x.2= .free/\x.1=y)\/∃c,G.lookup y=some c)->∃c,(names.foldl (clF env) G).lookup y=some c
 | [],_,_,h=>by
   rcases h with⟨_,h,_⟩ | h
   . cases h
   . exact h
 | x::r,G,y,h=>by
   rw [jC]
   apply O9 r
   rcases h with⟨z,O,J,rfl⟩ | ⟨c,U⟩
   . rcases aS.mp O with rfl | O
     . refine .inr ⟨(env.cells.lookup z.1).getD 0,?_⟩
       unfold clF
       rw [J]
       show List.lookup z.1 ((z.1,_)::G)=_
       rw [dD]
       simp
     . exact .inl ⟨z,O,J,rfl⟩
   . refine .inr ?_
     unfold clF
     by_cases J:x.2= .free
     . rw [J]
       show ∃c,List.lookup y ((x.1,_)::G)=some c
       rw [dD]
       cases y==x.1 with
       | true=>exact⟨_,rfl⟩
       | false=>exact⟨c,U⟩
     . have W:(x.2==NameKind.free)=false:=by simpa using J
       rw [W]
       exact⟨c,U⟩
theorem Rr {prog:Program}{w:World}{A:Around}{R:Result->Shared->Prop}{s:Shared}{elt target iter:Expr}{ifs:List Expr}{scope:Scope}{pos:Pos}{it a3:Value}{env:Env} (I:Nat->Shared->Prop)
 (a4:∀n s,I n s->wpAny (model prog w) A (pyNext it) (fun r G=>match r with
   | none=>R (.ok .next) G
   | some v=>wpAny (model prog w) A (letOwnedTupleGo target it v) (fun _ O=>wpAny (model prog w) A (assign target env v) (fun _ U=>
      wpAny (model prog w) A (forIn ifs true fun c r=>if r=true then do let ok<-isTrue c env (eval c env);pure (ForInStep.yield ok)else pure (ForInStep.yield r)) (fun ok J=>
       if ok=true then wpAny (model prog w) A (eval elt env) (fun x W=>
        wpAny (model prog w) A (call (.builtin "list.append") [a3,x]) (fun _ Z=>∃m,m<n/\I m Z) (fun _ _=>False) W) (fun _ _=>False) J
       else ∃m,m<n/\I m J) (fun _ _=>False) U) (fun _ _=>False) O) (fun _ _=>False) G) (fun _ _=>False) s)
 (n:Nat) (h:I n s):
 codeAny (model prog w) A (.compLoop (.ListComp elt [⟨target,iter,ifs,0⟩] scope pos) 0 it a3 env) R s:=by
 have no:∀(x:Value) (s':Shared),False->notedBy (model prog w) A env (fun e s'=>R (.error e) s') x s':=fun _ _ z=>z.elim
 refine codeAny_loop rfl I (fun n s hI=> ?_) n h
 show wpAny _ A ((compTurn (.ListComp elt [⟨target,iter,ifs,0⟩] scope pos) 0 it a3 env).onRaise (fun x=>do noteFrame x env;theTreesLotGoes x)) _ _ s
 refine wpAny_noted ?_
 rw [compTurn_list]
 refine aA (jJ (aA (bP (a4 n s hI) (fun r G a1=> ?_) no)))
 cases r with
 | none=>exact aD a1
 | some v=>
   refine aA (bP a1 (fun _ O a5=> ?_) no)
   refine aA (bP a5 (fun _ U a6=>aA (bP a6 (fun ok J a2=> ?_) no)) no)
   cases ok with
   | false=>exact aD ⟨rfl,a2⟩
   | true=>
     exact aA (aA (bP a2 (fun x W a7=>aA (bP a7 (fun _ Z a8=>aD (aD ⟨rfl,a8⟩)) no)) no))
structure J3 (X:Cx) (ts:List Str) (fs:List (Nat × Str)) (scope:Scope):Prop where
 kind:scope.kind= .function
 cell:∀y∈scope.names,y.2≠ .cell
 names:∀y∈scope.names,y.2= .local ->scope.names.lookup y.1=some .local
 free:∀y∈scope.names,y.2= .free->X.env.kindOf y.1=some .cell\/X.env.kindOf y.1=some .free
 at':∀p∈fs,X.N[p.1]? =some p.2/\(p.2,NameKind.free)∈scope.names/\((relabel scope X.env).names.lookup p.2=some .cell\/(relabel scope X.env).names.lookup p.2=some .free)
noncomputable def rlb (sc scope:Scope):List (Str × NameKind):=scope.names.map fun(n,k)=>if(k==NameKind.free&&sc.kind== .function&&sc.names.lookup n==some .cell)then(n,NameKind.cell)else(n,k)
noncomputable def Apk (sc:Scope) (N:List Str) (fs:List (Nat × Str)) (scope:Scope):Bool:=
 (scope.kind== .function)&&(scope.names.all fun y=>y.2 != .cell)&&(scope.names.all fun y=>y.2 != .local ||scope.names.lookup y.1==some .local)&&
 (scope.names.all fun y=>y.2 != .free||(sc.names.lookup y.1==some .cell||sc.names.lookup y.1==some .free))&&
 fs.all fun p=>N[p.1]? ==some p.2&&(scope.names.contains (p.2,NameKind.free)&&((rlb sc scope).lookup p.2==some .cell||(rlb sc scope).lookup p.2==some .free))
theorem J3.of {X:Cx}{ts:List Str}{fs:List (Nat × Str)}{scope sc:Scope}{N:List Str} (J:X.env.scope=sc) (O:X.N=N) (h:Apk sc N fs scope=true):J3 X ts fs scope:=by
 unfold Apk at h
 simp only [cD,gU,Bool.or_eq_true,bne_iff_ne,kO,iS]at h
 obtain⟨⟨⟨⟨h1,h2⟩,U⟩,W⟩,Z⟩:=h
 refine⟨h1,h2,fun y G e=> ?_,fun y G e=> ?_,fun p hp=> ?_⟩
 . rcases U y G with z | z
   . exact absurd e z
   . exact z
 . rcases W y G with z | z
   . exact absurd e z
   . show X.env.scope.names.lookup y.1=_\/X.env.scope.names.lookup y.1=_
     rw [J]
     exact z
 . obtain⟨a,b,c⟩:=Z p hp
   refine⟨by rw [O];exact a,b,?_⟩
   subst J
   exact c
noncomputable def cpN (ts:List Str) (fs:List (Nat × Str)):List Str:=ts++fs.map (·.2)
noncomputable def cpσ (n:Nat) (fs:List (Nat × Str)) (σ:St):St:=replicate n none++fs.map fun p=>(σ[p.1]?).join
theorem Hx {env:Env}{x:Str}{J:NameKind}:∀ {names:List (Str × NameKind)},(names.map fun(n,k)=>if(k==NameKind.free&&env.scope.kind== .function&&env.kindOf n==some .cell)then(n,NameKind.cell)else(n,k)).lookup x=some J->
 ∃k,(x,k)∈names/\(J=k\/(k= .free/\J= .cell))
 | [],h=>by simp at h
 | (n,k)::r,h=>by
   rw [bC]at h
   dsimp only at h
   by_cases G:(k==NameKind.free&&env.scope.kind== .function&&env.kindOf n==some .cell)=true
   . rw [aI G,dD]at h
     cases hx:x==n with
     | true=>
       rw [hx]at h
       have e:x=n:=by simpa using hx
       subst e
       have O:k= .free:=by
        rw [cD,cD]at G
        simpa using G.1.1
       exact⟨k,cY,.inr ⟨O,(aY h).symm⟩⟩
     | false=>
       rw [hx]at h
       obtain⟨k2,h1,h2⟩:=Hx h
       exact⟨k2,cI _ h1,h2⟩
   . rw [aF G,dD]at h
     cases hx:x==n with
     | true=>
       rw [hx]at h
       have e:x=n:=by simpa using hx
       subst e
       exact⟨k,cY,.inl (aY h).symm⟩
     | false=>
       rw [hx]at h
       obtain⟨k2,h1,h2⟩:=Hx h
       exact⟨k2,cI _ h1,h2⟩
noncomputable def PTs (X:Cx) (ifs:List Expr) (t:TT):Prop:=
 ∀(pins:List (Addr × Obj)) (s:Shared) (σ:St) (H:Hp) (B:Bool->Hp->Prop),Inv X pins σ H s->t σ H B->
   wpAny (model X.prog X.w) X.A (forIn ifs true fun c r=>if r=true then do let ok<-isTrue c X.env (eval c X.env);pure (ForInStep.yield ok)else pure (ForInStep.yield r)) (TP X pins σ B) X.xe s
noncomputable def J2:TT:=fun _ H B=>B true H
theorem Ahi {X:Cx}:PTs X [] J2:=fun _ _ _ H _ I h=>aD ⟨H,I,h⟩
theorem Ahj {X:Cx}{c:Expr}{t:TT} (h:PT X c t):PTs X [c] t:=by
 intro pins s σ H B I G
 rw [iC]
 simp only [fW]
 refine aA (aA (thn (h pins s σ H B I G) fun b J q=>aD ?_))
 exact aD q
noncomputable def Kp (σ σ':St):Prop:=σ'.length=σ.length/\∀(i:Nat) v,σ[i]? =some (some v)->σ'[i]? =some (some v)
noncomputable def cIn (J:It) (cσ:St) (g:TG) (tt:TT) (te:TE) (Q:VK) (H1:Hp) (p:Addr):Prop:=∃W:Nat->Nat->List V->Hp->Prop,(∃m,W 0 m [] (upd H1 p (.lst [])))/\∀i m acc H2,W i m acc H2->
 (J.stop i H2/\Q (.ref p) H2)\/(J.go i H2/\∀x H3,J.yld i H2 x H3->g x cσ H3 fun σ4 H4=>Kp cσ σ4/\tt σ4 H4 fun b H5=>
   if b=true then te σ4 H5 fun y H6=>H6 p=some (.lst acc)/\acc.length<sizeLine/\∃m',m'<m/\W (i+1) m' (acc++ [y]) (upd H6 p (.lst (acc++ [y])))else ∃m',m'<m/\W (i+1) m' acc H5)
noncomputable def X7 (n:Nat) (fs:List (Nat × Str)) (wi:TI) (g:TG) (tt:TT) (te:TE):TE:=fun σ H Q=>wi σ H fun J H1=>∀p,H1 p=none->cIn J (cpσ n fs σ) g tt te Q H1 p
section
variable {X:Cx}{elt tg iter:Expr}{ifs:List Expr}{scope:Scope}{pos:Pos}{wi:TI}{g:TG}{tt:TT}{te:TE}{ts:List Str}{fs:List (Nat × Str)}
theorem J3.clos (S:J3 X ts fs scope) (ok:X.Ok):∀x∈scope.names,x.2= .free->∃c,X.env.cells.lookup x.1=some c:=fun x G J=>ok.has x.1 (S.free x G J)
theorem J3.sub (S:J3 X ts fs scope) (ok:X.Ok) {y:Str}{c:Addr} (h:(scope.names.foldl (clF X.env) []).lookup y=some c):X.env.cells.lookup y=some c:=by
 rcases Pa scope.names [] y c (S.clos ok) h with z | z
 . simp at z
 . exact z
theorem Inv.fade {pins:List (Addr × Obj)}{σ G:St}{H:Hp}{s:Shared} (I:Inv X pins G H s) (k:Kp σ G):Inv X pins σ H s:=by
 refine⟨I.ok,I.os,I.bare,I.base,?_,I.cell,I.free,I.freeC,I.pin,I.hok,k.1.symm.trans I.len⟩
 obtain⟨m,J,O⟩:=I.loc
 exact⟨m,J,fun i x v h1 h2 U=>O i x v h1 (k.2 i v h2) U⟩
end
section
variable {K:Frag}{H1:Hp}{p:Addr}{cσ:St}{g:TG}{te:TE}{Q:VK}{α:Type}{es:List α}{inj:α->V}
noncomputable def Wk (J:It) (H1:Hp) (es:List α) (inj:α->V):Prop:=∀i H',Same H1 H'->(es[i]? =none->J.stop i H')/\∀e,es[i]? =some e->J.go i H'/\∀x H3,J.yld i H' x H3->H3=H'/\x=inj e
theorem Q7 {a:Addr} (h:SqL K H1 a (es.map inj)):Wk (Itl K a) H1 es inj:=fun i H' s=>by
 have h':=s.seq h
 refine⟨fun e=>⟨_,h',?_⟩,fun e G=>⟨⟨_,inj e,h',by rw [aN,G];rfl⟩,fun x U ⟨J,O⟩=>⟨J,?_⟩⟩⟩
 . rw [aC]
   exact bS.mp e
 . have z:=O _ h'
   rw [aN,G]at z
   exact(aY z).symm
theorem K8 {a:Addr} (h:SqT K H1 a (es.map inj)):Wk (Itt K a) H1 es inj:=fun i H' s=>by
 have h':=s.tup h
 refine⟨fun e=>⟨_,h',?_⟩,fun e G=>⟨⟨_,inj e,h',by rw [aN,G];rfl⟩,fun x U ⟨J,O⟩=>⟨J,?_⟩⟩⟩
 . rw [aC]
   exact bS.mp e
 . have z:=O _ h'
   rw [aN,G]at z
   exact(aY z).symm
theorem Io {lo:Int}{n:Nat}:Wk (Itr lo n) H1 (List.range n) (fun i=> .int (lo+(i:Nat))):=fun i H' s=>by
 refine⟨fun e=> ?_,fun e G=> ?_⟩
 . have:=bS.mp e
   show n<=i
   simpa using this
 . obtain⟨h,z⟩:=aW.mp G
   have hi:i<n:=by simpa using h
   have J:i=e:=by simpa using z
   subst J
   exact⟨hi,fun x W ⟨O,U⟩=>⟨O,U⟩⟩
theorem Fj {J:It} (f:α->V) (hz:es.length<=sizeLine) (hp:H1 p=none) (hJ:Wk J H1 es inj)
 (step:∀e H' R,e∈es->Same H1 H'->(∀U,Same H' U->R (f e) U)->g (inj e) cσ H' fun G O=>Kp cσ G/\te G O R)
 (Z:∀H',Same H1 H'->H' p=some (.lst (es.map f))->Q (.ref p) H'):cIn J cσ g J2 te Q H1 p:=by
 have su:∀ {H':Hp}{o:HO},Same H1 H'->Same H1 (upd H' p o):=fun {H' o} s b u e=>by
  rw [Ax (Ay e hp)]
  exact s b u e
 refine⟨fun i m W H'=>m=es.length-i/\i<=es.length/\W=(es.take i).map f/\H' p=some (.lst W)/\Same H1 H',⟨es.length,by simp,cH _,by simp,Af,su (Same.refl _)⟩,?_⟩
 rintro i m W H' ⟨rfl,hi,rfl,hH,s⟩
 cases he:es[i]? with
 | none=>
   have hl:=bS.mp he
   have e:i=es.length:=fJ hi hl
   subst e
   rw [fU]at hH
   exact .inl ⟨(hJ _ _ s).1 he,Z _ s hH⟩
 | some e=>
   obtain⟨go,yl⟩:=(hJ _ _ s).2 e he
   refine .inr ⟨go,fun x H3 y=> ?_⟩
   obtain⟨rfl,rfl⟩:=yl x H3 y
   obtain⟨a1,e'⟩:=aW.mp he
   have tk:es.take (i+1)=es.take i++ [e]:=by rw [iM,he];rfl
   have q:=step e H3 (fun y U=>U p=some (.lst ((es.take i).map f))/\((es.take i).map f).length<sizeLine/\∃m',m'<es.length-i/\m'=es.length-(i+1)/\i+1<=es.length/\(es.take i).map f++ [y]=(es.take (i+1)).map f/\
    upd U p (.lst ((es.take i).map f++ [y])) p=some (.lst ((es.take i).map f++ [y]))/\Same H1 (upd U p (.lst ((es.take i).map f++ [y])))) (dR he) s
    (fun U s6=>⟨s6 _ _ hH,by rw [aC,bV];omega,_,by omega,rfl,a1,by rw [tk,aQ];rfl,Af,su (s.trans s6)⟩)
   have eq:∀(R:VK) (B:Hp->Prop),(fun G O=>Kp cσ G/\J2 G O fun b H5=>if b=true then te G H5 R else B H5)=(fun G O=>Kp cσ G/\te G O R):=fun R B=>by
    funext G O
    show(Kp cσ G/\if true=true then te G O R else B O)=_
    rw [aI rfl]
   rw [eq]
   exact q
end
section
variable {X:Cx}{K:Frag}{σ:St}{H:Hp}{Q:VK}{R:It->Hp->Prop}
theorem Al5 {n:Nat}{fs:List (Nat × Str)}{wi:TI}{g:TG}{tt:TT}{te:TE}:X7 n fs wi g tt te σ H Q=wi σ H (fun J H1=>∀p,H1 p=none->cIn J (cpσ n fs σ) g tt te Q H1 p):=rfl
theorem Amp {ta:TA}:Agi ta σ H R=ta σ H (fun G H1=>∃j:Int,G=[.int j]/\ -(2^62)<=j/\j<2^62/\R (Itr 0 j.toNat) H1):=rfl
theorem Aik {tl:TE}:Agh K tl σ H R=tl σ H (fun x H1=>∃a,x= .ref a/\(∃xs,SqL K H1 a xs)/\R (Itl K a) H1):=rfl
theorem Amj {tl:TE}:Anh K tl σ H R=tl σ H (fun x H1=>∃a,x= .ref a/\(∃xs,SqT K H1 a xs)/\R (Itt K a) H1):=rfl
theorem Aos {a:Addr}{p:Addr->Prop}:(∃b,V.ref a= .ref b/\p b)=p a:=propext ⟨fun⟨_,e,h⟩=>by cases e;exact h,fun h=>⟨a,rfl,h⟩⟩
theorem Aox {v:Option V}{r:St}:Kp (none::r) (v::r)=True:=by
 refine eq_true ⟨rfl,fun i u e=> ?_⟩
 cases i with
 | zero=>cases e
 | succ i=>exact e
theorem Aoy {v G:Option V}{r:St}:Kp (none::none::r) (v::G::r)=True:=by
 refine eq_true ⟨rfl,fun i u e=> ?_⟩
 cases i with
 | zero=>cases e
 | succ i=>
   cases i with
   | zero=>cases e
   | succ i=>exact e
theorem Ami {k:Bool}{p:Int->Prop}{q:Bool->Prop}:((∃i,[V.bl k]=[V.int i]/\p i)\/∃G,[V.bl k]=[V.bl G]/\q G)=q k:=
 propext ⟨fun h=>h.elim (fun⟨_,e,_⟩=>by cases e) fun⟨_,e,h⟩=>by cases e;exact h,fun h=> .inr ⟨k,rfl,h⟩⟩
end
noncomputable def FI (J:It) (g:TG) (tb:TS) (D:Ends) (σ:St) (H:Hp):Prop:=∃W:Nat->Nat->St->Hp->Prop,(∃m,W 0 m σ H)/\∀i m σ H,W i m σ H->
 (J.stop i H/\D.nx σ H)\/(J.go i H/\∃N:St->Hp->Prop,(∀σ' H',N σ' H'->∃m',m'<m/\W (i+1) m' σ' H')/\∀x H',J.yld i H x H'->g x σ H' fun σ2 H2=>tb { D with nx:=N,ct:=N,bk:=D.nx} σ2 H2)
theorem Aot {wi:TI}{g:TG}{tb:TS}{D:Ends}{σ:St}{H:Hp}:An7 wi g tb D σ H=wi σ H (fun J H1=>FI J g tb D σ H1):=rfl
section
variable {K:Frag}{σ:St}{H:Hp}{g:TG}{tb:TS}{D:Ends}{α:Type}{es:List α}{inj:α->V}
noncomputable def Aen (J:It) (H:Hp) (es:List α) (inj:α->V):Prop:=∀i,(es[i]? =none->J.stop i H)/\∀e,es[i]? =some e->J.go i H/\∀x H3,J.yld i H x H3->H3=H/\x=inj e
theorem Gw {a:Addr} (h:SqL K H a (es.map inj)):Aen (Itl K a) H es inj:=fun i=>Q7 h i H (Same.refl _)
theorem Lp {a:Addr} (h:SqT K H a (es.map inj)):Aen (Itt K a) H es inj:=fun i=>K8 h i H (Same.refl _)
theorem Gx {lo:Int}{n:Nat}:Aen (Itr lo n) H (List.range n) (fun i=> .int (lo+(i:Nat))):=fun i=>Io i H (Same.refl _)
theorem Mr {J:It} (O:List α->St->Hp->Prop) (h0:O [] σ H) (hw:∀G σ H,O G σ H->Aen J H es inj)
 (hs:∀G e U σ H,es=G++e::U->O G σ H->g (inj e) σ H fun Z H2=>tb { D with nx:=O (G++ [e]),ct:=O (G++ [e]),bk:=D.nx} Z H2) (hd:∀σ H,O es σ H->D.nx σ H):FI J g tb D σ H:=by
 refine⟨fun i m σ H=>m=es.length-i/\i<=es.length/\O (es.take i) σ H,⟨es.length,by simp,cH _,h0⟩,?_⟩
 rintro i m σ H ⟨rfl,hi,p⟩
 have w:=hw _ _ _ p i
 cases he:es[i]? with
 | none=>
   have e:i=es.length:=fJ hi (bS.mp he)
   subst e
   rw [fU]at p
   exact .inl ⟨w.1 he,hd _ _ p⟩
 | some e=>
   obtain⟨W,ee⟩:=aW.mp he
   have tk:es.take (i+1)=es.take i++ [e]:=by rw [iM,he];rfl
   have sp:es=es.take i++e::es.drop (i+1):=by
    rw [<-ee,<-gZ W,dE]
   refine .inr ⟨(w.2 e he).1,O (es.take i++ [e]),fun a1 H' q=>⟨es.length-(i+1),by omega,rfl,W,by rw [tk];exact q⟩,fun x H' y=> ?_⟩
   obtain⟨rfl,rfl⟩:=(w.2 e he).2 x H' y
   exact hs _ e _ σ H' sp p
end
section
variable {K:Frag}{σ:St}{H:Hp}{Q:VK}
theorem Aqy {r:V->Option Int->Option Int->Hp->VK->Prop}{te:TE}{tl th:TO}:tSl r te tl th σ H Q=te σ H (fun x H1=>tl σ H1 fun l H2=>th σ H2 fun u G=>r x l u G Q):=rfl
theorem Aei {R:Option Int->Hp->Prop}:Va σ H R=R none H:=rfl
theorem Amo {t:TE}{R:Option Int->Hp->Prop}:Ah5 t σ H R=t σ H (fun x H1=>∃i,x= .int i/\R (some i) H1):=rfl
theorem Aok {T:String}{r:V->List V->Hp->VK->Prop}{to:TE}:An6 K T r to σ H Q=to σ H (fun x H1=>tyV K T x H1/\r x [] H1 Q):=rfl
theorem Aqr {T:String}{r:V->List V->Hp->VK->Prop}{to:TE}{t:TA}:tBM K T r to t σ H Q=to σ H (fun x H1=>tyV K T x H1/\t σ H1 fun xs H2=>r x xs H2 Q):=rfl
end
section
variable {CX:CXT}{P:Program}{w:World}{K:Frag}{mg:Str->Option Value}{base:Heap}{N:List Str}{qual:Str}{scope:Scope}{f:Addr}{cd:Value}{A:Around}{outer:List Env}{s:Shared}{H H1 H2:Hp}{E:XK}{Q:VK}{a b:Addr}{ns ms:List Int}{g:Bool->Bool}
theorem Aol:(Mp CX P w K mg base N qual scope f cd A outer s H E).K=K:=rfl
theorem Amn:(Mp CX P w K mg base N qual scope f cd A outer s H E).nox.K=K:=rfl
theorem K7 (ns:List Int):SeqAt.shaped (.list (ns.map PyData.int))=true:=by
 simp [SeqAt.shaped,PyData.canLay0,PyData.depth,lA,ke_depthAll]
theorem Acx (G:SqL K H a (ns.map V.int)) (J:SqL K H b (ms.map V.int)) (h:Q (.bl (g (decide (ns=ms)))) H):Alk K g (.ref a) (.ref b) H Q:=
 ⟨_,_,.lints G,.lints J,K7 _,K7 _,by rw [PyData.eqv,Jj];exact h⟩
end
section
variable {c:TT}{tb:TS}{D:Ends}{σ:St}{H:Hp}
noncomputable def WB (Pv:St->Hp->Prop) (μ:St->Hp->Nat) (tb:TS) (D:Ends) (n:Nat) (σ:St) (H:Hp):Prop:=
 ∃N:St->Hp->Prop,(∀σ' H',N σ' H'->∃m',m'<n/\(m'=μ σ' H'/\Pv σ' H'))/\tb { D with nx:=N,ct:=N,bk:=D.nx} σ H
theorem Aid {J:St->Hp->Prop}{O:St->Hp->Nat}{n:Nat} (h:tb { D with nx:=fun G H'=>J G H'/\O G H'<n,ct:=fun G H'=>J G H'/\O G H'<n,bk:=D.nx} σ H):WB J O tb D n σ H:=
 ⟨_,fun _ _ ⟨p,l⟩=>⟨_,l,rfl,p⟩,h⟩
theorem Q6 (G:St->Hp->Prop) (J:St->Hp->Nat) (O:G σ H) (U:∀σ H,G σ H->c σ H fun b H1=>if b=true then WB G J tb D (J σ H) σ H1 else D.nx σ H1):Wo c tb D σ H:=by
 refine⟨fun m σ H=>m=J σ H/\G σ H,⟨_,rfl,O⟩,?_⟩
 rintro m σ H ⟨rfl,p⟩
 exact U σ H p
end
theorem Amd {a:Addr}{p:Addr->Prop}:(∃b,[V.ref a]=[.ref b]/\p b)=p a:=propext ⟨fun⟨_,e,h⟩=>by cases e;exact h,fun h=>⟨a,rfl,h⟩⟩
section
variable {K:Frag}{σ:St}{H:Hp}{Q:St->Hp->Prop}{R:VK}{p a b:Addr}{v w:V}{i j:Nat}{xs:List V}{ns ms:List Int}{f:Bool->Bool}
theorem Dd (h:SqT K H p [v,w]) (q:Q ((σ.set i (some v)).set j (some w)) H):Ajr K 2 (Ac3 (Mt i) (Ac3 (Mt j) Anb)) (.ref p) σ H Q:=⟨p,_,rfl,h,rfl,v,_,rfl,w,_,rfl,rfl,q⟩
theorem Amf {to G:TE}{t:Aiw}:Anc to G t v σ H Q=to σ H (fun o H1=>G σ H1 fun i H2=>t o i v H2 fun J=>Q σ J):=rfl
theorem Ane {G:Hp->Prop} (J:H p=some (.lst xs)) (O:j<xs.length) (q:G (upd H p (.lst (xs.set j v)))):Aln (.ref p) (.int (j:Nat)) v H G:=by
 refine⟨p,xs,j,j,rfl,rfl,J,?_,q⟩
 unfold ixN
 rw [aI (by omega),aI (by omega),cT]
theorem Pj (G:SqT K H a (ns.map V.int)) (J:SqT K H b (ms.map V.int)) (h:R (.bl (f (decide (ns=ms)))) H):An0 K f (.ref a) (.ref b) H R:=⟨a,b,ns,ms,rfl,rfl,G,J,h⟩
end
section
variable {prog:Program}{w:World}{A:Around}{E:Value->Shared->Prop}{s:Shared}{j u:Addr}{i:Nat}{xs:Array Value}
theorem nextT {y:Value}{Q:Value->Shared->Prop} (J:s.heap.IsTupleIter j u i) (O:s.heap.IsTuple u xs) (U:xs[i]? =some y)
 (k:∀g,g.IsTupleIter j u (i+1)->Heap.SameBut j s.heap g->Q y { s with heap:=g}):wpAny (model prog w) A (Builtin.SmallTypes.nextOf (.ref j)) Q E s:=by
 obtain⟨oj,ej,W,G⟩:=id J
 obtain⟨ou,Z,_,nu,du⟩:=O
 unfold Builtin.SmallTypes.nextOf
 refine aA (cB (name:=Str.ofString "__next__") J.typeIs iB (bZ iB J.typeIs F.entry_tuple_iterator_next ?_ (F.args_tuple_iterator_next_1 _)))
 show wpAny _ _ (field (.ref j) 0>>=_) _ _ s
 refine aA (cG ej G (x:= .ref u) rfl ?_)
 show wpAny _ _ (if(Value.ref u==Value.none)=true then _ else _) _ _ s
 rw [aF (show ¬((Value.ref u==Value.none)=true)from aV)]
 show wpAny _ _ (field (.ref j) 1>>=_) _ _ s
 refine aA (cG ej G (x:= .int i 0) rfl ?_)
 show wpAny _ _ (seqItems? (.ref u)>>=_) _ _ s
 refine aA (dQ Z du ?_)
 simp only [U,cT]
 refine aA (iX ej G (by simp) (aD ⟨y,rfl,aD (k _ ?_ (iJ ..))⟩))
 exact⟨_,eO _ ej (Obj.isFreed_of_fields (kH G _)),(Obj.cls_mapFields ..).trans W,by rw [kH G];simp [rawInt]⟩
theorem R3 {Q:Value->Shared->Prop} (O:A.handled=none) (G:s.heap.IsTupleIter j u i) (U:s.heap.IsTuple u xs) (W:xs[i]? =none)
 (k:∀g e,Heap.ExtBut j s.heap g->(∃o,g.get? e=some o/\o.cls= .type "StopIteration")->E (.ref e) { s with heap:=g}):wpAny (model prog w) A (Builtin.SmallTypes.nextOf (.ref j)) Q E s:=by
 obtain⟨oj,ej,cj,J⟩:=id G
 obtain⟨ou,Z,_,nu,du⟩:=U
 unfold Builtin.SmallTypes.nextOf
 refine aA (cB (name:=Str.ofString "__next__") G.typeIs iB (bZ iB G.typeIs F.entry_tuple_iterator_next ?_ (F.args_tuple_iterator_next_1 _)))
 show wpAny _ _ (field (.ref j) 0>>=_) _ _ s
 refine aA (cG ej J (x:= .ref u) rfl ?_)
 show wpAny _ _ (if(Value.ref u==Value.none)=true then _ else _) _ _ s
 rw [aF (show ¬((Value.ref u==Value.none)=true)from aV)]
 show wpAny _ _ (field (.ref j) 1>>=_) _ _ s
 refine aA (cG ej J (x:= .int i 0) rfl ?_)
 show wpAny _ _ (seqItems? (.ref u)>>=_) _ _ s
 refine aA (dQ Z du ?_)
 simp only [W,cT]
 refine aA (jE (aA (iX ej J (by simp) ?_)))
 show wpAny _ A.in1 (newExc (.type "StopIteration") []>>=_) _ _ _
 refine aA ?_
 simp only [newTuple,newExc]
 refine aA (bX ?_ (by size_fits))
 refine aA (m:=firstArgMember _ _) (wpAny_of_eq (a:=Value.none) (by first | rfl | (simp only [firstArgMember];rfl)) ?_)
 refine(bX ?_ (by size_fits))
 simp only [raiseNew]
 refine aA (wpAny_handled ?_)
 first | rw [show A.in1.handled=none from O] | (rw [O])
 refine aA (aD (wpAny_throw ?_))
 exact k _ _ (((iJ ..).extBut.push _).push _) ⟨_,aK _ rfl,rfl⟩
theorem Acs {e:Addr}{y old:Value}{Q:Value->Shared->Prop} (he:IsEnum s.heap e j i old) (hj:s.heap.IsTupleIter j u i) (hu:s.heap.IsTuple u xs) (hy:xs[i]? =some y) (ne:e≠j)
 (k:∀g,IsEnumOut g e j ((i:Int)+1) y s.heap.objs.size->g.IsTupleIter j u (i+1)->g.get? s.heap.objs.size=some { cls:= .type "tuple",data:= .seq #[.int i s.toks,y]}->g.objs.size=s.heap.objs.size+1->
   (∀b o,b≠e->b≠j->s.heap.get? b=some o->g.get? b=some o)->Q (.ref s.heap.objs.size) { s with heap:=g,toks:=s.toks+1}):
 wpAny (model prog w) A (Builtin.«enumerate.__next__» ⟨[.ref e],[]⟩) (fun al s'=>∃v,al= .done (.ret v)/\Q v s') E s:=by
 obtain⟨hp,gg,d,tk,os⟩:=s
 show wpAny _ _ (field (.ref e) 2>>=_) _ _ _
 refine aA (cG he rfl (x:= .ref j) rfl ?_)
 refine aA (nextT hj hu hy fun a1 aa G=> ?_)
 replace G:Heap.SameBut j hp a1:=G
 have a5:IsEnum a1 e j i old:=(G.2 e ne).trans he
 show wpAny _ _ (field (.ref e) 3>>=_) _ _ ⟨a1,gg,d,tk,os⟩
 refine aA (cG a5 rfl (x:=rawInt i) rfl ?_)
 show wpAny _ _ (field (.ref e) 4>>=_) _ _ ⟨a1,gg,d,tk,os⟩
 refine aA (cG a5 rfl (x:= .none) rfl ?_)
 show wpAny _ _ (mkInt i>>=_) _ _ ⟨a1,gg,d,tk,os⟩
 refine aA (wpAny_mkInt ?_)
 show wpAny _ _ (setField (.ref e) 3 (rawInt ((i:Int)+1))>>=_) _ _ ⟨a1,gg,d,tk+1,os⟩
 refine aA (bW a5 (by simp) fun a4 a6 J=> ?_)
 replace J:Heap.SameBut e a1 a4:=J
 replace a6:IsEnum a4 e j ((i:Int)+1) old:=a6
 show wpAny _ _ (setField (.ref e) 4 .none>>=_) _ _ ⟨a4,gg,d,tk+1,os⟩
 refine aA (bW a6 (by simp) fun a2 a7 O=> ?_)
 replace O:Heap.SameBut e a4 a2:=O
 replace a7:IsEnum a2 e j ((i:Int)+1) old:=a7
 show wpAny _ _ (newTuple [.int i tk,y]>>=_) _ _ ⟨a2,gg,d,tk+1,os⟩
 refine aA (wpAny_newTuple ?_)
 have a8:IsEnum (a2.push { cls:= .type "tuple",data:= .seq #[.int i tk,y]}) e j ((i:Int)+1) old:=aB _ a7
 generalize hg:a2.push { cls:= .type "tuple",data:= .seq #[.int i tk,y]}=a3 at a8
 have sz:a2.objs.size=hp.objs.size:=by rw [O.1,J.1,G.1]
 have lt:e<hp.objs.size:=aJ he
 have ah:a3.get? hp.objs.size=some { cls:= .type "tuple",data:= .seq #[.int i tk,y]}:=by rw [<-hg,<-sz];exact aK _ rfl
 have ai:a3.objs.size=hp.objs.size+1:=by rw [<-hg,dM,sz]
 have aj:∀b o,b≠e->b≠j->hp.get? b=some o->a3.get? b=some o:=fun b o h1 h2 hb=>by
  rw [<-hg];exact aB _ (O.extBut b o h1 (J.extBut b o h1 (G.extBut b o h2 hb)))
 have ak:a3.IsTupleIter j u (i+1):=by
  rw [<-hg];obtain⟨o,ho,r⟩:=(aa.extBut J.extBut (cC ne)).extBut O.extBut (cC ne);exact⟨o,aB _ ho,r⟩
 show wpAny _ _ (Builtin.SmallTypes.ownedTupleIsFree (.ref e)>>=_) _ _ ⟨a3,gg,d,tk+1,os⟩
 rw [sz]
 clear hg a7 O a6 J a5 G aa sz a2 a4 a1
 refine aA ?_
 . unfold Builtin.SmallTypes.ownedTupleIsFree
   refine aA (cG a8 rfl (x:= .none) rfl (aD ?_))
   simp only [fW]
   refine aA (jE ?_)
   refine aA (cG a8 rfl (x:=old) rfl ?_)
   refine aA (bW a8 (by simp) fun a9 ac U=> ?_)
   replace U:Heap.SameBut e a3 a9:=U
   replace ac:IsEnum a9 e j ((i:Int)+1) y:=ac
   show wpAny _ _ (Builtin.SmallTypes.ownedTupleHandOut (.ref e) (.ref hp.objs.size)>>=_) _ _ ⟨a9,gg,d,tk+1,os⟩
   refine aA ?_
   . unfold Builtin.SmallTypes.ownedTupleHandOut
     refine aA (bW ac (by simp) fun ad ae W=> ?_)
     replace W:Heap.SameBut e a9 ad:=W
     replace ae:IsEnumOut ad e j ((i:Int)+1) y hp.objs.size:=ae
     refine bW ae (by simp) fun af ag Z=> ?_
     replace Z:Heap.SameBut e ad af:=Z
     replace ag:IsEnumOut af e j ((i:Int)+1) y hp.objs.size:=ag
     refine aA (gK (aD ⟨_,rfl,k af ag ?_ ?_ ?_ ?_⟩))
     . exact((ak.extBut U.extBut (cC ne)).extBut W.extBut (cC ne)).extBut Z.extBut (cC ne)
     . exact Z.extBut _ _ (dP lt) (W.extBut _ _ (dP lt) (U.extBut _ _ (dP lt) ah))
     . rw [Z.1,W.1,U.1,ai]
     . exact fun b o h1 h2 hb=>Z.extBut b o h1 (W.extBut b o h1 (U.extBut b o h1 (aj b o h1 h2 hb)))
theorem Acu {e:Addr}{y old:Value}{Q:Option Value->Shared->Prop} (G:IsEnum s.heap e j i old) (J:s.heap.IsTupleIter j u i) (O:s.heap.IsTuple u xs) (U:xs[i]? =some y) (W:e≠j)
 (k:∀g,IsEnumOut g e j ((i:Int)+1) y s.heap.objs.size->g.IsTupleIter j u (i+1)->g.get? s.heap.objs.size=some { cls:= .type "tuple",data:= .seq #[.int i s.toks,y]}->g.objs.size=s.heap.objs.size+1->
   (∀b o,b≠e->b≠j->s.heap.get? b=some o->g.get? b=some o)->Q (some (.ref s.heap.objs.size)) { s with heap:=g,toks:=s.toks+1}):wpAny (model prog w) A (pyNext (.ref e)) Q E s:=by
 have ty:s.TypeIs (.ref e) "enumerate":=⟨_,G,rfl⟩
 unfold pyNext
 exact aA (fV (cB (name:=Str.ofString "__next__") ty jD (bZ jD ty F.entry_enumerate_next
  (Acs G J O U W fun g a b c d f=>aD (k g a b c d f)) (F.args_enumerate_next_1 _))))
theorem Acv {e:Addr}{old:Value}{Q:Option Value->Shared->Prop} (J:A.handled=none) (G:IsEnum s.heap e j i old) (O:s.heap.IsTupleIter j u i) (U:s.heap.IsTuple u xs) (W:xs[i]? =none)
 (k:∀g,Heap.ExtBut j s.heap g->Q none { s with heap:=g}):wpAny (model prog w) A (pyNext (.ref e)) Q E s:=by
 have ty:s.TypeIs (.ref e) "enumerate":=⟨_,G,rfl⟩
 unfold pyNext
 refine aA (fV (cB (name:=Str.ofString "__next__") ty jD (bZ jD ty F.entry_enumerate_next ?_ (F.args_enumerate_next_1 _))))
 show wpAny _ _ (field (.ref e) 2>>=_) _ _ _
 refine aA (cG G rfl (x:= .ref j) rfl ?_)
 refine aA (R3 J O U W fun g x Z ⟨o,ho,hc⟩=> ?_)
 refine aA (lH (T:="StopIteration") (b:=true) ⟨o,ho,hc⟩ isSubtype_stop ?_)
 exact aD (k _ Z)
end
open AutoSeq1 (wpAny_loadPart')in
theorem Z9 (u:Addr) (xs:Array Value) (o:Obj) (n:Nat) (U:o.cls= .type "tuple") (W:o.data= .seq xs n):
 Meets (Builtin.«enumerate.__new__» ⟨[.type "enumerate",.ref u],[]⟩) (fun _ R s=>s.heap.get? u=some o/\R (.ok (.ret (.ref (s.heap.push { cls:= .type "tuple_iterator",data:= .fields #[.ref u,.int 0 0]}).objs.size)))
  { s with heap:=(s.heap.push { cls:= .type "tuple_iterator",data:= .fields #[.ref u,.int 0 0]}).push { cls:= .type "enumerate",data:= .fields #[.none,.bool false,.ref s.heap.objs.size,rawInt 0,.none,.none]}}):=
 .of_wp fun prog w A R s h=>by
  obtain⟨Z,g,d,tk,os⟩:=s;obtain⟨G,h⟩:=h
  obtain⟨oc,od,J,a1⟩:=o
  obtain rfl:oc= .type "tuple":=U
  obtain rfl:J= .seq xs n:=W
  have su:=sub_enumerate
  have O:Heap.IsTuple (Shared.heap ⟨Z,g,d,tk,os⟩) u xs:=⟨_,G,rfl,n,rfl⟩
  wp_walk using wpAny_loadPart' G
  refine wpAny_stack_any fun st=>aD ?_
  split
  . rename_i c _ _ _ _ _
    cases(c==Value.type "enumerate")
    . wp_walk using wpAny_loadPart' G,fK O
      exact⟨_,rfl,h⟩
    . wp_walk using wpAny_loadPart' G,fK O
      exact⟨_,rfl,h⟩
  . wp_walk using wpAny_loadPart' G,fK O
    exact⟨_,rfl,h⟩
section
variable {X:Cx}{pins:List (Addr × Obj)}{σ:St}{H:Hp}{s:Shared}{h':Heap}
theorem Inv.turnL {t':Nat}{fp:List Addr} (I:Inv X pins σ H s) (k:∀b o,b∉fp->s.heap.get? b=some o->h'.get? b=some o) (J:∀b∈fp,O2 X pins H b):Inv X pins σ H { s with heap:=h',toks:=t'}:=by
 have U:∀b u,H b=some u->b∉fp:=fun b u e z=>by
  have:=(J b z).1
  rw [this]at e
  cases e
 refine I.step (g':=s.gens) (d':=s.drawn) (ch:=fp) (fun b O=>⟨(J b O).2.2.2.1,(J b O).2.1,(J b O).2.2.2.2.1,(J b O).2.2.2.2.2⟩) (fun b o _ _ G e _=>k b o G e) (fun b o _ _ G e _=>⟨o.slots,k b o G e⟩) (fun _ _ _ _ n=>n)
  (fun b o G e=>⟨o,k b o G e⟩) (fun _ _ e=>e) (fun _ _ _ e=>e) (fun b ps e=>⟨#[],by rw [e];simp⟩) (fun m W=> ?_) (fun b u e=> ?_) I.bare
 . obtain⟨o,es,ep,ho,r⟩:=W
   exact⟨o,es,ep,k _ o (fun z=>(J _ z).2.1 rfl) ho,r⟩
 . refine(I.hok b u e).stay (fun c v G q=>k c v ?_ q) (fun _ q=>q) fun _ _ q=>q
   rcases G with z | z
   . rw [z]
     exact U b u e
   . exact U c _ z
end
noncomputable def Ite (K:Frag) (a:Addr):It:=
 ⟨fun i H=>∃xs x,SqT K H a xs/\xs[i]? =some x,fun i H x H'=>∃p v,(∀xs,SqT K H a xs->xs[i]? =some v)/\H p=none/\x= .ref p/\H'=upd H p (.tup [.int (i:Nat),v]),fun i H=>∃xs,SqT K H a xs/\xs.length<=i⟩
theorem Aia {P:Program}{w:World}{K:Frag}{el:List Expr}{x1}{tp:Pos} (a e j:Addr) (ne:e≠j):Turn P w K (.Tuple el x1 tp) (Ite K a) [e,j] e (fun i h=>(∃old,IsEnum h e j i old)/\h.IsTupleIter j a i) where
 mem:=by simp
 obj:=fun i h st b G=>by
  obtain⟨⟨old,J⟩,oj,ej,cj,dj⟩:=st
  rcases aS.mp G with rfl | G
  . exact⟨_,J,fun v z=>by cases(show Data.fields _=Data.cell v from z)⟩
  . have z:b=j:=by simpa using G
    subst z
    exact⟨oj,ej,fun v z=>by rw [dj]at z;cases z⟩
 keep:=fun i h h' st k=>by
  obtain⟨⟨old,J⟩,oj,ej,r⟩:=st
  exact⟨⟨old,k e (by simp) _ J⟩,oj,k j (by simp) _ ej,r⟩
 item:=by
  intro X hP hw hK hc i pins s σ H E I hf st hg
  subst hP hw hK
  obtain⟨xs,x,hq,hx⟩:=hg
  obtain⟨U,rv,p,hz⟩:=I.tuple hq
  obtain⟨u,hu,ru⟩:=rv.get hx
  obtain⟨⟨old,J⟩,hj⟩:=st
  refine Acu J hj (show s.heap.IsTuple a U.toArray from p) (y:=u) (by simpa using hu) ne fun g Z a2 hT a7 kk=>⟨_,rfl,?_⟩
  refine wpAny_letOwnedTupleGo_enum Z fun g2 a3 O=> ?_
  replace O:Heap.SameBut e g g2:=O
  have a4:e<s.heap.objs.size:=aJ J
  have a5:j<s.heap.objs.size:=by
   obtain⟨_,ej,_⟩:=hj
   exact aJ ej
  have hn:H s.heap.objs.size=none:=I.fresh
  have I1:Inv X pins σ (upd H s.heap.objs.size (.tup [.int (i:Nat),x])) { s with heap:=s.heap.push { cls:= .type "tuple",data:= .seq #[.int i s.toks,u]},toks:=s.toks+1}:=
   I.laid (fun b o q=>aB _ q) (aL _) ⟨by show 2<=sizeLine;decide,[.int i s.toks,u],.cons ⟨_,rfl⟩ (.cons ru .nil),⟨_,aK _ rfl,rfl,_,rfl⟩⟩
  have a1:∀b∈ [e,j],O2 X pins (upd H s.heap.objs.size (.tup [.int (i:Nat),x])) b:=fun b G=>by
   have nb:b≠s.heap.objs.size:=by
    rcases aS.mp G with rfl | a6
    . exact aP a4
    . have z:b=j:=by simpa using a6
      subst z
      exact aP a5
   exact⟨by rw [Ax nb];exact(hf b G).1,(hf b G).2⟩
  have I2:=I1.turnL (h':=g2) (t':=s.toks+1) (fp:=[e,j]) (fun b o G q=>by
   have n1:b≠e:=fun z=>G (by simp [z])
   have n2:b≠j:=fun z=>G (by simp [z])
   refine(O.2 b n1).trans ?_
   rcases jQ q with⟨rfl,rfl⟩ | q0
   . exact hT
   . exact kk b o n1 n2 q0) a1
  refine⟨.ref s.heap.objs.size,_,I2,rfl,⟨_,x,fun ys hy=>by rw [I.tuple_inj hy hq];exact hx,hn,rfl,rfl⟩,⟨⟨_,by simpa using a3⟩,?_⟩,fun b G=>(a1 b G).1⟩
  exact a2.extBut O.extBut (cC ne)
 done:=by
  intro X hP hw hK hc i pins s σ H E I hf st hg
  subst hP hw hK
  obtain⟨xs,hq,hx⟩:=hg
  obtain⟨U,rv,p,hz⟩:=I.tuple hq
  obtain⟨⟨old,J⟩,hj⟩:=st
  have hl:=rv.length
  exact Acv (I.ok.hd hc) J hj (show s.heap.IsTuple a U.toArray from p) (by simp;omega) fun g eb=>⟨rfl,I.turnL (t':=s.toks) (fp:=[e,j]) (fun b o G q=>eb b o (fun z=>G (by simp [z])) q) hf⟩
 self:=fun _ _ _ _ _ st h=>by
  obtain⟨⟨old,J⟩,_⟩:=st
  exact kW J h
section
variable {X:Cx}{a:Expr}{ta:TA}{el:List Expr}{x1}{tp p pos:Pos}
noncomputable def iEn (K:Frag) (ta:TA):TI:=fun σ H R=>ta σ H fun vs H1=>∃a,vs=[.ref a]/\(∃xs,SqT K H1 a xs)/\R (Ite K a) H1
theorem Akz (hg:Gl X "enumerate") (hm:X.mg "enumerate"=none) (ha:PA X [a] ta) (hs:starEach [a] X.env=[(false,eval a X.env)]:=by rfl):PI X (.Tuple el x1 tp) (.Call (.Name "enumerate" p) [a] [] pos) (iEn X.K ta):=by
 intro pins s σ H R I h
 refine Call_ (Jm I hg hm boot_enumerate (dU (thn (ha pos pins s σ H _ I h) fun us G ⟨vs,H1,W,r1,q1⟩=> ?_) hs rfl))
 obtain⟨b,rfl,⟨xs,hq⟩,q⟩:=q1
 obtain⟨v,rfl,rv⟩:=vals1 r1
 cases rv
 obtain⟨O,rr,pl,hz⟩:=W.tuple hq
 obtain⟨o,ho,hc,n,hd⟩:=(show G.heap.IsTuple b O.toArray from pl)
 refine callType_new F.called_enumerate (by decide) (F.typeCall_enumerate_1 _) (F.newCall_enumerate_1 _) (fun obj=>F.args_object_init_2 obj _) F.entry_enumerate_new (Z9 b O.toArray o n hc hd) ⟨ho,?_⟩
 have z1:(G.heap.push { cls:= .type "tuple_iterator",data:= .fields #[.ref b,.int 0 0]}).objs.size=G.heap.objs.size+1:=dM ..
 show _/\_
 rw [z1]
 have Z:IsEnum ((G.heap.push { cls:= .type "tuple_iterator",data:= .fields #[.ref b,.int 0 0]}).push { cls:= .type "enumerate",data:= .fields #[.none,.bool false,.ref G.heap.objs.size,rawInt 0,.none,.none]}) (G.heap.objs.size+1) G.heap.objs.size ((0:Nat):Int) .none:=by
  have z2:=aK (G.heap.push { cls:= .type "tuple_iterator",data:= .fields #[.ref b,.int 0 0]}) (o:={ cls:= .type "enumerate",data:= .fields #[.none,.bool false,.ref G.heap.objs.size,rawInt 0,.none,.none]}) rfl
  rw [z1]at z2
  exact z2
 have hj:Heap.IsTupleIter ((G.heap.push { cls:= .type "tuple_iterator",data:= .fields #[.ref b,.int 0 0]}).push { cls:= .type "enumerate",data:= .fields #[.none,.bool false,.ref G.heap.objs.size,rawInt 0,.none,.none]}) G.heap.objs.size b 0:=
  ⟨_,aB _ (aK _ rfl),rfl,rfl⟩
 have I2:Inv X pins σ H1 { G with heap:=(G.heap.push { cls:= .type "tuple_iterator",data:= .fields #[.ref b,.int 0 0]}).push { cls:= .type "enumerate",data:= .fields #[.none,.bool false,.ref G.heap.objs.size,rawInt 0,.none,.none]}}:=
  W.kept (t':=G.toks) fun c o' e=>aB _ (aB _ e)
 refine⟨⟨_,Z,rfl⟩,kW Z ⟨G.heap.objs.size+1,[G.heap.objs.size+1,G.heap.objs.size],_,_,H1,rfl,I2,Aia b _ _ (dP (kI _)),⟨⟨_,Z⟩,hj⟩,fun c J=> ?_,q⟩⟩
 have U:G.heap.objs.size<=c:=by
  rcases aS.mp J with rfl | J
  . exact gR _
  . have z:c=G.heap.objs.size:=by simpa using J
    exact fZ z.symm
 exact W.fpOk U (W.hok.fresh U)
end
theorem Aou {K:Frag}{σ:St}{H:Hp}{ta:TA}{R:It->Hp->Prop}:iEn K ta σ H R=ta σ H (fun G H1=>∃a,G=[.ref a]/\(∃xs,SqT K H1 a xs)/\R (Ite K a) H1):=rfl
theorem Ajk {K:Frag}{σ:St}{H:Hp}{g:TG}{tb:TS}{D:Ends}{α:Type}{es:List α}{inj:α->V}{a:Addr} (J:List α->St->Hp->Prop) (h0:J [] σ H) (hw:∀G σ H,J G σ H->SqT K H a (es.map inj))
 (hs:∀G e O σ H p,es=G++e::O->J G σ H->H p=none->g (.ref p) σ (upd H p (.tup [.int (G.length:Nat),inj e])) fun Z H2=>tb { D with nx:=J (G++ [e]),ct:=J (G++ [e]),bk:=D.nx} Z H2) (hd:∀σ H,J es σ H->D.nx σ H):FI (Ite K a) g tb D σ H:=by
 refine⟨fun i m σ H=>m=es.length-i/\i<=es.length/\J (es.take i) σ H,⟨es.length,by simp,cH _,h0⟩,?_⟩
 rintro i m σ H ⟨rfl,hi,p⟩
 have w:=hw _ _ _ p
 cases he:es[i]? with
 | none=>
   have e:i=es.length:=fJ hi (bS.mp he)
   subst e
   rw [fU]at p
   exact .inl ⟨⟨_,w,by rw [aC];exact aL _⟩,hd _ _ p⟩
 | some e=>
   obtain⟨U,ee⟩:=aW.mp he
   have tk:es.take (i+1)=es.take i++ [e]:=by rw [iM,he];rfl
   have sp:es=es.take i++e::es.drop (i+1):=by
    rw [<-ee,<-gZ U,dE]
   refine .inr ⟨⟨_,inj e,w,by rw [aN,he];rfl⟩,J (es.take i++ [e]),fun a1 H' q=>⟨es.length-(i+1),by omega,rfl,U,by rw [tk];exact q⟩,fun x H' y=> ?_⟩
   obtain⟨b,v,y1,y2,rfl,rfl⟩:=y
   have y3:=y1 _ w
   rw [aN,he]at y3
   obtain rfl:inj e=v:=aY y3
   have hl:(es.take i).length=i:=by rw [bV];omega
   have z:=hs _ e _ σ H b sp p y2
   rw [hl]at z
   exact z
section
variable {X:Cx}
noncomputable def Anx (K:Frag):R2:=fun x y H Q=>∃a b xs ys,x= .ref a/\y= .ref b/\SqT K H a xs/\SqT K H b ys/\xs.length+ys.length<=sizeLine/\∀z H',Same H H'->SqT K H' z (xs++ys)->Q (.ref z) H'
theorem Aal:OpR X (binaryOp .Add) (Anx X.K):=by
 intro pins s σ H x y v u Q I rx ry h
 obtain⟨a,b,xs,ys,rfl,rfl,W,Z,hz,q⟩:=h
 by_cases hx:xs=[]
 . subst hx
   cases rx
   cases ry
   obtain⟨a1,r1,p1,_⟩:=I.tuple W
   obtain⟨G,r2,p2,_⟩:=I.tuple Z
   cases r1
   obtain⟨⟨c1,d1,t1,l1⟩,ho,hc,n,hd⟩:=(show s.heap.IsTuple a ([]:List Value).toArray from p1)
   obtain⟨⟨c2,d2,t2,l2⟩,J,O,n2,U⟩:=(show s.heap.IsTuple b G.toArray from p2)
   simp only at hc hd O U
   subst hc hd O U
   exact concat_meets ⟨_,ho,rfl⟩ ⟨_,J,rfl⟩ noFill_tuple_add seq_tuple_add kP kG (kA _ _)
    (tuple_addW0 a b #[] G.toArray n n2 d1 d2 l1 l2 rfl) ⟨ho,J,⟨.ref b,H,I,rfl,q b H (Same.refl _) Z⟩⟩
 . exact Qh pins s σ H _ _ v u Q I rx ry ⟨a,b,xs,ys,rfl,rfl,W,Z,hx,hz,fun e=>q a H (Same.refl _) (by rw [e,bT];exact W),fun _ p hp=>q p _ (Same.upd hp _) (.of Af)⟩
theorem Jg (hc:X.calm=true):Er X (.builtin "all") (fun xs H Q=>∃(a:Addr) (bs:List Bool),xs=[.ref a]/\SqL X.K H a (bs.map V.bl)/\Q (.bl (bs.all id)) H):=by
 intro pins s σ H xs us Q I r h
 obtain⟨a,bs,rfl,ha,q⟩:=h
 obtain⟨u,rfl,ru⟩:=vals1 r
 cases ru
 obtain⟨G,Z,p,hz⟩:=I.list ha
 have O:s.heap.IsList a G.toArray:=p.isList
 have lt:a<s.heap.objs.size:=by
  obtain⟨_,e,_⟩:=O
  exact aJ e
 have ln:G.length=bs.length:=by
  have:=Z.length
  rw [aC]at this
  exact this.symm
 refine call_all_walk (iY O ?_)
 refine⟨s.heap.objs.size,[s.heap.objs.size,a],[s.heap.objs.size],G.toArray.size,_,_,fun i=>(bs[i]?).getD true,rfl,Walks.list (A:=X.A.in1) (I.ok.hd hc) _ a (aP lt) G.toArray,
  ⟨⟨_,aK _ rfl,rfl,rfl⟩,O.push _⟩,fun i v s' Q' E' hP hQ=> ?_,fun g tk hk=> ?_⟩
 . have hv:G[i]? =some v:=by simpa using hP
   have hi:i<G.length:=(aW.mp hv).1
   have hb:bs[i]? =some bs[i]:=aG (by omega)
   obtain⟨w',hw,U⟩:=Z.get (show(bs.map V.bl)[i]? =some (V.bl bs[i])by rw [aN,hb];rfl)
   rw [hv]at hw
   cases hw
   cases U
   simp only [hb,getD_some]at hQ
   exact fS hQ
 . have e:((List.range G.toArray.size).all fun i=>(bs[i]?).getD true)=bs.all id:=by
    rw [aM,ln,iE,gU,gU]
    constructor
    . intro h x hx
      obtain⟨i,hi,ei⟩:=List.getElem_of_mem hx
      have:=h i (cW.mpr hi)
      rw [aG hi,ei]at this
      exact this
    . intro h i hi
      have J:=cW.mp hi
      rw [aG J]
      exact h _ (cS J)
   rw [e]
   exact⟨.bl _,H,I.kept (t':=tk) fun b o W=>hk b o (fun hm=>by rw [bA.mp hm]at W;exact cZ _ (aJ W)) (aB _ W),rfl,q⟩
end
section
variable {X:Cx}
theorem Hu (K:Frag) (h:X.K=K:=by rfl):IxR X (An1 K):=by subst h;exact Jl
end
section
variable {X:Cx}
theorem Ace:Er X (.builtin "isinstance") (fun xs H Q=>∃(a:Addr) (ys:List V) (T:String) (b:Bool),xs=[.ref a,.ty T]/\SqT X.K H a ys/\kitOne X.K (.type "tuple") (.type T)=some b/\Q (.bl b) H):=by
 intro pins s σ H xs us Q I r h
 obtain⟨a,ys,T,b,rfl,J,O,q⟩:=h
 obtain⟨u,c,rfl,U,Z⟩:=vals2 r
 cases Z
 cases U
 obtain⟨G,rv,p,_⟩:=I.tuple J
 obtain⟨o,h1,h2,_⟩:=(show s.heap.IsTuple a G.toArray from p)
 exact cV kitx_tuple I.kIn ⟨o,h1,h2⟩ O (fun z=>nomatch z) fun tk=>⟨.bl b,H,I.tok tk,rfl,q⟩
end
section
variable {prog:Program}{w:World}{A:Around}{E:Value->Shared->Prop}{s:Shared}
theorem Abz {t J:Addr}{ys:Array Value}{W Z:Value}{lo hi:Option Int}{Q:Value->Shared->Prop} (G:IsTup s.heap t ys) (hs:s.heap.IsSliceOf J W Z .none) (pl:IsPart W lo) (pu:IsPart Z hi)
 (w1:HT.sIx ys.size 0 lo=0) (w2:HT.sIx ys.size ys.size hi=ys.size) (h:Q (.ref t) s):wpAny (model prog w) A (getItem (.ref t) (.ref J)) Q E s:=by
 obtain⟨os,O,cs,ds⟩:=id hs
 have ty:s.TypeIs (.ref J) "slice":=⟨os,O,cs⟩
 unfold getItem
 try with_reducible refine(dN ?_)
 first | refine(aA (aD ?_)) | skip
 refine aA (wpAny_sequenceKey G.typeIs (by decide) (?_))
 refine aA (cB (name:=Str.ofString "__getitem__") G.typeIs dH (bZ dH G.typeIs entry_tuple_getitem ?_ (args_tuple_getitem _ _)))
 show wpAny _ A.in1 (Builtin.Tuple.tupleItemsOf (.ref t)>>=_) _ _ s
 refine aA (tupleItemsOf_ G (?_))
 refine aA (wpAny_typeOf ty ?_)
 rw [aI (by decide)]
 refine aA (HT.Hl hs pl pu ?_)
 have U:(((HT.sIx ys.size 0 lo:Nat):Int)==0&&(1:Int)==1&&(HT.sIx ys.size ys.size hi-HT.sIx ys.size 0 lo)==ys.size)=true:=by
  rw [w1,w2]
  simp
 show wpAny _ A.in1 (if(((HT.sIx ys.size 0 lo:Nat):Int)==0&&(1:Int)==1&&(HT.sIx ys.size ys.size hi-HT.sIx ys.size 0 lo)==ys.size)=true then _ else _) _ _ s
 rw [aI U]
 refine aA ?_
 unfold Builtin.Tuple.tupleIsExact
 refine aA (wpAny_typeOf G.typeIs (aD ?_))
 rw [aI (by decide)]
 exact aA (jE (aD ⟨_,rfl,aD h⟩))
end
section
variable {X:Cx}
noncomputable def Aqk (K:Frag):V->Option Int->Option Int->Hp->VK->Prop:=fun x lo hi H Q=>∃a xs,x= .ref a/\SqT K H a xs/\∀z H',Same H H'->SqT K H' z (Ih xs lo hi)->Q (.ref z) H'
theorem Nf:SlR X (Aqk X.K):=by
 intro pins s σ H x v vl vu lo hi sl Q I W Z pl pu h
 obtain⟨a,xs,rfl,O,q⟩:=h
 by_cases J:HT.sIx xs.length 0 lo=0/\HT.sIx xs.length xs.length hi=xs.length
 . cases W
   obtain⟨U,r,ht,hz⟩:=I.tuple O
   have G:U.toArray.size=xs.length:=by rw [aM];exact r.length.symm
   refine⟨"tuple",_,dH.lookup,ht.typeIs,Abz ht Z pl pu (by rw [G];exact J.1) (by rw [G];exact J.2) ⟨.ref a,H,I,rfl,q a H (Same.refl _) ?_⟩⟩
   have e:Ih xs lo hi=xs:=by
    unfold Ih
    rw [J.1,J.2,List.drop_zero,Nat.sub_zero,fU]
   rw [e]
   exact O
 . exact Alu pins s σ H _ v vl vu lo hi sl Q I W Z pl pu ⟨a,xs,rfl,O,J,fun p hp=>q p _ (Same.upd hp _) (.of Af)⟩
end
set_option maxRecDepth 100000
theorem Ux {X:Cx}{es:List Expr}{k:Nat}{pos:Pos}{t:TGs} (K:Frag) (n:Nat) (J:X.K=K) (O:X.calm=true) (h:PGs X es t)
 (U:(assignEach es X.env).length=n:=by rfl) (G:(assignEach es X.env).findIdx? (·.1)=none:=by rfl):PG X (.Tuple es k pos) (Ajr K n t):=by
 subst J
 exact V7 O h U G
end L2
namespace L2
open PySem PySem.Spec PyProof.Rows
set_option maxRecDepth 100000
variable {P:Program}{w:World}{H:Hp}{h:Heap}{a:Addr}
theorem Cy.has {o:HO} (x:Cy P w H h a o):∃G,h.get? a=some G:=by
 cases o with
 | lst xs=>obtain⟨_,_,_,_,e⟩:=x;exact⟨_,e⟩
 | tup xs=>obtain⟨_,_,_,G,e,_⟩:=x;exact⟨_,e⟩
 | dK J=>obtain⟨_,_,_,_,o,_,_,e,_⟩:=x;exact⟨_,e⟩
 | dT J=>obtain⟨_,_,_,_,o,_,_,e,_⟩:=x;exact⟨_,e⟩
 | set S n=>obtain⟨o,_,_,_,e,_⟩:=x;exact⟨_,e⟩
 | ins C dx fs=>obtain⟨_,_,_,e,_⟩:=x;exact⟨_,e⟩
 | own y=>exact x
 | xd fs=>obtain⟨_,⟨_,_,_,e,_⟩,_⟩:=x;exact⟨_,e⟩
 | rng lo hi=>obtain⟨_,_,_,e⟩:=x;exact⟨_,e⟩
 | frz G u=>obtain⟨e,_⟩:=x;exact⟨_,e⟩
 | tbl ps=>exact⟨_,show h.get? a=some _ from x⟩
 | met f y=>exact⟨_,show h.get? a=some _ from x⟩
 | ext O=>exact x.2.1
structure FX (P:Program) (w:World) (fr:List Addr) (H:Hp) (h0:Heap) (B:Heap) (H':Hp) (h:Heap):Prop where
 stay:B.StaysIn h
 k1:∀b o,h0.get? b=some o->b∉fr->∃o',B.get? b=some o'/\(H b=none->o'=o)
 k2:∀b u,H' b=some u->∃o,B.get? b=some o
 fr0:∀b∈fr,H b=none/\∃o,h0.get? b=some o/\∀vs,o.data≠ .fields vs
 un:Un fr [] H H' h0 h
 hok:HOk P w H' h
variable {H':Hp}{h':Heap}
theorem FX.step {fr:List Addr}{W B:Heap} (x:FX P w fr H W B H' h) (k:B.StaysIn h') (u:h.UpToSlots h'):FX P w fr H W B H' h':=by
 have J:∀b o,W.get? b=some o->H b=none->b∈fr->∃Z,h'.get? b=some { o with slots:=Z}:=fun b o e n G=>by
  obtain⟨Z,O⟩:=x.un.slot b o e n G (by simp)
  obtain⟨_,o2,U,hf⟩:=x.fr0 b G
  rw [e]at U;cases U
  obtain⟨a1,e3⟩:=u b _ O hf
  exact⟨a1,e3⟩
 refine⟨k,x.k1,x.k2,x.fr0,⟨fun b o e n G _=> ?_,fun b o e n G _=>J b o e n G,x.un.free,fun b o e _=> ?_,x.un.tups,x.un.frzs,x.un.tbls⟩,fun b v e=>(x.hok b v e).stay (fun c z hc q=> ?_) (fun _ q=>q) fun _ _ q=>q⟩
 . obtain⟨o',O,U⟩:=x.k1 b o e G
   rw [U n]at O
   exact k b o O
 . by_cases G:b∈fr
   . obtain⟨Z,O⟩:=J b o e (x.fr0 b G).1 G
     exact⟨_,O⟩
   . obtain⟨o',O,_⟩:=x.k1 b o e G
     exact⟨o',k b o' O⟩
 . have t:∃o,B.get? c=some o:=by
    rcases hc with z | z
    . rw [z];exact x.k2 _ _ e
    . exact x.k2 _ _ z
   obtain⟨o,eo⟩:=t
   have:=x.stay c o eo
   rw [q]at this;cases this
   exact k c _ eo
variable {b:Addr}{o:Obj}
section
variable {X:Cx}{pins:List (Addr × Obj)}{σ:St}{H H':Hp}{s s':Shared}{B:Heap}
theorem Inv.old (I:Inv X pins σ H s)  (e:X.s₀.heap.get? b=some o) (G:b∉X.fs):b∉frs X.stack:=fun z=>by
 rcases aS.mp (I.stkSub b z)with q | q
 . exact absurd (bB (aJ e) I.ok.above) (by rw [q];exact cZ _)
 . exact G q
theorem Inv.fr0 (I:Inv X pins σ H s):∀b∈X.fs,X.H₀ b=none/\∃o,X.s₀.heap.get? b=some o/\∀J,o.data≠ .fields J:=fun b G=>by
 obtain⟨_,o,ho,O⟩:=I.ok.funs.mem G
 exact⟨I.ok.frf b G,o,ho,O⟩
theorem Inv.one (I:Inv X pins σ H s) (G:X.ex=[])  (e:X.s₀.heap.get? b=some o) (J:b∉X.fs):∃o',s.heap.get? b=some o'/\(X.H₀ b=none->o'=o/\H b=none):=by
 by_cases n:X.H₀ b=none
 . exact⟨o,I.base.keep b o e n J (by rw [G];simp),fun _=>⟨rfl,I.base.free b o e n (by rw [G];simp)⟩⟩
 . obtain⟨o',O⟩:=I.base.there b o e (by rw [G];simp)
   exact⟨o',O,fun z=>absurd z n⟩
theorem Inv.fx (I:Inv X pins σ H s) (G:X.ex=[]):FX X.prog X.w X.fs X.H₀ X.s₀.heap (hideAll s.heap (frs X.stack)) H s.heap:=by
 refine⟨fun b o q=>jL _ q,fun b o e J=> ?_,fun b u e=> ?_,I.fr0,G▸I.base,I.hok⟩
 . obtain⟨o',O,U⟩:=I.one G e J
   exact⟨o',hU _ O (I.old e J),fun n=>(U n).1⟩
 . obtain⟨o,Z⟩:=(I.hok b u e).has
   exact⟨o,hU _ Z fun z=>by have:=I.stkFree b z;rw [e]at this;cases this⟩
theorem Inv.fxOn (I:Inv X pins σ H s) (G:X.ex=[]) (os:s'.os=s.os) (O:AllBare s'.gens) (x:FX X.prog X.w (frs X.stack) H s.heap B H' s'.heap):FX X.prog X.w X.fs X.H₀ X.s₀.heap B H' s'.heap:=by
 have J:Inv X pins σ H' s':=I.call' (ch:=[]) os x.un x.hok O fun b z=>absurd z (by simp)
 refine⟨x.stay,fun b o e U=> ?_,x.k2,I.fr0,G▸J.base,x.hok⟩
 obtain⟨W,Z,n1⟩:=I.one G e U
 obtain⟨o',e2,n2⟩:=x.k1 b W Z (I.old e U)
 exact⟨o',e2,fun n=>(n2 (n1 n).2).trans (n1 n).1⟩
end
noncomputable def CXE (P:Program) (w:World):CXT:=fun outer H s E e s'=>∃(x C:Addr) (a0:Value) (B:Heap) (H':Hp),e= .ref x/\s'.os=s.os/\AllBare s'.gens/\Heap.FlyingW B outer x (.ref C) a0 s'.heap/\FX P w (frs outer) H s.heap B H' s'.heap/\E (.ref C) none H'
noncomputable abbrev VE:List Value:=[.type "ValueError",.type "Exception",.type "BaseException",.type "object"]
noncomputable def Afy (K:Frag) (C:Addr):Prop:=excIn K C VE "ValueError.__new__"=true
noncomputable def cA (K:Frag) (x:Str):Addr:=match PySem.W.nsIn K mainGlobals x with
 | some (some (.ref C))=>C
 | _=>0
variable {x:Str}{C:Addr}
theorem Tq {K:Frag} (e:PySem.W.nsIn K mainGlobals x=some (some (.ref C))):cA K x=C:=by
 unfold cA
 rw [e]
noncomputable def Apd (h:Heap) (C:Addr):Prop:=∃bm N nm q bs hdct sn sub ab col dd k0 k1 k2 k3 k5 mN,h.get? C=some (excClassObj nm q C N bs bm hdct sn sub ab col dd k0 k1 k2 k3 k5 "ValueError.__new__")/\h.Ns N mN/\mN "__init__"=none/\OwnTail h VE bm
theorem Afy.obj {K:Frag} (q:Afy K C) (X:K.In h):Apd h C:=by
 unfold Afy excIn at q
 cases e:K.lookup C with
 | none=>rw [e]at q;cases q
 | some ob=>
   rw [e]at q
   have O:=X _ _ e
   split at q
   . rename_i dd cd U z
     cases z
     split at q
     . rename_i C1 bm a0 Z a2 a3 n a5 hm hs
       rw [cD,cD,cD,cD,cD]at q
       obtain⟨⟨⟨⟨⟨z1,z2⟩,z3⟩,z4⟩,G⟩,z6⟩:=q
       have y1:C1=C:=by simpa using z1
       have y2:n="ValueError.__new__":=by simpa using z2
       have y3:cd.hasDel=false:=by simpa using z3
       have y6:PySem.W.nsIn K cd.ns "__init__"=some none:=by simpa using z6
       obtain⟨c1,c2,c3,c4,c5,c6,c7,c8,c9,J,a4⟩:=cd
       have hl:U= #[a0,Z,a2,a3,some (.builtin n),a5]:=by
        cases U
        exact bE Array.mk hs
       dsimp only at hm y3 y6 G
       rw [hl,hm,y1,y2,y3]at O
       exact⟨bm,c4,c1,c5,c2,c6,c7,c8,c9,J,dd,a0,Z,a2,a3,a5,_,O,Heap.Ns.of_isNs (isNs_of_in X G),PySem.W.nsMap_none_of_in X G y6,tail_of_in X z4⟩
     . cases q
   . cases q
theorem PS.nox {X:Cx}{st:Stmt}{t:TS} (h:PS X.nox st t):PS X st t:=fun pins s σ H D I G=>
 bP (h pins s σ H D (I.wish _) G) (fun _ _ q=>q.unwish) fun _ _ z=>False.elim z
noncomputable def Apc (P:Program) (w:World) (K:Frag) (mg:Str->Option Value) (base:Heap) (k:Nat) (x:Str) (ps:List Str) (sp:Sp):Prop:=
 ∃f fd,Lq P w K mg base (CXE P w) k f fd ps sp/\mg x=some (.ref f)/\keepIn K (.ref f)=true/\Binds K fd ps []
theorem Apc.calm {P:Program}{w:World}{K:Frag}{mg:Str->Option Value}{base:Heap}{k:Nat}{x:Str}{ps:List Str}{sp O:Sp}
 (C:Apc P w K mg base k x ps sp) (h:∀J H Q E,O J H Q E->sp J H Q E0):Cal P w K mg base k x ps O:=by
 obtain⟨f,fd,G,a,b,c⟩:=C
 refine⟨f,fd,⟨fun J H Q E z=>G.len J H Q E0 (h _ _ _ _ z),fun A outer s H args us J Q E U Z hb hv hs=> ?_⟩,a,b,c⟩
 refine iF (G.run A outer s H args us J Q E0 U Z hb hv (h _ _ _ _ hs)) fun r s' q=> ?_
 cases r with
 | ok fl=>cases fl<;>exact q
 | error e=>
   obtain⟨_,_,_,_,_,_,_,_,_,_,z⟩:=q
   exact z.elim
end L2
namespace L2
open PySem PySem.Spec PyProof.Rows
set_option maxRecDepth 100000
variable {i:Nat}
section
variable {X:Cx}{pins:List (Addr × Obj)}{σ:St}{H:Hp}{s:Shared}{x:Addr}{oe:Obj}
theorem Inv.gone {n:Str}{m:Str->Option Value}{v:Option Value}{h':Heap}{t':Nat} (I:Inv X pins σ H s) (hN:X.N.Nodup) (hi:X.N[i]? =some n)
 (hl:∀(i:Nat) (x:Str) (v:V),X.N[i]? =some x->σ[i]? =some (some v)->Vis X.env.scope x->∃u,RelV v u/\Look X.env s.heap m x u) (hn:s.heap.Ns X.env.locals m)
 (Z:h'.Ns X.env.locals (fun x=>if x=n then v else m x)) (G:Heap.SameBut X.env.locals s.heap h'):Inv X pins (σ.set i none) H { s with heap:=h',toks:=t'}:=by
 obtain⟨oL,_,_,a1,_⟩:=id hn
 have cne:=I.cne
 have up:∀ {b:Addr}{o:Obj},X.s₀.heap.get? b=some o->b≠X.env.locals:=fun e=>aP (bB (aJ e) I.ok.above)
 refine⟨I.ok,I.os,I.bare,⟨fun b o e n hb O=>(G.2 b (up e)).trans (I.base.keep b o e n hb O),fun b o e n hb O=> ?_,I.base.free,fun b o e O=> ?_,I.base.tups,I.base.frzs,I.base.tbls⟩,⟨_,Z,fun j y v' J U e3=> ?_⟩,fun y c e=> ?_,I.free,I.freeC,fun p hp=> ?_,fun b ob e=> ?_,by simpa using I.len⟩
 . obtain⟨sl,J⟩:=I.base.slot b o e n hb O
   exact⟨sl,(G.2 b (up e)).trans J⟩
 . obtain⟨o',J⟩:=I.base.there b o e O
   exact⟨o',(G.2 b (up e)).trans J⟩
 . have hj:j≠i:=fun z=>by
    subst z
    rw [List.getElem?_set]at U
    simp at U
   rw [lK (cC hj)]at U
   obtain⟨u',r',q⟩:=hl j y v' J U e3
   refine⟨u',r',?_⟩
   rcases q with⟨k,e⟩ | ⟨k,c,e,z⟩
   . refine .inl ⟨k,?_⟩
     have:y≠n:=fun e=>hj (Qe hN J (e▸hi))
     simp [this,e]
   . exact .inr ⟨k,c,e,z.sameBut G (cne y c e)⟩
 . obtain⟨w',z⟩:=I.cell y c e
   exact⟨w',z.sameBut G (cne y c e)⟩
 . obtain⟨e,n,ne,nf,d⟩:=I.pin p hp
   exact⟨(G.2 p.1 ne).trans e,n,ne,nf,d⟩
 . refine(I.hok b ob e).stay (fun c w' W q=>(G.2 c ?_).trans q) (fun _ q=>q) fun _ _ q=>q
   rintro rfl
   rcases W with rfl | W
   . rw [I.free]at e;cases e
   . rw [I.free]at W;cases W
end
noncomputable def Ve (X:Cx) (st:Stmt) (e:Expr) (g:V->St->St):Prop:=∀(pins:List (Addr × Obj)) (s:Shared) (σ:St) (H:Hp) (E:Value->Shared->Prop) (Q:VK) (R:Flow->Shared->Prop),Inv X pins σ H s->
 wpAny (model X.prog X.w) X.A (eval e X.env) (EP X pins σ Q) E s->(∀v H1 s1,Q v H1->Inv X pins (g v σ) H1 s1->R .next s1)->wpAny (model X.prog X.w) X.A (exec st X.env) R E s
theorem Rn {X:Cx}{e:Expr}{pos:Pos} (G:swapsWith e none pos.line X.env=pure false:=by rfl):Ve X (.Expr e pos) e (fun _ σ=>σ):=by
 intro pins s σ H E Q R I h k
 exact wpAny_Expr_any (thn h fun v J ⟨y,H1,O,_,U⟩=>k y H1 J U O) I.quiet G
end L2
namespace L2
open PySem PySem.Spec PyProof.Rows
set_option maxRecDepth 100000
structure Tc (K:Frag) (C:Addr):Prop where
 ga:PySem.W.findIn K (.ref C) "__getattribute__"=some (some (.builtin "BaseException.__getattribute__"))
 gn:PySem.W.findIn K (.ref C) "__getattr__"=some none
 cl:PySem.W.findIn K (.ref C) "__class__"=some (some (.builtin "object.__class__"))
 ob:PySem.W.mroIn K C (.type "object")=some true
 be:PySem.W.mroIn K C (.type "BaseException")=some true
variable {C:Addr}
theorem Tc.is {K:Frag} (Z:Tc K C):(PySem.W.clsIn K C).isSome=true:=by
 obtain⟨cd,a,_⟩:=Option.bind_eq_some_iff.mp Z.ob
 rw [a];rfl
variable {M:Model}
section
variable {prog:Program}{w:World}{A:Around}{E:Value->Shared->Prop}{K:Frag}{x C:Addr}{oe:Obj}{h:Heap}{g:Array GenState}{d:Drawn}{t:Nat}{os:OsState}
theorem Aft (G:h.get? x=some oe) (J:oe.cls= .ref C):PySem.W.Looks M h (typeOf (.ref x)) (.ref C):=J▸(PySem.W.Looks.ld G).andThen .now
theorem Acz {R:Result->Shared->Prop} (X:K.In h) (Z:Tc K C) (G:h.get? x=some oe) (J:oe.cls= .ref C) (q:R (.ok (.ret (.ref C))) ⟨h,g,d,t,os⟩):
 codeAny (model prog w) A (.call (.builtin "getset_descriptor.__get__") ⟨[.builtin "object.__class__",.ref x,.ref C],[]⟩) R ⟨h,g,d,t,os⟩:=by
 have l0:=Aft (M:=model prog w) G J
 have O:=PySem.W.looks_mroIn (M:=model prog w) X Z.ob
 have tg:(⟨h,g,d,t,os⟩:Shared).TypeIs (.builtin "object.__class__") "getset_descriptor":=lB
 have U:(".".intercalate ("object.__class__".cutAt '.').dropLast)="object":=by decide+kernel
 refine hV slot_gs_get.plain PySem.F.entry_gs_get (slot_gs_get.check _ _ _ _ _ _ _ _ tg (PySem.F.args_gs_get _ _ _) ?_)
 repeat (any_goals (first | assumption | (with_reducible refine cE G ?_;rw [J]) | (rw [U];with_reducible refine O.at ?_) | wp_step))
 refine⟨Code.quiet_builtin _ (by decide+kernel),codeAny_builtin PySem.W.KF.entry_class ?_⟩
 unfold Builtin.«object.__class__» shownTypeOf
 repeat (any_goals (first | assumption | (with_reducible refine cE G ?_;rw [J]) | wp_step))
theorem Acy {tk:Tok}{Q:Fin->Shared->Prop} (X:K.In h) (Z:Tc K C) (G:h.get? x=some oe) (J:oe.cls= .ref C) (q:Q (.done (.ret (.ref C))) ⟨h,g,d,t,os⟩):
 wpAny (model prog w) A (Builtin.«object.__getattribute__» ⟨[.ref x,.str "__class__" tk],[]⟩) Q E ⟨h,g,d,t,os⟩:=by
 have tg:(⟨h,g,d,t,os⟩:Shared).TypeIs (.builtin "object.__class__") "getset_descriptor":=lB
 have O:=fM (M:=model prog w) X Z.cl
 have U:=lB
 have f6:=slot_gs_get.lookup
 have f7:=PySem.F.slot_gs_set.lookup
 repeat (any_goals (first | assumption | (with_reducible refine cE G ?_;rw [J]) | with_reducible refine O.at ?_ | wp_step))
 refine Acz X Z G J ?_
 repeat (any_goals (first | assumption | wp_step))
theorem Vm {G:Value}{Q:Unit->Shared->Prop} (X:K.In h) (Z:Tc K C) (J:h.get? x=some oe) (O:oe.cls= .ref C) (q:Q () ⟨h,g,d,t,os⟩):wpAny M A (checkBuiltinCall "BaseException.__getattribute__" ⟨[.ref x,G],[]⟩) Q E ⟨h,g,d,t,os⟩:=by
 have k1:builtinKind "BaseException.__getattribute__"=some .slot:=by decide+kernel
 have k2:splitId "BaseException.__getattribute__"=some ("BaseException","__getattribute__"):=by decide+kernel
 have U:=PySem.W.looks_mroIn (M:=M) X Z.be
 have ar:=PySem.F.args_bexc_ga (.ref x) G
 simp only [checkBuiltinCall,k1,k2]
 refine aA ?_
 unfold isInstance
 repeat (any_goals (first | assumption | (with_reducible refine cE J ?_;rw [O]) | with_reducible refine U.at ?_ | wp_step))
theorem Age {tk:Tok}{Q:Value->Shared->Prop} (X:K.In h) (Z:Tc K C) (G:h.get? x=some oe) (J:oe.cls= .ref C) (q:Q (.ref C) ⟨h,g,d,t,os⟩):
 wpAny (model prog w) A (getAttrBy (.ref x) (.str "__class__" tk) false) Q E ⟨h,g,d,t,os⟩:=by
 have f3:=iI.ga.bind (.ref x)
 have y0:(false&&onTheHeap (Value.builtin "BaseException.__getattribute__"))=false:=rfl
 have y1:(onTheHeap (Value.ref C)&&Value.builtin "BaseException.__getattribute__"==Value.builtin "object.__getattribute__")=false:=by
  rw [show(Value.builtin "BaseException.__getattribute__"==Value.builtin "object.__getattribute__")=false by decide+kernel];rfl
 have O:=fM (M:=model prog w) X Z.ga
 have U:=fM (M:=model prog w) X Z.gn
 repeat (any_goals (first | assumption | (with_reducible refine cE G ?_;rw [J]) | with_reducible refine O.at ?_ | with_reducible refine U.at ?_ | wp_step))
 refine hV iI.ga.plain entry_bexc_ga (Vm X Z G J (Acy X Z G J ?_))
 repeat (any_goals (first | assumption | wp_step))
theorem Zf {Q:Option Value->Shared->Prop} (X:K.In h) (Z:Tc K C) (G:h.get? x=some oe) (J:oe.cls= .ref C) (q:Q (some (.ref C)) ⟨h,g,d,t+1,os⟩):
 wpAny (model prog w) A (getAttr? (.ref x) "__class__") Q E ⟨h,g,d,t,os⟩:=by
 unfold getAttr? getAttrBy?
 repeat (any_goals (first | assumption | with_reducible apply Age X Z G J | wp_step))
theorem Vx (Z:Tc K C) (hc:oe.cls= .ref C):KitX K (.ref x) (.ref C) (fun h=>h.get? x=some oe) where
 ty:=fun _ _ _ G=>Aft G hc
 it:=fun M h X _=>by
  obtain⟨cd,e⟩:=hX.mp Z.is
  unfold PySem.W.clsIn at e
  split at e
  . rename_i c1 d1 J O ho
    intro A' Q' E' s' k q
    unfold isType loadHead
    exact aA (wpAny_loadPart (k _ _ (X _ _ ho)) (aD q))
  . cases e
 ne:=fun h tp dd a1 n sl X U=>by
  obtain⟨cd,e⟩:=hX.mp Z.is
  refine Bool.eq_false_iff.mpr fun q=> ?_
  cases Value.ref.inj (kO.mp q)
  unfold PySem.W.clsIn at e
  split at e
  . rename_i c1 d1 J O ho
    cases(X _ _ ho).symm.trans U
  . cases e
 ca:=fun {_ _ _ _ _ s} X G q=>by
  obtain⟨h,g,d,t,os⟩:=s
  exact Zf X Z G hc q
end
variable {H H':Hp}{p:Addr}
theorem nw {o:HO} (G:H p=none) (e:upd H p o=H'):Same H H'/\H' p=some o:=by
 subst e
 exact⟨Same.upd G _,Af⟩
end L2
namespace L2
open PySem PySem.Spec PyProof.Rows
noncomputable def Cr:Expr->Bool
 | .Starred _ _=>false
 | _=>true
variable {e:Expr}{env:Env}
theorem Hh {es:List Expr} (h:Cr e=true):starEach (e::es) env=(false,eval e env)::starEach es env:=by
 cases e<;>first | rfl | cases h
theorem J0 {env:Env}{pos:Pos}:∀ {es:List Expr},es.all Cr=true->(backTo pos (starEach es env)).any (·.1)=false
 | [],_=>rfl
 | e::es,h=>by
   rw [kD,cD]at h
   rw [Hh h.1]
   have G:=J0 (env:=env) (pos:=pos) h.2
   unfold backTo at G ⊢
   rw [bC,iA,G]
   rfl
section
variable {X:Cx}{e:Expr}{es:List Expr}{te:TE}{t:TA}{x:Str}{p pos:Pos}{id T:String}{r:List V->Hp->VK->Prop}{k:Nat}{ps:List Str}{sp:Sp}
theorem Afc (G:PE X e te) (J:PA X es t) (h:Cr e=true:=by rfl):PA X (e::es) (Ad9 te t):=Ag2 G J (Hh h)
theorem Aao (J:Er X (.builtin id) r) (O:Gl X x) (U:X.mg x=none) (W:bootBuiltins x=some (.builtin id)) (Z:PA X (e::es) t) (h1:Cr e=true:=by rfl) (h2:es.all Cr=true:=by rfl) (hn:x≠"__name__":=by decide) (G:(x==("__debug__":Str))=false:=by decide):
 PE X (.Call (.Name x p) (e::es) [] pos) (tCB r t):=Adn J O U W Z hn G (Hh h1) (J0 h2)
theorem R8 (J:Er X (.type T) r) (O:Gl X x) (U:X.mg x=none) (W:bootBuiltins x=some (.type T)) (Z:PA X (e::es) t) (h1:Cr e=true:=by rfl) (h2:es.all Cr=true:=by rfl) (hn:x≠"__name__":=by decide) (G:(x==("__debug__":Str))=false:=by decide):
 PE X (.Call (.Name x p) (e::es) [] pos) (tCB r t):=Aaq J O U W Z hn G (Hh h1) (J0 h2)
theorem Xu (C:Cal X.prog X.w X.K X.mg X.base k x ps sp) (J:Hi k X.A) (O:PA X (e::es) t) (h1:Cr e=true:=by rfl) (h2:es.all Cr=true:=by rfl) (U:Gl X x:=by rfl) (G:(x==("__debug__":Str))=false:=by decide):
 PE X (.Call (.Name x p) (e::es) [] pos) (Qy sp [] E0 t):=Ado C J O U G (Hh h1) (J0 h2)
theorem Xv {n:Nat} (C:Cal X.prog X.w X.K X.mg X.base k x ps sp) (J:Hi n X.A) (O:PA X (e::es) t) (U:k<=n:=by decide) (h1:Cr e=true:=by rfl) (h2:es.all Cr=true:=by rfl) (W:Gl X x:=by rfl) (G:(x==("__debug__":Str))=false:=by decide):
 PE X (.Call (.Name x p) (e::es) [] pos) (Qy sp [] E0 t):=Xu C (J.mono U) O h1 h2 W G
theorem Aax {te:TE}{x:Str}{pos':Pos} (i:Nat) (G:X.N.Nodup) (J:PE X e te) (hi:X.N[i]? =some x:=by rfl) (O:Loc X.env.scope x:=by first | exact Or.inl rfl | exact Or.inr rfl) (U:swapsWith e (some (.Name x pos')) pos.line X.env=pure false:=by rfl) (W:X.fn x=true\/X.env.scope.names.lookup x=some .local :=by first | exact .inl rfl | exact .inr rfl | assumption):
 PS X (.Assign [.Name x pos'] e pos) (Ad8 te (Mt i)):=Wb G hi O J U W
theorem Adu {x:Str} (i:Nat) (G:X.N.Nodup) (hi:X.N[i]? =some x:=by rfl) (J:Loc X.env.scope x:=by first | exact Or.inl rfl | exact Or.inr rfl) (O:X.fn x=true\/X.env.scope.names.lookup x=some .local :=by first | exact .inl rfl | exact .inr rfl | assumption):PG X (.Name x pos) (Mt i):=Uw G hi J O
end
section
variable {X:Cx}{tg:Expr}
theorem Aoq {i j:Int}{G:Int->Int->Prop}:(∃J O:Int,[V.int i,.int j,.int (-1)]=[.int J,.int O,.int (-1)]/\G J O)=G i j:=propext ⟨fun⟨_,_,e,h⟩=>by cases e;exact h,fun h=>⟨i,j,rfl,h⟩⟩
end
variable {σ:St}{H:Hp}{J:It}
theorem Am9 {g:TG}{tb:TS}{D:Ends} (n:Nat) (inj:Nat->V) (O:Nat->St->Hp->Prop) (h0:O 0 σ H) (hw:∀i σ H,O i σ H->Aen J H (List.range n) inj)
 (hs:∀i σ H,i<n->O i σ H->g (inj i) σ H fun U H2=>tb { D with nx:=O (i+1),ct:=O (i+1),bk:=D.nx} U H2) (hd:∀σ H,O n σ H->D.nx σ H):FI J g tb D σ H:=by
 refine Mr (es:=List.range n) (inj:=inj) (fun G=>O G.length) h0 (fun G σ H p=>hw G.length σ H p) (fun G e W σ H Z p=> ?_) (fun σ H p=>hd σ H (by rw [cJ]at p;exact p))
 have hl:=bE length Z
 rw [cJ,aH,bH]at hl
 have ee:e=G.length:=by
  have:=bE (fun l=>l[G.length]?) Z
  simp only [fE (aL _),sub_self,kK]at this
  rw [fR (by omega)]at this
  exact(aY this).symm
 subst ee
 have:=hs G.length σ H (by omega) p
 rw [aH,eG]
 exact this
variable {H':Hp}{p:Addr}
theorem Same.put {o:HO} (s:Same H H') (G:H p=none):Same H (L2.upd H' p o):=fun b u e=>by
 rw [Ax (Ay e G)]
 exact s b u e
noncomputable def Anf (K:Frag) (tl:TE):TI:=fun σ H R=>tl σ H fun x H1=>∃a,x= .ref a/\(((∃xs,SqL K H1 a xs)/\R (Itl K a) H1)\/((∃xs,SqT K H1 a xs)/\R (Itt K a) H1))
theorem Aky {X:Cx}{tg l:Expr}{tl:TE} (Z:PE X l tl):PI X tg l (Anf X.K tl):=by
 intro pins s σ H R I h
 refine thn (Z pins s σ H _ I h) fun v G ⟨x,H1,J,r1,U⟩=> ?_
 obtain⟨a,e,U⟩:=U
 subst e
 cases r1
 have fp:∀b∈ [G.heap.objs.size],O2 X pins H1 b:=fun b hb=>by
  have e:b=G.heap.objs.size:=by simpa using hb
  subst e
  exact J.fpOk (aL _) (J.hok.fresh (aL _))
 rcases U with⟨⟨xs,W⟩,q⟩ | ⟨⟨xs,W⟩,q⟩
 . obtain⟨O,rv,p,hz⟩:=J.list W
   exact iY p.isList ⟨G.heap.objs.size,[G.heap.objs.size],_,_,H1,rfl,J.kept (t':=G.toks) fun b o e=>aB _ e,Sy a _,⟨_,aK _ rfl,rfl,rfl⟩,fp,q⟩
 . obtain⟨O,rv,p,hz⟩:=J.tuple W
   exact fK (show G.heap.IsTuple a O.toArray from p) ⟨G.heap.objs.size,[G.heap.objs.size],_,_,H1,rfl,J.kept (t':=G.toks) fun b o e=>aB _ e,O1 a _,⟨_,aK _ rfl,rfl,rfl⟩,fp,q⟩
variable {tl:TE}
theorem Amg {K:Frag}{R:It->Hp->Prop}:Anf K tl σ H R=tl σ H (fun x H1=>∃a,x= .ref a/\(((∃xs,SqL K H1 a xs)/\R (Itl K a) H1)\/((∃xs,SqT K H1 a xs)/\R (Itt K a) H1))):=rfl
variable {D:Ends}
theorem Ck {t u:TS}{σ:St}{H:Hp} (P:St->Hp->Prop) (h1:∀N:St->Hp->Prop,(∀G H',P G H'->N G H')->t { D with nx:=N} σ H) (h2:∀G H',P G H'->u D G H'):Amy t u D σ H:=h1 (u D) h2
open PySem PySem.SeqAt PySem.Spec PyProof.Rows
variable {Q:VK}
section
variable {X:Cx}
theorem Agz:OpR X (compareOp .IsNot) (fun x y H Q=>∃a b:Bool,x= .bl a/\y= .bl b/\Q (.bl (a != b)) H):=by
 intro pins s σ H x y v u Q I G J h
 obtain⟨a,b,rfl,rfl,q⟩:=h
 cases G
 cases J
 exact isnot_bool ⟨.bl _,H,I,rfl,q⟩
noncomputable def Ahz:TE:=fun _ H Q=>∀p,H p=none->Q (.ref p) (upd H p (.dK []))
theorem Ag7 {pos:Pos}:PE X (.Dict [] [] pos) Ahz:=fun pins s σ H Q I h=>by
 have G:sysModules<s.heap.objs.size:=Nat.lt_trans (by decide) (show mainGlobals<s.heap.objs.size from(I.mod.glob.keeps I.bk).lt)
 exact wpAny_Dict_empty ⟨.ref s.heap.objs.size,_,I.laid (a:=s.heap.objs.size) (o:= .dK []) (t':=s.toks) (fun _ _ q=>aB _ q) (aL _) ⟨cH _,eS.mpr (cC (aP G)),[],.nil,Heap.DictOf.new s.heap⟩,rfl,h _ (I.hok.fresh (aL _))⟩
theorem Al8:Ahz σ H Q=∀p,H p=none->Q (.ref p) (upd H p (.dK [])):=rfl
end
noncomputable def tCV (i:Nat) (a:Addr) (sp:Sp) (E:XK) (t:TA):TE:=fun σ H Q=>σ[i]? =some (some (.ref a))/\t σ H fun vs H1=>sp vs H1 Q E
variable {i:Nat}{a:Addr}{sp:Sp}{E:XK}
theorem Aqt {t:TA}:tCV i a sp E t σ H Q=(σ[i]? =some (some (.ref a))/\t σ H fun G H1=>sp G H1 Q E):=rfl
theorem Ag4 {X:Cx}{i k:Nat}{a:Addr}{x y:Str}{ps:List Str}{sp:Sp}{p pos:Pos}{e:Expr}{es:List Expr}{t:TA} (C:Cal X.prog X.w X.K X.mg X.base k y ps sp) (U:X.mg y=some (.ref a)) (Z:Hi k X.A)
 (hx:PE X (.Name x p) (Afq i)) (ha:PA X (e::es) t) (h1:Cr e=true:=by rfl) (h2:es.all Cr=true:=by rfl):PE X (.Call (.Name x p) (e::es) [] pos) (tCV i a sp E0 t):=by
 obtain⟨f,fd,G,g,b,c⟩:=C
 have ef:f=a:=by rw [U]at g;cases g;rfl
 subst ef
 intro pins s σ H Q I h
 obtain⟨hv,h⟩:=h
 refine fL (thn (hx pins s σ H (fun v H1=>v= .ref f/\H1=H) I ⟨_,hv,rfl,rfl⟩) fun u s1 ⟨v,H1,J,r,e1,e2⟩=> ?_)
 subst e1 e2
 cases r
 refine jM (h₀:=X.base) J.ok.mod.kin b (thn (ha pos pins s1 σ H1 _ J h) fun us s2 ⟨vs,H2,O,r2,q⟩=>⟨O.kIn,?_⟩) (Hh h1) (J0 h2)
 have q':sp (vs++ []) H2 Q E0:=by rw [bT];exact q
 exact Afn G Z c .nil Ako O r2 q'
noncomputable def Amt (K:Frag) (a:Addr):It:=
 ⟨fun i H=>∃xs x,SqL K H a xs/\xs[i]? =some x,fun i H x H'=>∃p v,(∀xs,SqL K H a xs->xs[i]? =some v)/\H p=none/\x= .ref p/\H'=upd H p (.tup [.int (i:Nat),v]),fun i H=>∃xs,SqL K H a xs/\xs.length<=i⟩
variable {h:Heap}
theorem Mv {its:Array Value} (p:PlainL h a its):h.IsList a its:=by
 obtain⟨o,n,e,c,_,d⟩:=p
 exact⟨o,e,c,n,d⟩
variable {P:Program}{w:World}{el:List Expr}{tp:Pos}
theorem Aec {K:Frag}{x1} (a e j:Addr) (ne:e≠j):Turn P w K (.Tuple el x1 tp) (Amt K a) [e,j] e (fun i h=>(∃old,IsEnum h e j i old)/\h.IsListIter j a i) where
 mem:=by simp
 obj:=fun i h st b G=>by
  obtain⟨⟨old,J⟩,oj,ej,cj,dj⟩:=st
  rcases aS.mp G with rfl | G
  . exact⟨_,J,fun v z=>by cases(show Data.fields _=Data.cell v from z)⟩
  . have z:b=j:=by simpa using G
    subst z
    exact⟨oj,ej,fun v z=>by rw [dj]at z;cases z⟩
 keep:=fun i h h' st k=>by
  obtain⟨⟨old,J⟩,oj,ej,r⟩:=st
  exact⟨⟨old,k e (by simp) _ J⟩,oj,k j (by simp) _ ej,r⟩
 item:=by
  intro X hP hw hK hc i pins s σ H E I hf st hg
  subst hP hw hK
  obtain⟨xs,x,hq,hx⟩:=hg
  obtain⟨a1,rv,p,hz⟩:=I.list hq
  obtain⟨u,hu,ru⟩:=rv.get hx
  obtain⟨⟨old,J⟩,hj⟩:=st
  refine wpAny_pyNext_enum_item J hj (Mv p) (x:=u) (by simpa using hu) ne fun g U a2 hT a7 kk=>⟨_,rfl,?_⟩
  refine wpAny_letOwnedTupleGo_enum U fun g2 a3 O=> ?_
  replace O:Heap.SameBut e g g2:=O
  have a4:e<s.heap.objs.size:=aJ J
  have a5:j<s.heap.objs.size:=by
   obtain⟨_,ej,_⟩:=hj
   exact aJ ej
  have hn:H s.heap.objs.size=none:=I.fresh
  have I1:Inv X pins σ (upd H s.heap.objs.size (.tup [.int (i:Nat),x])) { s with heap:=s.heap.push { cls:= .type "tuple",data:= .seq #[.int i s.toks,u]},toks:=s.toks+1}:=
   I.laid (fun b o q=>aB _ q) (aL _) ⟨by show 2<=sizeLine;decide,[.int i s.toks,u],.cons ⟨_,rfl⟩ (.cons ru .nil),⟨_,aK _ rfl,rfl,_,rfl⟩⟩
  have Z:∀b∈ [e,j],O2 X pins (upd H s.heap.objs.size (.tup [.int (i:Nat),x])) b:=fun b G=>by
   have nb:b≠s.heap.objs.size:=by
    rcases aS.mp G with rfl | a6
    . exact aP a4
    . have z:b=j:=by simpa using a6
      subst z
      exact aP a5
   exact⟨by rw [Ax nb];exact(hf b G).1,(hf b G).2⟩
  have I2:=I1.turnL (h':=g2) (t':=s.toks+1) (fp:=[e,j]) (fun b o G q=>by
   have n1:b≠e:=fun z=>G (by simp [z])
   have n2:b≠j:=fun z=>G (by simp [z])
   refine(O.2 b n1).trans ?_
   rcases jQ q with⟨rfl,rfl⟩ | q0
   . exact hT
   . exact kk b o n1 n2 q0) Z
  refine⟨.ref s.heap.objs.size,_,I2,rfl,⟨_,x,fun ys hy=>by rw [I.list_inj hy hq];exact hx,hn,rfl,rfl⟩,⟨⟨_,by simpa using a3⟩,?_⟩,fun b G=>(Z b G).1⟩
  exact a2.extBut O.extBut (cC ne)
 done:=by
  intro X hP hw hK hc i pins s σ H E I hf st hg
  subst hP hw hK
  obtain⟨xs,hq,hx⟩:=hg
  obtain⟨a1,rv,p,hz⟩:=I.list hq
  obtain⟨⟨old,J⟩,hj⟩:=st
  have hl:=rv.length
  exact wpAny_pyNext_enum_end (I.ok.hd hc) J hj (Mv p) (by simp;omega) fun g eb=>⟨rfl,I.turnL (t':=s.toks) (fp:=[e,j]) (fun b o G q=>eb b o (fun z=>G (by simp [z])) q) hf⟩
 self:=fun _ _ _ _ _ st h=>by
  obtain⟨⟨old,J⟩,_⟩:=st
  exact kW J h
section
variable {X:Cx}{a:Expr}{ta:TA}{el:List Expr}{x1}{tp p pos:Pos}
noncomputable def Ang (K:Frag) (ta:TA):TI:=fun σ H R=>ta σ H fun vs H1=>∃a,vs=[.ref a]/\(∃xs,SqL K H1 a xs)/\R (Amt K a) H1
theorem Afe (Z:Gl X "enumerate") (hm:X.mg "enumerate"=none) (ha:PA X [a] ta) (hs:starEach [a] X.env=[(false,eval a X.env)]:=by rfl):PI X (.Tuple el x1 tp) (.Call (.Name "enumerate" p) [a] [] pos) (Ang X.K ta):=by
 intro pins s σ H R I h
 refine Call_ (Jm I Z hm boot_enumerate (dU (thn (ha pos pins s σ H _ I h) fun us G ⟨vs,H1,U,r1,q1⟩=> ?_) hs rfl))
 obtain⟨b,rfl,⟨xs,hq⟩,q⟩:=q1
 obtain⟨v,rfl,rv⟩:=vals1 r1
 cases rv
 obtain⟨a1,rr,pl,hz⟩:=U.list hq
 refine call_enumerate_list (Mv pl) fun h' W hj a2 hk=> ?_
 have I2:Inv X pins σ H1 { G with heap:=h'}:=U.kept (t':=G.toks) hk
 refine kW W ⟨G.heap.objs.size+1,[G.heap.objs.size+1,G.heap.objs.size],_,_,H1,rfl,I2,Aec b _ _ (dP (kI _)),⟨⟨_,W⟩,hj⟩,fun c J=> ?_,q⟩
 have O:G.heap.objs.size<=c:=by
  rcases aS.mp J with rfl | J
  . exact gR _
  . have z:c=G.heap.objs.size:=by simpa using J
    exact fZ z.symm
 exact U.fpOk O (U.hok.fresh O)
end
variable {ta:TA}
theorem Amh {K:Frag}{R:It->Hp->Prop}:Ang K ta σ H R=ta σ H (fun G H1=>∃a,G=[.ref a]/\(∃xs,SqL K H1 a xs)/\R (Amt K a) H1):=rfl
theorem Aev {K:Frag}{g:TG}{tb:TS}{D:Ends}{α:Type}{es:List α}{inj:α->V} (J:List α->St->Hp->Prop) (h0:J [] σ H) (hw:∀G σ H,J G σ H->SqL K H a (es.map inj))
 (hs:∀G e O σ H p,es=G++e::O->J G σ H->H p=none->g (.ref p) σ (upd H p (.tup [.int (G.length:Nat),inj e])) fun Z H2=>tb { D with nx:=J (G++ [e]),ct:=J (G++ [e]),bk:=D.nx} Z H2) (hd:∀σ H,J es σ H->D.nx σ H):FI (Amt K a) g tb D σ H:=by
 refine⟨fun i m σ H=>m=es.length-i/\i<=es.length/\J (es.take i) σ H,⟨es.length,by simp,cH _,h0⟩,?_⟩
 rintro i m σ H ⟨rfl,hi,p⟩
 have w:=hw _ _ _ p
 cases he:es[i]? with
 | none=>
   have e:i=es.length:=fJ hi (bS.mp he)
   subst e
   rw [fU]at p
   exact .inl ⟨⟨_,w,by rw [aC];exact aL _⟩,hd _ _ p⟩
 | some e=>
   obtain⟨U,ee⟩:=aW.mp he
   have tk:es.take (i+1)=es.take i++ [e]:=by rw [iM,he];rfl
   have sp:es=es.take i++e::es.drop (i+1):=by
    rw [<-ee,<-gZ U,dE]
   refine .inr ⟨⟨_,inj e,w,by rw [aN,he];rfl⟩,J (es.take i++ [e]),fun a1 H' q=>⟨es.length-(i+1),by omega,rfl,U,by rw [tk];exact q⟩,fun x H' y=> ?_⟩
   obtain⟨b,v,y1,y2,rfl,rfl⟩:=y
   have y3:=y1 _ w
   rw [aN,he]at y3
   obtain rfl:inj e=v:=aY y3
   have hl:(es.take i).length=i:=by rw [bV];omega
   have z:=hs _ e _ σ H b sp p y2
   rw [hl]at z
   exact z
section
variable {M:Model}{A:Around}{E:Value->Shared->Prop}{K:Frag}{h:Heap}{g:Array GenState}{d:Drawn}{t:Nat}{os:OsState}{e C Dc:Addr}{oe:Obj}{Q:Bool->Shared->Prop}
theorem Ze (X:K.In h) (U:Apd h Dc) (Z:PySem.W.mroIn K C (.ref Dc)=some true) (he:h.get? e=some oe) (G:oe.cls= .ref C) (hq:Q true ⟨h,g,d,t,os⟩):wpAny M A (excMatches (.ref e) (.ref Dc)) Q E ⟨h,g,d,t,os⟩:=by
 obtain⟨bm,N,nm,q,bs,hdct,sn,sub,ab,col,dd,k0,k1,k2,k3,k5,mN,O,hN,a1,TL⟩:=U
 have hB:bm.contains (.type "BaseException")=true:=TL.hasType (by decide)
 have J:(Value.ref Dc::bm).contains (.type "BaseException")=true:=by rw [List.contains_cons,hB,Bool.or_true]
 have f:=tc_notTuple
 unfold excMatches
 repeat (first | (with_reducible refine cE he ?_;rw [G]) | with_reducible refine cE O ?_ | (with_reducible refine jT O ?_;rw [J]) | (with_reducible refine PySem.W.Looks.at (PySem.W.looks_mroIn X Z) ?_) | wp_step)
 exact hq
end
theorem Ap5 {α:Type}{p:α->Prop}:∀a∈([]:List α),p a:=fun _ h=>nomatch h
theorem Ap4 {α:Type}{p:α->Prop}{a:α}{as:List α} (h:p a) (r:∀b∈as,p b):∀b∈a::as,p b:=fun b G=>by
 rcases aS.mp G with rfl | G
 . exact h
 . exact r b G
noncomputable def It1 (t:Bool) (h:Heap) (j u:Addr) (k:Nat):Prop:=if t=true then h.IsTupleIter j u k else h.IsListIter j u k
noncomputable def Sq1 (t:Bool) (h:Heap) (u:Addr) (xs:Array Value):Prop:=if t=true then h.IsTuple u xs else h.IsList u xs
variable {b:Addr}
theorem It1.ext {t:Bool}{g:Heap}{j u:Addr}{k:Nat} (x:It1 t h j u k) (e:Heap.ExtBut b h g) (n:j≠b):It1 t g j u k:=by
 cases t
 . exact Heap.IsListIter.extBut x e n
 . exact Heap.IsTupleIter.extBut x e n
theorem It1.to {t:Bool}{g:Heap}{j u:Addr}{k:Nat} (x:It1 t h j u k) (e:∀o,h.get? j=some o->g.get? j=some o):It1 t g j u k:=by
 cases t
 . exact Heap.IsListIter.at x e
 . exact Heap.IsTupleIter.at x e
theorem Sq1.ext {t:Bool}{g:Heap}{u:Addr}{xs:Array Value} (x:Sq1 t h u xs) (e:Heap.ExtBut b h g) (n:u≠b):Sq1 t g u xs:=by
 cases t
 . exact Heap.IsList.extBut x e n
 . exact Heap.IsTuple.extBut x e n
theorem It1.there {t:Bool}{j u:Addr}{k:Nat} (x:It1 t h j u k):∃o,h.get? j=some o/\∀v,o.data≠ .cell v:=by
 cases t
 . obtain⟨o,e,_,d⟩:=(show h.IsListIter j u k from x)
   exact⟨o,e,fun v z=>by rw [d]at z;cases z⟩
 . obtain⟨o,e,_,d⟩:=(show h.IsTupleIter j u k from x)
   exact⟨o,e,fun v z=>by rw [d]at z;cases z⟩
variable {G O U W:Addr}
section
variable {prog:Program}{w:World}{A:Around}{E:Value->Shared->Prop}{s:Shared}
theorem Agr {t:Bool}{j u:Addr}{k:Nat}{xs:Array Value}{y:Value}{Q:Value->Shared->Prop} (G:It1 t s.heap j u k) (J:Sq1 t s.heap u xs) (O:xs[k]? =some y)
 (c:∀g,It1 t g j u (k+1)->Heap.SameBut j s.heap g->Q y { s with heap:=g}):wpAny (model prog w) A (Builtin.SmallTypes.nextOf (.ref j)) Q E s:=by
 cases t
 . exact wpAny_nextOf_list_item G J O c
 . exact nextT G J O c
theorem R0 {t:Bool}{j u:Addr}{k:Nat}{xs:Array Value}{Q:Value->Shared->Prop} (G:A.handled=none) (J:It1 t s.heap j u k) (O:Sq1 t s.heap u xs) (U:xs[k]? =none)
 (c:∀g e,Heap.ExtBut j s.heap g->(∃o,g.get? e=some o/\o.cls= .type "StopIteration")->E (.ref e) { s with heap:=g}):wpAny (model prog w) A (Builtin.SmallTypes.nextOf (.ref j)) Q E s:=by
 cases t
 . exact wpAny_nextOf_list_end G J O U c
 . exact R3 G J O U c
theorem Ab1 {t1 t2:Bool}{TI TO u1 u2:Addr}{k1 k2:Nat}{xs ys:Array Value}{x y p q:Value}{Q:Value->Shared->Prop} (D:ZipApart G TI TO O U u1 u2)
 (hz:IsZip s.heap G TI TO .none) (a4:IsPair s.heap TI (.ref O) (.ref U)) (a5:IsPair s.heap TO p q) (j1:It1 t1 s.heap O u1 k1) (j2:It1 t2 s.heap U u2 k2) (a1:Sq1 t1 s.heap u1 xs) (a2:Sq1 t2 s.heap u2 ys) (hx:xs[k1]? =some x) (hy:ys[k2]? =some y)
 (c:∀g,IsZip g G TI TO (rawInt s.heap.objs.size)->IsPair g TO x y->It1 t1 g O u1 (k1+1)->It1 t2 g U u2 (k2+1)->IsPair g s.heap.objs.size x y->g.objs.size=s.heap.objs.size+1->
   (∀b o,b≠G->b≠TO->b≠O->b≠U->s.heap.get? b=some o->g.get? b=some o)->Q (.ref s.heap.objs.size) { s with heap:=g}):
 wpAny (model prog w) A (Builtin.«zip.__next__» ⟨[.ref G],[]⟩) (fun a6 s'=>∃v,a6= .done (.ret v)/\Q v s') E s:=by
 show wpAny _ _ (field (.ref G) 2>>=_) _ _ s
 refine aA (cG hz rfl (x:= .bool false) rfl ?z1)
 case z1=>
 show wpAny _ _ (field (.ref G) 3>>=_) _ _ s
 refine aA (cG hz rfl (x:= .ref TI) rfl (aA (dQ a4 rfl ?z2)))
 case z2=>
 show wpAny _ _ (Builtin.SmallTypes.ownedTupleIsFree (.ref G)>>=_) _ _ s
 refine aA (m:=Builtin.SmallTypes.ownedTupleIsFree (.ref G)) ?z3
 case z3=>
 unfold Builtin.SmallTypes.ownedTupleIsFree;refine aA (cG hz rfl (x:= .none) rfl (aD ?z4))
 case z4=>
 simp only [fW];refine aA (jE (aA (cG hz rfl (x:= .ref TO) rfl (aA (bW hz (by simp) fun g1 (z1:IsZip g1 G TI TO .ellipsis) W=> ?z5)))))
 case z5=>
 refine aA ?z6
 case z6=>
 simp only [iC,jO,zipIdx_cons,List.zipIdx_nil]
 refine aA (aA (wpAny_onRaise ?z7))
 case z7=>
 show wpAny _ _ (Builtin.SmallTypes.nextOf (.ref O)>>=_) _ _ { s with heap:=g1}
 refine aA (Agr (j1.ext W.extBut D.i1z) (a1.ext W.extBut D.l1z) hx fun g2 n1 b2=>aD ?z8)
 case z8=>
 have o2:IsPair g2 TO p q:=b2.extBut _ _ D.TOi1 (W.extBut _ _ D.TOz a5)
 refine aA (dQ o2 rfl (aA (wpAny_updateSeq_pair o2 fun g3 (o3:IsPair g3 TO x q) b3=>aA (gK (aD (aA (aA (wpAny_onRaise ?z9))))))))
 case z9=>
 show wpAny _ _ (Builtin.SmallTypes.nextOf (.ref U)>>=_) _ _ { s with heap:=g3}
 refine aA (Agr (((j2.ext W.extBut D.i2z).ext b2.extBut D.i12.symm).ext b3.extBut D.TOi2.symm) (((a2.ext W.extBut D.l2z).ext b2.extBut D.l2i1).ext b3.extBut D.l2TO) hy fun g4 n2 b4=>aD ?z10)
 case z10=>
 have o4:IsPair g4 TO x q:=b4.extBut _ _ D.TOi2 o3
 refine aA (dQ o4 rfl (aA (wpAny_updateSeq_pair o4 fun J (o5:IsPair J TO x y) b5=>aA (gK (aD (aD (aA (dQ o5 rfl (aA (wpAny_newTuple ?z11))))))))))
 case z11=>
 have sz:J.objs.size=s.heap.objs.size:=by rw [b5.1,b4.1,b3.1,b2.1,W.1]
 have z5:IsZip J G TI TO .ellipsis:=b5.extBut _ _ D.TOz.symm (b4.extBut _ _ D.i2z.symm (b3.extBut _ _ D.TOz.symm (b2.extBut _ _ D.i1z.symm z1)))
 have k5:∀b o,b≠G->b≠TO->b≠O->b≠U->s.heap.get? b=some o->J.get? b=some o:=fun b o Z c2 c3 c4 e=>b5.extBut _ _ c2 (b4.extBut _ _ c4 (b3.extBut _ _ c2 (b2.extBut _ _ c3 (W.extBut _ _ Z e))))
 have m1:It1 t1 J O u1 (k1+1):=((n1.ext b3.extBut D.TOi1.symm).ext b4.extBut D.i12).ext b5.extBut D.TOi1.symm
 have m2:It1 t2 J U u2 (k2+1):=n2.ext b5.extBut D.TOi2.symm
 have a3:G<J.objs.size:=aJ z5
 show wpAny _ _ (Builtin.SmallTypes.ownedTupleHandOut (.ref G) (.ref J.objs.size)>>=_) _ _ _
 refine aA (m:=Builtin.SmallTypes.ownedTupleHandOut (.ref G) (.ref J.objs.size)) ?z12
 case z12=>
 unfold Builtin.SmallTypes.ownedTupleHandOut
 have z6:IsZip (J.push { cls:= .type "tuple",data:= .seq #[x,y]}) G TI TO .ellipsis:=aB _ z5
 refine aA (bW z6 (by simp) fun g7 (z7:IsZip g7 G TI TO (rawInt J.objs.size)) b7=>bW z7 (by simp) fun g8 (z8:IsZip g8 G TI TO (rawInt J.objs.size)) b8=> ?z13)
 case z13=>
 have up:∀b o,b≠G->J.get? b=some o->g8.get? b=some o:=fun b o Z e=>b8.extBut _ _ Z (b7.extBut _ _ Z (aB _ e))
 have t8:IsPair g8 J.objs.size x y:=b8.extBut _ _ (dP a3) (b7.extBut _ _ (dP a3) (aK _ rfl))
 have w8:g8.objs.size=J.objs.size+1:=by rw [b8.1,b7.1,dM]
 rw [sz]at z8 t8 w8
 refine aD ⟨_,rfl,?z14⟩
 case z14=>
 show Q (.ref J.objs.size) _
 rw [sz]
 exact c g8 z8 (up _ _ D.TOz o5) (m1.to fun o e=>up _ o D.i1z e) (m2.to fun o e=>up _ o D.i2z e) t8 w8 fun b o Z c2 c3 c4 e=>up b o Z (k5 b o Z c2 c3 c4 e)
theorem Aek {t1 t2:Bool}{J TI TO i1 i2 u1 u2:Addr}{k1 k2:Nat}{xs ys:Array Value}{p q:Value}{Q:Fin->Shared->Prop} (hh:A.handled=none) (D:ZipApart J TI TO i1 i2 u1 u2)
 (hz:IsZip s.heap J TI TO .none) (a3:IsPair s.heap TI (.ref i1) (.ref i2)) (a4:IsPair s.heap TO p q) (j1:It1 t1 s.heap i1 u1 k1) (j2:It1 t2 s.heap i2 u2 k2) (a1:Sq1 t1 s.heap u1 xs) (a2:Sq1 t2 s.heap u2 ys) (he:xs[k1]? =none\/ys[k2]? =none)
 (c:∀g e,(∀b o,b≠J->b≠TO->b≠i1->b≠i2->s.heap.get? b=some o->g.get? b=some o)->(∃o,g.get? e=some o/\o.cls= .type "StopIteration")->E (.ref e) { s with heap:=g}):
 wpAny (model prog w) A (Builtin.«zip.__next__» ⟨[.ref J],[]⟩) Q E s:=by
 show wpAny _ _ (field (.ref J) 2>>=_) _ _ s
 refine aA (cG hz rfl (x:= .bool false) rfl ?z1)
 case z1=>
 show wpAny _ _ (field (.ref J) 3>>=_) _ _ s
 refine aA (cG hz rfl (x:= .ref TI) rfl (aA (dQ a3 rfl ?z2)))
 case z2=>
 show wpAny _ _ (Builtin.SmallTypes.ownedTupleIsFree (.ref J)>>=_) _ _ s
 refine aA (m:=Builtin.SmallTypes.ownedTupleIsFree (.ref J)) ?z3
 case z3=>
 unfold Builtin.SmallTypes.ownedTupleIsFree;refine aA (cG hz rfl (x:= .none) rfl (aD ?z4))
 case z4=>
 simp only [fW];refine aA (jE (aA (cG hz rfl (x:= .ref TO) rfl (aA (bW hz (by simp) fun g1 (z1:IsZip g1 J TI TO .ellipsis) U=> ?z5)))))
 case z5=>
 refine aA ?z6
 case z6=>
 simp only [iC,jO,zipIdx_cons,List.zipIdx_nil]
 refine aA (aA (wpAny_onRaise ?z7))
 case z7=>
 show wpAny _ _ (Builtin.SmallTypes.nextOf (.ref i1)>>=_) _ _ { s with heap:=g1}
 cases hx:xs[k1]? with
 | none=>
   refine aA (R0 hh (j1.ext U.extBut D.i1z) (a1.ext U.extBut D.l1z) hx fun g2 e W ⟨oe,G,O⟩=> ?_)
   have z2:IsZip g2 J TI TO .ellipsis:=W _ _ D.i1z.symm z1
   have ne:e≠J:=fun y=>by subst y;rw [z2]at G;cases G;simp at O
   exact bW z2 (by simp) fun g3 _ Z=>c g3 e (fun b o c1 _ c3 _ y=>Z.extBut _ _ c1 (W _ _ c3 (U.extBut _ _ c1 y))) ⟨oe,Z.extBut _ _ ne G,O⟩
 | some x=>
   have hy:ys[k2]? =none:=by
    rcases he with h | h
    . rw [hx]at h;cases h
    . exact h
   refine aA (Agr (j1.ext U.extBut D.i1z) (a1.ext U.extBut D.l1z) hx fun g2 n1 W=>aD ?_)
   have o2:IsPair g2 TO p q:=W.extBut _ _ D.TOi1 (U.extBut _ _ D.TOz a4)
   refine aA (dQ o2 rfl (aA (wpAny_updateSeq_pair o2 fun g3 o3 Z=>aA (gK (aD (aA (aA (wpAny_onRaise ?z9))))))))
   case z9=>
   show wpAny _ _ (Builtin.SmallTypes.nextOf (.ref i2)>>=_) _ _ { s with heap:=g3}
   refine aA (R0 hh (((j2.ext U.extBut D.i2z).ext W.extBut D.i12.symm).ext Z.extBut D.TOi2.symm) (((a2.ext U.extBut D.l2z).ext W.extBut D.l2i1).ext Z.extBut D.l2TO) hy fun g4 e b4 ⟨oe,G,O⟩=> ?_)
   have z4:IsZip g4 J TI TO .ellipsis:=b4 _ _ D.i2z.symm (Z.extBut _ _ D.TOz.symm (W.extBut _ _ D.i1z.symm z1))
   have ne:e≠J:=fun y=>by subst y;rw [z4]at G;cases G;simp at O
   exact bW z4 (by simp) fun g5 _ b5=>c g5 e (fun b o c1 c2 c3 c4 y=>b5.extBut _ _ c1 (b4 _ _ c4 (Z.extBut _ _ c2 (W.extBut _ _ c3 (U.extBut _ _ c1 y))))) ⟨oe,b5.extBut _ _ ne G,O⟩
theorem Ab2 {Z t2:Bool}{TI TO J:Addr}{k1 k2:Nat}{xs ys:Array Value}{x y p q:Value}{Q:Option Value->Shared->Prop} (D:ZipApart G TI TO J O U W)
 (hz:IsZip s.heap G TI TO .none) (a3:IsPair s.heap TI (.ref J) (.ref O)) (a4:IsPair s.heap TO p q) (j1:It1 Z s.heap J U k1) (j2:It1 t2 s.heap O W k2) (a1:Sq1 Z s.heap U xs) (a2:Sq1 t2 s.heap W ys) (hx:xs[k1]? =some x) (hy:ys[k2]? =some y)
 (c:∀g,IsZip g G TI TO (rawInt s.heap.objs.size)->IsPair g TO x y->It1 Z g J U (k1+1)->It1 t2 g O W (k2+1)->IsPair g s.heap.objs.size x y->g.objs.size=s.heap.objs.size+1->
   (∀b o,b≠G->b≠TO->b≠J->b≠O->s.heap.get? b=some o->g.get? b=some o)->Q (some (.ref s.heap.objs.size)) { s with heap:=g}):wpAny (model prog w) A (pyNext (.ref G)) Q E s:=by
 have ty:s.TypeIs (.ref G) "zip":=⟨_,hz,rfl⟩
 unfold pyNext
 exact aA (fV (cB (name:=Str.ofString "__next__") ty F.slot_zip_next (bZ F.slot_zip_next ty F.entry_zip_next
  (Ab1 D hz a3 a4 j1 j2 a1 a2 hx hy fun g b1 b2 b3 b4 b5 b6 b7=>aD (c g b1 b2 b3 b4 b5 b6 b7)) (F.args_zip_next_1 _))))
theorem Ab3 {t1 t2:Bool}{TI TO J:Addr}{k1 k2:Nat}{xs ys:Array Value}{p q:Value}{Q:Option Value->Shared->Prop} (hh:A.handled=none) (D:ZipApart G TI TO J O U W)
 (hz:IsZip s.heap G TI TO .none) (Z:IsPair s.heap TI (.ref J) (.ref O)) (a3:IsPair s.heap TO p q) (j1:It1 t1 s.heap J U k1) (j2:It1 t2 s.heap O W k2) (a1:Sq1 t1 s.heap U xs) (a2:Sq1 t2 s.heap W ys) (he:xs[k1]? =none\/ys[k2]? =none)
 (c:∀g,(∀b o,b≠G->b≠TO->b≠J->b≠O->s.heap.get? b=some o->g.get? b=some o)->Q none { s with heap:=g}):wpAny (model prog w) A (pyNext (.ref G)) Q E s:=by
 have ty:s.TypeIs (.ref G) "zip":=⟨_,hz,rfl⟩
 unfold pyNext
 refine aA (fV (cB (name:=Str.ofString "__next__") ty F.slot_zip_next (bZ F.slot_zip_next ty F.entry_zip_next (Aek hh D hz Z a3 j1 j2 a1 a2 he fun g e hk ⟨o,ho,hc⟩=> ?_) (F.args_zip_next_1 _))))
 exact aA (lH (T:="StopIteration") (b:=true) ⟨o,ho,hc⟩ isSubtype_stop (aD (c _ hk)))
end
noncomputable def Aju (t:Bool):String:=if t=true then "tuple_iterator" else "list_iterator"
noncomputable abbrev Ud (t:Bool) (u:Addr):Obj:={ cls:= .type (Aju t),data:= .fields #[.ref u,.int 0 0]}
variable {s:Shared}
theorem iter1 {prog:Program}{w:World}{A:Around}{E:Value->Shared->Prop}{t:Bool}{u:Addr}{xs:Array Value}{Q:Value->Shared->Prop} (h:Sq1 t s.heap u xs) (q:Q (.ref s.heap.objs.size) { s with heap:=s.heap.push (Ud t u)}):wpAny (model prog w) A (pyIter (.ref u)) Q E s:=by
 cases t
 . exact iY h q
 . exact fK h q
theorem Zw {t:Bool}{u j:Addr}{g:Heap} (e:g.get? j=some (Ud t u)):It1 t g j u 0:=by
 cases t
 . exact⟨_,e,rfl,rfl⟩
 . exact⟨_,e,rfl,rfl⟩
theorem Sq1.push {t:Bool}{h:Heap}{u:Addr}{xs:Array Value} (x:Sq1 t h u xs) (o:Obj):Sq1 t (h.push o) u xs:=by
 cases t
 . exact Heap.IsList.push x _
 . obtain⟨G,e,r⟩:=(show h.IsTuple u xs from x)
   exact⟨G,aB _ e,r⟩
noncomputable abbrev zA1 (t1:Bool) (h:Heap) (u1:Addr):Heap:=h.push (Ud t1 u1)
noncomputable abbrev zA2 (t1 t2:Bool) (h:Heap) (u1 u2:Addr):Heap:=(zA1 t1 h u1).push (Ud t2 u2)
noncomputable abbrev zA3 (t1 t2:Bool) (h:Heap) (u1 u2:Addr):Heap:=(zA2 t1 t2 h u1 u2).push { cls:= .type "tuple",data:= .seq #[.ref h.objs.size,.ref (zA1 t1 h u1).objs.size]}
noncomputable abbrev zA4 (t1 t2:Bool) (h:Heap) (u1 u2:Addr):Heap:=(zA3 t1 t2 h u1 u2).push { cls:= .type "tuple",data:= .seq #[.none,.none]}
noncomputable abbrev zA5 (t1 t2:Bool) (h:Heap) (u1 u2:Addr):Heap:=(zA4 t1 t2 h u1 u2).push { cls:= .type "zip",data:= .fields #[.none,.bool false,.bool false,.ref (zA2 t1 t2 h u1 u2).objs.size,.ref (zA3 t1 t2 h u1 u2).objs.size]}
theorem Xh (J U:Bool) (G O:Addr) (xs ys:Array Value):
 Meets (Builtin.«zip.__new__» ⟨[.type "zip",.ref G,.ref O],[]⟩) (fun _ R s=>Sq1 J s.heap G xs/\Sq1 U s.heap O ys/\R (.ok (.ret (.ref (zA4 J U s.heap G O).objs.size))) { s with heap:=zA5 J U s.heap G O}):=
 .of_wp fun prog w A R s h=>by
  obtain⟨W,g,d,tk,os⟩:=s;obtain⟨Z,b2,h⟩:=h
  have su:=sub_zip
  have L1:Sq1 J (Shared.heap ⟨W,g,d,tk,os⟩) G xs:=Z
  have L2:Sq1 U (Shared.heap ⟨W.push (Ud J G),g,d,tk,os⟩) O ys:=b2.push _
  wp_walk using iter1 L1,iter1 L2
  exact⟨_,rfl,h⟩
variable {ys:Array Value}
theorem Ym {prog:Program}{w:World}{A:Around}{E:Value->Shared->Prop}{J U:Bool}{xs:Array Value}{Q:Value->Shared->Prop} (b1:Sq1 J s.heap G xs) (b2:Sq1 U s.heap O ys)
 (c:∀g,IsZip g (s.heap.objs.size+4) (s.heap.objs.size+2) (s.heap.objs.size+3) .none->IsPair g (s.heap.objs.size+2) (.ref s.heap.objs.size) (.ref (s.heap.objs.size+1))->IsPair g (s.heap.objs.size+3) .none .none->
   It1 J g s.heap.objs.size G 0->It1 U g (s.heap.objs.size+1) O 0->(∀b o,s.heap.get? b=some o->g.get? b=some o)->Q (.ref (s.heap.objs.size+4)) { s with heap:=g}):wpAny (model prog w) A (call (.type "zip") [.ref G,.ref O]) Q E s:=by
 refine callType_new F.called_zip (by decide) (F.typeCall_zip_2 _ _) (F.newCall_zip_2 _ _) (fun obj=>F.args_object_init_3 obj _ _) F.entry_zip_new (Xh J U G O xs ys) ⟨b1,b2,?_⟩
 have W:(zA1 J s.heap G).objs.size=s.heap.objs.size+1:=dM ..
 have Z:(zA2 J U s.heap G O).objs.size=s.heap.objs.size+2:=by rw [dM,W]
 have w3:(zA3 J U s.heap G O).objs.size=s.heap.objs.size+3:=by rw [dM,Z]
 have w4:(zA4 J U s.heap G O).objs.size=s.heap.objs.size+4:=by rw [dM,w3]
 have e5:(zA5 J U s.heap G O).get? (zA4 J U s.heap G O).objs.size=some _:=aK _ rfl
 have e4:(zA5 J U s.heap G O).get? (zA3 J U s.heap G O).objs.size=some _:=aB _ (aK _ rfl)
 have e3:(zA5 J U s.heap G O).get? (zA2 J U s.heap G O).objs.size=some _:=aB _ (aB _ (aK _ rfl))
 have e2:(zA5 J U s.heap G O).get? (zA1 J s.heap G).objs.size=some (Ud U O):=aB _ (aB _ (aB _ (aK _ rfl)))
 have e1:(zA5 J U s.heap G O).get? s.heap.objs.size=some (Ud J G):=aB _ (aB _ (aB _ (aB _ (aK _ rfl))))
 show _/\_
 rw [Z,w3,w4]at e5
 rw [W,Z]at e3
 rw [w3]at e4
 rw [W]at e2
 rw [w4]
 exact⟨⟨_,e5,rfl⟩,c _ e5 e3 e4 (Zw e1) (Zw e2) fun b o x=>aB _ (aB _ (aB _ (aB _ (aB _ x))))⟩
noncomputable def SqB (t:Bool) (K:Frag) (H:Hp) (a:Addr) (xs:List V):Prop:=if t=true then SqT K H a xs else SqL K H a xs
variable {X:Cx}{pins:List (Addr × Obj)}{xs:List V}
theorem Inv.sqB {t:Bool} (I:Inv X pins σ H s) (h:SqB t X.K H a xs):∃G:List Value,Vals xs G/\Sq1 t s.heap a G.toArray:=by
 cases t
 . obtain⟨G,r,p,_⟩:=I.list h
   exact⟨G,r,p.isList⟩
 . obtain⟨G,r,p,_⟩:=I.tuple h
   exact⟨G,r,p⟩
theorem Inv.sqB_inj {t:Bool}{ys:List V} (I:Inv X pins σ H s) (h:SqB t X.K H a xs) (h':SqB t X.K H a ys):xs=ys:=by
 cases t
 . exact I.list_inj h h'
 . exact I.tuple_inj h h'
noncomputable def Amu (t1 t2:Bool) (K:Frag) (a b:Addr):It:=
 ⟨fun i H=>∃xs ys x y,SqB t1 K H a xs/\SqB t2 K H b ys/\xs[i]? =some x/\ys[i]? =some y,
  fun i H x H'=>∃p u v,(∀xs,SqB t1 K H a xs->xs[i]? =some u)/\(∀ys,SqB t2 K H b ys->ys[i]? =some v)/\H p=none/\x= .ref p/\H'=upd H p (.tup [u,v]),
  fun i H=>∃xs ys,SqB t1 K H a xs/\SqB t2 K H b ys/\(xs.length<=i\/ys.length<=i)⟩
theorem Abt {P:Program}{w:World}{K:Frag}{el:List Expr}{x1}{tp:Pos} (t1 t2:Bool) (a b z TI TO i1 i2:Addr) (D:ZipApart z TI TO i1 i2 a b):
 Turn P w K (.Tuple el x1 tp) (Amu t1 t2 K a b) [z,TI,TO,i1,i2] z (fun i h=>IsZip h z TI TO .none/\IsPair h TI (.ref i1) (.ref i2)/\(∃c d,IsPair h TO c d)/\It1 t1 h i1 a i/\It1 t2 h i2 b i) where
 mem:=by simp
 obj:=fun i h st c hc=>by
  obtain⟨Z,G,⟨u,v,O⟩,h1,h2⟩:=st
  simp only [aS,not_mem_nil,or_false]at hc
  rcases hc with rfl | rfl | rfl | rfl | rfl
  . exact⟨_,Z,fun v z=>by cases(show Data.fields _=Data.cell v from z)⟩
  . exact⟨_,G,fun v z=>by cases(show Data.seq _ _=Data.cell v from z)⟩
  . exact⟨_,O,fun v z=>by cases(show Data.seq _ _=Data.cell v from z)⟩
  . exact h1.there
  . exact h2.there
 keep:=fun i h h' st k=>by
  obtain⟨Z,G,⟨u,v,O⟩,h1,h2⟩:=st
  exact⟨k z (by simp) _ Z,k TI (by simp) _ G,⟨u,v,k TO (by simp) _ O⟩,h1.to fun o e=>k i1 (by simp) _ e,h2.to fun o e=>k i2 (by simp) _ e⟩
 item:=by
  intro X hP hw hK hc i pins s σ H E I hf st hg
  subst hP hw hK
  obtain⟨xs,ys,x,y,a7,a8,hx,hy⟩:=hg
  obtain⟨ad,rv,p⟩:=I.sqB a7
  obtain⟨aa,a9,p2⟩:=I.sqB a8
  obtain⟨u,hu,ru⟩:=rv.get hx
  obtain⟨v,hv,ae⟩:=a9.get hy
  obtain⟨Z,G,⟨c,d,O⟩,h1,h2⟩:=st
  refine Ab2 D Z G O h1 h2 p p2 (x:=u) (y:=v) (by simpa using hu) (by simpa using hv) fun g a1 a2 a3 a4 a5 a6 hk=>⟨_,rfl,?_⟩
  refine wpAny_letOwnedTupleGo_zip a1 fun g2 af U=> ?_
  replace U:Heap.SameBut z g g2:=U
  have lt:∀b∈ [z,TI,TO,i1,i2],b≠s.heap.objs.size:=fun b J=>by
   obtain⟨o1,e1,_⟩:=h1.there
   obtain⟨o2,e2,_⟩:=h2.there
   simp only [aS,not_mem_nil,or_false]at J
   rcases J with rfl | rfl | rfl | rfl | rfl
   . exact aP (aJ Z)
   . exact aP (aJ G)
   . exact aP (aJ O)
   . exact aP (aJ e1)
   . exact aP (aJ e2)
  have hn:H s.heap.objs.size=none:=I.fresh
  have I1:Inv X pins σ (upd H s.heap.objs.size (.tup [x,y])) { s with heap:=s.heap.push { cls:= .type "tuple",data:= .seq #[u,v]},toks:=s.toks}:=
   I.laid (fun b o q=>aB _ q) (aL _) ⟨by show 2<=sizeLine;decide,[u,v],.cons ru (.cons ae .nil),⟨_,aK _ rfl,rfl,_,rfl⟩⟩
  have ac:∀b∈ [z,TI,TO,i1,i2],O2 X pins (upd H s.heap.objs.size (.tup [x,y])) b:=fun b J=>
   ⟨by rw [Ax (lt b J)];exact(hf b J).1,(hf b J).2⟩
  have I2:=I1.turnL (h':=g2) (t':=s.toks) (fp:=[z,TI,TO,i1,i2]) (fun b o J q=>by
   have n1:b≠z:=fun e=>J (by simp [e])
   refine(U.2 b n1).trans ?_
   rcases jQ q with⟨rfl,rfl⟩ | q0
   . exact a5
   . exact hk b o n1 (fun e=>J (by simp [e])) (fun e=>J (by simp [e])) (fun e=>J (by simp [e])) q0) ac
  refine⟨.ref s.heap.objs.size,_,I2,rfl,⟨_,x,y,fun zs Z=>by rw [I.sqB_inj Z a7];exact hx,fun zs Z=>by rw [I.sqB_inj Z a8];exact hy,hn,rfl,rfl⟩,⟨af,?_,⟨u,v,U.extBut _ _ D.TOz a2⟩,a3.ext U.extBut D.i1z,a4.ext U.extBut D.i2z⟩,fun b J=>(ac b J).1⟩
  exact U.extBut _ _ D.TIz (hk _ _ D.TIz D.TITO D.TIi1 D.TIi2 G)
 done:=by
  intro X hP hw hK hc i pins s σ H E I hf st hg
  subst hP hw hK
  obtain⟨xs,ys,a7,a8,ag⟩:=hg
  obtain⟨ad,rv,p⟩:=I.sqB a7
  obtain⟨aa,a9,p2⟩:=I.sqB a8
  obtain⟨Z,G,⟨c,d,O⟩,h1,h2⟩:=st
  have l1:=rv.length
  have l2:=a9.length
  exact Ab3 (I.ok.hd hc) D Z G O h1 h2 p p2 (by
   rcases ag with h | h
   . exact .inl (by simp;omega)
   . exact .inr (by simp;omega)) fun g hk=>⟨rfl,I.turnL (t':=s.toks) (fp:=[z,TI,TO,i1,i2]) (fun b o J q=>hk b o (fun e=>J (by simp [e])) (fun e=>J (by simp [e])) (fun e=>J (by simp [e])) (fun e=>J (by simp [e])) q) hf⟩
 self:=fun _ _ _ _ _ st h=>wpAny_pyIter_zip st.1 h
section
variable {X:Cx}{a b:Expr}{ta:TA}{el:List Expr}{x1}{tp p pos:Pos}
noncomputable def Agj (t1 t2:Bool) (K:Frag) (ta:TA):TI:=fun σ H R=>ta σ H fun vs H1=>∃a b,vs=[.ref a,.ref b]/\(∃xs,SqB t1 K H1 a xs)/\(∃ys,SqB t2 K H1 b ys)/\R (Amu t1 t2 K a b) H1
theorem Uy (Z t2:Bool) (hg:Gl X "zip") (hm:X.mg "zip"=none) (ha:PA X [a,b] ta) (hs:starEach [a,b] X.env=[(false,eval a X.env),(false,eval b X.env)]:=by rfl) (J:starEach [b] X.env=[(false,eval b X.env)]:=by rfl):
 PI X (.Tuple el x1 tp) (.Call (.Name "zip" p) [a,b] [] pos) (Agj Z t2 X.K ta):=by
 intro pins s σ H R I h
 refine Call_ (Jm I hg hm boot_zip (dU (thn (ha pos pins s σ H _ I h) fun us G ⟨vs,H1,O,r1,q1⟩=> ?_) (by rw [hs,J]) (by rw [J];rfl)))
 obtain⟨u,v,rfl,⟨xs,a1⟩,⟨ys,a2⟩,q⟩:=q1
 obtain⟨v1,v2,rfl,r1,r2⟩:=vals2 r1
 cases r1
 cases r2
 obtain⟨aa,rx,px⟩:=O.sqB a1
 obtain⟨a9,ry,py⟩:=O.sqB a2
 have a3:u<G.heap.objs.size:=by
  cases Z
  . obtain⟨o,e,_⟩:=(show G.heap.IsList u _ from px)
    exact aJ e
  . obtain⟨o,e,_⟩:=(show G.heap.IsTuple u _ from px)
    exact aJ e
 have a4:v<G.heap.objs.size:=by
  cases t2
  . obtain⟨o,e,_⟩:=(show G.heap.IsList v _ from py)
    exact aJ e
  . obtain⟨o,e,_⟩:=(show G.heap.IsTuple v _ from py)
    exact aJ e
 refine Ym px py fun h' hz a5 a6 a7 a8 hk=> ?_
 have I2:Inv X pins σ H1 { G with heap:=h'}:=O.kept (t':=G.toks) fun c o' e=>hk c o' e
 refine wpAny_pyIter_zip hz ⟨G.heap.objs.size+4,[G.heap.objs.size+4,G.heap.objs.size+2,G.heap.objs.size+3,G.heap.objs.size,G.heap.objs.size+1],_,_,H1,rfl,I2,Abt Z t2 u v _ _ _ _ _ (zipApart_new a3 a4),⟨hz,a5,⟨_,_,a6⟩,a7,a8⟩,fun c U=> ?_,q⟩
 have W:G.heap.objs.size<=c:=by
  simp only [aS,not_mem_nil,or_false]at U
  rcases U with rfl | rfl | rfl | rfl | rfl
  . exact iT _ 4
  . exact iT _ 2
  . exact iT _ 3
  . exact aL _
  . exact iT _ 1
 exact O.fpOk W (O.hok.fresh W)
end
theorem Ail {G J:Bool}{K:Frag}{R:It->Hp->Prop}:Agj G J K ta σ H R=ta σ H (fun O H1=>∃a b,O=[.ref a,.ref b]/\(∃xs,SqB G K H1 a xs)/\(∃ys,SqB J K H1 b ys)/\R (Amu G J K a b) H1):=rfl
set_option maxRecDepth 100000
noncomputable abbrev TB:=St->Hp->(St->Hp->Prop)->XK->Prop
noncomputable def Af3 (sp:Sp) (g:V->St->St) (ta:TA):TB:=fun σ H N E=>ta σ H fun vs H1=>sp vs H1 (fun v H2=>N (g v σ) H2) E
noncomputable def bIf (tc:TT) (t u:TB):TB:=fun σ H N E=>tc σ H fun b H1=>if b=true then t σ H1 N E else u σ H1 N E
theorem Aif {g:V->St->St}{N:St->Hp->Prop}:Af3 sp g ta σ H N E=ta σ H fun G H1=>sp G H1 (fun v H2=>N (g v σ) H2) E:=rfl
variable {tc:TT}
theorem Aoj {t u:TB}{N:St->Hp->Prop}:bIf tc t u σ H N E=tc σ H fun b H1=>if b=true then t σ H1 N E else u σ H1 N E:=rfl
end L2
namespace L2
open PySem PySem.Spec PySem.Calls PyProof.Rows
theorem Oj:∀ {ns:List Int}{us:List Value},IntsAre us ns->Vals (ns.map V.int) us
 | _,_,.nil=> .nil
 | _,_,.cons _ t r=> .cons ⟨t,rfl⟩ (Oj r)
theorem Vv:∀ {ns:List Int}{vs:List Value},vs.length=ns.length->(∀(j:Nat) (v:Value),vs[j]? =some v->∃(i:Int) (t:Tok),ns[j]? =some i/\v= .int i t)->IntsAre vs ns
 | [],[],_,_=> .nil
 | [],_::_,h,_=>by simp at h
 | _::_,[],h,_=>by simp at h
 | n::ns,v::vs,h,k=>by
   obtain⟨i,t,G,rfl⟩:=k 0 v rfl
   have J:n=i:=by simpa using G
   subst J
   exact .cons n t (Vv (by simpa using h) fun j u O=>by
    obtain⟨i,t,e,U⟩:=k (j+1) u (by simpa using O)
    exact⟨i,t,by simpa using e,U⟩)
variable {kvs:List (Key × V)}
theorem KV.keysL {vs:List (Key × Value)} (r:KV kvs vs):kvs.map (·.1)=vs.map (·.1):=by
 unfold KV at r
 induction r with
 | nil=>rfl
 | cons h _ G=>rw [bC,bC,h.1,G]
open PySem PySem.Spec PyProof.Rows
variable {y:V}{u:Value}
section
variable {κ:Type} [DecidableEq κ]
noncomputable def Gi (kvs:List (κ × V)) (k:κ):Option V:=(kvs.find? fun kv=>decide (kv.1=k)).map (·.2)
noncomputable def putK (kvs:List (κ × V)) (k:κ) (v:V):List (κ × V):=
 if(kvs.any fun kv=>decide (kv.1=k))=true then kvs.map (fun kv=>if kv.1=k then(kv.1,v)else kv)else kvs++ [(k,v)]
noncomputable def Aje (kvs:List (κ × V)) (k:κ):List (κ × V):=kvs.filter fun kv=>decide (kv.1≠k)
theorem Dq {p:κ × V}{r:List (κ × V)}{k:κ} (e:p.1=k):Gi (p::r) k=some p.2:=by simp [Gi,iD,e]
theorem Dp {p:κ × V}{r:List (κ × V)}{k:κ} (e:¬p.1=k):Gi (p::r) k=Gi r k:=by simp [Gi,iD,e]
theorem Ez (k:κ):∀G:List (κ × V),(G.any fun J=>decide (J.1=k))=(Gi G k).isSome
 | []=>rfl
 | p::r=>by
   rw [iA]
   by_cases e:p.1=k
   . simp only [Dq e,cO e,Bool.true_or,jN]
   . rw [Dp e,bY e,Bool.false_or];exact Ez k r
theorem Ws (k j:κ) (y:V):∀G:List (κ × V),Gi (G.map fun J=>if J.1=k then(J.1,y)else J) j=(Gi G j).map fun x=>if j=k then y else x
 | []=>rfl
 | p::r=>by
   have O:=Ws k j y r
   rw [bC]
   by_cases h:p.1=k
   . rw [aI h]
     by_cases e:p.1=j
     . rw [Dq (p:=(p.1,y)) e,Dq e,kX,aI (e.symm.trans h)]
     . rw [Dp (p:=(p.1,y)) e,Dp e,O]
   . rw [aF h]
     by_cases e:p.1=j
     . rw [Dq (p:=p) e,Dq e,kX,aF (fun z=>h (e.trans z))]
     . rw [Dp (p:=p) e,Dp e,O]
theorem S5 (k j:κ) (y:V):∀G:List (κ × V),Gi G k=none->Gi (G++ [(k,y)]) j=if j=k then some y else Gi G j
 | [],_=>by
   by_cases e:k=j
   . rw [aI e.symm];exact Dq (p:=(k,y)) e
   . rw [aF (fun z=>e z.symm)];exact Dp (p:=(k,y)) e
 | p::r,hn=>by
   rw [cons_append]
   have J:¬p.1=k:=fun z=>by rw [Dq z]at hn;cases hn
   rw [Dp J]at hn
   have O:=S5 k j y r hn
   by_cases e:p.1=j
   . rw [Dq e,Dq e,aF (fun z=>J (e.trans z))]
   . rw [Dp e,Dp e,O]
theorem Ln (kvs:List (κ × V)) (k j:κ) (y:V):Gi (putK kvs k y) j=if j=k then some y else Gi kvs j:=by
 unfold putK
 by_cases a:(kvs.any fun G=>decide (G.1=k))=true
 . rw [aI a,Ws]
   rw [Ez]at a
   by_cases e:j=k
   . obtain⟨x,J⟩:=hX.mp a
     rw [aI e,e,J,kX,aI rfl]
   . rw [aF e]
     cases Gi kvs j with
     | none=>rfl
     | some x=>rw [kX,aF e]
 . rw [aF a]
   refine S5 k j y kvs ?_
   rw [Ez]at a
   cases q:Gi kvs k with
   | none=>rfl
   | some x=>rw [q]at a;exact(a rfl).elim
theorem G4 (kvs:List (κ × V)) (k:κ) (v:V):(putK kvs k v).length<=kvs.length+1:=by
 unfold putK
 split
 . rw [aC];omega
 . rw [aH,bH,eD];omega
theorem Wc {kvs:List (κ × V)}{k:κ} (v:V) (h:Gi kvs k=none):putK kvs k v=kvs++ [(k,v)]:=by
 unfold putK
 rw [Ez,h]
 exact aF (by decide)
theorem Vf.isSome_eq {o:Option V}{u:Option Value} (r:Vf o u):o.isSome=u.isSome:=by
 cases o with
 | none=>cases u with
   | none=>rfl
   | some _=>exact(show False from r).elim
 | some _=>cases u with
   | none=>exact(show False from r).elim
   | some _=>rfl
theorem Vf.getD {o:Option V}{u:Option Value}{d:V}{d':Value} (r:Vf o u) (rd:RelV d d'):RelV (o.getD d) (u.getD d'):=by
 cases o with
 | none=>cases u with
   | none=>exact rd
   | some _=>exact(show False from r).elim
 | some _=>cases u with
   | none=>exact(show False from r).elim
   | some _=>exact r
theorem KV.val {kvs:List (κ × V)}{vs:List (κ × Value)} (r:KV kvs vs) (k:κ):Vf (Gi kvs k) (valueAt vs k):=by
 unfold KV at r
 induction r with
 | nil=>exact True.intro
 | @cons p q ps G h t O=>
   obtain⟨h1,h2⟩:=h
   by_cases e:p.1=k
   . have J:q.1=k:=h1.symm.trans e
     have b:valueAt (q::G) k=some q.2:=by simp [valueAt,iD,J]
     rw [Dq e,b];exact h2
   . have J:¬q.1=k:=fun z=>e (h1.trans z)
     have b:valueAt (q::G) k=valueAt G k:=by simp [valueAt,iD,J]
     rw [Dp e,b];exact O
theorem KV.any {kvs:List (κ × V)}{vs:List (κ × Value)} (r:KV kvs vs) (k:κ):(kvs.any fun G=>decide (G.1=k))=vs.any fun G=>decide (G.1=k):=by
 unfold KV at r
 induction r with
 | nil=>rfl
 | cons h t J=>rw [iA,iA,J,h.1]
theorem KV.repl {kvs:List (κ × V)}{vs:List (κ × Value)} (r:KV kvs vs) (k:κ)  (J:RelV y u):
 KV (kvs.map fun G=>if G.1=k then(G.1,y)else G) (vs.map fun G=>if G.1=k then(G.1,u)else G):=by
 unfold KV at r ⊢
 induction r with
 | nil=>exact .nil
 | @cons p q ps U h t O=>
   rw [bC,bC]
   refine .cons ?_ O
   obtain⟨h1,h2⟩:=h
   by_cases e:p.1=k
   . rw [aI e,aI (h1.symm.trans e)];exact⟨h1,J⟩
   . rw [aF e,aF (fun z=>e (h1.trans z))];exact⟨h1,h2⟩
theorem KV.put {kvs:List (κ × V)}{vs:List (κ × Value)} (r:KV kvs vs) (k:κ)  (G:RelV y u):KV (putK kvs k y) (stored vs k u):=by
 unfold putK stored
 rw [r.any k]
 by_cases e:(vs.any fun J=>decide (J.1=k))=true
 . rw [aI e,aI e];exact r.repl k G
 . rw [aF e,aF e];exact Paired.snoc r ⟨rfl,G⟩
theorem KV.drop {kvs:List (κ × V)}{vs:List (κ × Value)} (r:KV kvs vs) (k:κ):KV (Aje kvs k) (without vs k):=by
 unfold KV at r ⊢
 unfold Aje without
 induction r with
 | nil=>exact .nil
 | @cons p q ps O h t G=>
   obtain⟨h1,h2⟩:=h
   rw [List.filter_cons,List.filter_cons]
   by_cases e:p.1=k
   . have a:¬decide (p.1≠k)=true:=by simp [e]
     have b:¬decide (q.1≠k)=true:=by simp [h1.symm.trans e]
     rw [aF a,aF b];exact G
   . have J:¬q.1=k:=fun z=>e (h1.trans z)
     have a:decide (p.1≠k)=true:=by simp [e]
     have b:decide (q.1≠k)=true:=by simp [J]
     rw [aI a,aI b];exact .cons ⟨h1,h2⟩ G
theorem KV.length {kvs:List (κ × V)}{vs:List (κ × Value)} (r:KV kvs vs):kvs.length=vs.length:=jK r
end
variable {P:Program}{w:World}
theorem Zy {k:Key} (r:RelV (kV k) u):(Cw P w).is k u=true:=by
 cases k with
 | inl i=>obtain⟨t,e⟩:=(show ∃t,u=Value.int i t from r);subst e;exact Uj P w i t
 | inr x=>obtain⟨t,e⟩:=(show ∃t,u=Value.str x t from r);subst e;exact Uk P w x t
theorem Rv {P:Program}{w:World}:∀ {ks:List Key}{us:List Value},Vals (ks.map kV) us->ItemsAre (Cw P w) ks us
 | [],_,r=>by rw [jG]at r;cases r;exact .nil
 | k::ks,_,r=>by
   rw [bC]at r
   cases r with
   | cons h t=>exact .cons (Zy h) (Rv t)
noncomputable abbrev KT (H:Hp):List (List Key × V)->List (List Key × Addr × Value)->Prop:=Paired fun p q=>p.1=q.1/\H q.2.1=some (.tup (p.1.map kV))/\RelV p.2 q.2.2
variable {H:Hp}
theorem KT.val {kvs:List (List Key × V)}{xs:List (List Key × Addr × Value)} (r:KT H kvs xs) (k:List Key):Vf (Gi kvs k) ((atKey xs k).map (·.2)):=by
 induction r with
 | nil=>exact True.intro
 | @cons p q ps G h t O=>
   obtain⟨h1,_,h2⟩:=h
   by_cases e:p.1=k
   . have J:q.1=k:=h1.symm.trans e
     have b:atKey (q::G) k=some q.2:=by simp [atKey,iD,J]
     rw [Dq e,b];exact h2
   . have J:¬q.1=k:=fun z=>e (h1.trans z)
     have b:atKey (q::G) k=atKey G k:=by simp [atKey,iD,J]
     rw [Dp e,b];exact O
theorem KT.repl {kvs:List (List Key × V)}{xs:List (List Key × Addr × Value)} (r:KT H kvs xs) (k:List Key)  (J:RelV y u):
 KT H (kvs.map fun G=>if G.1=k then(G.1,y)else G) (xs.map (putAt k u)):=by
 induction r with
 | nil=>exact .nil
 | @cons p q ps W h t O=>
   rw [bC,bC]
   refine .cons ?_ O
   obtain⟨h1,h2,U⟩:=h
   unfold putAt
   by_cases e:p.1=k
   . rw [aI e,aI (h1.symm.trans e)];exact⟨h1,h2,J⟩
   . rw [aF e,aF (fun z=>e (h1.trans z))];exact⟨h1,h2,U⟩
variable {b:Addr}
theorem KT.put {kvs:List (List Key × V)}{xs:List (List Key × Addr × Value)} (r:KT H kvs xs) (k:List Key)  (J:H b=some (.tup (k.map kV))) (G:RelV y u):
 KT H (putK kvs k y) (storedH xs k b u):=by
 have e:(kvs.any fun O=>decide (O.1=k))=(atKey xs k).isSome:=by
  rw [Ez,(r.val k).isSome_eq,isSome_map]
 unfold putK storedH
 rw [e]
 by_cases q:(atKey xs k).isSome=true
 . rw [aI q,aI q];exact r.repl k G
 . rw [aF q,aF q];exact Paired.snoc r ⟨rfl,J,G⟩
variable {H':Hp}
theorem KT.keeps {kvs:List (List Key × V)}{xs:List (List Key × Addr × Value)} (r:KT H kvs xs) (G:∀b ys,H b=some (.tup ys)->H' b=some (.tup ys)):KT H' kvs xs:=
 Paired.mapP r fun _ _ z=>⟨z.1,G _ _ z.2.1,z.2.2⟩
section
variable {P:Program}{w:World}{H:Hp}{h:Heap}{a:Addr}
theorem Alp {u:HO} (ok:HOk P w H h) (e:Rd H a u):Cy P w H h a u:=e.ok ok
theorem W9 (ok:HOk P w H h) (e:Rd H a (.dK kvs)):kvs.length<=sizeLine/\(a==sysModules)=false/\∃G,KV kvs G/\h.DictOf (Cw P w) a G:=
 show Cy P w H h a (.dK kvs)from Alp ok e
theorem Am5 (ok:HOk P w H h) (e:H a=some (.dK kvs)):kvs.length<=sizeLine/\(a==sysModules)=false/\∃G,KV kvs G/\h.DictOf (Cw P w) a G:=W9 ok (.inl e)
theorem Rx {ks:List Key} (ok:HOk P w H h) (e:H a=some (.tup (ks.map kV))):(tupleKind (Cw P w)).is h ks a:=by
 obtain⟨_,G,r,o,h1,h2,n,J⟩:=(show Cy P w H h a (.tup (ks.map kV))from ok a _ e)
 exact⟨o,G.toArray,n,h1,h2,J,by simpa using Rv r⟩
theorem Xa {kvs:List (List Key × V)} (ok:HOk P w H h) (e:Rd H a (.dT kvs)):kvs.length<=sizeLine/\(a==sysModules)=false/\
 ∃xs,KT H kvs xs/\h.DictOfH (tupleKind (Cw P w)) a xs:=by
 obtain⟨z,y,xs,r,o,es,ep,h1,h2,O,U,W⟩:=(show Cy P w H h a (.dT kvs)from Alp ok e)
 refine⟨z,y,xs,r,o,es,ep,h1,h2,O,U,fun x G=> ?_,W⟩
 have all:∀ {l:List (List Key × V)}{m:List (List Key × Addr × Value)},KT H l m->∀x∈m,(tupleKind (Cw P w)).is h x.1 x.2.1:=by
  intro l m q
  induction q with
  | nil=>intro x G;exact nomatch G
  | @cons p q ps qs J t Z=>
    intro x G
    rcases aS.mp G with e | G
    . subst e
      exact Rx ok (by rw [<-J.1];exact J.2.1)
    . exact Z x G
 exact all r x G
theorem Am6 {kvs:List (List Key × V)} (ok:HOk P w H h) (e:H a=some (.dT kvs)):kvs.length<=sizeLine/\(a==sysModules)=false/\
 ∃xs,KT H kvs xs/\h.DictOfH (tupleKind (Cw P w)) a xs:=Xa ok (.inl e)
end
noncomputable def N8 (H:Hp) (a:Addr) (y:V) (r:Option V):Prop:=
 (∃kvs k,Rd H a (.dK kvs)/\y=kV k/\r=Gi kvs k)\/∃kvs k b,Rd H a (.dT kvs)/\y= .ref b/\H b=some (.tup (k.map kV))/\r=Gi kvs k
noncomputable def Ab4 (H:Hp) (a:Addr) (y v:V) (H':Hp):Prop:=
 (∃kvs k,H a=some (.dK kvs)/\y=kV k/\kvs.length<sizeLine/\H'=upd H a (.dK (putK kvs k v)))\/
 ∃kvs k b,H a=some (.dT kvs)/\y= .ref b/\H b=some (.tup (k.map kV))/\kvs.length<sizeLine/\H'=upd H a (.dT (putK kvs k v))
theorem N8.k {H:Hp}{a:Addr}{kvs:List (Key × V)}{k:Key} (e:H a=some (.dK kvs)):N8 H a (kV k) (Gi kvs k):= .inl ⟨kvs,k,.inl e,rfl,rfl⟩
variable {a:Addr}
theorem N8.t {kvs:List (List Key × V)}{k:List Key} (e:H a=some (.dT kvs)) (G:H b=some (.tup (k.map kV))):N8 H a (.ref b) (Gi kvs k):= .inr ⟨kvs,k,b,.inl e,rfl,G,rfl⟩
theorem Ab4.k {H:Hp}{a:Addr}{kvs:List (Key × V)}{k:Key}{v:V} (e:H a=some (.dK kvs)) (G:kvs.length<sizeLine):Ab4 H a (kV k) v (upd H a (.dK (putK kvs k v))):= .inl ⟨kvs,k,e,rfl,G,rfl⟩
theorem Ab4.t {kvs:List (List Key × V)}{k:List Key}{v:V} (e:H a=some (.dT kvs)) (G:H b=some (.tup (k.map kV))) (J:kvs.length<sizeLine):
 Ab4 H a (.ref b) v (upd H a (.dT (putK kvs k v))):= .inr ⟨kvs,k,b,e,rfl,G,J,rfl⟩
variable {h':Heap}
section
variable {X:Cx}{pins:List (Addr × Obj)}{σ:St}{H:Hp}{s:Shared}{a:Addr}{y v:V}{u r:Value}{o:Option V}{A:Around}{E:Value->Shared->Prop}
theorem Inv.big (I:Inv X pins σ H s):sysModules<s.heap.objs.size:=by
 have h:mainGlobals<s.heap.objs.size:=(I.mod.glob.keeps I.bk).lt
 exact Nat.lt_trans (by decide) h
theorem Y4 {Q:Value->Shared->Prop} (hu:A.units+1<cLine) (I:Inv X pins σ H s) (g:N8 H a y (some v)) (ry:RelV y u) (h:∀O s',Inv X pins σ H s'->RelV v O->Q O s'):
 wpAny (model X.prog X.w) A (getItem (.ref a) u) Q E s:=by
 rcases g with⟨U,k,e,W,l⟩ | ⟨U,k,b,e,W,eb,l⟩
 . subst W
   obtain⟨z,hd,vs,G,dd⟩:=W9 I.hok e
   obtain⟨O,Z,J⟩:=Vf.some_of (v:=v) (o:=valueAt vs k) (by rw [l];exact G.val k)
   exact wpAny_getItem_of (Zy ry) dd.mapOf Z (h O _ (I.tok _) J)
 . subst W
   cases(show u=Value.ref b from ry)
   obtain⟨z,hd,xs,G,dd⟩:=Xa I.hok e
   obtain⟨O,Z,J⟩:=Vf.some_of (v:=v) (o:=(atKey xs k).map (·.2)) (by rw [l];exact G.val k)
   obtain⟨p,hp,a1⟩:=iL.mp Z
   refine wpAny_getItem_heap (kF hu) (Rx I.hok eb) dd hp ?_
   rw [a1]
   exact h O _ (I.tok _) J
theorem Af9 {Q:Value->Shared->Prop} (Z:A.units+1<cLine) (I:Inv X pins σ H s) (g:N8 H a y o) (W:RelV y u) (h:∀s',Inv X pins σ H s'->Q (.bool (!o.isSome)) s'):
 wpAny (model X.prog X.w) A (compareOp .NotIn u (.ref a)) Q E s:=by
 rcases g with⟨J,k,e,O,l⟩ | ⟨J,k,b,e,O,eb,l⟩
 . subst O
   obtain⟨z,U,vs,G,dd⟩:=W9 I.hok e
   refine wpAny_notIn_of (Zy W) U dd.mapOf ?_
   rw [<-(G.val k).isSome_eq,<-l]
   exact h _ (I.tok _)
 . subst O
   cases(show u=Value.ref b from W)
   obtain⟨z,U,xs,G,dd⟩:=Xa I.hok e
   refine wpAny_notIn_heap (kF Z) (Rx I.hok eb) U dd ?_
   have q:=(G.val k).isSome_eq
   rw [isSome_map]at q
   rw [<-q,<-l]
   exact h _ (I.tok _)
theorem Y6 {t':Nat}{G:HO} (I:Inv X pins σ H s) (J:Mut (H a)) (O:Heap.SameBut a s.heap h') (U:∃q,h'.get? a=some q) (new:Cy X.prog X.w (upd H a G) h' a G):
 Inv X pins σ (upd H a G) { s with heap:=h',toks:=t'}:=
 I.write (x:=a) (e:=a) J (.inl rfl) (fun b q W z=>(O.2 b W).trans z) U new
theorem Ajc {H':Hp}{vs:List (Key × Value)} (z:kvs.length<=sizeLine) (J:(a==sysModules)=false) (G:KV kvs vs) (dd:h'.DictOf (Cw P w) a vs):
 Cy P w H' h' a (.dK kvs):=⟨z,J,vs,G,dd⟩
theorem Y5 {Q:Unit->Shared->Prop} (hu:A.units+1<cLine) (I:Inv X pins σ H s) (g:Ab4 H a y v H') (ry:RelV y u) (rv:RelV v r) (h:∀s',Inv X pins σ H' s'->Q () s'):
 wpAny (model X.prog X.w) A (setItem (.ref a) u r) Q E s:=by
 rcases g with⟨G,k,e,W,l,Z⟩ | ⟨G,k,b,e,W,eb,l,Z⟩
 . subst W Z
   obtain⟨z,hd,vs,J,dd⟩:=Am5 I.hok e
   have hz:vs.length<=sizeLine:=by rw [<-J.length];exact z
   have hl:(putK G k v).length<=sizeLine:=by have:=G4 G k v;omega
   refine wpAny_setItem_pairs (hsz:=hz) (Zy ry) dd fun h' O hs=>h _ ?_
   have he:∃q,h'.get? a=some q:=let ⟨q,_,_,U,_⟩:=O;⟨q,U⟩
   exact Y6 I (by rw [e];exact True.intro) hs he (Ajc hl hd (J.put k rv) O)
 . subst W Z
   cases(show u=Value.ref b from ry)
   obtain⟨z,hd,xs,J,dd⟩:=Am6 I.hok e
   have hz:xs.length<=sizeLine:=by rw [<-jK J];exact z
   have hl:(putK G k v).length<=sizeLine:=by have:=G4 G k v;omega
   refine wpAny_setItem_heap (hsz:=hz) (kF hu) (Rx I.hok eb) dd fun h' O hs=>h _ ?_
   obtain⟨q,es,ep,U,h2,h3,h4,_,h5⟩:=O
   refine Y6 I (by rw [e];exact True.intro) hs ⟨q,U⟩ ⟨hl,hd,_,(J.put k eb rv).keeps fun c ys ec=> ?_,q,es,ep,U,h2,h3,h4,h5⟩
   rw [Ax (G6 ec e (fun z=>nomatch z))]
   exact ec
end
noncomputable def Am0 (i:Expr):Prop:=∀ov iv,subscripted i false ov iv=operate [ov,iv] (getItem ov iv)
theorem Ahw {prog:Program}{w:World}{A:Around}{E:Value->Shared->Prop}{s:Shared}{env:Env}{value slice:Expr}{pos:Pos}{T id:String}{Q:Value->Shared->Prop}
 (hl:typeLookup (.type T) "__getitem__"=pure (some (.builtin id))) (hs:Am0 slice)
 (h:wpAny (model prog w) A (eval value env) (fun o O=>wpAny (model prog w) A (eval slice env) (fun i G=>G.TypeIs o T/\wpAny (model prog w) A (getItem o i) Q E G) E O) E s):
 wpAny (model prog w) A (eval (.Subscript value slice pos) env) Q E s:=by
 refine Subscript_ (bP h (fun o O Z=>bP Z (fun i G J=> ?_) fun _ _ x=>x) fun _ _ x=>x)
 obtain⟨hT,J⟩:=J
 unfold subscriptTail
 refine aA ?_
 rw [getitemInPython_of_ne hT.not_modules]
 refine aA (wpAny_specialOf hT hl ?_)
 have W:wpAny (model prog w) A (subscripted slice false o i) (fun r U=>wpAny (model prog w) A (letTemporaryGo value o r>>=fun _=>pure r) Q E U) E G:=by
  rw [hs o i]
  exact wpAny_operating (bP J (fun r U a1=>aA (wpAny_letTemporaryGo (aD a1))) fun _ _ x=>x)
 first
  | exact aD (aA W)
  | exact aA (aD (aA W))
  | exact aA W
variable {X:Cx}{pins:List (Addr × Obj)}{σ:St}{s:Shared}
theorem T9 {o:Option V} (I:Inv X pins σ H s) (g:N8 H a y o):s.TypeIs (.ref a) "dict":=by
 rcases g with⟨G,k,e,_,_⟩ | ⟨G,k,b,e,_,_,_⟩
 . obtain⟨_,_,J,_,dd⟩:=W9 I.hok e
   exact dd.typeIs
 . obtain⟨_,_,xs,_,dd⟩:=Xa I.hok e
   exact dd.typeIs
noncomputable def Ahy (td ty:TE):TE:=fun σ H Q=>td σ H fun x H1=>ty σ H1 fun y H2=>∃a v,x= .ref a/\N8 H2 a y (some v)/\Q v H2
noncomputable def Ahq (td ty tv:TE):TS:=fun D σ H=>tv σ H fun v H1=>td σ H1 fun x H2=>ty σ H2 fun y H3=>∃a H4,x= .ref a/\Ab4 H3 a y v H4/\D.nx σ H4
section
variable {X:Cx}{o i e value:Expr}{pos pos' tpos:Pos}{td ty tv:TE}
theorem Ag6 (O:X.A.units+1<cLine) (ho:PE X o td) (hi:PE X i ty) (U:Am0 i):PE X (.Subscript o i pos) (Ahy td ty):=by
 intro pins s σ H Q I h
 refine Ahw PySem.F.slot_dict_getitem.lookup U (thn (ho pins s σ H _ I h) fun u W ⟨x,H1,Z,rx,q1⟩=>thn (hi pins W σ H1 _ Z q1) fun iv s2 ⟨y,H2,J,ry,a,v,ex,g,q2⟩=> ?_)
 subst ex
 obtain rfl:u=Value.ref a:=rx
 exact⟨T9 J g,Y4 O J g ry fun w' s3 I3 G=>⟨v,H2,I3,G,q2⟩⟩
theorem Ahe (G:X.A.units+1<cLine) (ho:PE X o td) (hi:PE X i ty) (J:PE X value tv) (O:swapsWith value (some (.Subscript o i pos')) pos.line X.env=pure false):
 PS X (.Assign [.Subscript o i pos'] value pos) (Ahq td ty tv):=by
 intro pins s σ H D I h
 refine wpAny_Assign_Subscript (thn (J pins s σ H _ I h) fun r U ⟨v,H1,W,Z,q1⟩=>thn (ho pins U σ H1 _ W q1) fun u s2 ⟨x,H2,I2,rx,q2⟩=>thn (hi pins s2 σ H2 _ I2 q2) fun iv s3 ⟨y,H3,I3,ry,a,H4,ex,g,q3⟩=> ?_) O
 subst ex
 obtain rfl:u=Value.ref a:=rx
 exact Y5 G I3 g ry Z fun s4 I4=>⟨σ,H4,I4,q3⟩
end
theorem Acr (h:Heap) (G:sysModules<h.objs.size):Cy P w H (h.push { cls:= .type "dict",data:= .dict #[]}) h.objs.size (.dT []):=
 ⟨cH _,eS.mpr (cC (aP G)),[],.nil,_,#[],0,aK _ rfl,⟨rfl,rfl,rfl⟩,rfl,rfl,List.nodup_nil⟩
noncomputable def Abj:TE:=fun _ H Q=>∀p,H p=none->Q (.ref p) (upd H p (.dT []))
section
variable {X:Cx}{pos:Pos}
theorem Adq:PE X (.Dict [] [] pos) Abj:=fun pins s σ H Q I h=>
 wpAny_Dict_empty ⟨.ref s.heap.objs.size,_,I.laid (a:=s.heap.objs.size) (o:= .dT []) (t':=s.toks) (fun _ _ q=>aB _ q) (aL _) (Acr s.heap I.big),rfl,h _ (I.hok.fresh (aL _))⟩
end
noncomputable def Akc (kvs more:List (Key × V)):List (Key × V):=more.foldl (fun acc kv=>putK acc kv.1 kv.2) kvs
theorem KV.merge:∀ {G:List (Key × V)}{J:List (Key × Value)}{kvs:List (Key × V)}{vs:List (Key × Value)},KV G J->KV kvs vs->KV (Akc kvs G) (merged vs J):=by
 intro G J kvs vs r
 unfold KV at r
 induction r generalizing kvs vs with
 | nil=>intro q;exact q
 | @cons p q ps W h t O=>
   intro U
   have e:KV (putK kvs p.1 p.2) (stored vs q.1 q.2):=by
    have:=U.put p.1 h.2
    rw [<-h.1];exact this
   exact O e
structure M1 (X:Cx) (o:Expr) (m:Str) (apos:Pos) (e:Expr) (cpos:Pos):Prop where
 base:attributeBase o m X.env (eval o X.env)=eval o X.env
 few:((backTo cpos (starEach [e] X.env)).all (fun x=> !x.1)&&(backToKw cpos (keywordEach [] X.env)).all (fun x=>x.1.isSome)
  &&decide (([e]:List Expr).length+([]:List Keyword).length+(if([]:List Keyword).isEmpty then 0 else 1)<30))=true
 line:(apos.endLine==cpos.line)=true
 trees:backTo cpos (starEach [e] X.env)=[(false,eval e X.env)]
structure M2 (X:Cx) (o:Expr) (m:Str) (apos:Pos) (e f:Expr) (cpos:Pos):Prop where
 base:attributeBase o m X.env (eval o X.env)=eval o X.env
 few:((backTo cpos (starEach [e,f] X.env)).all (fun x=> !x.1)&&(backToKw cpos (keywordEach [] X.env)).all (fun x=>x.1.isSome)
  &&decide (([e,f]:List Expr).length+([]:List Keyword).length+(if([]:List Keyword).isEmpty then 0 else 1)<30))=true
 line:(apos.endLine==cpos.line)=true
 trees:backTo cpos (starEach [e,f] X.env)=[(false,eval e X.env),(false,eval f X.env)]
noncomputable def IsD (H:Hp) (a:Addr):Prop:=(∃kvs,Rd H a (.dK kvs))\/∃kvs,Rd H a (.dT kvs)
theorem Ae1 (I:Inv X pins σ H s) (d:IsD H a):
 s.TypeIs (.ref a) "dict"/\(∀b,Value.ref a= .ref b->∃G,s.heap.get? b=some G/\G.dict=none)/\(a==sysModules)=false:=by
 rcases d with⟨J,e⟩ | ⟨J,e⟩
 . obtain⟨_,O,U,_,dd⟩:=W9 I.hok e
   refine⟨dd.typeIs,fun b q=> ?_,O⟩
   cases q
   obtain⟨G,_,_,h1,h2,_⟩:=dd
   exact⟨G,h1,h2.2.1⟩
 . obtain⟨_,O,xs,_,dd⟩:=Xa I.hok e
   refine⟨dd.typeIs,fun b q=> ?_,O⟩
   cases q
   obtain⟨G,_,_,h1,h2,_⟩:=dd
   exact⟨G,h1,h2.2.1⟩
section
variable {X:Cx}{pins:List (Addr × Obj)}{σ:St}{H:Hp}{s:Shared}{a:Addr}{y d:V}{u r:Value}{o:Option V}{A:Around}{E:Value->Shared->Prop}
theorem Ai9 {Q:Value->Shared->Prop} (hu:A.units+1<cLine) (I:Inv X pins σ H s) (g:N8 H a y o) (W:RelV y u) (rd:RelV d r) (h:∀Z s',Inv X pins σ H s'->RelV (o.getD d) Z->Q Z s'):
 wpAny (model X.prog X.w) A (call (.builtin "dict.get") [.ref a,u,r]) Q E s:=by
 rcases g with⟨J,k,e,O,l⟩ | ⟨J,k,b,e,O,eb,l⟩
 . subst O
   obtain⟨z,U,vs,G,dd⟩:=W9 I.hok e
   refine call_meetsIn lC dd.typeIs entry_dict_get (PySem.F.args_dict_get_3 _ _ _) (meets_dict_get_default (Cw X.prog X.w) a (Zy W) U r) ⟨_,dd.mapOf,h _ _ (I.tok _) ?_⟩
   rw [l]
   exact(G.val k).getD rd
 . subst O
   cases(show u=Value.ref b from W)
   obtain⟨z,U,xs,G,dd⟩:=Xa I.hok e
   refine call_meetsIn lC dd.typeIs entry_dict_get (PySem.F.args_dict_get_3 _ _ _) (meetsH_dict_get_default (tupleKind (Cw X.prog X.w)) a b U r) ⟨kF hu,k,xs,Rx I.hok eb,dd,h _ _ (I.tok _) ?_⟩
   rw [l]
   exact(G.val k).getD rd
end
noncomputable def Abi (td ty tx:TE):TE:=fun σ H Q=>td σ H fun x H1=>∃a,x= .ref a/\IsD H1 a/\ty σ H1 fun y H2=>tx σ H2 fun z H3=>∃o,N8 H3 a y o/\Q (o.getD z) H3
section
variable {X:Cx}{o e f:Expr}{apos cpos:Pos}{td ty tx:TE}
theorem Adp (O:X.A.units+1<cLine) (ho:PE X o td) (U:PE X e ty) (W:PE X f tx) (m:M2 X o "get" apos e f cpos):PE X (.Call (.Attribute o "get" apos) [e,f] [] cpos) (Abi td ty tx):=by
 intro pins s σ H Q I h
 refine wpAny_Call_method m.base m.few m.line PySem.F.plainAttrs_dict lC PySem.F.type_dict_get (thn (ho pins s σ H _ I h) fun u Z ⟨x,H1,J,rx,a,ex,d,q1⟩=> ?_)
 subst ex
 obtain rfl:u=Value.ref a:=rx
 obtain⟨t1,t2,_⟩:=Ae1 J d
 refine⟨t1,t2,?_⟩
 rw [m.trees]
 refine jA rfl (Calls.evalArgs_plain (Calls.spliced_cons (thn (U pins Z σ H1 _ J q1) fun iv s2 ⟨y,H2,I2,ry,q2⟩=>
  Calls.spliced_cons (thn (W pins s2 σ H2 _ I2 q2) fun fv s3 ⟨z,H3,I3,rz,ov,g,q3⟩=>Calls.spliced_nil ?_))))
 exact Ai9 O I3 g ry rz fun w' s4 I4 G=>⟨_,H3,I4,G,q3⟩
end
section
variable {κ:Type} [DecidableEq κ]
theorem Wv {kvs:List (κ × V)}{k:κ} (h:Gi kvs k=none):¬k∈kvs.map (·.1):=by
 intro m
 obtain⟨p,G,e⟩:=aE.mp m
 have q:(kvs.any fun J=>decide (J.1=k))=true:=kM.mpr ⟨p,G,cO e⟩
 rw [Ez,h]at q
 exact absurd q (by simp)
theorem Vd {kvs:List (κ × V)}{k:κ}{v:V} (h:Gi kvs k=some v):k∈kvs.map (·.1):=by
 have q:(kvs.any fun G=>decide (G.1=k))=true:=by
  rw [Ez,h]
  all_goals rfl
 obtain⟨p,J,e⟩:=kM.mp q
 exact aE.mpr ⟨p,J,dY e⟩
theorem Um:∀ {l:List κ}{k:κ},l.Nodup->¬k∈l->(l++ [k]).Nodup
 | [],k,_,_=>by simp
 | a::r,k,h,hk=>by
   obtain⟨h1,h2⟩:=eQ.mp h
   show(a::(r++ [k])).Nodup
   refine eQ.mpr ⟨fun m=> ?_,Um h2 fun m=>hk (aS.mpr (Or.inr m))⟩
   rcases bG.mp m with q | q
   . exact h1 q
   . exact hk (aS.mpr (Or.inl (bA.mp q).symm))
theorem Agq {kvs:List (κ × V)}{k:κ} (v:V) (G:(kvs.map (·.1)).Nodup) (h:Gi kvs k=none):((putK kvs k v).map (·.1)).Nodup:=by
 rw [Wc v h,aQ]
 exact Um G (Wv h)
end
variable {A:Around}
theorem hu1 (h:A.units+64<cLine):A.units+1<cLine:=cN (Nat.add_le_add_left (by decide:1<=64) _) h
section
variable {td ty tx tv:TE}{σ:St}{H:Hp}{Q:VK}{D:Ends}
theorem Al7:Ahy td ty σ H Q=td σ H fun x H1=>ty σ H1 fun y H2=>∃a v,x= .ref a/\N8 H2 a y (some v)/\Q v H2:=rfl
theorem Aig:Abi td ty tx σ H Q=td σ H fun x H1=>∃a,x= .ref a/\IsD H1 a/\ty σ H1 fun y H2=>tx σ H2 fun z G=>∃o,N8 G a y o/\Q (o.getD z) G:=rfl
theorem Al9:Ahq td ty tv D σ H=tv σ H fun v H1=>td σ H1 fun x H2=>ty σ H2 fun y J=>∃a G,x= .ref a/\Ab4 J a y v G/\D.nx σ G:=rfl
end
variable {v:V}
theorem Acl {i:Int} (e:H a=some (.dK kvs)) (h:Gi kvs (.inl i)=some v):N8 H a (.int i) (some v):= .inl ⟨kvs,.inl i,.inl e,rfl,h.symm⟩
theorem Ajb {i:Int} (e:H a=some (.dK kvs)):N8 H a (.int i) (Gi kvs (.inl i)):= .inl ⟨kvs,.inl i,.inl e,rfl,rfl⟩
theorem Ajd {i:Int} (e:H a=some (.dK kvs)) (G:kvs.length<sizeLine):Ab4 H a (.int i) v (upd H a (.dK (putK kvs (.inl i) v))):= .inl ⟨kvs,.inl i,e,rfl,G,rfl⟩
theorem Mg {H1:Hp}{p:Addr}{cσ:St}{g:TG}{tt:TT}{te:TE}{Q:VK}{α:Type}{es:List α}{inj:α->V}{J:It} (pf:α->Bool) (U:α->V->Hp->Prop)
 (mono:∀e v H H',U e v H->Same H H'->U e v H') (put:∀e v H ys zs,U e v H->H p=some (.lst ys)->U e v (upd H p (.lst zs))) (hz:es.length<=sizeLine) (hp:H1 p=none) (hJ:Wk J H1 es inj)
 (step:∀(e:α) (H':Hp) (R:VK) (RF:Hp->Prop),e∈es->Same H1 H'->(pf e=true->∀v O,Same H' O->U e v O->R v O)->(pf e=false->∀O,Same H' O->RF O)->g (inj e) cσ H' fun W H4=>Kp cσ W/\tt W H4 fun b H5=>if b=true then te W H5 R else RF H5)
 (a2:∀H' (vs:List (V × α)),Same H1 H'->H' p=some (.lst (vs.map (·.1)))->vs.map (·.2)=es.filter pf->(∀x∈vs,U x.2 x.1 H')->Q (.ref p) H'):cIn J cσ g tt te Q H1 p:=by
 have su:∀ {H':Hp}{o:HO},Same H1 H'->Same H1 (upd H' p o):=fun {H' o} s b u e=>by
  rw [Ax (Ay e hp)]
  exact s b u e
 refine⟨fun i m Z H'=>∃vs:List (V × α),m=es.length-i/\i<=es.length/\Z=vs.map (·.1)/\vs.map (·.2)=(es.take i).filter pf/\(∀x∈vs,U x.2 x.1 H')/\H' p=some (.lst Z)/\Same H1 H',⟨es.length,[],by simp,cH _,rfl,by simp,by simp,Af,su (Same.refl _)⟩,?_⟩
 rintro i m Z H' ⟨vs,rfl,hi,rfl,hv,hr,hH,s⟩
 cases he:es[i]? with
 | none=>
   have e:i=es.length:=fJ hi (bS.mp he)
   subst e
   rw [fU]at hv
   exact .inl ⟨(hJ _ _ s).1 he,a2 _ vs s hH hv hr⟩
 | some e=>
   obtain⟨go,yl⟩:=(hJ _ _ s).2 e he
   refine .inr ⟨go,fun x H3 y=> ?_⟩
   obtain⟨rfl,rfl⟩:=yl x H3 y
   obtain⟨a3,_⟩:=aW.mp he
   have tk:es.take (i+1)=es.take i++ [e]:=by rw [iM,he];rfl
   have fl:vs.length<=i:=by
    have h1:=bE length hv
    rw [aC]at h1
    rw [h1]
    exact aO (dF _ _) (by rw [bV];omega)
   refine step e H3 _ _ (dR he) s (fun a1 v O G r6=>⟨G _ _ hH,by rw [aC];omega,_,by omega,vs++ [(v,e)],rfl,a3,by rw [aQ];rfl,?_,?_,Af,su (s.trans G)⟩) (fun a1 O G=>⟨_,by omega,vs,rfl,a3,rfl,?_,fun x hx=>mono _ _ _ _ (hr x hx) G,G _ _ hH,s.trans G⟩)
   . rw [tk,gA,aQ,hv]
     simp [a1]
   . intro x hx
     rcases bG.mp hx with hx | hx
     . exact put _ _ _ _ _ (mono _ _ _ _ (hr x hx) G) (G _ _ hH)
     . have:x=(v,e):=by simpa using hx
       rw [this]
       exact put _ _ _ _ _ r6 (G _ _ hH)
   . rw [tk,gA,hv]
     simp [a1]
variable {xs:List V}{H1:Hp}{p:Addr}
theorem Acf {t1 t2:Bool}{K:Frag}{a b:Addr}{ys:List V}{cσ:St}{g:TG}{te:TE}{Q:VK} (n:Nat) (hn:n=min xs.length ys.length) (f:Nat->V) (hz:n<=sizeLine) (hp:H1 p=none)
 (wx:∀H',Same H1 H'->SqB t1 K H' a xs) (wy:∀H',Same H1 H'->SqB t2 K H' b ys)
 (step:∀(i:Nat) (H':Hp) (q:Addr) (R:VK),i<n->Same H1 H'->H' q=some (.tup [xs.getD i .non,ys.getD i .non])->(∀J,Same H' J->R (f i) J)->g (.ref q) cσ H' fun G U=>Kp cσ G/\te G U R)
 (Z:∀H',Same H1 H'->H' p=some (.lst ((List.range n).map f))->Q (.ref p) H'):cIn (Amu t1 t2 K a b) cσ g J2 te Q H1 p:=by
 have su:∀ {H':Hp}{o:HO},Same H1 H'->Same H1 (upd H' p o):=fun {H' o} s b u e=>by
  rw [Ax (Ay e hp)]
  exact s b u e
 refine⟨fun i m O H'=>m=n-i/\i<=n/\O=(List.range i).map f/\H' p=some (.lst O)/\Same H1 H',⟨n,by simp,cH _,by simp,Af,su (Same.refl _)⟩,?_⟩
 rintro i m O H' ⟨rfl,hi,rfl,hH,s⟩
 by_cases he:i=n
 . subst he
   exact .inl ⟨⟨xs,ys,wx _ s,wy _ s,by omega⟩,Z _ s hH⟩
 . have hl:i<n:=by omega
   have ex:xs[i]? =some (xs.getD i .non):=by rw [aU,aG (by omega)];rfl
   have ey:ys[i]? =some (ys.getD i .non):=by rw [aU,aG (by omega)];rfl
   refine .inr ⟨⟨xs,ys,_,_,wx _ s,wy _ s,ex,ey⟩,fun x H3 y=> ?_⟩
   obtain⟨q,u,v,hu,hv,hq,rfl,rfl⟩:=y
   have eu:=hu _ (wx _ s)
   have ev:=hv _ (wy _ s)
   rw [ex]at eu
   rw [ey]at ev
   cases eu
   cases ev
   have sq:=Same.upd hq (.tup [xs.getD i .non,ys.getD i .non])
   have q0:=step i (upd H' q (.tup [xs.getD i .non,ys.getD i .non])) q (fun y J=>J p=some (.lst ((List.range i).map f))/\((List.range i).map f).length<sizeLine/\∃m',m'<n-i/\m'=n-(i+1)/\i+1<=n/\(List.range i).map f++ [y]=(List.range (i+1)).map f/\
    upd J p (.lst ((List.range i).map f++ [y])) p=some (.lst ((List.range i).map f++ [y]))/\Same H1 (upd J p (.lst ((List.range i).map f++ [y])))) hl (s.trans sq) Af
    (fun J s6=>⟨s6 _ _ (sq _ _ hH),by rw [aC,cJ];omega,_,by omega,rfl,hl,by rw [List.range_succ,aQ];rfl,Af,su ((s.trans sq).trans s6)⟩)
   have eq:∀(R:VK) (B:Hp->Prop),(fun G U=>Kp cσ G/\J2 G U fun b H5=>if b=true then te G H5 R else B H5)=(fun G U=>Kp cσ G/\te G U R):=fun R B=>by
    funext G U
    simp only [J2,aI]
   rw [eq]
   exact q0
open PySem PySem.W PyProof.Rows
structure LO (n:Nat) (lt:Nat->Nat->Bool):Prop where
 tri:∀i j,i<n->j<n->i≠j->lt i j= !lt j i
 trans:∀i j k,i<n->j<n->k<n->lt i j=true->lt j k=true->lt i k=true
noncomputable def KOk {α:Type} (lt:Nat->Nat->Bool) (n:Nat):KasT α->(α->Prop)->Prop
 | .ret a,P=>P a
 | .ask i j k,P=>i<n/\j<n/\i≠j/\KOk lt n (k (lt i j)) P
theorem KOk.bind {α β:Type}{lt:Nat->Nat->Bool}{n:Nat}{f:α->KasT β}{P:β->Prop}:∀ {t:KasT α},KOk lt n t (fun a=>KOk lt n (f a) P)->KOk lt n (t.bind f) P
 | .ret _,h=>h
 | .ask _ _ k,h=>⟨h.1,h.2.1,h.2.2.1,KOk.bind (t:=k _) h.2.2.2⟩
theorem KOk.mono {α:Type}{lt:Nat->Nat->Bool}{n:Nat}{P Q:α->Prop} (G:∀a,P a->Q a):∀ {t:KasT α},KOk lt n t P->KOk lt n t Q
 | .ret a,h=>G a h
 | .ask _ _ k,h=>⟨h.1,h.2.1,h.2.2.1,KOk.mono G (t:=k _) h.2.2.2⟩
theorem KOk.wp {α:Type}{lt:Nat->Nat->Bool}{n:Nat}{I:Shared->Prop}{G:Nat->Nat->(Bool->Shared->Prop)->Shared->Prop}{P:α->Prop}{Q:α->Shared->Prop}
 (J:∀i j C s,I s->i<n->j<n->i≠j->(∀s',I s'->C (lt i j) s')->G i j C s) (O:∀a s,P a->I s->Q a s):∀ {t:KasT α}{s:Shared},I s->KOk lt n t P->t.kasWp G Q s
 | .ret a,s,i,h=>O a s h i
 | .ask a b k,s,i,h=>J a b _ s i h.1 h.2.1 h.2.2.1 fun s' U=>KOk.wp J O (t:=k _) U h.2.2.2
noncomputable def aT (p:Array Nat) (i:Nat):Nat:=p.getD i 0
variable {i:Nat}
theorem Af0 {p:Array Nat} (h:i<p.size):p[i]? =some (aT p i):=by simp [aT,h]
structure PM (n:Nat) (p:Array Nat):Prop where
 sz:p.size=n
 lt:∀i,i<n->aT p i<n
 ne:∀i j,i<n->j<n->i≠j->aT p i≠aT p j
 pm:p.toList.Perm (List.range n)
variable {n:Nat}
theorem PM.of {p:Array Nat} (h:p.toList.Perm (List.range n)):PM n p:=by
 have sz:p.size=n:=by
  have:=h.length_eq
  simpa using this
 have U:p.toList.Nodup:=h.nodup_iff.mpr nodup_range
 refine⟨sz,fun i hi=> ?_,fun i j hi hj W e=> ?_,h⟩
 . have G:i<p.size:=by omega
   have e:aT p i=p[i]:=by simp [aT,G]
   have m:p[i]∈p.toList:=by simp
   rw [e]
   exact cW.mp (h.mem_iff.mp m)
 . have G:i<p.toList.length:=by rw [bF];omega
   have J:j<p.toList.length:=by rw [bF];omega
   have Z:aT p i=p.toList[i]:=by simp [aT,show i<p.size by omega]
   have e2:aT p j=p.toList[j]:=by simp [aT,show j<p.size by omega]
   have pw:=bI.mp U
   have O:p.toList[i]=p.toList[j]:=by rw [<-Z,<-e2,e]
   rcases iG W with l | l
   . exact pw i j G J l O
   . exact pw j i J G l O.symm
theorem PM.start (n:Nat):PM n (toArray (List.range n)):=PM.of (by simp)
section
variable {n:Nat}{lt:Nat->Nat->Bool}
noncomputable def StT (lt:Nat->Nat->Bool) (p:Array Nat) (k:Nat):Prop:=∀i j,i<j->j<k->lt (aT p i) (aT p j)=true
end
open PySem PySem.Spec PySem.Calls PyProof.Rows PySem.W
theorem Pz:∀ns ms:List Int,ns≠ms->HT.lexLt ns ms= !HT.lexLt ms ns
 | [],[],h=>absurd rfl h
 | [],_::_,_=>rfl
 | _::_,[],_=>rfl
 | x::xs,y::ys,h=>by
   rw [HT.Bh,HT.Bh]
   by_cases e:x=y
   . subst e
     rw [aI rfl,aI rfl]
     exact Pz xs ys fun z=>h (by rw [z])
   . rw [aF e,aF (cC e)]
     by_cases l:x<y
     . rw [cO l,bY (by omega)]
       rfl
     . rw [bY l,cO (by omega)]
       rfl
theorem lex_trans:∀ns ms J:List Int,HT.lexLt ns ms=true->HT.lexLt ms J=true->HT.lexLt ns J=true
 | [],[],_,h,_=>by cases h
 | [],_::_,[],_,h=>by cases h
 | [],_::_,_::_,_,_=>rfl
 | _::_,[],_,h,_=>by cases h
 | _::_,_::_,[],_,h=>by cases h
 | x::xs,y::ys,z::zs,h1,h2=>by
   rw [HT.Bh]at h1 h2 ⊢
   by_cases e:x=y
   . subst e
     rw [aI rfl]at h1
     by_cases G:x=z
     . rw [aI G]at h2 ⊢
       exact lex_trans xs ys zs h1 h2
     . rw [aF G]at h2 ⊢
       exact h2
   . rw [aF e]at h1
     have O:=dY h1
     by_cases G:y=z
     . subst G
       rw [aF e]
       exact h1
     . rw [aF G]at h2
       have U:=dY h2
       rw [aF (by omega)]
       exact cO (by omega)
theorem Pu {P:Program}{w:World}:∀ {ns:List Int}{us:List Value},IntsAre us ns->ItemsAre (intKind P w) ns us
 | _,_,.nil=> .nil
 | _,_,.cons n t r=> .cons (by show Value.isInt n (.int n t)=true;simp [Value.isInt]) (Pu r)
variable {vs:List Value}
theorem Ain (G:vs.length<2):(vs.toArray.zip vs.toArray).map (·.2)=toArray ((toArray (List.range vs.length)).toList.map fun i=>vs.getD i Value.none):=by
 cases vs with
 | nil=>simp
 | cons v l=>
   cases l with
   | nil=>simp [List.range_succ]
   | cons _ _=>exact absurd G (by simp)
noncomputable abbrev Prt:=Addr × Addr × List Int × V
noncomputable def Prt.ks (t:Prt):List Int:=t.2.2.1
structure Amw (K:Frag) (H:Hp) (t:Prt):Prop where
 pr:SqT K H t.1 [.ref t.2.1,t.2.2.2]
 tu:SqT K H t.2.1 (t.ks.map V.int)
theorem Aa2:∀ {as:List Addr}{us:List Value},Vals (as.map V.ref) us->us=as.map Value.ref
 | [],_,.nil=>rfl
 | _::_,_,.cons r t=>by
   cases r
   rw [Aa2 t]
   rfl
theorem Mx:∀as:List Addr,Vals (as.map V.ref) (as.map Value.ref)
 | []=> .nil
 | _::r=> .cons rfl (Mx r)
structure Ab7 (P:Program) (w:World) (h:Heap) (t:Prt):Prop where
 pr:∃o xs n u,h.get? t.1=some o/\o.cls= .type "tuple"/\o.data= .seq xs n/\xs.toList=[.ref t.2.1,u]
 tu:∃its:List Value,IsTup h t.2.1 its.toArray/\IntsAre its t.ks
variable {h:Heap}
theorem Ab7.keeps {t:Prt} (x:Ab7 P w h t) (k:∀b o,b≠a->h.get? b=some o->h'.get? b=some o) (h1:t.1≠a) (h2:t.2.1≠a):Ab7 P w h' t:=by
 obtain⟨⟨o,xs,n,u,e,r⟩,G,⟨J,O,rt⟩,i⟩:=x
 exact⟨⟨o,xs,n,u,k _ _ h1 e,r⟩,G,⟨J,k _ _ h2 O,rt⟩,i⟩
theorem Amw.at {t:Prt} (I:Inv X pins σ H s) (x:Amw X.K H t):Ab7 X.prog X.w s.heap t/\t.1<s.heap.objs.size/\t.2.1<s.heap.objs.size:=by
 obtain⟨J,r,⟨o,e,c,n,d⟩,_⟩:=I.tuple x.pr
 obtain⟨G,O,p2,_⟩:=I.tuple x.tu
 refine⟨⟨?_,G,p2,intsAre_of O⟩,aJ e,p2.lt⟩
 cases r with
 | cons U W=>
   cases U
   cases W with
   | cons r3 Z=>
     cases Z
     exact⟨o,_,n,_,e,c,d,rfl⟩
theorem V9 {P:Program}{w:World}{h:Heap}:∀ts:List Prt,(∀t∈ts,Ab7 P w h t)->KatTups h (ts.map fun t=>Value.ref t.1) (ts.map fun t=>Value.ref t.2.1)
 | [],_=> .nil
 | t::r,k=>by
   obtain⟨o,xs,n,u,e,c,d,x⟩:=(k t (.head _)).pr
   exact KatTups.cons e c d (by rw [<-fG,x];rfl) (V9 r fun t G=>k t (.tail _ G))
theorem Anu {E:Value->Shared->Prop}{x y:Prt}{Q:Bool->Shared->Prop} (W:A.units<cLine) (Z:Ab7 P w s.heap x) (hy:Ab7 P w s.heap y) (hn:x.ks≠y.ks) (q:Q (HT.lexLt x.ks y.ks) s):
 wpAny (model P w) A (keyLt' (tuples' false) (.ref x.1) (.ref y.1)) Q E s:=by
 obtain⟨o,xs,n,u,e,c,d,ex⟩:=Z.pr
 obtain⟨o',ys,n',u',e',c',d',ey⟩:=hy.pr
 obtain⟨a2,t1,i1⟩:=Z.tu
 obtain⟨a1,t2,i2⟩:=hy.tu
 refine kat_lt e d e' d' ?_
 rw [ex,ey]
 have k1:IsTupleKey (intKind P w) s.heap x.ks x.2.1:=by
  obtain⟨G,J,ct,O,U⟩:=t1
  exact⟨G,_,O,J,ct,U,Pu i1⟩
 have k2:IsTupleKey (intKind P w) s.heap y.ks y.2.1:=by
  obtain⟨G,J,ct,O,U⟩:=t2
  exact⟨G,_,O,J,ct,U,Pu i2⟩
 refine kat_cons (wpAny_eqBool_tuple W k1 k2 ?_)
 rw [bY hn]
 refine kat_no (kat_one _ _ ?_)
 exact HT.Oo t1 t2 i1 i2 W q
variable {d it:Addr}{o od:Obj}{es:Array DictEntry}{ep:Nat}
section
variable {prog:Program}{w:World}{A:Around}{E:Value->Shared->Prop}{s:Shared}
theorem Ac8 {v:Addr}{Q:Value->Shared->Prop} (O:s.heap.IsItemsView v d) (ho:s.heap.get? d=some o) (G:o.data= .dict es ep)
 (Z:Q (.ref s.heap.objs.size) { s with heap:=s.heap.push { cls:= .type "dict_itemiterator",data:= .fields #[.none,.bool false,.ref d,.int 0 0,.int es.size 0,.int ep 0,.none,.none]}}):wpAny (model prog w) A (pyIter (.ref v)) Q E s:=by
 obtain⟨ov,U,a1,W⟩:=id O
 refine wpAny_pyIter_slot O.typeIs F.slot_dict_items_iter (bZ F.slot_dict_items_iter O.typeIs F.entry_dict_items_iter ?_ (F.args_dict_items_iter_1 _))
 unfold Builtin.«dict_items.__iter__»
 refine aA (aD (aA ?_))
 unfold Builtin.Dict_items.dictOf
 refine aA (cG U W (x:= .ref d) rfl (aD (aA ?_)))
 unfold Builtin.Dict_items.newIterator
 refine aA (gY ho G (aA (iQ ho G ?_)))
 have J:Builtin.Dict_items.ownsTuple "dict_itemiterator"=true:=by decide
 simp only [J,fW]
 refine bX (aD ⟨_,rfl,"dict_itemiterator",_,⟨_,aK _ rfl,rfl⟩,eW.lookup,?_⟩)
  (by simp only [sizeOk,Builtin.Dict_items.ownedTupleFields,aM,aH,bH,eD,dX];omega)
 simpa [rawInt,Builtin.Dict_items.ownedTupleFields]using Z
theorem Ac7 {e:DictEntry}{ok ov:Value}{Q:Option Value->Shared->Prop} (ag:IsItemIter s.heap it d i es.size ep ok ov) (al:s.heap.get? d=some od) (am:od.data= .dict es ep) (he:es[i]? =some e)
 (hQ:∀h',IsItemIterOut h' it d (i+1) es.size ep e.key e.val s.heap.objs.size->h'.get? s.heap.objs.size=some { cls:= .type "tuple",data:= .seq #[e.key,e.val]}->h'.objs.size=s.heap.objs.size+1->
   (∀b o,b≠it->s.heap.get? b=some o->h'.get? b=some o)->Q (some (.ref s.heap.objs.size)) { s with heap:=h'}):wpAny (model prog w) A (pyNext (.ref it)) Q E s:=by
 obtain⟨hp,g,dr,tk,os⟩:=s
 have hT:Shared.TypeIs ⟨hp,g,dr,tk,os⟩ (.ref it) "dict_itemiterator":=⟨_,ag,rfl⟩
 unfold pyNext
 refine aA (fV (cB (name:=Str.ofString "__next__") hT eW
  (bZ eW hT F.entry_dict_itemiterator_next ?_ (F.args_dict_itemiterator_next_1 _))))
 refine aA (aD (aA (aA ?_)))
 first | refine aA (gC hT (aD ?_)) | refine aA (iH hT (aD ?_))
 refine aA (wpAny_fieldsOf ag rfl ?_)
 have an:Builtin.Dict_items.ownsTuple "dict_itemiterator"=true:=by decide
 simp only [an,fW]
 show wpAny _ _ (if(Value.ref d==Value.none)=true then _ else _) _ _ _
 rw [aF (show ¬((Value.ref d==Value.none)=true)from aV)]
 refine aA (aD (aA (gY al am ?_)))
 rw [aF (by simp)]
 refine aA (aD (aA (iQ al am ?_)))
 rw [aF (by simp)]
 refine aD ?_
 obtain⟨ao,rfl⟩:=jR.mp he
 simp only [show ¬((i:Int)<0)from by omega,gD,cT,eE ao]
 refine aA ?_
 first | refine aA (gC hT (aD ?_)) | refine aA (iH hT (aD ?_))
 refine aA (wpAny_isOneOf_itemiter hT ?_)
 show wpAny _ _ (setField (.ref it) 3 (rawInt ((i:Int)+1))>>=_) _ _ ⟨hp,g,dr,tk,os⟩
 refine aA (bW ag (by simp) fun G J O=> ?_)
 replace O:Heap.SameBut it hp G:=O
 replace J:IsItemIter G it d (i+1) es.size ep ok ov:=by
  have e:((i+1:Nat):Int)=(i:Int)+1:=by omega
  unfold IsItemIter;rw [e];simpa [rawInt]using J
 have a6:Shared.TypeIs ⟨G,g,dr,tk,os⟩ (.ref it) "dict_itemiterator":=⟨_,J,rfl⟩
 refine aA (dN (aA (wpAny_isOneOf_itemiter a6 (aA (wpAny_isOneOf_itemiter a6 ?_)))))
 show wpAny _ _ (Builtin.Dict_items.pairFromOwner (.ref it) 6 es[i].key es[i].val) _ _ ⟨G,g,dr,tk,os⟩
 unfold Builtin.Dict_items.pairFromOwner
 refine aA (wpAny_newTuple ?_)
 have U:IsItemIter (G.push { cls:= .type "tuple",data:= .seq #[es[i].key,es[i].val]}) it d (i+1) es.size ep ok ov:=aB _ J
 generalize a3:G.push { cls:= .type "tuple",data:= .seq #[es[i].key,es[i].val]}=a5 at U
 have a4:G.objs.size=hp.objs.size:=O.1
 have ah:it<hp.objs.size:=aJ ag
 have ai:a5.get? hp.objs.size=some { cls:= .type "tuple",data:= .seq #[es[i].key,es[i].val]}:=by rw [<-a3,<-a4];exact aK _ rfl
 have aj:a5.objs.size=hp.objs.size+1:=by rw [<-a3,dM,a4]
 have ak:∀b o,b≠it->hp.get? b=some o->a5.get? b=some o:=fun b o hb e=>by rw [<-a3];exact aB _ (O.extBut b o hb e)
 show wpAny _ _ (Builtin.Dict_items.ownedTupleIsFree (.ref it)>>=_) _ _ ⟨a5,g,dr,tk,os⟩
 rw [a4]
 clear a3 J O a6 a4 G
 refine aA ?_
 unfold Builtin.Dict_items.ownedTupleIsFree
 refine aA (cG U rfl (x:= .none) rfl (aD ?_))
 simp only [fW]
 refine aA (cG U rfl (x:=ok) rfl (aA (cG U rfl (x:=ov) rfl ?_)))
 refine aA (bW U (by simp) fun ad a7 W=> ?_)
 replace W:Heap.SameBut it a5 ad:=W
 replace a7:IsItemIter ad it d (i+1) es.size ep es[i].key ov:=a7
 refine aA (bW a7 (by simp) fun ae a8 Z=> ?_)
 replace Z:Heap.SameBut it ad ae:=Z
 replace a8:IsItemIter ae it d (i+1) es.size ep es[i].key es[i].val:=a8
 refine aA (bW a8 (by simp) fun af a9 a1=> ?_)
 replace a1:Heap.SameBut it ae af:=a1
 replace a9:IsItemIterOut af it d (i+1) es.size ep es[i].key es[i].val hp.objs.size:=a9
 refine aA (bW a9 (by simp) fun ac aa a2=> ?_)
 replace a2:Heap.SameBut it af ac:=a2
 replace aa:IsItemIterOut ac it d (i+1) es.size ep es[i].key es[i].val hp.objs.size:=aa
 refine aA (gK (aD (aD ⟨_,rfl,aD (hQ ac aa ?_ ?_ ?_)⟩)))
 . exact a2.extBut _ _ (dP ah) (a1.extBut _ _ (dP ah) (Z.extBut _ _ (dP ah) (W.extBut _ _ (dP ah) ai)))
 . show ac.objs.size=hp.objs.size+1
   rw [a2.1,a1.1,Z.1,W.1,aj]
 . exact fun b o hb e=>a2.extBut b o hb (a1.extBut b o hb (Z.extBut b o hb (W.extBut b o hb (ak b o hb e))))
theorem Agl {Z:Obj}{ok ov:Value}{Q:Option Value->Shared->Prop} (hh:A.handled=none) (G:IsItemIter s.heap it d i es.size ep ok ov) (O:s.heap.get? d=some Z) (U:Z.data= .dict es ep) (hx:es.size<=i)
 (hQ:∀h',Heap.ExtBut it s.heap h'->Q none { s with heap:=h'}):wpAny (model prog w) A (pyNext (.ref it)) Q E s:=by
 have J:s.TypeIs (.ref it) "dict_itemiterator":=⟨_,G,rfl⟩
 unfold pyNext
 refine aA (fV (cB (name:=Str.ofString "__next__") J eW
  (bZ eW J F.entry_dict_itemiterator_next ?_ (F.args_dict_itemiterator_next_1 _))))
 refine aA (aD (aA (aA ?_)))
 first | refine aA (gC J (aD ?_)) | refine aA (iH J (aD ?_))
 refine aA (wpAny_fieldsOf G rfl ?_)
 have W:Builtin.Dict_items.ownsTuple "dict_itemiterator"=true:=by decide
 simp only [W,fW]
 show wpAny _ _ (if(Value.ref d==Value.none)=true then _ else _) _ _ s
 rw [aF (show ¬((Value.ref d==Value.none)=true)from aV)]
 refine aA (aD (aA (gY O U ?_)))
 rw [aF (by simp)]
 refine aA (aD (aA (iQ O U ?_)))
 rw [aF (by simp)]
 refine aD ?_
 simp only [show ¬((i:Int)<0)from by omega,gD,cT,Array.getElem?_eq_none hx]
 refine aA ?_
 first | refine aA (gC J (aD ?_)) | refine aA (iH J (aD ?_))
 show wpAny _ _ (setField (.ref it) 2 .none>>=_) _ _ s
 refine aA (iX G rfl (by simp) ?_)
 show wpAny _ _ (newExc (.type "StopIteration") []>>=_) _ _ _
 refine aA ?_
 simp only [newExc,newTuple]
 refine aA (bX ?_ (by size_fits))
 refine aA (m:=firstArgMember _ _) (wpAny_of_eq (a:=Value.none) (by first | rfl | (simp only [firstArgMember];rfl)) ?_)
 refine bX ?_ (by size_fits)
 simp only [raiseNew]
 refine aA (wpAny_handled ?_)
 rw [show A.in1.handled=none from hh]
 refine aA (aD (wpAny_throw ?_))
 refine aA (lH (T:="StopIteration") (b:=true) ⟨_,aK _ rfl,rfl⟩ isSubtype_stop ?_)
 exact aD (hQ _ (((iJ ..).extBut.push _).push _))
end
noncomputable def Ams (d:Addr) (od:Obj) (kvs:List (List Key × V)):It:=
 ⟨fun i H=>H d=some (.frz od (.dT kvs))/\i<kvs.length,
  fun i H x H'=>∃p b k v,kvs[i]? =some (k,v)/\H b=some (.tup (k.map kV))/\H p=none/\x= .ref p/\H'=upd H p (.tup [.ref b,v]),
  fun i H=>H d=some (.frz od (.dT kvs))/\kvs.length<=i⟩
theorem Abs {P:Program}{w:World}{K:Frag}{el:List Expr}{x1}{tp:Pos} (d it:Addr) (od:Obj) (es:Array DictEntry) (ep:Nat) (kvs:List (List Key × V)) (J:od.data= .dict es ep) (hz:es.size=kvs.length) (a9:it≠d):
 Turn P w K (.Tuple el x1 tp) (Ams d od kvs) [it] it (fun i h=>∃ok O,IsItemIter h it d i es.size ep ok O) where
 mem:=by simp
 obj:=fun i h st c hc=>by
  obtain⟨ok,O,hi⟩:=st
  obtain rfl:c=it:=by simpa using hc
  exact⟨_,hi,fun v z=>by cases(show Data.fields _=Data.cell v from z)⟩
 keep:=fun i h h' st k=>by
  obtain⟨ok,O,hi⟩:=st
  exact⟨ok,O,k it (by simp) _ hi⟩
 item:=by
  intro X hP hw hK hc i pins s σ H E I hf st hg
  subst hP hw hK
  obtain⟨hd,hi⟩:=hg
  obtain⟨ok,O,G⟩:=st
  obtain⟨e1,z,y,xs,r,o,a6,a7,h1,h2,h3,h4,h5⟩:=(show Cy X.prog X.w H s.heap d (.frz od (.dT kvs))from I.hok d _ hd)
  have eo:o=od:=aY (h1.symm.trans e1)
  subst eo
  rw [J]at h3
  obtain⟨rfl,rfl⟩:es=a6/\ep=a7:=by
   injection h3 with a b
   exact⟨a,b⟩
  have hx:i<xs.length:=by rw [<-jK r];exact hi
  obtain⟨q,hq⟩:∃q,xs[i]? =some q:=⟨_,aG hx⟩
  obtain⟨p,hp⟩:∃p,kvs[i]? =some p:=⟨_,aG hi⟩
  have a4:p.1=q.1/\H q.2.1=some (.tup (p.1.map kV))/\RelV p.2 q.2.2:=by
   have get:∀ {l:List (List Key × V)}{m:List (List Key × Addr × Value)} (i:Nat),Paired (fun(p:List Key × V) (q:List Key × Addr × Value)=>p.1=q.1/\H q.2.1=some (.tup (p.1.map kV))/\RelV p.2 q.2.2) l m->l[i]? =some p->m[i]? =some q->p.1=q.1/\H q.2.1=some (.tup (p.1.map kV))/\RelV p.2 q.2.2:=by
    intro l m i r
    induction r generalizing i with
    | nil=>intro e;simp at e
    | cons h _ ih=>
      intro a b
      cases i with
      | zero=>
        simp only [kK,Option.some.injEq]at a b
        subst a b
        exact h
      | succ i=>exact ih i (by simpa using a) (by simpa using b)
   exact get i r hp hq
  have he:es[i]? =some (entryOfKey (tupleKind (Cw X.prog X.w)) q):=by
   rw [<-fG,h4,aN,hq]
   rfl
  refine Ac7 G h1 J he fun h' a1 a2 a3 hk=>⟨_,rfl,?_⟩
  refine wpAny_letOwnedTupleGo_items a1 fun g2 a8 U=> ?_
  replace U:Heap.SameBut it h' g2:=U
  have lt:it≠s.heap.objs.size:=aP (aJ G)
  have hn:H s.heap.objs.size=none:=I.fresh
  have I1:Inv X pins σ (upd H s.heap.objs.size (.tup [.ref q.2.1,p.2])) { s with heap:=s.heap.push { cls:= .type "tuple",data:= .seq #[.ref q.2.1,q.2.2]},toks:=s.toks}:=
   I.laid (fun b o q=>aB _ q) (aL _) ⟨by show 2<=sizeLine;decide,[.ref q.2.1,q.2.2],.cons rfl (.cons a4.2.2 .nil),⟨_,aK _ rfl,rfl,_,rfl⟩⟩
  have a5:∀b∈ [it],O2 X pins (upd H s.heap.objs.size (.tup [.ref q.2.1,p.2])) b:=fun b Z=>by
   obtain rfl:b=it:=by simpa using Z
   exact⟨by rw [Ax lt];exact(hf b (by simp)).1,(hf b (by simp)).2⟩
  have I2:=I1.turnL (h':=g2) (t':=s.toks) (fp:=[it]) (fun b o Z q=>by
   have n1:b≠it:=fun e=>Z (by simp [e])
   refine(U.2 b n1).trans ?_
   rcases jQ q with⟨rfl,rfl⟩ | q0
   . exact a2
   . exact hk b o n1 q0) a5
  exact⟨.ref s.heap.objs.size,_,I2,rfl,⟨_,q.2.1,p.1,p.2,hp,a4.2.1,hn,rfl,rfl⟩,⟨_,_,a8⟩,fun b Z=>(a5 b Z).1⟩
 done:=by
  intro X hP hw hK hc i pins s σ H E I hf st hg
  subst hP hw hK
  obtain⟨hd,hi⟩:=hg
  obtain⟨ok,O,G⟩:=st
  obtain⟨e1,_⟩:=(show Cy X.prog X.w H s.heap d (.frz od (.dT kvs))from I.hok d _ hd)
  exact Agl (I.ok.hd hc) G e1 J (by omega) fun g hk=>⟨rfl,I.turnL (t':=s.toks) (fp:=[it]) (fun b o Z q=>hk b o (fun e=>Z (by simp [e])) q) hf⟩
 self:=fun A i s Q E st h=>by
  obtain⟨ok,O,hi⟩:=st
  exact PySem.W.kcp_self hi h
theorem Ac9 {prog:Program}{w:World} (d:Addr) (G:(d==sysModules)=false):
 MeetsIn prog w (Builtin.«dict.items» ⟨[.ref d],[]⟩) (fun _ R s=>s.TypeIs (.ref d) "dict"/\R (.ok (.ret (.ref s.heap.objs.size))) { s with heap:=s.heap.push { cls:= .type "dict_items",data:= .fields #[.ref d]}}):=
 .of_wp fun A R s ⟨ty,h⟩=>by
  unfold Builtin.«dict.items»
  refine aA ?_
  unfold Builtin.Dict.noArgs
  refine aA (wpAny_notOrdered_dict ty ?_)
  show wpAny _ _ (pure d) _ _ s
  refine aD ?_
  show wpAny _ _ (Builtin.Dict.showsAll d>>=_) _ _ s
  unfold Builtin.Dict.showsAll
  rw [aF (by rw [G];exact aV)]
  exact aA (aD (aA (bX (aD ⟨_,rfl,h⟩))))
structure M0 (X:Cx) (o:Expr) (m:Str) (apos cpos:Pos):Prop where
 base:attributeBase o m X.env (eval o X.env)=eval o X.env
 few:((backTo cpos (starEach [] X.env)).all (fun x=> !x.1)&&(backToKw cpos (keywordEach [] X.env)).all (fun x=>x.1.isSome)
  &&decide (([]:List Expr).length+([]:List Keyword).length+(if([]:List Keyword).isEmpty then 0 else 1)<30))=true
 line:(apos.endLine==cpos.line)=true
 trees:backTo cpos (starEach [] X.env)=[]
noncomputable def Zq (td:TE):TI:=fun σ H R=>td σ H fun x H1=>∃a kvs,x= .ref a/\H1 a=some (.dT kvs)/\∀od,R (Ams a od kvs) (upd H1 a (.frz od (.dT kvs)))
theorem Adv {X:Cx}{o:Expr}{td:TE}{el:List Expr}{x1}{tp apos cpos:Pos} (ho:PE X o td) (m:M0 X o "items" apos cpos):PI X (.Tuple el x1 tp) (.Call (.Attribute o "items" apos) [] [] cpos) (Zq td):=by
 intro pins s σ H R I h
 refine wpAny_Call_method m.base m.few m.line PySem.F.plainAttrs_dict PySem.F.slot_dict_items PySem.F.type_dict_items (thn (ho pins s σ H _ I h) fun u G ⟨x,H1,U,rx,a,J,ex,e,q1⟩=> ?_)
 subst ex
 obtain rfl:u=Value.ref a:=rx
 obtain⟨Z,t2,hd⟩:=Ae1 U (.inr ⟨J,.inl e⟩)
 refine⟨Z,t2,?_⟩
 rw [m.trees]
 refine jA rfl (PySem.evalArgs_none ?_)
 obtain⟨z,y,xs,r,O,es,ep,h1,h2,h3,h4,h5⟩:=(show Cy X.prog X.w H1 G.heap a (.dT J)from U.hok a _ e)
 refine call_meetsIn PySem.F.slot_dict_items Z PySem.F.entry_dict_items (PySem.F.args_dict_items_1 _) (Ac9 a hd) ⟨Z,?_⟩
 have hz:es.size=J.length:=by
  have:=bE length h4
  rw [bF,aC]at this
  rw [this,jK r]
 have W:(G.heap.push { cls:= .type "dict_items",data:= .fields #[.ref a]}).get? a=some O:=aB _ h1
 refine Ac8 (s:={ G with heap:=G.heap.push { cls:= .type "dict_items",data:= .fields #[.ref a]}}) (d:=a) ⟨_,aK _ rfl,rfl,rfl⟩ W h3 ?_
 have al:a<G.heap.objs.size:=aJ h1
 have sz:(G.heap.push { cls:= .type "dict_items",data:= .fields #[.ref a]}).objs.size=G.heap.objs.size+1:=dM ..
 have I2:Inv X pins σ (upd H1 a (.frz O (.dT J))) { G with heap:=(G.heap.push { cls:= .type "dict_items",data:= .fields #[.ref a]}).push { cls:= .type "dict_itemiterator",data:= .fields #[.none,.bool false,.ref a,.int 0 0,.int es.size 0,.int ep 0,.none,.none]},toks:=G.toks}:=
  U.write (x:=a) (e:=a) (by rw [e];exact True.intro) (.inl rfl) (fun b u _ q=>aB _ (aB _ q)) ⟨O,aB _ W⟩
   ⟨aB _ W,z,y,xs,Paired.mapP r fun p q z=>⟨z.1,by rw [Ax (G6 z.2.1 e (fun z=>nomatch z))];exact z.2.1,z.2.2⟩,O,es,ep,aB _ W,h2,h3,h4,h5⟩
 refine⟨(G.heap.push { cls:= .type "dict_items",data:= .fields #[.ref a]}).objs.size,[(G.heap.push { cls:= .type "dict_items",data:= .fields #[.ref a]}).objs.size],_,_,_,rfl,I2,Abs a _ O es ep J h3 hz (by rw [sz];exact dP (bU al)),⟨.none,.none,aK _ rfl⟩,fun c hc=> ?_,q1 O⟩
 have ec:c=G.heap.objs.size+1:=by
  rw [sz]at hc
  simpa using hc
 subst ec
 refine U.fpOk (gR _) ?_
 rw [Ax (dP (bU al))]
 exact U.hok.fresh (gR _)
theorem Aeh {td:TE}{R:It->Hp->Prop}:Zq td σ H R=td σ H (fun x H1=>∃a G,x= .ref a/\H1 a=some (.dT G)/\∀J,R (Ams a J G) (upd H1 a (.frz J (.dT G)))):=rfl
theorem Ys {d:Addr}{od:Obj}{kvs:List (List Key × V)}{H1:Hp}{p:Addr}{cσ:St}{g:TG}{tt:TT}{te:TE}{Q:VK} (pf:List Key × V->Bool) (O:List Key × V->V->Hp->Prop)
 (mono:∀e v H H',O e v H->Same H H'->O e v H') (put:∀e v H ys zs,O e v H->H p=some (.lst ys)->O e v (upd H p (.lst zs))) (hz:kvs.length<=sizeLine) (hp:H1 p=none) (hd:H1 d=some (.frz od (.dT kvs)))
 (step:∀(e:List Key × V) (H':Hp) (b q:Addr) (R:VK) (RF:Hp->Prop),e∈kvs->Same H1 H'->H' b=some (.tup (e.1.map kV))->H' q=some (.tup [.ref b,e.2])->(pf e=true->∀v J,Same H' J->O e v J->R v J)->(pf e=false->∀J,Same H' J->RF J)->
   g (.ref q) cσ H' fun U H4=>Kp cσ U/\tt U H4 fun b H5=>if b=true then te U H5 R else RF H5)
 (a2:∀H' (vs:List (V × (List Key × V))),Same H1 H'->H' p=some (.lst (vs.map (·.1)))->vs.map (·.2)=kvs.filter pf->(∀x∈vs,O x.2 x.1 H')->Q (.ref p) H'):cIn (Ams d od kvs) cσ g tt te Q H1 p:=by
 have su:∀ {H':Hp}{o:HO},Same H1 H'->Same H1 (upd H' p o):=fun {H' o} s b u e=>by
  rw [Ax (Ay e hp)]
  exact s b u e
 refine⟨fun i m W H'=>∃vs:List (V × (List Key × V)),m=kvs.length-i/\i<=kvs.length/\W=vs.map (·.1)/\vs.map (·.2)=(kvs.take i).filter pf/\(∀x∈vs,O x.2 x.1 H')/\H' p=some (.lst W)/\Same H1 H',⟨kvs.length,[],by simp,cH _,rfl,by simp,by simp,Af,su (Same.refl _)⟩,?_⟩
 rintro i m W H' ⟨vs,rfl,hi,rfl,hv,hr,hH,s⟩
 cases he:kvs[i]? with
 | none=>
   have e:i=kvs.length:=fJ hi (bS.mp he)
   subst e
   rw [fU]at hv
   exact .inl ⟨⟨s _ _ hd,aL _⟩,a2 _ vs s hH hv hr⟩
 | some e=>
   obtain⟨Z,_⟩:=aW.mp he
   refine .inr ⟨⟨s _ _ hd,Z⟩,fun x H3 y=> ?_⟩
   obtain⟨q,b,k,v,hk,hb,hq,rfl,rfl⟩:=y
   rw [he]at hk
   obtain rfl:e=(k,v):=aY hk
   have sq:=Same.upd hq (.tup [.ref b,v])
   have tk:kvs.take (i+1)=kvs.take i++ [(k,v)]:=by rw [iM,he];rfl
   have fl:vs.length<=i:=by
    have h1:=bE length hv
    rw [aC]at h1
    rw [h1]
    exact aO (dF _ _) (by rw [bV];omega)
   refine step (k,v) (upd H' q (.tup [.ref b,v])) b q _ _ (dR he) (s.trans sq) (sq _ _ hb) Af (fun a1 v' J G r6=>⟨G _ _ (sq _ _ hH),by rw [aC];omega,_,by omega,vs++ [(v',(k,v))],rfl,Z,by rw [aQ];rfl,?_,?_,Af,su ((s.trans sq).trans G)⟩)
    (fun a1 J G=>⟨_,by omega,vs,rfl,Z,rfl,?_,fun x hx=>mono _ _ _ _ (hr x hx) (sq.trans G),G _ _ (sq _ _ hH),(s.trans sq).trans G⟩)
   . rw [tk,gA,aQ,hv]
     simp [a1]
   . intro x hx
     rcases bG.mp hx with hx | hx
     . exact put _ _ _ _ _ (mono _ _ _ _ (hr x hx) (sq.trans G)) (G _ _ (sq _ _ hH))
     . have:x=(v',(k,v)):=by simpa using hx
       rw [this]
       exact put _ _ _ _ _ r6 (G _ _ (sq _ _ hH))
   . rw [tk,gA,hv]
     simp [a1]
variable {Q:VK}
theorem Aih:Abj σ H Q=∀p,H p=none->Q (.ref p) (upd H p (.dT [])):=rfl
section
variable {prog:Program}{w:World}{A:Around}{E:Value->Shared->Prop}{s:Shared}
theorem Acn {Q:Value->Shared->Prop} (O:(d==sysModules)=false) (ho:s.heap.get? d=some o) (U:o.ExactDict) (G:o.data= .dict es ep)
 (W:Q (.ref s.heap.objs.size) { s with heap:=s.heap.push { cls:= .type "dict_keyiterator",data:= .fields #[.ref d,.int 0 0,.int es.size 0,.int ep 0]}}):wpAny (model prog w) A (pyIter (.ref d)) Q E s:=by
 have J:s.TypeIs (.ref d) "dict":=⟨o,ho,U.1⟩
 refine wpAny_pyIter_slot J F.slot_dict_iter (bZ F.slot_dict_iter J F.entry_dict_iter ?_ (F.args_dict_iter_1 _))
 unfold Builtin.«dict.__iter__»
 refine aA ?_
 unfold Builtin.Dict.dictSlotNone
 refine aA (wpAny_notOrdered_dict J ?_)
 show wpAny _ _ (pure (Value.ref d)) _ _ s
 refine aD ?_
 show wpAny _ _ (Builtin.Dict.showsAll d>>=_) _ _ s
 unfold Builtin.Dict.showsAll
 rw [aF (by rw [O];exact aV)]
 refine aA (aD (aA (gY ho G (aA (iQ ho G ?_)))))
 refine aA (bX (aD ⟨_,rfl,"dict_keyiterator",_,⟨_,aK _ rfl,rfl⟩,fC.lookup,?_⟩))
 simpa [rawInt]using W
theorem Acm {e:DictEntry}{Q:Option Value->Shared->Prop} (G:s.heap.IsKeyIter it d i es.size ep) (O:s.heap.get? d=some od) (U:od.data= .dict es ep) (he:es[i]? =some e)
 (hQ:∀h',h'.IsKeyIter it d (i+1) es.size ep->Heap.SameBut it s.heap h'->Q (some e.key) { s with heap:=h'}):wpAny (model prog w) A (pyNext (.ref it)) Q E s:=by
 obtain⟨o,ho,hc,hd⟩:=id G
 unfold pyNext
 refine aA (fV (cB (name:=Str.ofString "__next__") G.typeIs fC
  (bZ fC G.typeIs F.entry_dict_keyiterator_next ?_ (F.args_dict_keyiterator_next_1 _))))
 refine aA (aD (aA (aA ?_)))
 first | refine aA (gJ G.typeIs (aD ?_)) | refine aA (iK G.typeIs (aD ?_))
 refine aA (wpAny_fieldsOf ho hd ?_)
 have W:Builtin.Dict_items.ownsTuple "dict_keyiterator"=false:=by decide
 simp only [W,fF,gD]
 show wpAny _ _ (if(Value.ref d==Value.none)=true then _ else _) _ _ s
 rw [aF (show ¬((Value.ref d==Value.none)=true)from aV)]
 refine aA (aD (aA (gY O U ?_)))
 rw [aF (by simp)]
 refine aA (aD (aA (iQ O U ?_)))
 rw [aF (by simp)]
 refine aD ?_
 obtain⟨Z,rfl⟩:=jR.mp he
 simp only [show ¬((i:Int)<0)from by omega,gD,cT,eE Z]
 refine aA ?_
 first | refine aA (gJ G.typeIs (aD ?_)) | refine aA (iK G.typeIs (aD ?_))
 refine aA (wpAny_isOneOf_keyiter G.typeIs ?_)
 show wpAny _ _ (setField (.ref it) 1 (rawInt ((i:Int)+1))>>=_) _ _ s
 refine aA (iX ho hd (by simp) ?_)
 have J:(s.heap.update it (Obj.mapFields (·.setIfInBounds 1 (rawInt ((i:Int)+1))))).IsKeyIter it d (i+1) es.size ep:=
  ⟨_,eO _ ho (Obj.isFreed_of_fields (kH hd _)),(Obj.cls_mapFields ..).trans hc,by rw [kH hd];simp [rawInt]⟩
 refine aA (dN ?_)
 refine aA (wpAny_isOneOf_keyiter (s:={ s with heap:=s.heap.update it (Obj.mapFields (·.setIfInBounds 1 (rawInt ((i:Int)+1))))}) J.typeIs ?_)
 show wpAny _ _ (pure es[i].key) _ _ _
 exact aD (aD ⟨_,rfl,aD (hQ _ J (iJ ..))⟩)
theorem Aga {Z:Obj}{Q:Option Value->Shared->Prop} (hh:A.handled=none) (G:s.heap.IsKeyIter it d i es.size ep) (J:s.heap.get? d=some Z) (O:Z.data= .dict es ep) (W:es.size<=i)
 (hQ:∀h',Heap.ExtBut it s.heap h'->Q none { s with heap:=h'}):wpAny (model prog w) A (pyNext (.ref it)) Q E s:=by
 obtain⟨o,ho,hc,hd⟩:=id G
 unfold pyNext
 refine aA (fV (cB (name:=Str.ofString "__next__") G.typeIs fC
  (bZ fC G.typeIs F.entry_dict_keyiterator_next ?_ (F.args_dict_keyiterator_next_1 _))))
 refine aA (aD (aA (aA ?_)))
 first | refine aA (gJ G.typeIs (aD ?_)) | refine aA (iK G.typeIs (aD ?_))
 refine aA (wpAny_fieldsOf ho hd ?_)
 have U:Builtin.Dict_items.ownsTuple "dict_keyiterator"=false:=by decide
 simp only [U,fF,gD]
 show wpAny _ _ (if(Value.ref d==Value.none)=true then _ else _) _ _ s
 rw [aF (show ¬((Value.ref d==Value.none)=true)from aV)]
 refine aA (aD (aA (gY J O ?_)))
 rw [aF (by simp)]
 refine aA (aD (aA (iQ J O ?_)))
 rw [aF (by simp)]
 refine aD ?_
 simp only [show ¬((i:Int)<0)from by omega,gD,cT,Array.getElem?_eq_none W]
 refine aA ?_
 first | refine aA (gJ G.typeIs (aD ?_)) | refine aA (iK G.typeIs (aD ?_))
 show wpAny _ _ (setField (.ref it) 0 .none>>=_) _ _ s
 refine aA (iX ho hd (by simp) ?_)
 show wpAny _ _ (newExc (.type "StopIteration") []>>=_) _ _ _
 refine aA ?_
 simp only [newExc,newTuple]
 refine aA (bX ?_ (by size_fits))
 refine aA (m:=firstArgMember _ _) (wpAny_of_eq (a:=Value.none) (by first | rfl | (simp only [firstArgMember];rfl)) ?_)
 refine bX ?_ (by size_fits)
 simp only [raiseNew]
 refine aA (wpAny_handled ?_)
 rw [show A.in1.handled=none from hh]
 refine aA (aD (wpAny_throw ?_))
 refine aA (lH (T:="StopIteration") (b:=true) ⟨_,aK _ rfl,rfl⟩ isSubtype_stop ?_)
 exact aD (hQ _ (((iJ ..).extBut.push _).push _))
theorem Za (hh:A.handled=none) (I d:Addr) (Z:d≠I)  (J:od.data= .dict es ep):
 Walks prog w A I [I,d] [I] es.size (fun i v=>∃e,es[i]? =some e/\v=e.key) (fun i h=>h.IsKeyIter I d i es.size ep/\h.get? d=some od) where
 sub:=fun b G=>by simp at G;simp [G]
 frame:=fun _ _ _ st hk=>⟨let ⟨o,e,r⟩:=st.1;⟨o,hk I (by simp) o e,r⟩,hk d (by simp) _ st.2⟩
 item:=fun i s Q E hi st O=>by
  refine Acm st.1 st.2 J (eE hi) fun h' U W=> ?_
  exact O _ h' s.toks ⟨_,eE hi,rfl⟩ ⟨U,W.extBut _ _ Z st.2⟩ fun b o G e=>W.extBut b o (fun h=>G (by simp [h])) e
 done:=fun s Q E st O=>Aga hh st.1 st.2 J (aL _) fun h' a1=>O h' s.toks fun b o G e=>a1 b o (fun h=>G (by simp [h])) e
 self:=fun _ _ _ _ st O=>wpAny_pyIter_keyiter st.1 O
theorem Agb {O:Obj} (lo:(d==sysModules)=false) (U:O.ExactDict) (J:O.data= .dict es ep):
 KdlSrc prog w "dict" d d es.size (fun i v=>∃e,es[i]? =some e/\v=e.key) (fun h=>h.get? d=some O) where
 type:=fun _ G=>⟨_,G,U.1⟩
 there:=fun _ G=>⟨aJ G,aJ G⟩
 keep:=fun _ _ G Z=>Z d (.inl rfl) _ G
 notList:=by decide
 notTuple:=by decide
 hint:=fun _ _ _ _ G W=>kdl_hint_dict ⟨_,G,U.1⟩ W
 iter:=fun _ _ hh G=>⟨_,_,(fun _ _ W=>Acn lo G U J W),Za hh _ d (aP (aJ G)) J,⟨⟨_,aK _ rfl,rfl,rfl⟩,aB _ G⟩⟩
theorem Vw {Q:Bool->Shared->Prop}:∀ {ns ms:List Int}{vs J:List Value} (i:Nat),IntsAre vs ns->IntsAre J ms->ns.length=ms.length->Q (HT.lexLt ns ms) s->KatLex prog w A true false Q (vs.zip J) i s
 | _,_,_,_,_,.nil,.nil,_,q=>q
 | _,_,_,_,_,.nil,.cons _ _ _,h,_=>by simp at h
 | _,_,_,_,_,.cons _ _ _,.nil,h,_=>by simp at h
 | _,_,_,_,i,.cons a t r,.cons c u r',h,q=>by
   rw [HT.Bh]at q
   refine kat_cons (wpAny_eqBool_int ?_)
   by_cases e:a=c
   . rw [aI e]at q
     have G:(a==c)=true:=by simp [e]
     rw [G]
     exact kat_yes (Vw (i+1) r r' (by simpa using h) q)
   . rw [aF e]at q
     have G:(a==c)=false:=by simp [e]
     rw [G]
     refine kat_no ?_
     cases i with
     | zero=>exact oneLt_int q
     | succ i=>
       have:(true&&(i+1==0))=false:=by simp
       rw [this]
       exact kat_one _ _ (lt_int q)
end
noncomputable abbrev Tpt:=Addr × List Int
structure Aem (h:Heap) (t:Tpt):Prop where
 tu:∃its:List Value,IsTup h t.1 its.toArray/\IntsAre its t.2
theorem Aem.keeps {t:Tpt} (x:Aem h t) (k:∀b o,b≠a->h.get? b=some o->h'.get? b=some o) (h1:t.1≠a):Aem h' t:=by
 obtain⟨G,⟨J,O,rt⟩,i⟩:=x
 exact⟨G,⟨J,k _ _ h1 O,rt⟩,i⟩
noncomputable def toI:Key->Int
 | .inl i=>i
 | .inr _=>0
theorem Jc:∀ks:List Int,(ks.map Sum.inl:List Key).map toI=ks
 | []=>rfl
 | _::r=>by
   show _::_=_
   rw [Jc r]
   rfl
theorem Abr {h:Heap}:∀ts:List Tpt,(∀t∈ts,Aem h t/\t.2≠ [])->∃fs:List Value,KatTups h (ts.map fun t=>Value.ref t.1) fs/\fs.length=ts.length/\∀v∈fs,∃i u,v= .int i u
 | [],_=>⟨[],.nil,rfl,by simp⟩
 | t::r,k=>by
   obtain⟨fs,k1,k2,k3⟩:=Abr r fun t G=>k t (.tail _ G)
   obtain⟨⟨U,⟨o,e,c,n,d⟩,O⟩,W⟩:=k t (.head _)
   cases G:t.2 with
   | nil=>exact absurd G W
   | cons x xs=>
     rw [G]at O
     cases O with
     | cons _ u Z=>
       refine⟨.int x u::fs,KatTups.cons e c d (by simp) k1,by simp [k2],fun v J=> ?_⟩
       rcases aS.mp J with rfl | J
       . exact⟨x,u,rfl⟩
       . exact k3 v J
theorem Aof {P:Program}{w:World}{A:Around}{E:Value->Shared->Prop}{x y:Tpt}{Q:Bool->Shared->Prop} (Z:Aem s.heap x) (hy:Aem s.heap y) (O:x.2.length=y.2.length) (q:Q (HT.lexLt x.2 y.2) s):
 wpAny (model P w) A (keyLt' (tuples' true) (.ref x.1) (.ref y.1)) Q E s:=by
 obtain⟨J,⟨o,e,c,n,d⟩,U⟩:=Z
 obtain⟨G,⟨o',e',c',n',d'⟩,W⟩:=hy
 refine kat_lt e d e' d' ?_
 have l1:J.length=x.2.length:=U.length
 have l2:G.length=y.2.length:=W.length
 have ef:decide (J.toArray.size<G.toArray.size)=false:=by
  rw [aM,aM,l1,l2,O]
  simp
 rw [ef]
 exact Vw 0 U W O q
theorem Ah8:∀ {kvs:List (List Key × V)}{ys:List (List Key × Addr × Value)},Paired (fun(p:List Key × V) (q:List Key × Addr × Value)=>p.1=q.1/\H q.2.1=some (.tup (p.1.map kV))/\RelV p.2 q.2.2) kvs ys->(∀e∈kvs,∃ks:List Int,e.1=ks.map Sum.inl/\ks.length=n)->
 ∃ts:List Tpt,(ts.map fun t=>(t.2.map Sum.inl:List Key))=kvs.map (·.1)/\(ts.map fun t=>t.1)=ys.map (fun y=>y.2.1)/\∀t∈ts,H t.1=some (.tup (t.2.map V.int))/\t.2.length=n:=by
 intro kvs ys J
 induction J with
 | nil=>exact fun _=>⟨[],rfl,rfl,by simp⟩
 | @cons p q ps qs W _ Z=>
   intro G
   obtain⟨ts,e1,e2,e3⟩:=Z (fun e he=>G e (.tail _ he))
   obtain⟨ks,U,kl⟩:=G p (.head _)
   refine⟨(q.2.1,ks)::ts,by rw [bC,bC,e1,U],by rw [bC,bC,e2],fun t O=> ?_⟩
   rcases aS.mp O with rfl | O
   . refine⟨?_,kl⟩
     have:=W.2.1
     rw [U,aZ]at this
     exact this
   . exact e3 t O
variable {ns:List Int}
theorem Z8 {xs:Array (Int × Tok)} (G:ns=xs.toList.map (·.1)) (hsz:0<xs.size) {v:Value} (O:(intItems xs)[argBest (fun i j=>decide (numAt xs i>numAt xs j)) (xs.size-1)]? =some v):
 ∃(M:Int) (t:Tok),v= .int M t/\M∈ns/\∀a∈ns,a<=M:=by
 obtain⟨t,rfl⟩:=intItems_at O
 obtain⟨h1,h2⟩:=argBest_gt (numAt xs) (xs.size-1)
 refine⟨_,t,rfl,?_,fun a J=> ?_⟩
 . rw [G,numAt_eq];exact getD_mem (by rw [aC,bF];omega)
 . rw [G]at J
   obtain⟨j,U,rfl⟩:=mem_getD J
   rw [aC,bF]at U
   rw [<-numAt_eq];exact h2 j (by omega)
theorem Yl (U:X.calm=true):Er X (.builtin "max") (fun xs H Q=>∃(a:Addr) (ns:List Int),xs=[.ref a]/\(SqL X.K H a (ns.map V.int)\/SqT X.K H a (ns.map V.int))/\ns≠ []/\∀M,M∈ns->(∀x∈ns,x<=M)->Q (.int M) H):=by
 intro pins s σ H xs us Q I r h
 obtain⟨a,ns,rfl,W,ne,q⟩:=h
 obtain⟨u,rfl,ru⟩:=vals1 r
 cases ru
 have Z:∀ {G:List Value},Vals (ns.map V.int) G->∃xs:Array (Int × Tok),G.toArray=intItems xs/\ns=xs.toList.map (·.1)/\0<xs.size:=fun {G} rv=>by
  have hi:IntsAre G ns:=intsAre_of rv
  obtain⟨xs,e⟩:=hi.allInts.items
  have J:ns=xs.toList.map (·.1):=by rw [<-hi.numsOf,<-nums_intItems,<-e]
  refine⟨xs,e,J,?_⟩
  have h3:0<ns.length:=fQ.mpr ne
  rw [J,aC,bF]at h3
  exact h3
 rcases W with W | W
 . obtain⟨G,rv,p,_⟩:=I.list W
   obtain⟨xs,e,J,O⟩:=Z rv
   have hl:=p.isList
   rw [e]at hl
   refine max_intList (I.ok.hd U) hl O fun v h' tk hv hk=> ?_
   obtain⟨M,t,rfl,m1,m2⟩:=Z8 J O hv
   exact⟨.int M,H,I.kept hk,⟨t,rfl⟩,q M m1 m2⟩
 . obtain⟨G,rv,p,_⟩:=I.tuple W
   obtain⟨xs,e,J,O⟩:=Z rv
   have hT:s.heap.IsTuple a (intItems xs):=by rw [<-e];exact p
   have al:a<s.heap.objs.size:=p.lt
   refine call_max_walk (fK hT ?_)
   refine⟨_,[_,a],[_],_,_,_,_,rfl,Walks.tuple (A:=X.A.in1) (I.ok.hd U) _ a (aP al) (intItems xs),⟨⟨_,aK _ rfl,rfl,rfl⟩,hT.push _⟩,fun c U=> ?_,by simpa [intItems]using O,CmpOf.ints_gt (numAt xs) (fun _ _=>intItems_at),fun v h' tk hP hk=> ?_⟩
   . show c<(s.heap.push _).objs.size
     rw [dM]
     rcases aS.mp U with rfl | U
     . exact kI _
     . rcases aS.mp U with rfl | U
       . exact bU al
       . cases U
   . obtain⟨M,t,rfl,m1,m2⟩:=Z8 J O (v:=v) (by simpa [intItems]using hP)
     refine⟨.int M,H,I.kept fun c o e=>hk c o (fun hm=> ?_) (aB _ e),⟨t,rfl⟩,q M m1 m2⟩
     rcases aS.mp hm with e1 | hm
     . exact absurd (aJ e) (by rw [e1];exact cZ _)
     . cases hm
open PySem PySem.Spec PyProof.Rows PySem.W
section
variable {prog:Program}{w:World}{A:Around}{E:Value->Shared->Prop}{I:Addr}{fp wr:List Addr}{n:Nat}{P:Nat->Value->Prop}{St:Nat->Heap->Prop}{R:Result->Shared->Prop}{kw:List (Str × Value)}
theorem Acq (W:Walks prog w A.in1 I fp wr n P St) (bt:Nat->Nat->Bool) (a9:CmpOf prog w A.in1 .Gt P bt) (S:Addr) (aa:S∉fp):∀(k j:Nat) (s:Shared) (vb:Value) (c:Nat),k=n-(j+1)->j<n->St (j+1) s.heap->P (argBest bt j) vb->
 s.heap.get? S=some { cls:= .type "list",dict:=none,data:= .seq #[vb,vb] c,slots:= #[]}->
 (∀v h' tk,P (argBest bt (n-1)) v->(∀b o,b∉wr->b≠S->s.heap.get? b=some o->h'.get? b=some o)->R (.ok (.ret v)) { s with heap:=h',toks:=tk})->
 codeAny (model prog w) A (.builtin "max.loop" ⟨[.ref I,.none,.ref S],kw⟩) R s:=by
 have ac:S∉wr:=fun h=>aa (W.sub _ h)
 have U:(toString "max"++toString ".loop":String)="max.loop":=by decide
 intro k
 induction k with
 | zero=>
   intro j s vb c hk hj a5 a3 hS hR
   have ad:j+1=n:=by omega
   refine codeAny_builtin F.entry_max_loop ?_
   rw [Around.under_plainId gF _]
   show wpAny _ A.in1 (seqItems? (.ref S)>>=_) _ _ s
   refine aA (dQ hS rfl ?_)
   show wpAny _ A.in1 (tryCatch (pyNext (.ref I)) _>>=_) _ _ s
   refine aA (kE (W.done s _ _ (ad▸a5) fun h' tk J=> ?_))
   have Z:=J S _ ac hS
   show wpAny _ A.in1 (updateSeq S (fun _=> #[])>>=_) _ _ _
   refine aA ?_
   refine wpAny_updateSeq Z rfl (aA (gK (aD ?_)))
   refine hR vb _ tk (by rw [<-ad];exact a3) fun b o G O e=>(dO _ _ (cC O)).trans (J b o G e)
 | succ k ih=>
   intro j s vb c hk hj a5 a3 hS hR
   have a6:j+1<n:=by omega
   refine codeAny_builtin F.entry_max_loop ?_
   rw [Around.under_plainId gF _]
   show wpAny _ A.in1 (seqItems? (.ref S)>>=_) _ _ s
   refine aA (dQ hS rfl ?_)
   show wpAny _ A.in1 (tryCatch (pyNext (.ref I)) _>>=_) _ _ s
   refine aA (kE (W.item (j+1) s _ _ a6 a5 fun v h' tk hP a4 J=> ?_))
   have Z:=J S _ ac hS
   show wpAny _ A.in1 (tryCatch (holding [v,v] (richCompare .Gt v vb>>=_)) _>>=_) _ _ _
   refine aA (kE (dN (aA (a9 (j+1) (argBest bt j) v vb _ _ _ hP a3 ?_))))
   refine aA (dN (fS ?_))
   refine aA (gK (aD ?_))
   cases hb:bt (j+1) (argBest bt j)with
   | true=>
     simp only [fW]
     refine aA ?_
     refine wpAny_updateSeq Z rfl (aA (gK ?_))
     rw [U]
     refine aD ⟨plainId_quiet gF _,ih (j+1) _ v _ (by omega) a6 (W.frame _ _ _ a4 fun b ae o e=> ?_) (by simp only [argBest,hb,fW];exact hP) (eO _ Z rfl)
      fun v' a7 a1 a8 a2=> ?_⟩
     . exact(dO _ _ (fun h:S=b=>aa (by rw [h];exact ae))).trans e
     . exact hR v' a7 a1 a8 fun b o G O e=>a2 b o G O ((dO _ _ (cC O)).trans (J b o G e))
   | false=>
     simp only [fF,gD]
     refine aA (gK ?_)
     rw [U]
     refine aD ⟨plainId_quiet gF _,ih (j+1) _ vb c (by omega) a6 a4 (by simp only [argBest,hb,fF,gD];exact a3) Z fun v' a7 a1 a8 a2=> ?_⟩
     exact hR v' a7 a1 a8 fun b o G O e=>a2 b o G O (J b o G e)
theorem Zb (W:Walks prog w A.in1 I fp wr n P St) (bt:Nat->Nat->Bool) (Z:CmpOf prog w A.in1 .Gt P bt) (S:Addr) (O:S∉fp) {d:Value}{c:Nat} (a1:St 0 s.heap)
 (hS:s.heap.get? S=some { cls:= .type "list",dict:=none,data:= .seq #[] c,slots:= #[]})
 (h0:n=0->∀h' tk,(∀b o,b∉wr->b≠S->s.heap.get? b=some o->h'.get? b=some o)->R (.ok (.ret d)) { s with heap:=h',toks:=tk})
 (hR:0<n->∀v h' tk,P (argBest bt (n-1)) v->(∀b o,b∉wr->b≠S->s.heap.get? b=some o->h'.get? b=some o)->R (.ok (.ret v)) { s with heap:=h',toks:=tk}):
 codeAny (model prog w) A (.builtin "max.loop" ⟨[.ref I,.none,.ref S],[(Str.ofString "default",d)]⟩) R s:=by
 have a7:S∉wr:=fun h=>O (W.sub _ h)
 have U:(toString "max"++toString ".loop":String)="max.loop":=by decide
 refine codeAny_builtin F.entry_max_loop ?_
 rw [Around.under_plainId gF _]
 show wpAny _ A.in1 (seqItems? (.ref S)>>=_) _ _ s
 refine aA (dQ hS rfl ?_)
 show wpAny _ A.in1 (tryCatch (pyNext (.ref I)) _>>=_) _ _ s
 by_cases hn:0<n
 . refine aA (kE (W.item 0 s _ _ hn a1 fun v h' tk hP a2 G=> ?_))
   have a3:=G S _ a7 hS
   show wpAny _ A.in1 (updateSeq S (fun _=> #[v,v])>>=_) _ _ _
   refine aA ?_
   refine wpAny_updateSeq a3 rfl ?_
   rw [U]
   refine aD ⟨plainId_quiet gF _,Acq W bt Z S O _ 0 _ v _ rfl hn (W.frame _ _ _ a2 fun b a8 o e=> ?_) hP (eO _ a3 rfl) fun v' a9 a4 aa a5=> ?_⟩
   . exact(dO _ _ (fun h:S=b=>O (by rw [h];exact a8))).trans e
   . exact hR hn v' a9 a4 aa fun b o J a6 e=>a5 b o J a6 ((dO _ _ (cC a6)).trans (G b o J e))
 . have z:n=0:=by omega
   refine aA (kE (W.done s _ _ (z▸a1) fun h' tk G=> ?_))
   refine aA (jE (aD ?_))
   exact h0 z h' tk fun b o J _ e=>G b o J e
theorem Aco (a v:Value):argsOk "max" ⟨[a],[(Str.ofString "default",v)]⟩:=by unfold argsOk;kernel_rfl
theorem Acp {x d:Value}{s:Shared}{Q:Value->Shared->Prop}
 (h:wpAny (model prog w) A.in1 (pyIter x) (fun it G=>∃I fp wr n P St bt,it= .ref I/\Walks prog w A.in1 I fp wr n P St/\St 0 G.heap/\(∀b∈fp,b<G.heap.objs.size)/\CmpOf prog w A.in1 .Gt P bt/\
   (n=0->∀h' tk,(∀b o,b∉wr->G.heap.get? b=some o->h'.get? b=some o)->Q d { G with heap:=h',toks:=tk})/\
   (0<n->∀v h' tk,P (argBest bt (n-1)) v->(∀b o,b∉wr->G.heap.get? b=some o->h'.get? b=some o)->Q v { G with heap:=h',toks:=tk})) E s):
 wpAny (model prog w) A (call (.builtin "max") [x] [(Str.ofString "default",d)]) Q E s:=by
 have J:(toString "max"++toString ".loop":String)="max.loop":=by decide
 refine kmb_tree PySem.F.kind_max PySem.F.plain_max PySem.F.entry_max (Aco _ _) ?_
 show wpAny _ A.in1 (Builtin.Builtins.bindParams "max" ["key","default"] 0 ⟨[],[(Str.ofString "default",d)]⟩>>=_) _ _ s
 refine aA (wpAny_of_eq (show Builtin.Builtins.bindParams "max" ["key","default"] 0 ⟨[],[(Str.ofString "default",d)]⟩=pure [none,some d]from rfl) ?_)
 refine aA (aD ?_)
 refine aA (bP h (fun it G U=> ?_) fun _ _ e=>e)
 obtain⟨I,fp,wr,n,P,St,bt,rfl,W,a1,a2,Z,a3,hQ⟩:=U
 refine aA (bX ?_)
 have a4:G.heap.objs.size∉fp:=fun hm=>cZ _ (a2 _ hm)
 rw [J]
 refine aD ⟨plainId_quiet gF _,Zb W bt Z G.heap.objs.size a4 (W.frame _ _ _ a1 fun b _ o e=>aB _ e) (aK _ rfl) (fun z h' tk hk=> ?_) fun z v h' tk hP hk=> ?_⟩
 . exact a3 z h' tk fun b o O e=>hk b o O (aP (aJ e)) (aB _ e)
 . exact hQ z v h' tk hP fun b o O e=>hk b o O (aP (aJ e)) (aB _ e)
end
noncomputable def Ah2 (K:Frag) (t:TA) (td:TE):TE:=fun σ H Q=>t σ H fun vs H1=>td σ H1 fun d H2=>∃(a:Addr) (ns:List Int),vs=[.ref a]/\SqL K H2 a (ns.map V.int)/\(ns=[]->Q d H2)/\(ns≠ []->∀M,M∈ns->(∀x∈ns,x<=M)->Q (.int M) H2)
theorem Amk {K:Frag}{t:TA}{td:TE}:Ah2 K t td σ H Q=t σ H (fun G H1=>td σ H1 fun d H2=>∃(a:Addr) (ns:List Int),G=[.ref a]/\SqL K H2 a (ns.map V.int)/\(ns=[]->Q d H2)/\(ns≠ []->∀M,M∈ns->(∀x∈ns,x<=M)->Q (.int M) H2)):=rfl
theorem Aas {X:Cx}{e f:Expr}{t:TA}{td:TE}{p kp pos:Pos} (hc:X.calm=true) (hg:Gl X "max") (hm:X.mg "max"=none) (ha:PA X [e] t) (hd:PE X f td) (h1:Cr e=true:=by rfl):PE X (.Call (.Name "max" p) [e] [⟨some "default",f,kp⟩] pos) (Ah2 X.K t td):=by
 intro pins s σ H Q I h
 refine fL (Jm I hg hm boot_max ?_ (by decide) (by decide))
 have se:=Hh (env:=X.env) (e:=e) (es:=[]) h1
 refine callWith_kw (thn (ha pos pins s σ H _ I h) fun us s1 ⟨vs,H1,I1,r1,q1⟩=>kws_cons (thn (hd pins s1 σ H1 _ I1 q1) fun dv s2 ⟨d,H2,J,rd,q2⟩=>kws_nil ?_)) (by rw [se];rfl) (by rw [se];rfl)
 obtain⟨a,ns,rfl,hS,q0,qM⟩:=q2
 obtain⟨u,rfl,ru⟩:=vals1 r1
 cases ru
 obtain⟨O,rv,pl,_⟩:=J.list hS
 have hi:IntsAre O ns:=intsAre_of rv
 obtain⟨xs,ex⟩:=hi.allInts.items
 have G:ns=xs.toList.map (·.1):=by rw [<-hi.numsOf,<-nums_intItems,<-ex]
 have hl:=pl.isList
 rw [ex]at hl
 have U:ns.length=xs.size:=by rw [G,aC,bF]
 show wpAny (model X.prog X.w) X.A (call (.builtin "max") [.ref a] [(Str.ofString "default",dv)]) _ _ s2
 refine Acp (iter_intList hl fun a2 e st W Z=> ?_)
 subst e
 refine⟨_,_,_,_,_,_,_,rfl,Walks.list (A:=X.A.in1) (J.ok.hd hc) _ a Z (intItems xs),st,W,CmpOf.ints_gt (numAt xs) (fun _ _=>intItems_at),fun z h' tk hk=> ?_,fun z v h' tk hP hk=> ?_⟩
 . have z':ns=[]:=List.length_eq_zero_iff.mp (by rw [U];simpa [intItems]using z)
   exact⟨d,H2,J.kept (old_kept hk),rd,q0 z'⟩
 . have a1:0<xs.size:=by simpa [intItems]using z
   obtain⟨M,t,rfl,m1,m2⟩:=Z8 G a1 (v:=v) (by simpa [intItems]using hP)
   exact⟨.int M,H2,J.kept (old_kept hk),⟨t,rfl⟩,qM (fun e=>by rw [e]at U;simp at U;omega) M m1 m2⟩
set_option maxRecDepth 100000
section
variable {X:Cx}{e:Expr}{ta:TA}{p p2 pos pos2:Pos}
theorem Aam (G:X.A.units+1<cLine):OpR X (compareOp .NotIn) (fun x y H Q=>∃a o,y= .ref a/\N8 H a x o/\Q (.bl (!o.isSome)) H):=by
 intro pins s σ H x y v u Q I J O h
 obtain⟨a,o,rfl,g,q⟩:=h
 cases O
 exact Af9 G I g J fun s' U=>⟨.bl (!o.isSome),H,U,rfl,q⟩
end
end L2
namespace L2
open PySem PySem.Spec PyProof.Rows
theorem T5:∀(names:List (Str × NameKind)) (n:Nat) (G:List (Str × Addr)) (y:Str) (c:Addr),(cellsFrom n names G).lookup y=some c->G.lookup y=some c\/(n<=c/\(y,NameKind.cell)∈names)
 | [],_,_,_,_,h=> .inl h
 | (x,k)::r,n,G,y,c,h=>by
   unfold cellsFrom at h
   by_cases J:(k==NameKind.cell)=true
   . rw [aI J]at h
     have O:k= .cell:=by simpa using J
     subst O
     rcases T5 r (n+1) _ y c h with z | ⟨z,m⟩
     . rw [dD]at z
       cases e:y==x with
       | true=>
         rw [e]at z
         have U:y=x:=by simpa using e
         subst U
         exact .inr ⟨fZ (aY z),cY⟩
       | false=>
         rw [e]at z
         exact .inl z
     . exact .inr ⟨by omega,cI _ m⟩
   . rw [aF J]at h
     rcases T5 r n G y c h with z | ⟨z,m⟩
     . exact .inl z
     . exact .inr ⟨z,cI _ m⟩
theorem Yq:∀(names:List (Str × NameKind)) (n:Nat) (G:List (Str × Addr)) (y:Str),¬(y,NameKind.cell)∈names->(cellsFrom n names G).lookup y=G.lookup y
 | [],_,_,_,_=>rfl
 | (x,k)::r,n,G,y,h=>by
   have O:¬(y,NameKind.cell)∈r:=fun z=>h (cI _ z)
   unfold cellsFrom
   by_cases J:(k==NameKind.cell)=true
   . have U:k= .cell:=by simpa using J
     subst U
     rw [aI J,Yq r _ _ y O,dD]
     cases e:y==x with
     | true=>
       have W:y=x:=by simpa using e
       subst W
       exact absurd cY h
     | false=>rfl
   . rw [aF J,Yq r _ _ y O]
theorem Yn:∀(names:List (Str × NameKind)) (n:Nat) (G:List (Str × Addr)) (y:Str),((y,NameKind.cell)∈names\/∃c,G.lookup y=some c)->∃c,(cellsFrom n names G).lookup y=some c
 | [],_,_,_,h=>by
   rcases h with h | h
   . cases h
   . exact h
 | (x,k)::r,n,G,y,h=>by
   unfold cellsFrom
   by_cases J:(k==NameKind.cell)=true
   . rw [aI J]
     refine Yn r _ _ y ?_
     rw [dD]
     cases e:y==x with
     | true=>exact .inr ⟨n,rfl⟩
     | false=>
       rcases h with h | h
       . rcases aS.mp h with z | z
         . cases z
           simp at e
         . exact .inl z
       . exact .inr h
   . rw [aF J]
     refine Yn r _ _ y ?_
     rcases h with h | h
     . rcases aS.mp h with z | z
       . cases z
         exact absurd rfl J
       . exact .inl z
     . exact .inr h
theorem Yp:∀(names:List (Str × NameKind)) (n lo:Nat) (G:List (Str × Addr)) (y:Str) (c:Addr),lo<=n->((y,NameKind.cell)∈names\/∀d,G.lookup y=some d->lo<=d)->(cellsFrom n names G).lookup y=some c->lo<=c
 | [],_,_,_,_,_,_,h,e=>by
   rcases h with h | h
   . cases h
   . exact h _ e
 | (x,k)::r,n,lo,G,y,c,hl,h,e=>by
   unfold cellsFrom at e
   by_cases O:(k==NameKind.cell)=true
   . rw [aI O]at e
     refine Yp r (n+1) lo _ y c (by omega) ?_ e
     cases ex:y==x with
     | true=>
       refine .inr fun d J=> ?_
       rw [dD,ex]at J
       have:n=d:=aY J
       omega
     | false=>
       rcases h with h | h
       . rcases aS.mp h with z | z
         . cases z
           simp at ex
         . exact .inl z
       . refine .inr fun d J=>h d ?_
         rw [dD,ex]at J
         exact J
   . rw [aF O]at e
     refine Yp r n lo G y c hl ?_ e
     rcases h with h | h
     . rcases aS.mp h with z | z
       . cases z
         exact absurd rfl O
       . exact .inl z
     . exact .inr h
theorem Yo:∀(names:List (Str × NameKind)) (n:Nat) (G:List (Str × Addr)),(∀x y c,G.lookup x=some c->G.lookup y=some c->x=y)->(∀x c,G.lookup x=some c->c<n)->
 ∀x y c,(cellsFrom n names G).lookup x=some c->(cellsFrom n names G).lookup y=some c->x=y
 | [],_,_,h,_=>h
 | (z,k)::r,n,G,h,hb=>by
   unfold cellsFrom
   by_cases Z:(k==NameKind.cell)=true
   . rw [aI Z]
     have U:∀x c,((z,n)::G).lookup x=some c->(x=z/\c=n)\/(G.lookup x=some c):=fun x c e=>by
      rw [dD]at e
      cases ex:x==z with
      | true=>
        rw [ex]at e
        exact .inl ⟨by simpa using ex,(aY e).symm⟩
      | false=>
        rw [ex]at e
        exact .inr e
     refine Yo r (n+1) _ (fun x y c e1 e2=> ?_) fun x c e=> ?_
     . rcases U x c e1 with⟨J,W⟩ | J
       . rcases U y c e2 with⟨O,_⟩ | O
         . rw [J,O]
         . exact absurd (hb y c O) (by rw [W];exact cZ _)
       . rcases U y c e2 with⟨_,b2⟩ | O
         . exact absurd (hb x c J) (by rw [b2];exact cZ _)
         . exact h x y c J O
     . rcases U x c e with⟨_,W⟩ | J
       . rw [W]
         exact kI _
       . exact bU (hb x c J)
   . rw [aF Z]
     exact Yo r n G h hb
theorem T4:∀(names:List (Str × NameKind)) (h:Heap) (G:List (Str × Addr)) (y:Str) (c:Addr),(cellsFrom h.objs.size names G).lookup y=some c->G.lookup y=some c\/(pushCells h names).IsCell c none
 | [],_,_,_,_,e=> .inl e
 | (x,k)::r,h,G,y,c,e=>by
   unfold cellsFrom at e
   unfold pushCells
   by_cases J:(k==NameKind.cell)=true
   . rw [aI J]at e ⊢
     rw [<-dM h { cls:= .type "cell",data:= .cell none}]at e
     rcases T4 r _ _ y c e with z | z
     . rw [dD]at z
       cases ex:y==x with
       | true=>
         rw [ex]at z
         have:h.objs.size=c:=aY z
         subst this
         exact .inr ⟨_,pushCells_keeps r _ _ _ (aK _ rfl),rfl⟩
       | false=>
         rw [ex]at z
         exact .inl z
     . exact .inr z
   . rw [aF J]at e ⊢
     exact T4 r h G y c e
theorem Ai3 {M:Model}{A:Around}{E:Value->Shared->Prop}{s:Shared}{scope:Scope}{g:Addr}{G:List (Str × Addr)}{qual:Str}{env:Env}{Q:Env->Shared->Prop}
 (q:Q { scope:=scope,locals:=s.heap.objs.size,globals:=g,cells:=cellsFrom (s.heap.objs.size+1) scope.names G,qual:=qual,func:=none,code:=env.code,frame:=env.frame,builtins:=env.builtins} { s with heap:=pushCells (s.heap.push { cls:= .type "dict",data:= .dict #[]}) scope.names}):
 wpAny M A (newFunctionEnv scope g G [] qual none .none (some env)) Q E s:=by
 simp only [newFunctionEnv,jN,fW]
 refine aA (wpAny_alloc (aA (wpAny_layCells _ (fun x k J=>by cases h:k==NameKind.cell<;>simp [h]) _ _ _ _ ?_)))
 have z:({ s with heap:=s.heap.push { cls:= .type "dict",data:= .dict #[]}}:Shared).heap.objs.size=s.heap.objs.size+1:=dM ..
 rw [z]
 refine aA ?_
 rw [jO]
 exact aD (aD q)
noncomputable def cxD (X:Cx) (N:List Str) (scope:Scope) (ex:List Addr) (s:Shared) (H:Hp):Cx where
 prog:=X.prog
 w:=X.w
 K:=X.K
 mg:=X.mg
 base:=X.base
 A:=X.A
 N:=N
 s₀:=s
 H₀:=H
 env:=compEnvC scope (cellsFrom (s.heap.objs.size+1) scope.names (scope.names.foldl (clF X.env) [])) s.heap.objs.size X.env
 outer:=X.stack
 stack:=X.stack
 ex:=ex
 fn:=fun x=>scope.names.contains (x,NameKind.cell)
 calm:=X.calm
 pn:=[]
 xe:=fun _ _=>False
structure Dg (X:Cx) (ts:List Str) (fs:List (Nat × Str)) (scope:Scope):Prop where
 kind:scope.kind= .function
 names:∀y∈scope.names,y.2= .local ->scope.names.lookup y.1=some .local
 free:∀y∈scope.names,y.2= .free->X.env.kindOf y.1=some .cell\/X.env.kindOf y.1=some .free
 at':∀p∈fs,X.N[p.1]? =some p.2/\(p.2,NameKind.free)∈scope.names/\((relabel scope X.env).names.lookup p.2=some .cell\/(relabel scope X.env).names.lookup p.2=some .free)/\¬(p.2,NameKind.cell)∈scope.names
noncomputable def Apj (sc:Scope) (N:List Str) (fs:List (Nat × Str)) (scope:Scope):Bool:=
 (scope.kind== .function)&&(scope.names.all fun y=>y.2 != .local ||scope.names.lookup y.1==some .local)&&
 (scope.names.all fun y=>y.2 != .free||(sc.names.lookup y.1==some .cell||sc.names.lookup y.1==some .free))&&
 fs.all fun p=>N[p.1]? ==some p.2&&(scope.names.contains (p.2,NameKind.free)&&(((rlb sc scope).lookup p.2==some .cell||(rlb sc scope).lookup p.2==some .free)&& !scope.names.contains (p.2,NameKind.cell)))
variable {X:Cx}{scope:Scope}{N:List Str}
theorem Dg.of {ts:List Str}{fs:List (Nat × Str)}{sc:Scope} (J:X.env.scope=sc) (O:X.N=N) (h:Apj sc N fs scope=true):Dg X ts fs scope:=by
 unfold Apj at h
 simp only [cD,gU,Bool.or_eq_true,bne_iff_ne,kO,iS,not_eq_true']at h
 obtain⟨⟨⟨h1,U⟩,W⟩,Z⟩:=h
 refine⟨h1,fun y G e=> ?_,fun y G e=> ?_,fun p hp=> ?_⟩
 . rcases U y G with z | z
   . exact absurd e z
   . exact z
 . rcases W y G with z | z
   . exact absurd e z
   . show X.env.scope.names.lookup y.1=_\/X.env.scope.names.lookup y.1=_
     rw [J]
     exact z
 . obtain⟨a,b,c,d⟩:=Z p hp
   refine⟨by rw [O];exact a,b,?_,fun z=> ?_⟩
   . subst J
     exact c
   . rw [<-iS]at z
     rw [z]at d
     cases d
variable {c:Addr}{n:Nat}{pins:List (Addr × Obj)}{σ:St}{H:Hp}{s:Shared}
section
variable {X:Cx}{elt tg iter:Expr}{ifs:List Expr}{scope:Scope}{pos:Pos}{wi:TI}{g:TG}{tt:TT}{te:TE}{ts:List Str}{fs:List (Nat × Str)}
theorem Dg.clos (S:Dg X ts fs scope) (ok:X.Ok):∀x∈scope.names,x.2= .free->∃c,X.env.cells.lookup x.1=some c:=fun x G J=>ok.has x.1 (S.free x G J)
theorem Dg.sub0 (S:Dg X ts fs scope) (ok:X.Ok) {y:Str} (h:(scope.names.foldl (clF X.env) []).lookup y=some c):X.env.cells.lookup y=some c:=by
 rcases Pa scope.names [] y c (S.clos ok) h with z | z
 . simp at z
 . exact z
theorem Dg.sub (S:Dg X ts fs scope) (ok:X.Ok) {y:Str} (h:(cellsFrom n scope.names (scope.names.foldl (clF X.env) [])).lookup y=some c):X.env.cells.lookup y=some c\/n<=c:=by
 rcases T5 _ _ _ _ _ h with z | ⟨z,_⟩
 . exact .inl (S.sub0 ok z)
 . exact .inr z
theorem W5 {O s4:Shared}{ex:List Addr} (S:Dg X ts fs scope) (I:Inv X pins σ H O)
 (J:∀b∈ex,O2 X pins H b/\∃o,O.heap.get? b=some o) (a6:s4.os=O.os) (hg:s4.gens=O.gens) (hk:∀b u,O.heap.get? b=some u->s4.heap.get? b=some u)
 (hn:s4.heap.Ns O.heap.objs.size fun _=>none) (a7:∀y c,(cellsFrom (O.heap.objs.size+1) scope.names (scope.names.foldl (clF X.env) [])).lookup y=some c->(scope.names.foldl (clF X.env) []).lookup y=some c\/s4.heap.IsCell c none):Inv (cxD X (cpN ts fs) scope ex O H) [] (cpσ ts.length fs σ) H s4:=by
 have ok:=I.ok
 have cl:∀y c,X.env.cells.lookup y=some c->c<O.heap.objs.size:=fun y c e=>(I.cell y c e).choose_spec.lt
 have a8:∀b∈ex,b≠O.heap.objs.size:=fun b U=>by
  obtain⟨_,o,ho⟩:=J b U
  exact aP (aJ ho)
 refine⟨⟨ok.mod,S.kind,ok.glob,ok.blt,aL _,Yo _ _ _ (fun y z c h1 h2=>ok.inj y z c (S.sub0 ok h1) (S.sub0 ok h2)) (fun y c h=>bU (cl y c (S.sub0 ok h))),fun y Z=> ?_,fun y c h e=>Nat.le_of_succ_le (Yp _ _ _ _ y c (aL _) (.inl (iS.mp h)) e),ok.hd,ok.frames,.inl rfl,fun b U=>⟨a8 b U,fun x c e=>(S.sub ok e).elim ((J b U).1.2.2.2.2.1 x c) fun z z2=> ?_⟩,
  I.bs,aO ok.bsz I.sz,fun b o e U=> ?_,fun b U=> ?_,I.stack,I.stkFree⟩,a6,by rw [hg];exact I.bare,Un.kept hk,⟨_,hn,fun i x v h1 h2 h3=> ?_⟩,fun y c e=> ?_,I.hok.fresh (aL _),fun y c e=>(S.sub ok e).elim (I.freeC y c) fun z=>I.hok.fresh (Nat.le_of_succ_le z),
  fun p hp=>absurd (show p∈([]:List (Addr × Obj))from hp) (by simp),I.hok.kept hk,?_⟩
 . have z:∃k',(k'=NameKind.cell\/k'= .free)/\(scope.names.map fun(n,k)=>if(k==NameKind.free&&X.env.scope.kind== .function&&X.env.kindOf n==some .cell)then(n,NameKind.cell)else(n,k)).lookup y=some k':=by
    rcases Z with Z | Z
    . exact⟨_,.inl rfl,Z⟩
    . exact⟨_,.inr rfl,Z⟩
   obtain⟨k',a9,hl⟩:=z
   obtain⟨k,hm,h2⟩:=Hx hl
   refine Yn _ _ _ y ?_
   rcases h2 with e | ⟨e,_⟩
   . subst e
     rcases a9 with e | e
     . subst e
       exact .inl hm
     . exact .inr (O9 scope.names [] y (.inl ⟨_,hm,e,rfl⟩))
   . exact .inr (O9 scope.names [] y (.inl ⟨_,hm,e,rfl⟩))
 . subst z2
   obtain⟨_,o,ho⟩:=J c U
   have:=aJ ho
   exact cZ _ (bB (bU this) z)
 . rcases(J b U).1.2.2.2.1 with z | z
   . exact ok.noex b o e z
   . exact absurd (bB (aJ e) (aO ok.bsz z)) (cZ _)
 . intro aa
   rcases aS.mp (I.stkSub b aa)with e | e
   . exact(J b U).1.2.1 e
   . exact(J b U).1.2.2.1 e
 . unfold cpσ at h2
   by_cases hi:i<ts.length
   . rw [jS (by simpa using hi),List.getElem?_replicate]at h2
     split at h2<;>cases h2
   . rw [fE (by simpa using hi),List.length_replicate]at h2
     have G:(cpN ts fs)[i]? =some x:=h1
     unfold cpN at G
     rw [fE (by omega)]at G
     rw [aN]at G h2
     cases e:fs[i-ts.length]? with
     | none=>rw [e]at G;cases G
     | some p=>
       rw [e]at G h2
       have ex':p.2=x:=aY G
       have e2:(σ[p.1]?).join=some v:=aY h2
       have e3:σ[p.1]? =some (some v):=by
        cases q:σ[p.1]? with
        | none=>rw [q]at e2;cases e2
        | some o=>rw [q]at e2;cases o with | none=>cases e2 | some v'=>cases e2;rfl
       obtain⟨a1,a2,a3,a4⟩:=S.at' p (dR e)
       obtain⟨m,_,hl⟩:=I.loc
       have kd:=S.free _ a2 rfl
       have ac:Vis X.env.scope p.2:=by
        rcases kd with z | z
        . exact .inr (.inl z)
        . exact .inr (.inr z)
       obtain⟨u,r,l⟩:=hl p.1 p.2 v a1 e3 ac
       refine⟨u,r,?_⟩
       rcases l with⟨z,_⟩ | ⟨_,c,hc,W⟩
       . rcases kd with q | q
         . rw [q]at z;cases z
         . rw [q]at z;cases z
       . obtain⟨c',a5⟩:=O9 (env:=X.env) scope.names [] p.2 (.inl ⟨_,a2,rfl,rfl⟩)
         have ec:c'=c:=aY ((S.sub0 ok a5).symm.trans hc)
         subst ec
         subst ex'
         refine .inr ⟨?_,c',(Yq _ _ _ _ a4).trans a5,?_⟩
         . exact a3
         . obtain⟨o,ho,hd⟩:=W
           exact⟨o,hk _ _ ho,hd⟩
 . rcases a7 y c e with z | z
   . obtain⟨v,o,ho,hd⟩:=I.cell y c (S.sub0 ok z)
     exact⟨v,o,hk _ _ ho,hd⟩
   . exact⟨none,z⟩
 . unfold cpσ
   show _=(cpN ts fs).length
   unfold cpN
   simp
theorem Vk {a1:St}{H':Hp}{G W:Shared}{h':Heap}{ex:List Addr} (S:Dg X ts fs scope) (I:Inv X pins σ H G) (U:∀b∈ex,O2 X pins H b)
 (J:Inv (cxD X (cpN ts fs) scope ex G H) [] a1 H' W) (sb:Heap.SameBut G.heap.objs.size W.heap h'):Inv X pins σ H' { W with heap:=h'}:=by
 have nC:H' G.heap.objs.size=none:=J.free
 have old:∀b o,b≠G.heap.objs.size->W.heap.get? b=some o->h'.get? b=some o:=fun b o O e=>sb.extBut b o O e
 have lt:∀b o,G.heap.get? b=some o->b≠G.heap.objs.size:=fun b o e=>aP (aJ e)
 have u:Un (frs X.stack) ex H H' G.heap W.heap:=J.base
 have u2:Un (frs X.stack) ex H H' G.heap h':=
  ⟨fun b o e n O Z=>old b o (lt b o e) (u.keep b o e n O Z),fun b o e n O Z=>by
   obtain⟨sl,q⟩:=u.slot b o e n O Z
   exact⟨sl,old b _ (lt b o e) q⟩,u.free,fun b o e Z=>by
   obtain⟨o',q⟩:=u.there b o e Z
   exact⟨o',old b o' (lt b o e) q⟩,u.tups,u.frzs,u.tbls⟩
 have a2:HOk X.prog X.w H' h':=fun b o e=>by
  have nb:b≠G.heap.objs.size:=fun z=>by rw [z,nC]at e;cases e
  refine(J.hok b o e).stay (fun c v hc q=>old c v ?_ q) (fun _ q=>q) fun _ _ q=>q
  rcases hc with z | z
  . rw [z];exact nb
  . intro z2;rw [z2,nC]at z;cases z
 exact I.call' (s':={ W with heap:=h'}) (ch:=ex) J.os u2 a2 J.bare fun b O=>⟨(U b O).2.2.2.1,(U b O).2.1,(U b O).2.2.2.2.1,(U b O).2.2.2.2.2⟩
theorem Acj {pins:List (Addr × Obj)}{σ:St}{O:Hp}{U s4:Shared}{Q:VK}{R:Result->Shared->Prop}{fp:List Addr}{it p:Addr}{tn:Nat->Heap->Prop}{J:It}{W:Nat->Nat->List V->Hp->Prop}{m0:Nat} (hc:X.calm=true) (S:Dg X ts fs scope)
 (hg:∀ex s H,PG (cxD X (cpN ts fs) scope ex s H) tg g) (ht:∀ex s H,PTs (cxD X (cpN ts fs) scope ex s H) ifs tt) (he:∀ex s H,PE (cxD X (cpN ts fs) scope ex s H) elt te)
 (I3:Inv X pins σ O U) (T:Turn X.prog X.w X.K tg J fp it tn) (a3:∀b∈fp,O2 X pins O b) (lt:∀b∈fp,b<U.heap.objs.size)
 (I4:Inv (cxD X (cpN ts fs) scope fp U O) [] (cpσ ts.length fs σ) O s4) (ae:tn 0 s4.heap) (w0:W 0 m0 [] O)
 (af:∀H5 s6,Inv (cxD X (cpN ts fs) scope fp U O) [] (cpσ ts.length fs σ) H5 s6->Q (.ref p) H5->R (.ok .next) s6)
 (a7:∀i m G H2,W i m G H2->(J.stop i H2/\Q (.ref p) H2)\/(J.go i H2/\∀x O,J.yld i H2 x O->g x (cpσ ts.length fs σ) O fun a5 H4=>Kp (cpσ ts.length fs σ) a5/\tt a5 H4 fun b H5=>
   if b=true then te a5 H5 fun y H6=>H6 p=some (.lst G)/\G.length<sizeLine/\∃m',m'<m/\W (i+1) m' (G++ [y]) (upd H6 p (.lst (G++ [y])))else ∃m',m'<m/\W (i+1) m' G H5)):
 codeAny (model X.prog X.w) X.A (.compLoop (.ListComp elt [⟨tg,iter,ifs,0⟩] scope pos) 0 (.ref it) (.ref p) (cxD X (cpN ts fs) scope fp U O).env) R s4:=by
 have a1:∀ {H':Hp},(∀b∈fp,H' b=none)->∀b∈fp,O2 (cxD X (cpN ts fs) scope fp U O) [] H' b:=fun hn b Z=>
  ⟨hn b Z,aP (lt b Z),fun z=>(aS.mp (I3.stkSub b z)).elim (a3 b Z).2.1 (a3 b Z).2.2.1,.inl Z,fun x c e=>(S.sub I3.ok e).elim ((a3 b Z).2.2.2.2.1 x c) (fun z z2=>cZ _ (bB (bU (lt b Z)) (by rw [<-z2];exact z))),fun q hq=>absurd (show q∈([]:List (Addr × Obj))from hq) (by simp)⟩
 refine Rr (fun n s'=>∃i G H',Inv (cxD X (cpN ts fs) scope fp U O) [] (cpσ ts.length fs σ) H' s'/\tn i s'.heap/\(∀b∈fp,H' b=none)/\W i n G H') ?_ m0 ⟨0,[],O,I4,ae,fun b Z=>(a3 b Z).1,w0⟩
 rintro n s5 ⟨i,G,H5,I5,a8,a9,w5⟩
 rcases a7 i n G H5 w5 with⟨aa,q⟩ | ⟨go,step⟩
 . refine thn (T.done (cxD X (cpN ts fs) scope fp U O) rfl rfl rfl hc i [] s5 _ H5 _ I5 (a1 a9) a8 aa) fun r s6 ⟨hr,I6⟩=> ?_
   subst hr
   exact af H5 s6 I6 q
 . refine thn (T.item (cxD X (cpN ts fs) scope fp U O) rfl rfl rfl hc i [] s5 _ H5 _ I5 (a1 a9) a8 go) fun r s6 ⟨u,hr,h6⟩=> ?_
   subst hr
   refine thn h6 fun _ s7 ⟨x,H7,I7,r7,y7,a6,ag⟩=> ?_
   have ah:=I7.pinned (a1 ag) (T.obj _ _ a6)
   refine thn (hg fp U O _ s7 _ H7 x u _ ah r7 (step x H7 y7)) fun _ s8 ⟨a4,H8,I8,kp,q8⟩=> ?_
   have again:∀ {H9:Hp}{s9:Shared}{a2:List V}{m':Nat},Inv (cxD X (cpN ts fs) scope fp U O) ([]++Sd fp s7.heap) a4 H9 s9->m'<n->W (i+1) m' a2 H9->
    ∃m,m<n/\∃i G H',Inv (cxD X (cpN ts fs) scope fp U O) [] (cpσ ts.length fs σ) H' s9/\tn i s9.heap/\(∀b∈fp,H' b=none)/\W i m G H':=fun {H9 s9 a2 m'} I9 hm w9=>by
    refine⟨m',hm,i+1,a2,H9,(I9.fade kp).unpinned,T.keep _ _ _ a6 fun b Z o e=>(I9.pin (b,o) (bD _ (bD _ (Gq Z e)))).1,fun b Z=> ?_,w9⟩
    obtain⟨o,e,d⟩:=T.obj _ _ a6 b Z
    exact(I9.pin (b,o) (bD _ (bD _ (Gq Z e)))).2.1
   refine thn (ht fp U O _ s8 a4 H8 _ I8 q8) fun ok s9 ⟨H9,I9,q9⟩=> ?_
   cases ok with
   | false=>
     rw [aF aV]at q9 ⊢
     obtain⟨m',hm,w9⟩:=q9
     exact again I9 hm w9
   | true=>
     rw [aI rfl]at q9 ⊢
     refine thn (he fp U O _ s9 a4 H9 _ I9 q9) fun y ai ⟨yv,aj,ak,al,ac,ad,m',hm,am⟩=> ?_
     exact thn (Fv _ ai a4 aj (.ref p) [yv] (.ref p) [y] _ ak rfl (.cons al .nil) ⟨p,G,yv,rfl,rfl,ac,ad,am⟩) fun _ ap ⟨_,aq,an,_,ao⟩=>again an hm ao
set_option maxHeartbeats 2000000 in
theorem Oh {pos':Pos}{pins:List (Addr × Obj)}{σ:St}{Q:VK}{QQ:Value->Shared->Prop}{use:Option (Value->Sem Unit)} (hc:X.calm=true) (S:Dg X ts fs scope) (hi:PI X tg iter wi) (hg:∀ex s H,PG (cxD X (cpN ts fs) scope ex s H) tg g) (ht:∀ex s H,PTs (cxD X (cpN ts fs) scope ex s H) ifs tt)
 (he:∀ex s H,PE (cxD X (cpN ts fs) scope ex s H) elt te) (hs:∀x,foldedSetIterable iter X.env x=pure x) (I:Inv X pins σ H s) (h:X7 ts.length fs wi g tt te σ H Q)
 (a5:∀(H3:Hp) (s3:Shared) (fp:List Addr) (p:Addr) (H5:Hp) (s6:Shared),Inv X pins σ H3 s3->(∀b∈fp,O2 X pins H3 b)->Inv (cxD X (cpN ts fs) scope fp s3 H3) [] (cpσ ts.length fs σ) H5 s6->Q (.ref p) H5->compPost (model X.prog X.w) X.A X.xe use QQ (.ref p) s3.heap.objs.size (.ok .next) s6):
 wpAny (model X.prog X.w) X.A (comprehension (.ListComp elt [⟨tg,iter,ifs,0⟩] scope pos) scope X.env pos' (newList []) false (eval iter X.env) use) QQ X.xe s:=by
 refine wpAny_comprehension_free (use:=use) rfl hs (W4 (S.clos I.ok)) S.kind S.names (thn (hi pins s σ H _ I h) fun v s1 h1=>thn h1 fun a6 G h2=> ?_)
 obtain⟨it,fp,tn,J,H2,rfl,I2,T,Z,f2,hw⟩:=h2
 refine bX (Ai3 ?_)
 dsimp only
 have I3:=I2.lnew (its:=[]) (ys:=[]) (t':=G.toks) .nil (cH _)
 have hD:H2 G.heap.objs.size=none:=I2.fresh
 obtain⟨W,⟨m0,w0⟩,a1⟩:=hw _ hD
 have up:∀b o,G.heap.get? b=some o->(G.heap.push { cls:= .type "list",data:= .seq ([]:List Value).toArray}).get? b=some o:=fun b o e=>aB _ e
 have O:∀b∈fp,O2 X pins (upd H2 G.heap.objs.size (.lst [])) b/\∃o,(G.heap.push { cls:= .type "list",data:= .seq ([]:List Value).toArray}).get? b=some o:=fun b U=>by
  obtain⟨o,ho,_⟩:=T.obj _ _ Z b U
  have nb:b≠G.heap.objs.size:=aP (aJ ho)
  exact⟨⟨by rw [Ax nb];exact(f2 b U).1,(f2 b U).2⟩,o,up b o ho⟩
 have a2:∀b u,(G.heap.push { cls:= .type "list",data:= .seq ([]:List Value).toArray}).get? b=some u->(pushCells ((G.heap.push { cls:= .type "list",data:= .seq ([]:List Value).toArray}).push { cls:= .type "dict",data:= .dict #[]}) scope.names).get? b=some u:=fun b u e=>
  pushCells_keeps _ _ _ _ (aB _ e)
 have I4:=W5 (s4:={ G with heap:=pushCells ((G.heap.push { cls:= .type "list",data:= .seq ([]:List Value).toArray}).push { cls:= .type "dict",data:= .dict #[]}) scope.names,toks:=G.toks}) S I3 O rfl rfl a2 ((Heap.Ns.new _ (.type "dict")).keeps (pushCells_keeps _ _)) (fun y c e=>by
  have z:=T4 scope.names ((G.heap.push { cls:= .type "list",data:= .seq ([]:List Value).toArray}).push { cls:= .type "dict",data:= .dict #[]}) (scope.names.foldl (clF X.env) []) y c
  rw [dM]at z
  exact z e)
 have a3:tn 0 (pushCells ((G.heap.push { cls:= .type "list",data:= .seq ([]:List Value).toArray}).push { cls:= .type "dict",data:= .dict #[]}) scope.names):=T.keep _ _ _ Z fun b _ o e=>a2 b o (up b o e)
 have a4:=Acj (elt:=elt) (iter:=iter) (pos:=pos) hc S hg ht he I3 T (fun b U=>(O b U).1) (fun b U=>aJ (O b U).2.choose_spec) I4 a3 w0 (fun H5 s6 I6 q=>a5 _ _ fp _ H5 s6 I3 (fun b U=>(O b U).1) I6 q) a1
 exact codeAny_compStart_list a4 (T.self X.A 0 _ _ _ a3 a4)
theorem V6 (O:X.calm=true) (S:Dg X ts fs scope) (hi:PI X tg iter wi) (U:∀ex s H,PG (cxD X (cpN ts fs) scope ex s H) tg g) (W:∀ex s H,PTs (cxD X (cpN ts fs) scope ex s H) ifs tt)
 (Z:∀ex s H,PE (cxD X (cpN ts fs) scope ex s H) elt te) (hs:∀x,foldedSetIterable iter X.env x=pure x:=by intro _;rfl):
 PE X (.ListComp elt [⟨tg,iter,ifs,0⟩] scope pos) (X7 ts.length fs wi g tt te):=by
 intro pins s σ H Q I h
 rw [eval_ListComp]
 refine Oh (use:=none) O S hi U W Z hs I h fun H3 s3 fp p H5 s6 I3 G J q=> ?_
 obtain⟨m,hn,_⟩:=J.loc
 exact⟨m,hn,fun h' sb=>⟨.ref p,H5,Vk S I3 G J sb,rfl,q⟩⟩
theorem Ql {g':TG}{y:Str}{U G:Pos} (hc:X.calm=true) (S:Dg X ts fs scope) (hi:PI X tg iter wi) (hg:∀ex s H,PG (cxD X (cpN ts fs) scope ex s H) tg g) (ht:∀ex s H,PTs (cxD X (cpN ts fs) scope ex s H) ifs tt)
 (he:∀ex s H,PE (cxD X (cpN ts fs) scope ex s H) elt te) (hn:PG X (.Name y U) g') (a1:swapsWith (.ListComp elt [⟨tg,iter,ifs,0⟩] scope pos) (some (.Name y U)) G.line X.env=pure true:=by rfl) (hs:∀x,foldedSetIterable iter X.env x=pure x:=by intro _;rfl):
 PS X (.Assign [.Name y U] (.ListComp elt [⟨tg,iter,ifs,0⟩] scope pos) G) (Ad8 (X7 ts.length fs wi g tt te) g'):=by
 intro pins s σ H D I h
 rw [exec_Assign_Name_used _ _ _ _ a1]
 refine aA (jJ (aA ?_))
 show wpAny _ X.A (do let _<-comprehension (.ListComp elt [⟨tg,iter,ifs,0⟩] scope pos) scope X.env _ (newList []) false (eval iter X.env) (some (assign (.Name y U) X.env))) _ _ s
 refine aA (bP (Oh (use:=some (assign (.Name y U) X.env)) (QQ:=fun _ s'=>SP X pins D .next s') hc S hi hg ht he hs I h fun H3 O fp p H5 s6 I3 a2 I6 q=> ?_) (fun _ s' hq=>aD (aD hq)) fun _ _ e=>e)
 have J:Inv X pins σ H5 s6:=Vk S I3 a2 I6 (Heap.SameBut.refl _ _)
 obtain⟨m,⟨o,es,ep,ho,hd,a3,hf⟩,_⟩:=I6.loc
 have W:s6.heap.get? O.heap.objs.size=some o:=ho
 have Z:O2 X pins H5 O.heap.objs.size:=I3.fpOk (aL _) I6.free
 have J':=J.pinned (fp:=[O.heap.objs.size]) (fun b hb=>by
  have e:b=O.heap.objs.size:=by simpa using hb
  subst e
  exact Z) (fun b hb=>by
  have e:b=O.heap.objs.size:=by simpa using hb
  subst e
  exact⟨o,W,fun v z=>by rw [hd]at z;cases z⟩)
 refine thn (hn _ s6 σ H5 (.ref p) (.ref p) _ J' rfl q) fun _ s7 ⟨a4,H7,I7,q7⟩=> ?_
 have pC:=I7.pin (O.heap.objs.size,o) (bD _ (bD _ (Gq (by simp) W)))
 exact⟨m,⟨o,es,ep,pC.1,hd,a3,hf⟩,fun h' sb=>⟨a4,H7,I7.unpinned.turned (t':=s7.toks) (fun b o hb e=>sb.extBut b o hb e) pC.2.1 Z.2.1 Z.2.2.2.1 Z.2.2.2.2.1 Z.2.2.2.2.2,q7⟩⟩
end
structure Pyl (P:Program) (base:Heap):Prop where
 seer:base.NoSeer
 tree:P.given.tree=none
set_option maxRecDepth 100000
end L2
namespace L2
open PySem PySem.Spec PyProof.Rows
structure Apz (P:Program) (w:World) (K:Frag) (mg:Str->Option Value) (base:Heap) (k:Nat) (a:Addr) (ps:List Str) (sp:Sp):Prop where
 ex:∃fd,Lq P w K mg base CX0 k a fd ps sp/\Binds K fd ps []
 kp:∀(M:Model) (h:Heap),(∀b o,base.get? b=some o->h.get? b=some o)->K.In h->∃k,(k=Keeper.frame\/k=Keeper.machine\/k=Keeper.boundFrame)/\PySem.W.Looks M h (keeperOf (.ref a)) k
variable {P:Program}{w:World}{mg:Str->Option Value}{base:Heap}{x:Str}{ps:List Str}{sp:Sp}{a:Addr}
theorem Cal.val {K:Frag}{k:Nat} (C:Cal P w K mg base k x ps sp) (e:mg x=some (.ref a)):Apz P w K mg base k a ps sp:=by
 obtain⟨f,fd,G,g,b,c⟩:=C
 rw [e]at g
 cases g
 exact⟨⟨fd,G,c⟩,fun M h _ X=>PySem.W.keeps_K b h X⟩
structure Ap1 (ps fs:List Str) (sc:Scope):Prop where
 kind:sc.kind= .function
 co:sc.isCoroutine=false
 gen:sc.isGenerator=false
 nd:ps.Nodup
 par:∀x∈ps,sc.names.lookup x=some .local
 fre:∀x∈fs,sc.names.lookup x=some .free
 nocell:∀y∈sc.names,y.2≠ .cell
 only:∀y∈sc.names,y.2= .free->y.1∈fs
structure Ap0 (base:Heap) (fs:List Str) (cl:List (Str × Addr)) (ws:List V):Prop where
 inj:∀x y c,cl.lookup x=some c->cl.lookup y=some c->x=y
 has:∀x∈fs,∃c,cl.lookup x=some c
 cell:∀x c,cl.lookup x=some c->∃v,base.IsCell c v
 val:∀(i:Nat) (x:Str) (v:V),fs[i]? =some x->ws[i]? =some v->∃c u,cl.lookup x=some c/\base.IsCell c (some u)/\RelV v u
 len:ws.length=fs.length
noncomputable def Amz (c:Addr) (q:Str):HO:= .ext fun h=>h.CodeRec (.ref c) q
noncomputable def SmP (p:Addr) (H H':Hp):Prop:=∀b o,b≠p->H b=some o->H' b=some o
noncomputable def Tab (p:Addr) (lp:Pos) (q:Str) (H:Hp):Prop:=∃ps,H p=some (.tbl ps)/\(ps= #[]\/∃c',ps= #[rawInt lp.line,rawInt lp.col,.ref c']/\H c'=some (Amz c' q))
structure Aq1 (mg:Str->Option Value) (base:Heap) (c p:Addr):Prop where
 code:CodeHd base c p
 bm:∃bm ob,mg "__builtins__"=some (.ref bm)/\bm≠builtinsNs/\base.get? bm=some ob/\ob.cls= .type "module"/\ob.dict=some builtinsNs/\ob.data= .plain
theorem Pyl.keeps {P:Program}{b G:Heap} (h:Pyl P b) (k:∀a o,b.get? a=some o->G.get? a=some o):Pyl P G:=⟨h.seer.keeps k,h.tree⟩
variable {p:Addr}{H H1:Hp}
theorem SmP.trans {H2:Hp} (a:SmP p H H1) (b:SmP p H1 H2):SmP p H H2:=fun c o n e=>b c o n (a c o n e)
variable {H':Hp}
theorem Tab.same {G:Pos}{q:Str} (h:Tab p G q H) (s:Same H H'):Tab p G q H':=by
 obtain⟨ps,a,b⟩:=h
 refine⟨ps,s _ _ a,?_⟩
 rcases b with b | ⟨c,J,O⟩
 . exact .inl b
 . exact .inr ⟨c,J,s _ _ O⟩
theorem Tab.is {G:Pos}{q:Str} (h:Tab p G q H):∃ps,H p=some (.tbl ps):=by
 obtain⟨ps,a,_⟩:=h
 exact⟨ps,a⟩
theorem nd3 {f:Str->Addr}{a b c:Str}{q r:Addr} (h1:f a=p) (h2:f b=q) (G:f c=r) (n:p≠q/\p≠r/\q≠r):([a,b,c].map f).Nodup:=by simp [h1,h2,G,n]
open PySem PySem.Spec PySem.Calls PyProof.Rows PySem.W
noncomputable abbrev Tk:=Addr × List Int
structure Aq2 (h:Heap) (k:Addr) (t:Tk):Prop where
 pr:∃o xs n tk,h.get? k=some o/\o.cls= .type "tuple"/\o.data= .seq xs n/\xs.toList=[.int t.2.length tk,.ref t.1]
 tu:∃its:List Value,IsTup h t.1 its.toArray/\IntsAre its t.2
noncomputable def EX (a:Addr) (o:Obj):HO:= .ext fun h=>h.get? a=some o
structure KyI (X:Cx) (pins:List (Addr × Obj)) (σ:St) (H2:Hp) (a kS f:Addr) (oa of:Obj) (ts:List Tk) (i:Nat) (H':Hp) (ks:List Addr) (s':Shared):Prop where
 inv:Inv X pins σ H' s'
 sm:Same H2 H'
 ea:H' a=some (EX a oa)
 ky:H' kS=some (.lst (ks.map V.ref))
 ln:ks.length=i
 tu:∀(j:Nat) (k:Addr) (t:Tk),ks[j]? =some k->ts[j]? =some t->H' k=some (.tup [.int t.2.length,.ref t.1])
 fo:s'.heap.get? f=some of
 fn:H' f=none
noncomputable abbrev Is3 (h:Heap) (T:Addr) (a b c:Value):Prop:=h.get? T=some { cls:= .type "tuple",data:= .seq #[a,b,c]}
section
variable {prog:Program}{w:World}{A:Around}{E:Value->Shared->Prop}{s:Shared}
theorem nz {a b:Nat} (h:a<b\/b<a):(show Addr from a)≠b:=fun e=>by
 have e:a=b:=e
 omega
structure Zp3 (h:Heap) (n l1 l2 l3 k:Nat) (f0:Value):Prop where
 z:IsZip h (n+5) (n+3) (n+4) f0
 ti:Is3 h (n+3) (.ref n) (.ref (n+1)) (.ref (n+2))
 to:∃p q r,Is3 h (n+4) p q r
 j1:h.IsListIter n l1 k
 j2:h.IsListIter (n+1) l2 k
 j3:h.IsListIter (n+2) l3 k
structure Zl3 (h:Heap) (n l1 l2 l3:Nat) (xs ys zs:Array Value):Prop where
 b1:l1<n
 b2:l2<n
 b3:l3<n
 a1:h.IsList l1 xs
 a2:h.IsList l2 ys
 a3:h.IsList l3 zs
end
noncomputable def Ris (xs:Array Nat):Prop:=xs.toList.Pairwise (· < ·)
structure WT (led:Bool) (t:SetTable):Prop where
 led:t.led=led
 dum:t.dummies= #[]
 ris:t.plain=true->Ris t.place
theorem WT.fresh (G:Bool):WT G (.fresh 0 0 G):=⟨rfl,rfl,fun _=>Pairwise.nil⟩
open PySem PySem.Spec PyProof.Rows PySem.W
variable {s:Shared}{it:Addr}{i n ep:Nat}{h h':Heap}
section
variable {P:Program}{w:World}{A:Around}{E:Value->Shared->Prop}
structure Lies (h:Heap) (a:Addr) (es:Array (Int × Value)) (ep:Nat) (t:SetTable):Prop where
 obj:∃o,h.get? a=some o/\o.cls= .type "set"/\o.data= .set es ep t
 fit:t.fits es.size=true
structure SIt (h:Heap) (it:Addr) (first:Value) (i:Nat) (a:Addr) (n ep:Nat):Prop where
 obj:∃o,h.get? it=some o/\o.cls= .type "set_iterator"/\o.data= .fields #[first,.int i 0,.ref a,.int n 0,.int ep 0]
theorem SIt.typeIs {first:Value} (x:SIt s.heap it first i a n ep):s.TypeIs (.ref it) "set_iterator":=let ⟨o,ho,hc,_⟩:=x.obj;⟨o,ho,hc⟩
variable {s:Shared}{a:Addr}{es:Array (Int × Value)}{ep:Nat}{t:SetTable}
structure Tup (h:Heap) (tp:Addr) (ps:List Nat):Prop where
 obj:∃o k,h.get? tp=some o/\o.data= .seq (ps.map fun(i:Nat)=>rawInt i).toArray k
theorem Lies.keep (L:Lies h a es ep t) (k:∀o,h.get? a=some o->h'.get? a=some o):Lies h' a es ep t:=⟨let ⟨o,ho,r⟩:=L.obj;⟨o,k _ ho,r⟩,L.fit⟩
theorem SIt.keep {first:Value} (I:SIt h it first i a n ep) (k:∀o,h.get? it=some o->h'.get? it=some o):SIt h' it first i a n ep:=⟨let ⟨o,ho,r⟩:=I.obj;⟨o,k _ ho,r⟩⟩
theorem Tup.keep {tp:Addr}{ps:List Nat} (T:Tup h tp ps) (k:∀o,h.get? tp=some o->h'.get? tp=some o):Tup h' tp ps:=⟨let ⟨o,n,ho,r⟩:=T.obj;⟨o,n,k _ ho,r⟩⟩
end
variable {X:Cx}{pins:List (Addr × Obj)}
theorem Inv.dr {σ:List (Option V)} (I:Inv X pins σ H s) (d:Drawn):Inv X pins σ H { s with drawn:=d}:=
 ⟨I.ok,I.os,I.bare,I.base,I.loc,I.cell,I.free,I.freeC,I.pin,I.hok,I.len⟩
theorem Acd (hc:X.calm=true):Er X (.builtin "any") (fun xs H Q=>∃(a:Addr) (bs:List Bool),xs=[.ref a]/\SqL X.K H a (bs.map V.bl)/\Q (.bl (bs.any id)) H):=by
 intro pins s σ H xs us Q I r h
 obtain⟨a,bs,rfl,ha,q⟩:=h
 obtain⟨u,rfl,ru⟩:=vals1 r
 cases ru
 obtain⟨G,Z,p,hz⟩:=I.list ha
 have O:s.heap.IsList a G.toArray:=p.isList
 have lt:a<s.heap.objs.size:=by
  obtain⟨_,e,_⟩:=O
  exact aJ e
 have ln:G.length=bs.length:=by
  have:=Z.length
  rw [aC]at this
  exact this.symm
 refine call_any_walk (iY O ?_)
 refine⟨s.heap.objs.size,[s.heap.objs.size,a],[s.heap.objs.size],G.toArray.size,_,_,fun i=>(bs[i]?).getD false,rfl,Walks.list (A:=X.A.in1) (I.ok.hd hc) _ a (aP lt) G.toArray,
  ⟨⟨_,aK _ rfl,rfl,rfl⟩,O.push _⟩,fun i v s' Q' E' hP hQ=> ?_,fun g tk hk=> ?_⟩
 . have hv:G[i]? =some v:=by simpa using hP
   have hi:i<G.length:=(aW.mp hv).1
   have hb:bs[i]? =some bs[i]:=aG (by omega)
   obtain⟨w',hw,U⟩:=Z.get (show(bs.map V.bl)[i]? =some (V.bl bs[i])by rw [aN,hb];rfl)
   rw [hv]at hw
   cases hw
   cases U
   simp only [hb,getD_some]at hQ
   exact fS hQ
 . have e:((List.range G.toArray.size).any fun i=>(bs[i]?).getD false)=bs.any id:=by
    rw [aM,ln,iE,kM,kM]
    constructor
    . rintro⟨i,hi,h⟩
      have J:=cW.mp hi
      rw [aG J]at h
      exact⟨_,cS J,h⟩
    . rintro⟨x,hx,h⟩
      obtain⟨i,hi,ei⟩:=List.getElem_of_mem hx
      exact⟨i,cW.mpr hi,by rw [aG hi,ei];exact h⟩
   rw [e]
   exact⟨.bl _,H,I.kept (t':=tk) fun b o W=>hk b o (fun hm=>by rw [bA.mp hm]at W;exact cZ _ (aJ W)) (aB _ W),rfl,q⟩
set_option maxRecDepth 100000
noncomputable abbrev ZpB (h:Heap) (z TI TO T:Addr) (b:Bool):Prop:=h.get? z=some { cls:= .type "zip",data:= .fields #[rawInt T,.bool b,.bool false,.ref TI,.ref TO]}
structure ZpS (t1 t2:Bool) (h:Heap) (S z TI TO i1 i2 u1 u2:Addr) (i:Nat):Prop where
 st:(IsZip h z TI TO .none/\∃p q,IsPair h TO p q)\/∃T b oT,ZpB h z TI TO T b/\h.get? T=some oT/\T≠S/\T≠z/\T≠i1/\T≠i2
 ti:IsPair h TI (.ref i1) (.ref i2)
 j1:It1 t1 h i1 u1 i
 j2:It1 t2 h i2 u2 i
variable {G W:Addr}
theorem ZpS.keep {O U:Bool}{S z TI TO J Z:Addr} (x:ZpS O U h S z TI TO G J W Z i) (k:∀b o,b≠S->h.get? b=some o->h'.get? b=some o) (n1:z≠S) (n2:TI≠S) (n3:TO≠S) (n4:G≠S) (n5:J≠S):ZpS O U h' S z TI TO G J W Z i:=by
 refine⟨?_,k _ _ n2 x.ti,x.j1.to fun o e=>k _ _ n4 e,x.j2.to fun o e=>k _ _ n5 e⟩
 rcases x.st with⟨a,p,q,b⟩ | ⟨T,b,oT,a,c,d⟩
 . exact .inl ⟨k _ _ n1 a,p,q,k _ _ n3 b⟩
 . exact .inr ⟨T,b,oT,k _ _ n1 a,k _ _ d.1 c,d⟩
structure ZpG (xs ys:Array Value) (lo:Addr) (h:Heap) (as:List Addr):Prop where
 rise:as.Pairwise (· < ·)
 above:∀a∈as,lo<=a
 pairs:∀(j:Nat) (a:Addr),as[j]? =some a->∃x y,xs[j]? =some x/\ys[j]? =some y/\IsPair h a x y
end L2
namespace L2
open PySem PySem.Spec PySem.Calls PyProof.Rows PySem.W
noncomputable abbrev Pri:=Addr × Int × V
noncomputable def Pri.ks (t:Pri):Int:=t.2.1
noncomputable def Apg (K:Frag) (H:Hp) (t:Pri):Prop:=SqT K H t.1 [.int t.ks,t.2.2]
noncomputable def Amv (h:Heap) (t:Pri):Prop:=∃o xs n tk u,h.get? t.1=some o/\o.cls= .type "tuple"/\o.data= .seq xs n/\xs.toList=[.int t.ks tk,u]
variable {h h':Heap}{a:Addr}
theorem Amv.keeps {t:Pri} (x:Amv h t) (k:∀b o,b≠a->h.get? b=some o->h'.get? b=some o) (h1:t.1≠a):Amv h' t:=by
 obtain⟨o,xs,n,tk,u,e,r⟩:=x
 exact⟨o,xs,n,tk,u,k _ _ h1 e,r⟩
variable {X:Cx}{pins:List (Addr × Obj)}{σ:St}{H:Hp}{s:Shared}
theorem Apg.at {t:Pri} (I:Inv X pins σ H s) (x:Apg X.K H t):Amv s.heap t/\t.1<s.heap.objs.size:=by
 obtain⟨G,r,⟨o,e,c,n,d⟩,_⟩:=I.tuple x
 refine⟨?_,aJ e⟩
 cases r with
 | cons J O=>
   obtain⟨tk,rfl⟩:=J
   cases O with
   | cons W U=>
     cases U
     exact⟨o,_,n,_,_,e,c,d,rfl⟩
open PySem PySem.Spec PyProof.Rows
noncomputable abbrev tx (l:List Nat):Str:=⟨l.toArray⟩
section
variable {X:Cx}
noncomputable abbrev TJ:=St->Hp->Str->(Str->Hp->Prop)->Prop
noncomputable def PJ (X:Cx) (es:List Expr) (t:TJ):Prop:=
 ∀(pins:List (Addr × Obj)) (s:Shared) (σ:St) (H:Hp) (z:Str) (Q:Str->Hp->Prop),Inv X pins σ H s->t σ H z Q->
   Joins (model X.prog X.w) X.A X.xe (evalEach es X.env) z (fun z' s1=>∃H',Inv X pins σ H' s1/\Q z' H') s
end
noncomputable def dg (m:Nat):List Nat:=(Nat.toDigits 10 m).map Char.toNat
open PySem L2
@[irreducible] noncomputable def Bc (X:Cx) (e:Expr) (t:TE):Prop:=L2.PE X e t
@[irreducible] noncomputable def Jd (X:Cx) (e:Expr) (t:TT):Prop:=L2.PT X e t
@[irreducible] noncomputable def Tf (X:Cx) (e:Expr) (t:TT):Prop:=L2.PW X e t
@[irreducible] noncomputable def Gd (X:Cx) (es:List Expr) (t:TA):Prop:=L2.PA X es t
@[irreducible] noncomputable def Gn (X:Cx) (st:Stmt) (t:TS):Prop:=L2.PS X st t
@[irreducible] noncomputable def Hj (X:Cx) (st:List Stmt) (t:TS):Prop:=L2.PSs X st t
@[irreducible] noncomputable def Lr (X:Cx) (target:Expr) (t:TG):Prop:=L2.PG X target t
@[irreducible] noncomputable def Q9 (X:Cx) (ts:List Expr) (t:TGs):Prop:=L2.PGs X ts t
@[irreducible] noncomputable def K9 (X:Cx) (tg iter:Expr) (wi:TI):Prop:=L2.PI X tg iter wi
@[irreducible] noncomputable def Ab8 (X:Cx) (e:Option Expr) (t:TO):Prop:=L2.PO X e t
@[irreducible] noncomputable def Vg (X:Cx) (ifs:List Expr) (t:TT):Prop:=L2.PTs X ifs t
@[irreducible] noncomputable def Ap2 (X:Cx) (es:List Expr) (t:TJ):Prop:=L2.PJ X es t
theorem Aiu {b:List Stmt}{t:TS} (h:Hj X b t):L2.PSs X b t:=by unfold Hj at h;exact h
theorem Ae:∀ {X:Cx} (i:Nat) {x:Str}{pos:Pos},autoParam ((Cx.N X)[i]? =Option.some x) L2.pv._auto_1->autoParam (Vis (Env.scope (Cx.env X)) x) L2.pv._auto_2->autoParam ((x==("__debug__":Str))=Bool.false) L2.pv._auto_3->autoParam ((x==("__classdict__":Str))=Bool.false) L2.pv._auto_4->Bc X (Expr.Name x pos) (Afq i):=by with_unfolding_all exact @L2.pv
theorem Ef:∀ {X:Cx}{x:Str}{v:V}{u:Value}{pos:Pos},Gl X x->Cx.mg X x=Option.none->bootBuiltins x=Option.some u->RelV v u->autoParam (x≠("__name__":Str)) L2.Uv._auto_1->autoParam ((x==("__debug__":Str))=Bool.false) L2.Uv._auto_2->Bc X (Expr.Name x pos) (tC v):=by with_unfolding_all exact @L2.Uv
theorem Gp:∀ {X:Cx}{x:Str}{v:V}{u:Value}{pos:Pos},Gl X x->Cx.mg X x=Option.some u->RelV v u->autoParam ((x==("__debug__":Str))=Bool.false) L2.Aar._auto_1->Bc X (Expr.Name x pos) (tC v):=by with_unfolding_all exact @L2.Aar
theorem Ad:∀ {X:Cx}{i:Int}{j:Nat}{pos:Pos},Bc X (Expr.Constant (Const.int i) j pos) (tC (V.int i)):=by with_unfolding_all exact @L2.Akq
theorem El:∀ {X:Cx}{b:Bool}{j:Nat}{pos:Pos},Bc X (Expr.Constant (Const.bool b) j pos) (tC (V.bl b)):=by with_unfolding_all exact @L2.Anq
theorem Lx:∀ {X:Cx}{j:Nat}{pos:Pos},Bc X (Expr.Constant Const.none j pos) (tC V.non):=by with_unfolding_all exact @L2.Aks
theorem Fe:∀ {X:Cx}{x:Str}{j:Nat}{pos:Pos},Bc X (Expr.Constant (Const.str x) j pos) (tC (V.str x)):=by with_unfolding_all exact @L2.Akv
theorem Ah:∀ {X:Cx}{a b:Expr}{ta tb:TE}{pos:Pos}{op:Operator}{r:R2},OpR X (binaryOp op) r->Bc X a ta->Bc X b tb->Bc X (Expr.BinOp a op b pos) (tOp r ta tb):=by with_unfolding_all exact @L2.Ans
theorem Rb:∀ {X:Cx}{a:Expr}{ta:TE}{pos:Pos},Bc X a ta->Bc X (Expr.UnaryOp UnaryOp.Not a pos) (Ah4 ta):=by with_unfolding_all exact @L2.Akt
theorem O4:∀ {X:Cx}{a:Expr}{ta:TE}{pos:Pos}{op:UnaryOp}{r:V->Hp->VK->Prop},UnR X (unaryOp op) r->Bc X a ta->Bc X (Expr.UnaryOp op a pos) (tUn r ta):=by with_unfolding_all exact @L2.Ant
theorem Eh:∀ {X:Cx}{a b:Expr}{ta tb:TE}{pos:Pos}{op:CmpOp}{r:R2},OpR X (compareOp op) r->Bc X a ta->Bc X b tb->behindInMarks op b=Bool.false->Bc X (Expr.Compare a [op] [b] pos) (tOp r ta tb):=by with_unfolding_all exact @L2.Ag5
theorem Je:∀ {X:Cx}{a b:Expr}{ta tb:TE}{pos:Pos}{rest:List Expr},Bc X a ta->Bc X (Expr.BoolOp BoolOp.And (b::rest) pos) tb->Bc X (Expr.BoolOp BoolOp.And (a::b::rest) pos) (Ahx ta tb):=by with_unfolding_all exact @L2.Akp
theorem Ly:∀ {X:Cx}{a:Expr}{pos:Pos}{op:BoolOp}{t:TE},Bc X a t->Bc X (Expr.BoolOp op [a] pos) t:=by with_unfolding_all exact @L2.Aku
theorem Tg:∀ {X:Cx}{a b:Expr}{ta tb:TE}{pos:Pos}{tA:TT}{c:Expr},Jd X c tA->Bc X a ta->Bc X b tb->Bc X (Expr.IfExp c a b pos) (tIf tA ta tb):=by with_unfolding_all exact @L2.Ads
theorem Az:∀ {X:Cx}{es:List Expr}{t:TA}{pos:Pos}{x1:Nat},Gd X es t->Bc X (Expr.Tuple es x1 pos) (Aoe t):=by with_unfolding_all exact @L2.Akw
theorem Bs:∀ {X:Cx}{es:List Expr}{t:TA}{pos:Pos},Gd X es t->Bc X (Expr.List es pos) (An9 t):=by with_unfolding_all exact @L2.Akr
theorem Dh:∀ {X:Cx}{e:Expr}{te:TE}{lo hi:Option Expr}{tl th:TO}{pos p2:Pos}{r:V->Option Int->Option Int->Hp->VK->Prop},SlR X r->Bc X e te->Ab8 X lo tl->Ab8 X hi th->Bc X (Expr.Subscript e (Expr.Slice lo hi Option.none p2) pos) (tSl r te tl th):=by with_unfolding_all exact @L2.Adt
theorem Dv:∀ {X:Cx},Ab8 X Option.none Va:=by with_unfolding_all exact @L2.Ahc
theorem Dw:∀ {X:Cx}{e:Expr}{te:TE},Bc X e te->Ab8 X (Option.some e) (Ah5 te):=by with_unfolding_all exact @L2.Ahd
theorem Bj:∀ {X:Cx}{a b:Expr}{ta tb:TE}{pos:Pos}{r:R2},IxR X r->Bc X a ta->Bc X b tb->Yd b->Bc X (Expr.Subscript a b pos) (tOp r ta tb):=by with_unfolding_all exact @L2.Anr
theorem Oa:∀ {X:Cx}{pos:Pos},Bc X (Expr.Dict [] [] pos) Ahz:=by with_unfolding_all exact @L2.Ag7
theorem Ei:∀ {X:Cx}{o i:Expr}{pos:Pos}{td ty:TE},Around.units (Cx.A X)+(1:Nat)<cLine->Bc X o td->Bc X i ty->Am0 i->Bc X (Expr.Subscript o i pos) (Ahy td ty):=by with_unfolding_all exact @L2.Ag6
theorem Iv:∀ {X:Cx}{o e f:Expr}{apos cpos:Pos}{td ty tx:TE},Around.units (Cx.A X)+(1:Nat)<cLine->Bc X o td->Bc X e ty->Bc X f tx->M2 X o (("get":Str)) apos e f cpos->Bc X (Expr.Call (Expr.Attribute o (("get":Str)) apos) [e,f] [] cpos) (Abi td ty tx):=by with_unfolding_all exact @L2.Adp
theorem Bk:∀ {X:Cx}{elt tg iter:Expr}{ifs:List Expr}{scope:Scope}{pos:Pos}{wi:TI}{g:TG}{tt:TT}{te:TE}{ts:List Str}{fs:List (Nat × Str)},Cx.calm X=Bool.true->Dg X ts fs scope->K9 X tg iter wi->(∀(ex:List Addr) (s:Shared) (H:Hp),Lr (cxD X (cpN ts fs) scope ex s H) tg g)->(∀(ex:List Addr) (s:Shared) (H:Hp),Vg (cxD X (cpN ts fs) scope ex s H) ifs tt)->(∀(ex:List Addr) (s:Shared) (H:Hp),Bc (cxD X (cpN ts fs) scope ex s H) elt te)->autoParam (∀(x:Value),foldedSetIterable iter (Cx.env X) x=Pure.pure x) L2.V6._auto_1->Bc X (Expr.ListComp elt [{ target:=tg,iter:=iter,ifs:=ifs,is_async:=(0:Int)}] scope pos) (X7 (length ts) fs wi g tt te):=by with_unfolding_all exact @L2.V6
theorem Bf:∀ {X:Cx}{e:Expr}{es:List Expr}{t:TA}{x:Str}{p pos:Pos}{id:String}{r:List V->Hp->VK->Prop},Er X (Value.builtin id) r->Gl X x->Cx.mg X x=Option.none->bootBuiltins x=Option.some (Value.builtin id)->Gd X (e::es) t->autoParam (Cr e=Bool.true) L2.Aao._auto_1->autoParam (List.all es Cr=Bool.true) L2.Aao._auto_2->autoParam (x≠("__name__":Str)) L2.Aao._auto_3->autoParam ((x==("__debug__":Str))=Bool.false) L2.Aao._auto_4->Bc X (Expr.Call (Expr.Name x p) (e::es) [] pos) (tCB r t):=by with_unfolding_all exact @L2.Aao
theorem Bu:∀ {X:Cx}{e:Expr}{es:List Expr}{t:TA}{x:Str}{p pos:Pos}{T:String}{r:List V->Hp->VK->Prop},Er X (Value.type T) r->Gl X x->Cx.mg X x=Option.none->bootBuiltins x=Option.some (Value.type T)->Gd X (e::es) t->autoParam (Cr e=Bool.true) L2.R8._auto_1->autoParam (List.all es Cr=Bool.true) L2.R8._auto_2->autoParam (x≠("__name__":Str)) L2.R8._auto_3->autoParam ((x==("__debug__":Str))=Bool.false) L2.R8._auto_4->Bc X (Expr.Call (Expr.Name x p) (e::es) [] pos) (tCB r t):=by with_unfolding_all exact @L2.R8
theorem Amx:∀ {X:Cx}{e:Expr}{es:List Expr}{t:TA}{x:Str}{p pos:Pos}{k:Nat}{ps:List Str}{sp:Sp},Cal (Cx.prog X) (Cx.w X) (Cx.K X) (Cx.mg X) (Cx.base X) k x ps sp->Hi k (Cx.A X)->Gd X (e::es) t->autoParam (Cr e=Bool.true) L2.Xu._auto_1->autoParam (List.all es Cr=Bool.true) L2.Xu._auto_2->autoParam (Gl X x) L2.Xu._auto_3->autoParam ((x==("__debug__":Str))=Bool.false) L2.Xu._auto_4->Bc X (Expr.Call (Expr.Name x p) (e::es) [] pos) (Qy sp [] E0 t):=by with_unfolding_all exact @L2.Xu
theorem Aj:∀ {X:Cx}{e:Expr}{es:List Expr}{t:TA}{x:Str}{p pos:Pos}{k:Nat}{ps:List Str}{sp:Sp}{n:Nat},Cal (Cx.prog X) (Cx.w X) (Cx.K X) (Cx.mg X) (Cx.base X) k x ps sp->Hi n (Cx.A X)->Gd X (e::es) t->autoParam (k<=n) L2.Xv._auto_1->autoParam (Cr e=Bool.true) L2.Xv._auto_2->autoParam (List.all es Cr=Bool.true) L2.Xv._auto_3->autoParam (Gl X x) L2.Xv._auto_4->autoParam ((x==("__debug__":Str))=Bool.false) L2.Xv._auto_5->Bc X (Expr.Call (Expr.Name x p) (e::es) [] pos) (Qy sp [] E0 t):=by with_unfolding_all exact @L2.Xv
theorem Vh:∀ {X:Cx}{i k:Nat}{a:Addr}{x y:Str}{ps:List Str}{sp:Sp}{p pos:Pos}{e:Expr}{es:List Expr}{t:TA},Cal (Cx.prog X) (Cx.w X) (Cx.K X) (Cx.mg X) (Cx.base X) k y ps sp->Cx.mg X y=Option.some (Value.ref a)->Hi k (Cx.A X)->Bc X (Expr.Name x p) (Afq i)->Gd X (e::es) t->autoParam (Cr e=Bool.true) L2.Ag4._auto_1->autoParam (List.all es Cr=Bool.true) L2.Ag4._auto_2->Bc X (Expr.Call (Expr.Name x p) (e::es) [] pos) (tCV i a sp E0 t):=by with_unfolding_all exact @L2.Ag4
theorem Gf:∀ {X:Cx}{o e:Expr}{es:List Expr}{to:TE}{t:TA}{name:Str}{apos cpos:Pos}{T id:String}{r:V->List V->Hp->VK->Prop},PlainAttrs T->Slot T name id->typeOf (Value.builtin id)=Pure.pure (Value.type "method_descriptor")->MtR X id r->Bc X o to->Gd X (e::es) t->autoParam (attributeBase o name (Cx.env X) (eval o (Cx.env X))=eval o (Cx.env X)) L2.Xr._auto_1->autoParam ((((List.all (backTo cpos (starEach (e::es) (Cx.env X))) fun(x:Bool × Sem Value) ↦ !Prod.fst x)&&List.all (backToKw cpos (keywordEach [] (Cx.env X))) fun(x:Option Str × Sem Value) ↦ Option.isSome (Prod.fst x))&&Decidable.decide ((length (e::es)+length ([]:List Keyword)+if List.isEmpty ([]:List Keyword)=Bool.true then(0:Nat)else(1:Nat))<(30:Nat)))=Bool.true) L2.Xr._auto_2->autoParam ((Pos.endLine apos==Pos.line cpos)=Bool.true) L2.Xr._auto_3->autoParam (starEach (e::es) (Cx.env X)=(Bool.false,eval e (Cx.env X))::starEach es (Cx.env X)) L2.Xr._auto_4->autoParam ((List.any (backTo cpos (starEach es (Cx.env X))) fun(x:Bool × Sem Value) ↦ Prod.fst x)=Bool.false) L2.Xr._auto_5->Bc X (Expr.Call (Expr.Attribute o name apos) (e::es) [] cpos) (tBM (Cx.K X) T r to t):=by with_unfolding_all exact @L2.Xr
theorem Ye:∀ {X:Cx}{o:Expr}{to:TE}{name:Str}{apos cpos:Pos}{T id:String}{r:V->List V->Hp->VK->Prop},PlainAttrs T->Slot T name id->typeOf (Value.builtin id)=Pure.pure (Value.type "method_descriptor")->MtR X id r->Bc X o to->autoParam (attributeBase o name (Cx.env X) (eval o (Cx.env X))=eval o (Cx.env X)) L2.Aan._auto_1->autoParam ((Pos.endLine apos==Pos.line cpos)=Bool.true) L2.Aan._auto_2->Bc X (Expr.Call (Expr.Attribute o name apos) [] [] cpos) (An6 (Cx.K X) T r to):=by with_unfolding_all exact @L2.Aan
theorem O5:∀ {X:Cx}{a:Expr}{ta:TA}{el:List Expr}{x1:Nat}{tp p pos:Pos},Gl X (("enumerate":Str))->Cx.mg X (("enumerate":Str))=Option.none->Gd X [a] ta->autoParam (starEach [a] (Cx.env X)=[(Bool.false,eval a (Cx.env X))]) L2.Akz._auto_1->K9 X (Expr.Tuple el x1 tp) (Expr.Call (Expr.Name (("enumerate":Str)) p) [a] [] pos) (iEn (Cx.K X) ta):=by with_unfolding_all exact @L2.Akz
theorem Rh:∀ {X:Cx}{a:Expr}{ta:TA}{el:List Expr}{x1:Nat}{tp p pos:Pos},Gl X (("enumerate":Str))->Cx.mg X (("enumerate":Str))=Option.none->Gd X [a] ta->autoParam (starEach [a] (Cx.env X)=[(Bool.false,eval a (Cx.env X))]) L2.Afe._auto_1->K9 X (Expr.Tuple el x1 tp) (Expr.Call (Expr.Name (("enumerate":Str)) p) [a] [] pos) (Ang (Cx.K X) ta):=by with_unfolding_all exact @L2.Afe
theorem Wz:∀ {X:Cx}{a b:Expr}{ta:TA}{el:List Expr}{x1:Nat}{tp p pos:Pos} (G J:Bool),Gl X (("zip":Str))->Cx.mg X (("zip":Str))=Option.none->Gd X [a,b] ta->autoParam (starEach [a,b] (Cx.env X)=[(Bool.false,eval a (Cx.env X)),(Bool.false,eval b (Cx.env X))]) L2.Uy._auto_1->autoParam (starEach [b] (Cx.env X)=[(Bool.false,eval b (Cx.env X))]) L2.Uy._auto_2->K9 X (Expr.Tuple el x1 tp) (Expr.Call (Expr.Name (("zip":Str)) p) [a,b] [] pos) (Agj G J (Cx.K X) ta):=by with_unfolding_all exact @L2.Uy
theorem Ti:∀ {X:Cx}{o:Expr}{td:TE}{el:List Expr}{x1:Nat}{tp apos cpos:Pos},Bc X o td->M0 X o (("items":Str)) apos cpos->K9 X (Expr.Tuple el x1 tp) (Expr.Call (Expr.Attribute o (("items":Str)) apos) [] [] cpos) (Zq td):=by with_unfolding_all exact @L2.Adv
theorem Ls:∀ {X:Cx}{pos:Pos},Bc X (Expr.Dict [] [] pos) Abj:=by with_unfolding_all exact @L2.Adq
theorem Ob:∀ {X:Cx}{e f:Expr}{t:TA}{td:TE}{p G pos:Pos},Cx.calm X=Bool.true->Gl X (("max":Str))->Cx.mg X (("max":Str))=Option.none->Gd X [e] t->Bc X f td->autoParam (Cr e=Bool.true) L2.Aas._auto_1->Bc X (Expr.Call (Expr.Name (("max":Str)) p) [e] [{ arg:=Option.some (("default":Str)),value:=f,pos:=G}] pos) (Ah2 (Cx.K X) t td):=by with_unfolding_all exact @L2.Aas
theorem Bv:∀ {X:Cx}{tg a:Expr}{ta:TA}{p pos:Pos},Gl X (("range":Str))->Cx.mg X (("range":Str))=Option.none->Gd X [a] ta->autoParam (starEach [a] (Cx.env X)=[(Bool.false,eval a (Cx.env X))]) L2.R9._auto_1->K9 X tg (Expr.Call (Expr.Name (("range":Str)) p) [a] [] pos) (Agi ta):=by with_unfolding_all exact @L2.R9
theorem Du:∀ {X:Cx}{tg l:Expr}{tl:TE},Bc X l tl->K9 X tg l (Agh (Cx.K X) tl):=by with_unfolding_all exact @L2.Ag9
theorem Ea:∀ {X:Cx}{tg l:Expr}{tl:TE},Bc X l tl->K9 X tg l (Anh (Cx.K X) tl):=by with_unfolding_all exact @L2.Ak0
theorem Yh:∀ {X:Cx}{tg l:Expr}{tl:TE},Bc X l tl->K9 X tg l (Anf (Cx.K X) tl):=by with_unfolding_all exact @L2.Aky
theorem Bo:∀ {X:Cx},Vg X [] J2:=by with_unfolding_all exact @L2.Ahi
theorem Oc:∀ {X:Cx}{c:Expr}{t:TT},Jd X c t->Vg X [c] t:=by with_unfolding_all exact @L2.Ahj
theorem Av:∀ {X:Cx}{a b:Expr}{ta tb:TE}{pos:Pos}{op:CmpOp}{r:R2},OpR X (compareOp op) r->Bc X a ta->Bc X b tb->behindInMarks op b=Bool.false->Jd X (Expr.Compare a [op] [b] pos) (Ah6 (tOp r ta tb)):=by with_unfolding_all exact @L2.Ahh
theorem En:∀ {X:Cx}{a:Expr}{pos:Pos}{tA:TT},Jd X a tA->Jd X (Expr.UnaryOp UnaryOp.Not a pos) (Aob tA):=by with_unfolding_all exact @L2.Ala
theorem Mf:∀ {X:Cx}{a b:Expr}{pos:Pos}{tA tB':TT}{rest:List Expr},Jd X a tA->Tf X (Expr.BoolOp BoolOp.And (b::rest) pos) tB'->Tf X (Expr.BoolOp BoolOp.And (a::b::rest) pos) (An5 tA tB'):=by with_unfolding_all exact @L2.Alh
theorem Ew:∀ {X:Cx}{a b:Expr}{pos:Pos}{tA tB':TT}{rest:List Expr},Jd X a tA->Tf X (Expr.BoolOp BoolOp.Or (b::rest) pos) tB'->Tf X (Expr.BoolOp BoolOp.Or (a::b::rest) pos) (tOr tA tB'):=by with_unfolding_all exact @L2.Anw
theorem Od:∀ {X:Cx}{a:Expr}{pos:Pos}{tA:TT},Jd X a tA->Tf X (Expr.BoolOp BoolOp.And [a] pos) tA:=by with_unfolding_all exact @L2.Ahk
theorem Fg:∀ {X:Cx}{a:Expr}{pos:Pos}{tA:TT},Jd X a tA->Tf X (Expr.BoolOp BoolOp.Or [a] pos) tA:=by with_unfolding_all exact @L2.Ali
theorem Eu:∀ {X:Cx}{e:Expr}{t:TT},Tf X e t->Jd X e t:=by with_unfolding_all exact @L2.PW.pt
theorem Eb:∀ {X:Cx}{e:Expr}{t:TE},Bc X e t->autoParam (∀(whole:Sem Value),isTrue e (Cx.env X) whole=do let v<-whole;standAt (Expr.pos e);holding [v] (truthy v)) L2.Afi._auto_1->Jd X e (tB t):=by with_unfolding_all exact @L2.Afi
theorem Ab:∀ {X:Cx},Gd X [] Aoa:=by with_unfolding_all exact @L2.Akn
theorem Aa:∀ {X:Cx}{e:Expr}{es:List Expr}{te:TE}{t:TA},Bc X e te->Gd X es t->autoParam (Cr e=Bool.true) L2.Afc._auto_1->Gd X (e::es) (Ad9 te t):=by with_unfolding_all exact @L2.Afc
theorem Ba:∀ {X:Cx},Hj X [] Ah3:=by with_unfolding_all exact @L2.Ahf
theorem Ag:∀ {X:Cx}{st:Stmt}{t:TS},Gn X st t->Hj X [st] t:=by with_unfolding_all exact @L2.Ahg
theorem Ac:∀ {X:Cx}{st:Stmt}{rest:List Stmt}{t u:TS},Gn X st t->Hj X rest u->Hj X (st::rest) (Amy t u):=by with_unfolding_all exact @L2.Adz
theorem Aio:∀ {X:Cx}{pos:Pos}{i:Nat}{x:Str},Nodup (Cx.N X)->(Cx.N X)[i]? =Option.some x->Loc (Env.scope (Cx.env X)) x->∀(G:autoParam (Cx.fn X x=Bool.true\/List.lookup x (Scope.names (Env.scope (Cx.env X)))=Option.some NameKind.local) L2.Uw._auto_1),Lr X (Expr.Name x pos) (Mt i):=by with_unfolding_all exact @L2.Uw
theorem Aq:∀ {X:Cx}{pos:Pos}{x:Str} (i:Nat),Nodup (Cx.N X)->autoParam ((Cx.N X)[i]? =Option.some x) L2.Adu._auto_1->autoParam (Loc (Env.scope (Cx.env X)) x) L2.Adu._auto_2->autoParam (Cx.fn X x=Bool.true\/List.lookup x (Scope.names (Env.scope (Cx.env X)))=Option.some NameKind.local) L2.Adu._auto_3->Lr X (Expr.Name x pos) (Mt i):=by with_unfolding_all exact @L2.Adu
theorem Bg:∀ {X:Cx},Q9 X [] Anb:=by with_unfolding_all exact @L2.Ag8
theorem Al:∀ {X:Cx}{e:Expr}{es:List Expr}{t:TG}{u:TGs},Lr X e t->Q9 X es u->autoParam (List.map (fun(x:Bool × (Value->Sem Unit)) ↦ Prod.snd x) (assignEach (e::es) (Cx.env X))=assign e (Cx.env X)::List.map (fun(x:Bool × (Value->Sem Unit)) ↦ Prod.snd x) (assignEach es (Cx.env X))) L2.V8._auto_1->Q9 X (e::es) (Ac3 t u):=by with_unfolding_all exact @L2.V8
theorem Ej:∀ {X:Cx}{es:List Expr}{k:Nat}{pos:Pos}{t:TGs} (K:W.Frag) (n:Nat),Cx.K X=K->Cx.calm X=Bool.true->Q9 X es t->autoParam (length (assignEach es (Cx.env X))=n) L2.Ux._auto_1->autoParam (List.findIdx? (fun(x:Bool × (Value->Sem Unit)) ↦ Prod.fst x) (assignEach es (Cx.env X))=Option.none) L2.Ux._auto_2->Lr X (Expr.Tuple es k pos) (Ajr K n t):=by with_unfolding_all exact @L2.Ux
theorem Cg:∀ {X:Cx}{pos:Pos}{es:List Expr}{k:Nat}{t:TGs}{n:Nat},Cx.calm X=Bool.true->Q9 X es t->autoParam (length (assignEach es (Cx.env X))=n) L2.V7._auto_1->autoParam (List.findIdx? (fun(x:Bool × (Value->Sem Unit)) ↦ Prod.fst x) (assignEach es (Cx.env X))=Option.none) L2.V7._auto_2->Lr X (Expr.Tuple es k pos) (Ajr (Cx.K X) n t):=by with_unfolding_all exact @L2.V7
theorem Yg:∀ {X:Cx}{pos:Pos}{o i:Expr}{to G:TE}{t:Aiw},Bc X o to->Bc X i G->Am2 X t->autoParam (∀(v:Value),assign (Expr.Subscript o i pos) (Cx.env X) v=do let ov<-holding [v] (eval o (Cx.env X));let iv<-holding [v,ov] (eval i (Cx.env X));standAt pos;holding [v,ov,iv] (setItem ov iv v);release [v,ov,iv] []) L2.Afd._auto_1->Lr X (Expr.Subscript o i pos) (Anc to G t):=by with_unfolding_all exact @L2.Afd
theorem Cu:∀ {X:Cx}{st:Stmt},Gn X st Afp:=by with_unfolding_all exact @L2.Adx
theorem Lz:∀ {X:Cx}{elt tg iter:Expr}{ifs:List Expr}{scope:Scope}{pos:Pos}{wi:TI}{g:TG}{tt:TT}{te:TE}{ts:List Str}{fs:List (Nat × Str)}{g':TG}{y:Str}{J G:Pos},Cx.calm X=Bool.true->Dg X ts fs scope->K9 X tg iter wi->(∀(ex:List Addr) (s:Shared) (H:Hp),Lr (cxD X (cpN ts fs) scope ex s H) tg g)->(∀(ex:List Addr) (s:Shared) (H:Hp),Vg (cxD X (cpN ts fs) scope ex s H) ifs tt)->(∀(ex:List Addr) (s:Shared) (H:Hp),Bc (cxD X (cpN ts fs) scope ex s H) elt te)->Lr X (Expr.Name y J) g'->autoParam (swapsWith (Expr.ListComp elt [{ target:=tg,iter:=iter,ifs:=ifs,is_async:=(0:Int)}] scope pos) (Option.some (Expr.Name y J)) (Pos.line G) (Cx.env X)=Pure.pure Bool.true) L2.Ql._auto_1->autoParam (∀(x:Value),foldedSetIterable iter (Cx.env X) x=Pure.pure x) L2.Ql._auto_2->Gn X (Stmt.Assign [Expr.Name y J] (Expr.ListComp elt [{ target:=tg,iter:=iter,ifs:=ifs,is_async:=(0:Int)}] scope pos) G) (Ad8 (X7 (length ts) fs wi g tt te) g'):=by with_unfolding_all exact @L2.Ql
theorem Aiv:∀ {X:Cx}{pos:Pos}{i:Nat}{x:Str}{e:Expr}{te:TE}{pos':Pos},Nodup (Cx.N X)->(Cx.N X)[i]? =Option.some x->Loc (Env.scope (Cx.env X)) x->Bc X e te->autoParam (swapsWith e (Option.some (Expr.Name x pos')) (Pos.line pos) (Cx.env X)=Pure.pure Bool.false) L2.Wb._auto_1->autoParam (Cx.fn X x=Bool.true\/List.lookup x (Scope.names (Env.scope (Cx.env X)))=Option.some NameKind.local) L2.Wb._auto_2->Gn X (Stmt.Assign [Expr.Name x pos'] e pos) (Ad8 te (Mt i)):=by with_unfolding_all exact @L2.Wb
theorem Am:∀ {X:Cx}{e:Expr}{pos:Pos}{te:TE}{x:Str}{pos':Pos} (i:Nat),Nodup (Cx.N X)->Bc X e te->autoParam ((Cx.N X)[i]? =Option.some x) L2.Aax._auto_1->autoParam (Loc (Env.scope (Cx.env X)) x) L2.Aax._auto_2->autoParam (swapsWith e (Option.some (Expr.Name x pos')) (Pos.line pos) (Cx.env X)=Pure.pure Bool.false) L2.Aax._auto_3->autoParam (Cx.fn X x=Bool.true\/List.lookup x (Scope.names (Env.scope (Cx.env X)))=Option.some NameKind.local) L2.Aax._auto_4->Gn X (Stmt.Assign [Expr.Name x pos'] e pos) (Ad8 te (Mt i)):=by with_unfolding_all exact @L2.Aax
theorem Ig:∀ {X:Cx}{o i value:Expr}{pos pos':Pos}{td ty tv:TE},Around.units (Cx.A X)+(1:Nat)<cLine->Bc X o td->Bc X i ty->Bc X value tv->swapsWith value (Option.some (Expr.Subscript o i pos')) (Pos.line pos) (Cx.env X)=Pure.pure Bool.false->Gn X (Stmt.Assign [Expr.Subscript o i pos'] value pos) (Ahq td ty tv):=by with_unfolding_all exact @L2.Ahe
theorem Ma:∀ {X:Cx}{pos:Pos}{i j:Nat}{x y:Str}{a b:Expr}{ta:TA}{J O pt:Pos}{U k2:Nat}{G:Pos},Cx.calm X=Bool.true->Nodup (Cx.N X)->(Cx.N X)[i]? =Option.some x->(Cx.N X)[j]? =Option.some y->i≠j->List.lookup x (Scope.names (Env.scope (Cx.env X)))=Option.some NameKind.local->List.lookup y (Scope.names (Env.scope (Cx.env X)))=Option.some NameKind.local->Gd X [a,b] ta->swappedStores [Expr.Tuple [Expr.Name x J,Expr.Name y O] U pt] (Expr.Tuple [a,b] k2 G) (Cx.env X)=Pure.pure (Option.some [x,y])->autoParam (swapsWithSole [Expr.Tuple [Expr.Name x J,Expr.Name y O] U pt] (Expr.Tuple [a,b] k2 G) (Pos.line pos) (Cx.env X)=Pure.pure Bool.false) L2.Afh._auto_1->Gn X (Stmt.Assign [Expr.Tuple [Expr.Name x J,Expr.Name y O] U pt] (Expr.Tuple [a,b] k2 G) pos) (Aoc i j ta):=by with_unfolding_all exact @L2.Afh
theorem Jf:∀ {X:Cx}{pos:Pos}{tg e:Expr}{te:TE}{g:TG},Bc X e te->Lr X tg g->autoParam (swapsWithSole [tg] e (Pos.line pos) (Cx.env X)=Pure.pure Bool.false) L2.Wa._auto_1->autoParam (swappedStores [tg] e (Cx.env X)=Pure.pure Option.none) L2.Wa._auto_2->autoParam (List.map (fun(x:Bool × (Value->Sem Unit)) ↦ Prod.snd x) (assignEach [tg] (Cx.env X))=[assign tg (Cx.env X)]) L2.Wa._auto_3->Gn X (Stmt.Assign [tg] e pos) (Ad8 te g):=by with_unfolding_all exact @L2.Wa
theorem Ar:∀ {X:Cx}{e:Expr}{te:TE}{pos:Pos},Bc X e te->Gn X (Stmt.Return (Option.some e) pos) (Aod te):=by with_unfolding_all exact @L2.Ak8
theorem Bp:∀ {X:Cx}{t u:TS}{pos:Pos}{c:Expr}{a b:List Stmt}{tc:TT},Jd X c tc->Hj X a t->Hj X b u->Gn X (Stmt.If c a b pos) (An8 tc t u):=by with_unfolding_all exact @L2.Anv
theorem Em:∀ {X:Cx}{e:Expr}{pos:Pos},autoParam (swapsWith e Option.none (Pos.line pos) (Cx.env X)=Pure.pure Bool.false) L2.Rn._auto_1->Ve X (Stmt.Expr e pos) e fun(x:V) (σ:St) ↦ σ:=by with_unfolding_all exact @L2.Rn
theorem Ra:∀ {X:Cx}{st:Stmt}{t:TS},Gn (Cx.nox X) st t->Gn X st t:=by with_unfolding_all exact @L2.PS.nox
theorem Gy:∀ {X:Cx}{pos:Pos}{c:Expr}{G:List Stmt}{tc:TT}{tb:TS},PassesOwn (model (Cx.prog X) (Cx.w X)) (Cx.A X) (Cx.env X) (Cx.xe X)->Jd X c tc->Hj X G tb->Gn X (Stmt.While c G [] pos) (Wo tc tb):=by with_unfolding_all exact @L2.Ady
theorem Bt:∀ {X:Cx}{tg iter:Expr}{G:List Stmt}{wi:TI}{g:TG}{tb:TS}{pos:Pos},PassesOwn (model (Cx.prog X) (Cx.w X)) (Cx.A X) (Cx.env X) (Cx.xe X)->Cx.calm X=Bool.true->K9 X tg iter wi->Lr X tg g->Hj X G tb->autoParam (∀(x:Value),foldedSetIterable iter (Cx.env X) x=Pure.pure x) L2.Afg._auto_1->Gn X (Stmt.For tg iter G [] pos) (An7 wi g tb):=by with_unfolding_all exact @L2.Afg
theorem Dy:∀ {X:Cx}{e:Expr}{te:TE}{pos:Pos},Bc X e te->autoParam (swapsWith e Option.none (Pos.line pos) (Cx.env X)=Pure.pure Bool.false) L2.Aaw._auto_1->Gn X (Stmt.Expr e pos) (Ah0 te):=by with_unfolding_all exact @L2.Aaw
theorem Aw {b:List Stmt}{G:TS->Prop} (h:∃t,Hj X b t/\G t):∃t,L2.PSs X b t/\G t:=by
 obtain⟨t,h1,h2⟩:=h
 exact⟨t,Aiu h1,h2⟩
section
universe a b c d e f g
variable {A:Sort a}{B:A->Sort b}{C:∀x,B x->Sort c}{D:∀x y,C x y->Sort d}{E:∀x y z,D x y z->Sort e}{F:∀x y z u,E x y z u->Sort f}{I:∀x y z u v,F x y z u v->Sort g}
end
open PySem PySem.W PyProof.Rows
noncomputable def G3:Bool->Keyed->Array Keyed->Nat->Nat->Nat->StateT SortSt Sem (Option Nat):=sortPriv%PySem.Builtin.gallop
theorem Xb (left:Bool) (O:Keyed) (U:Array Keyed) (base n G:Nat):G3 left O U base n G=(do
 let beyond (i:Nat):StateT SortSt Sem (Option Bool):=do
  let x<-elem' U (base+i)
  if left then lt' x O else return (<-lt' O x).map (!·)
 let mut lastofs:=0
 let mut ofs:=1
 let mut lo:=0
 let mut hi:=0
 let some right<-beyond G | return none
 if right then
  let J:=n-G
  for _ in [0:n] do
   if ofs>=J then break
   let some more<-beyond (G+ofs) | return none
   if !more then break
   lastofs:=ofs
   ofs:=2*ofs+1
  lo:=G+lastofs+1
  hi:=G+min ofs J
 else
  let J:=G+1
  for _ in [0:n] do
   if ofs>=J then break
   let some found<-beyond (G-ofs) | return none
   if found then break
   lastofs:=ofs
   ofs:=2*ofs+1
  lo:=G+1-min ofs J
  hi:=G-lastofs
 for _ in [0:n] do
  if lo>=hi then break
  let m:=lo+(hi-lo)/2
  let some more<-beyond m | return none
  if more then lo:=m+1 else hi:=m
 return some hi):=rfl
variable {i j m:Nat}
section
variable {prog:Program}{w:World}{A:Around}{E:Value->Shared->Prop}{κ:SortKind}{it:Array Keyed}{n:Nat}{lt:Nat->Nat->Bool}{I:Shared->Prop}
noncomputable def CW (prog:Program) (w:World) (A:Around) (E:Value->Shared->Prop) (I:Shared->Prop) {α:Type} (m:StateT SortSt Sem α) (Q:α->SortSt->Prop) (st:SortSt):Prop:=
 ∀s,I s->kasC (model prog w) A E m (fun a st' s'=>I s'/\Q a st') st s
structure HC (prog:Program) (w:World) (A:Around) (I:Shared->Prop) (κ:SortKind) (it:Array Keyed) (n:Nat) (lt:Nat->Nat->Bool):Prop where
 lo:LO n lt
 ask:∀i j,i<n->j<n->i≠j->∀(C:Bool->Shared->Prop) s,I s->(∀s',I s'->C (lt i j) s')->kas_cmp prog w A κ it i j C s
section
variable {α β:Type}{st:SortSt}
theorem Ao {a:α}{Q:α->SortSt->Prop} (h:Q a st):CW prog w A E I (pure a) Q st:=fun _ i=>kasC_pure ⟨i,h⟩
theorem Ai {m:StateT SortSt Sem α}{f:α->StateT SortSt Sem β}{Q:β->SortSt->Prop} (h:CW prog w A E I m (fun a G=>CW prog w A E I (f a) Q G) st):CW prog w A E I (m>>=f) Q st:=
 fun s i=>kasC_bind (bP (h s i) (fun _ _ J=>J.2 _ J.1) fun _ _ e=>e)
theorem Cp {m:StateT SortSt Sem α}{Q J:α->SortSt->Prop} (h:CW prog w A E I m Q st) (U:∀a G,Q a G->J a G):CW prog w A E I m J st:=
 fun s i=>bP (h s i) (fun _ _ O=>⟨O.1,U _ _ O.2⟩) fun _ _ e=>e
theorem Ji {Q:SortSt->SortSt->Prop} (h:Q st st):CW prog w A E I (get:StateT SortSt Sem SortSt) Q st:=fun _ i=>kasC_get ⟨i,h⟩
theorem Fl {f:SortSt->SortSt}{Q:PUnit->SortSt->Prop} (h:Q ⟨⟩ (f st)):CW prog w A E I (modify f) Q st:=fun _ i=>kasC_modify ⟨i,h⟩
theorem Ai8 {x:SortSt}{Q:PUnit->SortSt->Prop} (h:Q ⟨⟩ x):CW prog w A E I (set x) Q st:=fun s i=>by
 show wpAny _ _ ((set x:StateT SortSt Sem PUnit).run st) _ _ s
 rw [StateT.run_set]
 exact aD ⟨i,h⟩
theorem J8 {x:String}{Q:Unit->SortSt->Prop} (h:Q () st):CW prog w A E I (liftM (rule x):StateT SortSt Sem Unit) Q st:=fun _ i=>kasC_lift (jE ⟨i,h⟩)
theorem Yy (f:Nat->β->StateT SortSt Sem (ForInStep β)) (J:List Nat->β->SortSt->Prop) (Q:β->SortSt->Prop)
 (G:∀x rest b st,J (x::rest) b st->CW prog w A E I (f x b) (fun r O=>match r with | .done W=>Q W O | .yield W=>J rest W O) st)
 (U:∀b st,J [] b st->Q b st):∀(l:List Nat) (b:β) (st:SortSt),J l b st->CW prog w A E I (forIn l b f) Q st
 | [],b,st,h=>by rw [jO];exact Ao (U _ _ h)
 | x::rest,b,st,h=>by
   rw [iC]
   refine Ai (Cp (G x rest b st h) fun r O h'=> ?_)
   cases r with
   | done W=>exact Ao h'
   | yield W=>exact Yy f J Q G U rest W O h'
theorem Ci {b:Nat}{a:Nat}{f:Nat->β->StateT SortSt Sem (ForInStep β)} (J:Nat->β->SortSt->Prop) {Q:β->SortSt->Prop}
 (G:∀i c st,i<b-a->J i c st->CW prog w A E I (f (a+i) c) (fun r O=>match r with | .done W=>Q W O | .yield W=>J (i+1) W O) st)
 (Z:∀c st,J (b-a) c st->Q c st) {c:β}{st:SortSt} (h:J 0 c st):CW prog w A E I (forIn [a:b] c f) Q st:=by
 intro s i
 refine kasC_range ?_
 refine Yy f (fun l c st=>∃i,i<=b-a/\l=range' (a+i) (b-a-i) 1/\J i c st) Q ?_ ?_ _ c st ⟨0,by omega,rfl,h⟩ s i
 . rintro x rest c st ⟨i,hi,U,hJ⟩
   have a1:i<b-a:=by
    rcases lt_or_ge i (b-a)with h' | h'
    . exact h'
    . rw [show b-a-i=0 by omega]at U
      simp at U
   obtain⟨m,hm⟩:∃m,b-a-i=m+1:=⟨b-a-i-1,by omega⟩
   rw [hm,range'_succ]at U
   obtain⟨rfl,rfl⟩:=List.cons.inj U
   refine Cp (G i c st a1 hJ) fun r O h'=> ?_
   cases r with
   | done W=>exact h'
   | yield W=>exact⟨i+1,a1,by rw [show b-a-(i+1)=m by omega];rfl,h'⟩
 . rintro c st ⟨i,hi,U,hJ⟩
   have:i=b-a:=by
    rcases lt_or_ge i (b-a)with h' | h'
    . obtain⟨m,hm⟩:∃m,b-a-i=m+1:=⟨b-a-i-1,by omega⟩
      rw [hm,range'_succ]at U
      simp at U
    . omega
   subst this
   exact Z _ _ hJ
theorem Bx {G:Array Keyed}{x:Keyed}{Q:Keyed->SortSt->Prop} (e:G[i]? =some x) (h:Q x st):CW prog w A E I (elem' G i) Q st:=by
 rw [elem'_eq,e]
 exact Ao h
theorem Akb {a:Array Nat} (h:i<a.size):(a.map (kas_item it))[i]? =some (kas_item it (aT a i)):=by
 rw [Array.getElem?_map,Af0 h]
 rfl
theorem Yz (O:HC prog w A I κ it n lt) {Q:Option Bool->SortSt->Prop} (U:kindOf st=κ) (hi:i<n) (W:j<n) (Z:i≠j) (h:Q (some (lt i j)) st):CW prog w A E I (lt' (kas_item it i) (kas_item it j)) Q st:=by
 intro s hs
 rw [lt'_eq]
 refine kasC_bind (kasC_get ?_)
 rw [U]
 exact kasC_bind (kasC_lift (fV (bP (O.ask i j hi W Z (fun c s'=>c=lt i j/\I s') s hs fun s' G=>⟨rfl,G⟩) (fun c s' J=>by obtain⟨rfl,G⟩:=J;exact kasC_pure ⟨G,h⟩) fun _ _ hF=>hF.elim)))
end
theorem LO.not (L:LO n lt)  (hi:i<n) (G:j<n) (J:i≠j) (h:lt i j=false):lt j i=true:=by
 have:=L.tri i j hi G J
 rw [h]at this
 cases e:lt j i
 . rw [e]at this
   cases this
 . rfl
theorem Ap6 {lo hi:Nat} (h:lo<hi):lo+(hi-lo)/2<hi/\lo<=lo+(hi-lo)/2:=by omega
theorem Yx (hc:HC prog w A I κ it n lt) {left:Bool}{c base G:Nat}{a:Array Nat}{st:SortSt}{Q:Option Nat->SortSt->Prop} (hk:kindOf st=κ) (hb:base+m<=a.size) (hh:G<m) (a7:c<n)
 (ha:∀i,i<m->aT a (base+i)<n/\aT a (base+i)≠c) (so:∀i j,i<j->j<m->lt (aT a (base+i)) (aT a (base+j))=true)
 (q:∀k,k<=m->(∀i,i<k->lt (aT a (base+i)) c=true)->(∀i,k<=i->i<m->lt c (aT a (base+i))=true)->Q (some k) st):CW prog w A E I (G3 left (kas_item it c) (a.map (kas_item it)) base m G) Q st:=by
 have a9:∀i,i<m->∀(Q:Option Bool->SortSt->Prop),Q (some (lt (aT a (base+i)) c)) st->CW prog w A E I (do let x<-elem' (a.map (kas_item it)) (base+i);if left=true then lt' x (kas_item it c)else do let y<-lt' (kas_item it c) x;pure (y.map (!·))) Q st:=by
  intro i hi Q hq
  obtain⟨h1,h2⟩:=ha i hi
  refine Ai (Bx (Akb (by omega)) ?_)
  cases left with
  | true=>exact Yz hc hk h1 a7 h2 hq
  | false=>
    refine Ai (Yz hc hk a7 h1 (cC h2) (Ao ?_))
    have:=hc.lo.tri (aT a (base+i)) c h1 a7 h2
    rw [this]at hq
    exact hq
 have dn:∀i j,i<=j->j<m->lt (aT a (base+j)) c=true->lt (aT a (base+i)) c=true:=fun i j aa hj h=>by
  rcases Nat.eq_or_lt_of_le aa with e | e
  . rw [e]
    exact h
  . exact hc.lo.trans _ _ _ (ha i (by omega)).1 (ha j hj).1 a7 (so i j e hj) h
 have up:∀i j,i<=j->j<m->lt (aT a (base+i)) c=false->lt c (aT a (base+j))=true:=fun i j aa hj h=>by
  refine hc.lo.not (ha j hj).1 a7 (ha j hj).2 ?_
  cases e:lt (aT a (base+j)) c
  . rfl
  . rw [dn i j aa hj e]at h
    cases h
 have tt:∀b:Bool,b≠true->b=false:=fun b h=>by
  cases b
  . rfl
  . exact absurd rfl h
 have bin:∀lo hi,lo<=hi->hi<=m->(∀i,i<lo->lt (aT a (base+i)) c=true)->(∀i,hi<=i->i<m->lt c (aT a (base+i))=true)->
  CW prog w A E I (do
   let mut l:=lo
   let mut h:=hi
   for _ in [0:m] do
    if l>=h then break
    let some more<-(do let x<-elem' (a.map (kas_item it)) (base+(l+(h-l)/2));if left then lt' x (kas_item it c)else return (<-lt' (kas_item it c) x).map (!·)) | return none
    if more then l:=l+(h-l)/2+1 else h:=l+(h-l)/2
   return some h) Q st:=by
  intro lo hi h1 h2 h3 h4
  dsimp only
  refine Ai (Cp (Ci (J:=fun i z O=>O=st/\∃l h,z=(none,l,h)/\l<=h/\h<=m/\h-l<=m-i/\(∀i,i<l->lt (aT a (base+i)) c=true)/\(∀i,h<=i->i<m->lt c (aT a (base+i))=true))
   (Q:=fun z O=>O=st/\∃k,z=(none,k,k)/\k<=m/\(∀i,i<k->lt (aT a (base+i)) c=true)/\(∀i,k<=i->i<m->lt c (aT a (base+i))=true)) ?_ ?_ ⟨rfl,lo,hi,rfl,h1,h2,by omega,h3,h4⟩) ?_)
  . rintro i z O ac ⟨rfl,l,h,rfl,a1,a2,W,U,Z⟩
    dsimp only
    by_cases e:l>=h
    . rw [aI e]
      have:l=h:=by omega
      subst this
      exact Ao ⟨rfl,l,rfl,a2,U,Z⟩
    . rw [aF e]
      obtain⟨d1,d2⟩:=Ap6 (Nat.lt_of_not_le e)
      refine Ai (a9 _ (by omega) _ ?_)
      dsimp only
      split
      . rename_i g
        exact Ao ⟨rfl,_,_,rfl,by omega,a2,by omega,fun i hi=>dn i _ (by omega) (by omega) g,Z⟩
      . rename_i g
        exact Ao ⟨rfl,_,_,rfl,by omega,by omega,by omega,U,fun i hi a8=>up _ i hi a8 (tt _ g)⟩
  . rintro z O ⟨rfl,l,h,rfl,a1,a2,W,U,Z⟩
    have:l=h:=by omega
    subst this
    exact⟨rfl,l,rfl,a2,U,Z⟩
  . rintro z O ⟨rfl,k,rfl,a2,U,Z⟩
    exact Ao (q k a2 U Z)
 rw [Xb]
 dsimp only
 refine Ai (a9 G hh _ ?_)
 dsimp only
 split
 . rename_i g
   refine Ai (Cp (Ci (J:=fun i z O=>O=st/\∃l o,z=(none,l,o)/\l<o/\i+1<=o/\G+l<m/\lt (aT a (base+(G+l))) c=true)
    (Q:=fun z O=>O=st/\∃l o,z=(none,l,o)/\l<o/\G+l<m/\lt (aT a (base+(G+l))) c=true/\(m-G<=o\/G+o<m/\lt (aT a (base+(G+o))) c=false)) ?_ ?_ ⟨rfl,0,1,rfl,by omega,by omega,hh,g⟩) ?_)
   . rintro i z O ac ⟨rfl,l,o,rfl,a1,a2,W,U⟩
     dsimp only
     by_cases e:o>=m-G
     . rw [aI e]
       exact Ao ⟨rfl,l,o,rfl,a1,W,U,.inl e⟩
     . rw [aF e]
       refine Ai (a9 _ (by omega) _ ?_)
       dsimp only
       split
       . rename_i g2
         exact Ao ⟨rfl,l,o,rfl,a1,W,U,.inr ⟨by omega,by simpa using g2⟩⟩
       . rename_i g2
         exact Ao ⟨rfl,o,2*o+1,rfl,by omega,by omega,by omega,by simpa using g2⟩
   . rintro z O ⟨rfl,l,o,rfl,a1,a2,W,U⟩
     exact⟨rfl,l,o,rfl,a1,W,U,.inl (by omega)⟩
   . rintro z O ⟨rfl,l,o,rfl,a1,W,U,Z⟩
     dsimp only
     refine bin (G+l+1) (G+min o (m-G)) (by omega) (by omega) (fun i hi=>dn i (G+l) (by omega) W U) fun i hi a8=> ?_
     rcases Z with Z | ⟨Z,a6⟩
     . omega
     . exact up (G+o) i (by omega) a8 a6
 . rename_i g
   refine Ai (Cp (Ci (J:=fun i z O=>O=st/\∃l o,z=(none,l,o)/\l<o/\i+1<=o/\l<=G/\lt (aT a (base+(G-l))) c=false)
    (Q:=fun z O=>O=st/\∃l o,z=(none,l,o)/\l<o/\l<=G/\lt (aT a (base+(G-l))) c=false/\(G+1<=o\/o<=G/\lt (aT a (base+(G-o))) c=true)) ?_ ?_ ⟨rfl,0,1,rfl,by omega,by omega,by omega,tt _ g⟩) ?_)
   . rintro i z O ac ⟨rfl,l,o,rfl,a1,a2,W,U⟩
     dsimp only
     by_cases e:o>=G+1
     . rw [aI e]
       exact Ao ⟨rfl,l,o,rfl,a1,W,U,.inl e⟩
     . rw [aF e]
       refine Ai (a9 _ (by omega) _ ?_)
       dsimp only
       split
       . rename_i g2
         exact Ao ⟨rfl,l,o,rfl,a1,W,U,.inr ⟨by omega,g2⟩⟩
       . rename_i g2
         exact Ao ⟨rfl,o,2*o+1,rfl,by omega,by omega,by omega,tt _ g2⟩
   . rintro z O ⟨rfl,l,o,rfl,a1,a2,W,U⟩
     exact⟨rfl,l,o,rfl,a1,W,U,.inl (by omega)⟩
   . rintro z O ⟨rfl,l,o,rfl,a1,W,U,Z⟩
     dsimp only
     refine bin (G+1-min o (G+1)) (G-l) (by omega) (by omega) (fun i hi=> ?_) fun i hi a8=>up (G-l) i hi a8 U
     rcases Z with Z | ⟨Z,a6⟩
     . omega
     . exact dn i (G-o) (by omega) (by omega) a6
end
noncomputable def Qa:Array Keyed->Array Keyed->StateT SortSt Sem (Array Keyed):=sortPriv%PySem.Builtin.mergeLo
noncomputable def P0:Array Keyed->Array Keyed->StateT SortSt Sem (Array Keyed):=sortPriv%PySem.Builtin.mergeHi
noncomputable def setG (st:SortSt) (g:Nat):SortSt:=SortSt.mk' (kindOf st) (arrOf st) (pendingOf st) g (failedOf st)
noncomputable def Dl:Nat->StateT SortSt Sem Unit:=sortPriv%PySem.Builtin.setMinGallop
theorem Le (g:Nat):Dl g=modify fun s=>setG s g:=rfl
theorem Ui (a b:Array Keyed):Qa a b=(do
 rule "list.sort.merge-lo"
 let O:=a.size+b.size
 let done (out:Array Keyed) (G J:Nat):=out++a.extract G a.size++b.extract J b.size
 let lastOfA (out:Array Keyed) (G J:Nat):=out++b.extract J b.size++a.extract G a.size
 let mut out:Array Keyed:= #[<-elem' b 0]
 let mut G:=0
 let mut J:=1
 if J==b.size then return done out G J
 if G+1==a.size then return lastOfA out G J
 let mut minGallop:=gallopOf (<-get)
 for _ in [0:O] do
  let mut acount:=0
  let mut bcount:=0
  for _ in [0:O] do
   let some bWins<-lt' (<-elem' b J) (<-elem' a G) | return done out G J
   if bWins then
    out:=out.push (<-elem' b J);J:=J+1;bcount:=bcount+1;acount:=0
    if J==b.size then return done out G J
    if bcount>=minGallop then break
   else
    out:=out.push (<-elem' a G);G:=G+1;acount:=acount+1;bcount:=0
    if G+1==a.size then return lastOfA out G J
    if acount>=minGallop then break
  rule "list.sort.gallop"
  minGallop:=minGallop+1
  for _ in [0:O] do
   if minGallop>1 then minGallop:=minGallop-1
   Dl minGallop
   let some k<-G3 false (<-elem' b J) a G (a.size-G) 0 | return done out G J
   acount:=k
   if k>0 then
    out:=out++a.extract G (G+k);G:=G+k
    if G+1==a.size then return lastOfA out G J
    if G==a.size then return done out G J
   out:=out.push (<-elem' b J);J:=J+1
   if J==b.size then return done out G J
   let some k<-G3 true (<-elem' a G) b J (b.size-J) 0 | return done out G J
   bcount:=k
   if k>0 then
    out:=out++b.extract J (J+k);J:=J+k
    if J==b.size then return done out G J
   out:=out.push (<-elem' a G);G:=G+1
   if G+1==a.size then return lastOfA out G J
   if acount<7&&bcount<7 then break
  minGallop:=minGallop+1
  Dl minGallop
 unsupported "internal:list.sort.merge-bound"):=rfl
theorem Uh (a b:Array Keyed):P0 a b=(do
 rule "list.sort.merge-hi"
 let O:=a.size+b.size
 let done (out:Array Keyed) (G J:Nat):=a.extract 0 G++b.extract 0 J++out.reverse
 let firstOfB (out:Array Keyed) (G J:Nat):=b.extract 0 J++a.extract 0 G++out.reverse
 let mut G:=a.size-1
 let mut J:=b.size
 let mut out:Array Keyed:= #[<-elem' a G]
 if G==0 then return done out G J
 if J==1 then return firstOfB out G J
 let mut minGallop:=gallopOf (<-get)
 for _ in [0:O] do
  let mut acount:=0
  let mut bcount:=0
  for _ in [0:O] do
   let some aWins<-lt' (<-elem' b (J-1)) (<-elem' a (G-1)) | return done out G J
   if aWins then
    G:=G-1;out:=out.push (<-elem' a G);acount:=acount+1;bcount:=0
    if G==0 then return done out G J
    if acount>=minGallop then break
   else
    J:=J-1;out:=out.push (<-elem' b J);bcount:=bcount+1;acount:=0
    if J==1 then return firstOfB out G J
    if bcount>=minGallop then break
  rule "list.sort.gallop"
  minGallop:=minGallop+1
  for _ in [0:O] do
   if minGallop>1 then minGallop:=minGallop-1
   Dl minGallop
   let some at_<-G3 false (<-elem' b (J-1)) a 0 G (G-1) | return done out G J
   let k:=G-at_
   acount:=k
   if k>0 then
    out:=out++(a.extract at_ G).reverse;G:=at_
    if G==0 then return done out G J
   J:=J-1;out:=out.push (<-elem' b J)
   if J==1 then return firstOfB out G J
   let some at_<-G3 true (<-elem' a (G-1)) b 0 J (J-1) | return done out G J
   let k:=J-at_
   bcount:=k
   if k>0 then
    out:=out++(b.extract at_ J).reverse;J:=at_
    if J==1 then return firstOfB out G J
    if J==0 then return done out G J
   G:=G-1;out:=out.push (<-elem' a G)
   if G==0 then return done out G J
   if acount<7&&bcount<7 then break
  minGallop:=minGallop+1
  Dl minGallop
 unsupported "internal:list.sort.merge-bound"):=rfl
section
variable {it:Array Keyed}{n:Nat}{lt:Nat->Nat->Bool}
noncomputable def im (it:Array Keyed) (l:List Nat):Array Keyed:=(l.map (kas_item it)).toArray
theorem Ds (l:List Nat):(im it l).size=l.length:=by simp [im]
theorem K4 (l r:List Nat):im it l++im it r=im it (l++r):=by simp [im]
theorem Ht (l:List Nat) (j:Nat):(im it l).push (kas_item it j)=im it (l++ [j]):=by simp [im]
theorem Aez (j:Nat): #[kas_item it j]=im it [j]:=by simp [im]
theorem La (X x:List Nat) (j:Nat):(im it (X++j::x))[X.length]? =some (kas_item it j):=by simp [im]
theorem Kc (X x:List Nat):(im it (X++x)).extract X.length (im it (X++x)).size=im it x:=by
 apply gX.mp
 simp [im,kR]
theorem Vt (X u x:List Nat):(im it (X++(u++x))).extract X.length (X.length+u.length)=im it u:=by
 apply gX.mp
 simp [im]
noncomputable abbrev LT (lt:Nat->Nat->Bool) (i j:Nat):Prop:=lt i j=true
structure MP (n:Nat) (lt:Nat->Nat->Bool) (A B:List Nat):Prop where
 lo:LO n lt
 sa:A.Pairwise (LT lt)
 sb:B.Pairwise (LT lt)
 ba:∀i∈A,i<n
 bb:∀i∈B,i<n
 ne:∀i∈A,∀j∈B,i≠j
 fst:∀i∈A,∀j y,B=j::y->lt j i=true
 lst:∀j∈B,∀X i,A=X++ [i]->lt j i=true
structure MS (lt:Nat->Nat->Bool) (A B o X x Y y:List Nat):Prop where
 ea:A=X++x
 eb:B=Y++y
 pm:(o++(x++y)).Perm (A++B)
 so:(o++x).Pairwise (LT lt)
 s2:(o++y).Pairwise (LT lt)
 ln:o.length=X.length+Y.length
variable {A B o X x Y y:List Nat}
theorem MS.appA {u:List Nat} (h:MS lt A B o X (u++x) Y y) (l:∀i∈u,∀j∈y,lt i j=true):MS lt A B (o++u) (X++u) x Y y:=by
 refine⟨by rw [h.ea];simp,h.eb,?_,?_,?_,?_⟩
 . have:=h.pm
   simpa using this
 . have:=h.so
   simpa using this
 . have h1:=aX.mp h.so
   have h2:=aX.mp h.s2
   have J:=aX.mp h1.2.1
   refine aX.mpr ⟨aX.mpr ⟨h1.1,J.1,fun i hi j G=>h1.2.2 i hi j (bK _ G)⟩,h2.2.1,fun i hi j G=> ?_⟩
   rcases bG.mp hi with e | e
   . exact h2.2.2 i e j G
   . exact l i e j G
 . have:=h.ln
   simp only [aH]
   omega
theorem MS.appB {u:List Nat} (h:MS lt A B o X x Y (u++y)) (l:∀j∈u,∀i∈x,lt j i=true):MS lt A B (o++u) X x (Y++u) y:=by
 refine⟨h.ea,by rw [h.eb];simp,?_,?_,?_,?_⟩
 . refine Perm.trans ?_ h.pm
   simp only [cK]
   refine eI _ ?_
   rw [<-cK,<-cK]
   exact iO _ iR
 . have h1:=aX.mp h.so
   have h2:=aX.mp h.s2
   have J:=aX.mp h2.2.1
   refine aX.mpr ⟨aX.mpr ⟨h1.1,J.1,fun i hi j G=>h2.2.2 i hi j (bK _ G)⟩,h1.2.1,fun i hi j G=> ?_⟩
   rcases bG.mp hi with e | e
   . exact h1.2.2 i e j G
   . exact l i e j G
 . have:=h.s2
   simpa using this
 . have:=h.ln
   simp only [aH]
   omega
noncomputable def Fi (it:Array Keyed) (lt:Nat->Nat->Bool) (A B:List Nat) (r:Array Keyed):Prop:=∃z:List Nat,r=im it z/\z.Perm (A++B)/\z.Pairwise (LT lt)
theorem MS.finB (h:MS lt A B o X x Y []):Fi it lt A B (im it o++(im it A).extract X.length (im it A).size++(im it B).extract Y.length (im it B).size):=by
 refine⟨o++x,?_,by simpa using h.pm,h.so⟩
 rw [h.ea,Kc,h.eb,Kc]
 simp [im]
theorem MS.finA (h:MS lt A B o X [] Y y):Fi it lt A B (im it o++(im it A).extract X.length (im it A).size++(im it B).extract Y.length (im it B).size):=by
 refine⟨o++y,?_,by simpa using h.pm,h.s2⟩
 rw [h.ea,Kc,h.eb,Kc]
 simp [im]
theorem MS.finL {t:Nat} (P:MP n lt A B) (h:MS lt A B o X [t] Y y):Fi it lt A B (im it o++(im it B).extract Y.length (im it B).size++(im it A).extract X.length (im it A).size):=by
 refine⟨o++(y++ [t]),?_,?_,?_⟩
 . rw [h.ea,Kc,h.eb,Kc]
   simp [im]
 . refine Perm.trans ?_ h.pm
   exact eI _ iR
 . have h1:=aX.mp h.so
   have h2:=aX.mp h.s2
   rw [<-cK]
   refine aX.mpr ⟨h.s2,kJ _ _,fun i hi j G=> ?_⟩
   rcases bG.mp hi with e | e
   . exact h1.2.2 i e j G
   . rw [bA.mp G]
     exact P.lst i (by rw [h.eb];exact bD _ e) X t h.ea
theorem MS.mx (h:MS lt A B o X x Y y)  (hi:i∈x):i∈A:=by rw [h.ea];exact bD _ hi
theorem MS.my (h:MS lt A B o X x Y y)  (hi:i∈y):i∈B:=by rw [h.eb];exact bD _ hi
theorem MS.headB (P:MP n lt A B)  (h:MS lt A B o X (i::x) Y (j::y)) (l:lt j i=true):∀k∈i::x,lt j k=true:=fun k G=>by
 rcases aS.mp G with rfl | e
 . exact l
 . have h1:=(cU.mp (aX.mp h.so).2.1).1 k e
   exact P.lo.trans _ _ _ (P.bb _ (h.my (.head _))) (P.ba _ (h.mx (.head _))) (P.ba _ (h.mx G)) l h1
theorem MS.headA (P:MP n lt A B)  (h:MS lt A B o X (i::x) Y (j::y)) (l:lt i j=true):∀k∈j::y,lt i k=true:=fun k G=>by
 rcases aS.mp G with rfl | e
 . exact l
 . have h1:=(cU.mp (aX.mp h.s2).2.1).1 k e
   exact P.lo.trans _ _ _ (P.ba _ (h.mx (.head _))) (P.bb _ (h.my (.head _))) (P.bb _ (h.my G)) l h1
theorem MP.start (P:MP n lt A B):MS lt A B [] [] A [] B:=⟨rfl,rfl,by simp,P.sa,P.sb,rfl⟩
end
variable {B:List Nat}
section
variable {prog:Program}{w:World}{A:Around}{E:Value->Shared->Prop}{κ:SortKind}{it:Array Keyed}{n:Nat}{lt:Nat->Nat->Bool}{I:Shared->Prop}
theorem Oi (hc:HC prog w A I κ it n lt) {left:Bool}{c G:Nat}{l X S Y:List Nat}{st:SortSt}{Q:Option Nat->SortSt->Prop} (hk:kindOf st=κ) (el:l=X++(S++Y)) (hm:m=S.length) (hh:G<m) (O:c<n)
 (ha:∀i∈S,i<n/\i≠c) (so:S.Pairwise (LT lt)) (q:∀u v,S=u++v->(∀i∈u,lt i c=true)->(∀i∈v,lt c i=true)->Q (some u.length) st):
 CW prog w A E I (G3 left (kas_item it c) (im it l) X.length m G) Q st:=by
 subst el
 have e:im it (X++(S++Y))=((X++(S++Y)).toArray).map (kas_item it):=by simp [im]
 have g:∀i (hi:i<S.length),aT (X++(S++Y)).toArray (X.length+i)=S[i]:=fun i hi=>by
  unfold aT
  simp [Array.getD_eq_getD_getElem?,dI,hi]
  rw [aF (by omega)]
  rfl
 rw [e]
 subst hm
 refine Yx hc hk (by simp) hh O (fun i hi=>by rw [g i hi];exact ha _ (cS hi)) (fun i j U W=>by rw [g i (by omega),g j W];exact bI.mp so i j _ _ U) fun k Z a1 a2=> ?_
 have:=q (S.take k) (S.drop k) (dE k S).symm (fun i hi=> ?_) fun i hi=> ?_
 . rwa [bV,kY Z]at this
 . obtain⟨j,W,rfl⟩:=List.mem_take_iff_getElem.mp hi
   have J:j<k/\j<S.length:=by omega
   have:=a1 j J.1
   rwa [g j J.2]at this
 . obtain⟨j,W,rfl⟩:=List.mem_drop_iff_getElem.mp hi
   have:=a2 (k+j) (iT _ _) (by omega)
   rwa [g _ (by omega)]at this
structure LI (it:Array Keyed) (lt:Nat->Nat->Bool) (A B:List Nat) (k:Nat) (out:Array Keyed) (ia ib:Nat):Prop where
 ex:∃o X x Y y,out=im it o/\ia=X.length/\ib=Y.length/\MS lt A B o X x Y y/\2<=x.length/\1<=y.length/\k<=o.length
noncomputable def SgS (st st':SortSt):Prop:=∃g,st'=setG st g
theorem Ph {g:Nat}{st G:SortSt}{Q:Unit->SortSt->Prop} (h:SgS st G) (q:∀G,SgS st G->Q () G):CW prog w A E I (Dl g) Q G:=by
 obtain⟨J,rfl⟩:=h
 rw [Le]
 exact Fl (q _ ⟨g,rfl⟩)
theorem sz0 {a X x:List Nat} (e:a=X++x):(X.length==(im it a).size)=true↔x=[]:=by
 rw [Ds,e]
 cases x<;>simp
theorem sz1 {a X x:List Nat} (e:a=X++x):(X.length+1==(im it a).size)=true↔x.length=1:=by
 rw [Ds,e]
 simp
 omega
theorem sz_ {a X x:List Nat} (e:a=X++x):(im it a).size-X.length=x.length:=by
 rw [Ds,e]
 simp
theorem len1 (Y:List Nat) (j:Nat):Y.length+1=(Y++ [j]).length:=by simp
theorem Aog {x:List Nat} (h:2<=x.length):∃i G J,x=i::G::J:=by
 cases x with
 | nil=>simp at h
 | cons i x=>
   cases x with
   | nil=>simp at h
   | cons G J=>exact⟨i,G,J,rfl⟩
theorem Adl {x:List Nat} (h:1<=x.length):∃i G,x=i::G:=by
 cases x with
 | nil=>simp at h
 | cons i x=>exact⟨i,x,rfl⟩
theorem SgS.kind {st G:SortSt} (h:SgS st G) (J:kindOf st=κ):kindOf G=κ:=by
 obtain⟨g,rfl⟩:=h
 exact J
theorem W8 (hc:HC prog w A I κ it n lt) {a b:List Nat}{st:SortSt}{Q:Array Keyed->SortSt->Prop} (Z:kindOf st=κ) (P:MP n lt a b) (ha:a≠ []) (hb:b≠ [])
 (q:∀r G,SgS st G->Fi it lt a b r->Q r G):CW prog w A E I (Qa (im it a) (im it b)) Q st:=by
 obtain⟨j0,y0,rfl⟩:∃j y,b=j::y:=by
  cases b with
  | nil=>exact absurd rfl hb
  | cons j y=>exact⟨j,y,rfl⟩
 obtain⟨i0,x0,rfl⟩:∃i x,a=i::x:=by
  cases a with
  | nil=>exact absurd rfl ha
  | cons i x=>exact⟨i,x,rfl⟩
 generalize hA:i0::x0=a at*
 generalize hB:j0::y0=b at*
 have m1:MS lt a b [j0] [] a [j0] y0:=by
  have m0:MS lt a b [] [] a [] ([j0]++y0):=by
   rw [show [j0]++y0=b from hB]
   exact P.start
  have:=m0.appB fun j hj i hi=>by
   rw [bA.mp hj]
   exact P.fst i hi j0 y0 hB.symm
  simpa using this
 rw [Ui]
 dsimp only
 refine Ai (J8 ?_)
 refine Ai (Bx (x:=kas_item it j0) (by rw [<-hB];exact La [] y0 j0) ?_)
 rw [Aez]
 by_cases cy:y0=[]
 . subst cy
   rw [aI (by rw [Ds,<-hB];rfl)]
   exact Ao (q _ _ ⟨gallopOf st,rfl⟩ (m1.finB (it:=it)))
 rw [aF (by rw [Ds,<-hB];cases y0 with | nil=>exact absurd rfl cy | cons _ _=>simp)]
 by_cases cx:x0=[]
 . subst cx
   rw [aI (by rw [Ds,<-hA];rfl)]
   rw [<-hA]at m1
   have:=m1.finL (it:=it) (by rw [hA];exact P)
   rw [hA]at this
   exact Ao (q _ _ ⟨gallopOf st,rfl⟩ this)
 rw [aF (by rw [Ds,<-hA];cases x0 with | nil=>exact absurd rfl cx | cons _ _=>simp)]
 refine Ai (Ji ?_)
 have l2:2<=a.length:=by
  rw [<-hA]
  cases x0 with
  | nil=>exact absurd rfl cx
  | cons _ _=>simp
 have l1:1<=y0.length:=by
  cases y0 with
  | nil=>exact absurd rfl cy
  | cons _ _=>simp
 refine Ai (Cp (Ci (J:=fun i z G=>SgS st G/\z.1=none/\LI it lt a b (i+1) z.2.1 z.2.2.1 z.2.2.2.1) (Q:=fun z G=>SgS st G/\∃r,z.1=some r/\Fi it lt a b r) ?_ ?_
  ⟨⟨_,rfl⟩,rfl,[j0],[],a,[j0],y0,rfl,rfl,rfl,m1,l2,l1,aL _⟩) ?_)
 . rintro i0 ⟨r0,a4,ia,ib,g⟩ G an ⟨U,e,o,X,x,Y,y,e1,e2,e3,ms,h2,h1,hl⟩
   dsimp only at e e1 e2 e3 ⊢
   subst e e1 e2 e3
   refine Ai (Cp (Ci (J:=fun i z G=>SgS st G/\z.1=none/\LI it lt a b (i0+1+i) z.2.1 z.2.2.1 z.2.2.2.1)
    (Q:=fun z G=>SgS st G/\((∃r,z.1=some r/\Fi it lt a b r)\/z.1=none/\LI it lt a b (i0+2) z.2.1 z.2.2.1 z.2.2.2.1)) ?_ ?_ ⟨U,rfl,o,X,x,Y,y,rfl,rfl,rfl,ms,h2,h1,hl⟩) ?_)
   . rintro i1 ⟨r0,a4,ia,ib,ac,bc⟩ a5 ak ⟨U,e,o,X,x,Y,y,e1,e2,e3,ms,h2,h1,hl⟩
     dsimp only at e e1 e2 e3 ⊢
     subst e e1 e2 e3
     obtain⟨i,i',x',rfl⟩:=Aog h2
     obtain⟨j,y',rfl⟩:=Adl h1
     have jn:=P.bb j (ms.my (.head _))
     have a6:=P.ba i (ms.mx (.head _))
     have ai:=P.ne i (ms.mx (.head _)) j (ms.my (.head _))
     refine Ai (Bx (by rw [ms.eb];exact La Y y' j) (Ai (Bx (by rw [ms.ea];exact La X (i'::x') i) (Ai (Yz hc (U.kind Z) jn a6 (cC ai) ?_)))))
     dsimp only
     split
     . rename_i l
       have O:MS lt a b (o++ [j]) X (i::i'::x') (Y++ [j]) y':=MS.appB (u:=[j]) ms fun k Z=>by
        rw [bA.mp Z]
        exact ms.headB P l
       have ey:Y.length+1=(Y++ [j]).length:=by simp
       refine Ai (Bx (by rw [ms.eb];exact La Y y' j) ?_)
       rw [Ht,ey]
       split
       . rename_i c
         have:=(sz0 O.eb).mp c
         subst this
         exact Ao ⟨U,.inl ⟨_,rfl,O.finB⟩⟩
       . rename_i c
         have hy:1<=y'.length:=fX fun z=>c ((sz0 O.eb).mpr (aR z))
         split
         . exact Ao ⟨U,.inr ⟨rfl,_,_,_,_,_,rfl,rfl,rfl,O,h2,hy,by simp;omega⟩⟩
         . exact Ao ⟨U,rfl,_,_,_,_,_,rfl,rfl,rfl,O,h2,hy,by simp;omega⟩
     . rename_i l
       have l':=hc.lo.not jn a6 (cC ai) (by simpa using l)
       have O:MS lt a b (o++ [i]) (X++ [i]) (i'::x') Y (j::y'):=MS.appA (u:=[i]) ms fun k Z=>by
        rw [bA.mp Z]
        exact ms.headA P l'
       have ex:X.length+1=(X++ [i]).length:=by simp
       refine Ai (Bx (by rw [ms.ea];exact La X (i'::x') i) ?_)
       rw [Ht,ex]
       split
       . rename_i c
         have:=(sz1 O.ea).mp c
         have hx:x'=[]:=aR (by simpa using this)
         subst hx
         exact Ao ⟨U,.inl ⟨_,rfl,O.finL P⟩⟩
       . rename_i c
         have hx:2<=(i'::x').length:=by
          have:(i'::x').length≠1:=fun z=>c ((sz1 O.ea).mpr z)
          simp only [bH]at this ⊢
          omega
         split
         . exact Ao ⟨U,.inr ⟨rfl,_,_,_,_,_,rfl,rfl,rfl,O,hx,h1,by simp;omega⟩⟩
         . exact Ao ⟨U,rfl,_,_,_,_,_,rfl,rfl,rfl,O,hx,h1,by simp;omega⟩
   . rintro⟨r0,a4,ia,ib,ac,bc⟩ a5 ⟨U,e,o,X,x,Y,y,e1,e2,e3,ms,h2,h1,hl⟩
     have a1:=bE length ms.ea
     simp only [aH]at a1
     rw [Ds,Ds]at hl
     exact⟨U,.inr ⟨e,o,X,x,Y,y,e1,e2,e3,ms,h2,h1,by omega⟩⟩
   . rintro⟨r0,a4,ia,ib,ac,bc⟩ a5 ⟨U,⟨r,e,hf⟩ | ⟨e,o,X,x,Y,y,e1,e2,e3,ms,h2,h1,hl⟩⟩
     . dsimp only at e ⊢
       subst e
       exact Ao ⟨U,r,rfl,hf⟩
     dsimp only at e e1 e2 e3 ⊢
     subst e e1 e2 e3
     dsimp only
     refine Ai (J8 ?_)
     refine Ai (Cp (Ci (J:=fun i z G=>SgS st G/\z.1=none/\LI it lt a b (i0+2) z.2.1 z.2.2.1 z.2.2.2.1)
      (Q:=fun z G=>SgS st G/\((∃r,z.1=some r/\Fi it lt a b r)\/z.1=none/\LI it lt a b (i0+2) z.2.1 z.2.2.1 z.2.2.2.1)) ?_ ?_ ⟨U,rfl,o,X,x,Y,y,rfl,rfl,rfl,ms,h2,h1,hl⟩) ?_)
     . rintro i1 ⟨r0,a4,ia,ib,g,ac,bc⟩ a5 ak ⟨U,e,o,X,x,Y,y,e1,e2,e3,ms,h2,h1,hl⟩
       dsimp only at e e1 e2 e3 ⊢
       subst e e1 e2 e3
       obtain⟨j,y',rfl⟩:=Adl h1
       have jn:=P.bb j (ms.my (.head _))
       rcases eN (g>1)with cg | cg
       all_goals
        first | rw [aI cg] | rw [aF cg]
        refine Ai (Ph U fun al W=> ?_)
        refine Ai (Bx (by rw [ms.eb];exact La Y y' j) (Ai (Oi hc (W.kind Z) (S:=x) (Y:=[]) (by rw [ms.ea];simp) (sz_ ms.ea) (by rw [sz_ ms.ea];omega) jn (fun i hi=>⟨P.ba i (ms.mx hi),P.ne i (ms.mx hi) j (ms.my (.head _))⟩) (aX.mp ms.so).2.1 fun u v ae hu hv=> ?_)))
        dsimp only
        subst ae
        have O:MS lt a b (o++u) (X++u) v Y (j::y'):=ms.appA fun k Z k2 a7=>by
         rcases aS.mp a7 with rfl | e
         . exact hu k Z
         . exact P.lo.trans _ _ _ (P.ba _ (ms.mx (bK _ Z))) jn (P.bb _ (ms.my a7)) (hu k Z) ((cU.mp (aX.mp ms.s2).2.1).1 k2 e)
        have ex:X.length+u.length=(X++u).length:=by simp
        by_cases cu:u.length>0
        case' pos=>
         rw [aI cu]
         have em:im it o++(im it a).extract X.length (X.length+u.length)=im it (o++u):=by rw [ms.ea,Vt,K4]
         rw [em,ex]
         rcases eN (((X++u).length+1==(im it a).size)=true)with c | c1
         . rw [aI c]
           have aa:=(sz1 O.ea).mp c
           obtain⟨t,v',rfl⟩:=Adl (fZ aa.symm)
           have af:v'=[]:=aR (by simpa using aa)
           subst af
           exact Ao ⟨W,.inl ⟨_,rfl,O.finL P⟩⟩
         rw [aF c1]
         rcases eN (((X++u).length==(im it a).size)=true)with c | c2
         . rw [aI c]
           have:=(sz0 O.ea).mp c
           subst this
           exact Ao ⟨W,.inl ⟨_,rfl,O.finA⟩⟩
         rw [aF c2]
         have aj:2<=v.length:=by
          have a1:v.length≠1:=fun z=>c1 ((sz1 O.ea).mpr z)
          have a2:v.length≠0:=fun z=>c2 ((sz0 O.ea).mpr (aR z))
          omega
         have a8:i0+2<=(o++u).length:=by simp;omega
         clear em ex ms c1 c2 hl hu h2
         revert O a8
         generalize o++u=o2
         generalize X++u=X2
         intro O a8
        case' neg=>
         rw [aF cu]
         have ag:u=[]:=aR (by omega)
         subst ag
         have aj:2<=v.length:=h2
         have a8:=hl
         simp only [bT]at O
         clear ex ms hl hu h2
         revert O a8
         generalize o=o2
         generalize X=X2
         intro a8 O
        all_goals
         refine Ai (Bx (by rw [O.eb];exact La Y y' j) ?_)
         have m3:MS lt a b (o2++ [j]) X2 v (Y++ [j]) y':=MS.appB (u:=[j]) O (by intro k Z;rw [bA.mp Z];exact hv)
         rw [Ht,len1 Y j]
         rcases eN (((Y++ [j]).length==(im it b).size)=true)with c | c3
         . rw [aI c]
           have:=(sz0 m3.eb).mp c
           subst this
           exact Ao ⟨W,.inl ⟨_,rfl,m3.finB⟩⟩
         rw [aF c3]
         obtain⟨i,i',v',rfl⟩:=Aog aj
         have a6:=P.ba i (m3.mx (.head _))
         have hy:0<y'.length:=fX fun z=>c3 ((sz0 m3.eb).mpr (aR z))
         refine Ai (Bx (by rw [m3.ea];exact La X2 (i'::v') i) (Ai (Oi hc (W.kind Z) (S:=y') (Y:=[]) (by rw [m3.eb];simp) (sz_ m3.eb) (by rw [sz_ m3.eb];exact hy) a6 (fun k Z=>⟨P.bb k (m3.my Z),(P.ne i (m3.mx (.head _)) k (m3.my Z)).symm⟩) (aX.mp m3.s2).2.1 fun u3 v3 ae ad am=> ?_)))
         dsimp only
         subst ae
         have m4:MS lt a b (o2++ [j]++u3) X2 (i::i'::v') (Y++ [j]++u3) v3:=m3.appB fun k Z k2 a7=>by
          rcases aS.mp a7 with rfl | e
          . exact ad k Z
          . exact P.lo.trans _ _ _ (P.bb _ (m3.my (bK _ Z))) a6 (P.ba _ (m3.mx a7)) (ad k Z) ((cU.mp (aX.mp m3.so).2.1).1 k2 e)
         by_cases c4:u3.length>0
         case' pos=>
          rw [aI c4]
          have em:im it (o2++ [j])++(im it b).extract (Y++ [j]).length ((Y++ [j]).length+u3.length)=im it (o2++ [j]++u3):=by rw [m3.eb,Vt,K4]
          rw [em,show(Y++ [j]).length+u3.length=(Y++ [j]++u3).length from(aH).symm]
          rcases eN (((Y++ [j]++u3).length==(im it b).size)=true)with c | c5
          . rw [aI c]
            have:=(sz0 m4.eb).mp c
            subst this
            exact Ao ⟨W,.inl ⟨_,rfl,m4.finB⟩⟩
          rw [aF c5]
          have ah:1<=v3.length:=fX fun z=>c5 ((sz0 m4.eb).mpr (aR z))
          have a9:i0+2<=(o2++ [j]++u3).length:=by simp;omega
          clear em m3 c3 c5 hy ad
          revert m4 a9
          generalize o2++ [j]++u3=o3
          generalize Y++ [j]++u3=Y3
          intro m4 a9
         case' neg=>
          rw [aF c4]
          have ag:u3=[]:=aR (by omega)
          subst ag
          simp only [bT]at m4
          have ah:1<=v3.length:=hy
          have a9:i0+2<=(o2++ [j]).length:=by simp;omega
          clear m3 c3 hy ad
          revert m4 a9
          generalize o2++ [j]=o3
          generalize Y++ [j]=Y3
          intro m4 a9
         all_goals
          refine Ai (Bx (by rw [m4.ea];exact La X2 (i'::v') i) ?_)
          have m5:MS lt a b (o3++ [i]) (X2++ [i]) (i'::v') Y3 v3:=MS.appA (u:=[i]) m4 (by intro k Z;rw [bA.mp Z];exact am)
          rw [Ht,len1 X2 i]
          rcases eN (((X2++ [i]).length+1==(im it a).size)=true)with c | c6
          . rw [aI c]
            have aa:=(sz1 m5.ea).mp c
            have af:v'=[]:=aR (by simpa using aa)
            subst af
            exact Ao ⟨W,.inl ⟨_,rfl,m5.finL P⟩⟩
          rw [aF c6]
          have hx:2<=(i'::v').length:=by
           have:(i'::v').length≠1:=fun z=>c6 ((sz1 m5.ea).mpr z)
           simp only [bH]at this ⊢
           omega
          split
          . exact Ao ⟨W,.inr ⟨rfl,_,_,_,_,_,rfl,rfl,rfl,m5,hx,ah,by simp;omega⟩⟩
          . exact Ao ⟨W,rfl,_,_,_,_,_,rfl,rfl,rfl,m5,hx,ah,by simp;omega⟩
     . rintro⟨r0,a4,ia,ib,g,ac,bc⟩ a5 ⟨U,e⟩
       exact⟨U,.inr e⟩
     . rintro⟨r0,a4,ia,ib,g,ac,bc⟩ a5 ⟨U,⟨r,e,hf⟩ | ⟨e,hl⟩⟩
       . dsimp only at e ⊢
         subst e
         exact Ao ⟨U,r,rfl,hf⟩
       . dsimp only at e hl ⊢
         subst e
         dsimp only
         refine Ai (Ph U fun al W=> ?_)
         exact Ao ⟨W,rfl,hl⟩
 . rintro z G ⟨U,e,o,X,x,Y,y,e1,e2,e3,ms,h2,h1,hl⟩
   have a1:=bE length ms.ea
   have a2:=bE length ms.eb
   have a3:=ms.ln
   rw [Ds,Ds]at hl
   simp only [aH]at a1 a2
   omega
 . rintro⟨r,z⟩ G ⟨U,r',e,hf⟩
   dsimp only at e ⊢
   subst e
   exact Ao (q _ _ U hf)
theorem MS.zB {A o X x Y:List Nat} (h:MS lt A B o X x Y []):(o++x).Perm (A++B)/\(o++x).Pairwise (LT lt):=⟨by simpa using h.pm,h.so⟩
theorem MS.zA {A o X Y y:List Nat} (h:MS lt A B o X [] Y y):(o++y).Perm (A++B)/\(o++y).Pairwise (LT lt):=⟨by simpa using h.pm,h.s2⟩
theorem MS.zL {A o X Y y:List Nat}{t:Nat} (P:MP n lt A B) (h:MS lt A B o X [t] Y y):(o++y++ [t]).Perm (A++B)/\(o++y++ [t]).Pairwise (LT lt):=by
 refine⟨?_,?_⟩
 . refine Perm.trans ?_ h.pm
   rw [cK]
   exact eI _ iR
 . have h1:=aX.mp h.so
   refine aX.mpr ⟨h.s2,kJ _ _,fun i hi j G=> ?_⟩
   rcases bG.mp hi with e | e
   . exact h1.2.2 i e j G
   . rw [bA.mp G]
     exact P.lst i (by rw [h.eb];exact bD _ e) X t h.ea
noncomputable def flT (lt:Nat->Nat->Bool) (i j:Nat):Bool:=lt j i
noncomputable def FdT (it:Array Keyed) (lt:Nat->Nat->Bool) (p r:List Nat) (out:Array Keyed):Prop:=∃z:List Nat,out=im it z.reverse/\z.Perm (p++r)/\z.Pairwise (LT (flT lt))
theorem Jk {p X x:List Nat} (e:p=X++i::x):(im it p.reverse)[x.length]? =some (kas_item it i):=by
 have:=La (it:=it) x.reverse X.reverse i
 rw [eA]at this
 rw [e]
 simpa using this
theorem Vu {p X x:List Nat} (e:p=X++x):(im it p.reverse).extract 0 x.length=im it x.reverse:=by
 apply gX.mp
 subst e
 simp [im,List.take_append,kR]
theorem Zr {p X u v:List Nat} (e:p=X++(u++v)):((im it p.reverse).extract v.length (u++v).length).reverse=im it u:=by
 apply gX.mp
 subst e
 simp [im]
theorem Ae0 (o:List Nat):(im it o).reverse=im it o.reverse:=by simp [im]
structure LH (it:Array Keyed) (lt:Nat->Nat->Bool) (p r:List Nat) (k:Nat) (na nb:Nat) (out:Array Keyed):Prop where
 ex:∃o X x Y y,out=im it o/\na=y.length/\nb=x.length/\MS (flT lt) p r o X x Y y/\2<=x.length/\1<=y.length/\k<=o.length
theorem Mq {p r o X x Y y z:List Nat} (h:MS (flT lt) p r o X x Y y) (e:z=o++x/\y=[]\/z=o++y/\x=[]) (G:z.Perm (p++r)/\z.Pairwise (LT (flT lt))):
 FdT it lt p r ((im it r.reverse).extract 0 y.length++(im it p.reverse).extract 0 x.length++(im it o).reverse):=by
 refine⟨z,?_,G.1,G.2⟩
 rw [Vu h.ea,Vu h.eb,Ae0,K4,K4]
 rcases e with⟨rfl,rfl⟩ | ⟨rfl,rfl⟩<;>simp
theorem Vn {p r o X Y y:List Nat}{t:Nat} (P:MP n (flT lt) p r) (h:MS (flT lt) p r o X [t] Y y):
 FdT it lt p r ((im it p.reverse).extract 0 1++(im it r.reverse).extract 0 y.length++(im it o).reverse):=by
 have e:=Vu (it:=it) h.ea
 refine⟨o++y++ [t],?_,(h.zL P).1,(h.zL P).2⟩
 rw [show(1:Nat)=[t].length from rfl,e,Vu h.eb,Ae0,K4,K4]
 simp
theorem W7 (hc:HC prog w A I κ it n lt) {p r:List Nat}{st:SortSt}{Q:Array Keyed->SortSt->Prop} (U:kindOf st=κ) (P:MP n (flT lt) p r) (ha:p≠ []) (hb:r≠ [])
 (q:∀G O,SgS st O->FdT it lt p r G->Q G O):CW prog w A E I (P0 (im it r.reverse) (im it p.reverse)) Q st:=by
 obtain⟨j0,y0,hB⟩:∃j y,r=j::y:=by
  cases r with
  | nil=>exact absurd rfl hb
  | cons j y=>exact⟨j,y,rfl⟩
 obtain⟨i0,x0,hA⟩:∃i x,p=i::x:=by
  cases p with
  | nil=>exact absurd rfl ha
  | cons i x=>exact⟨i,x,rfl⟩
 have m1:MS (flT lt) p r [j0] [] p [j0] y0:=by
  have m0:MS (flT lt) p r [] [] p [] ([j0]++y0):=by
   rw [show [j0]++y0=r from hB.symm]
   exact P.start
  have:=m0.appB fun j hj i hi=>by
   rw [bA.mp hj]
   exact P.fst i hi j0 y0 hB
  simpa using this
 have zr:(im it r.reverse).size-1=y0.length:=by rw [Ds,eA,hB];simp
 have zp:(im it p.reverse).size=p.length:=by rw [Ds,eA]
 rw [Uh]
 dsimp only
 refine Ai (J8 ?_)
 rw [zr,zp]
 refine Ai (Bx (Jk (X:=[]) hB) ?_)
 rw [Aez]
 by_cases cy:y0=[]
 . subst cy
   rw [aI (by simp)]
   exact Ao (q _ _ ⟨gallopOf st,rfl⟩ (Mq m1 (.inl ⟨rfl,rfl⟩) m1.zB))
 rw [aF (by cases y0 with | nil=>exact absurd rfl cy | cons _ _=>simp)]
 by_cases cx:x0=[]
 . subst cx
   rw [aI (by rw [hA];rfl)]
   rw [hA]at m1 P q
   rw [hA]
   exact Ao (q _ _ ⟨gallopOf st,rfl⟩ (Vn P m1))
 rw [aF (by rw [hA];cases x0 with | nil=>exact absurd rfl cx | cons _ _=>simp)]
 refine Ai (Ji ?_)
 have l2:2<=p.length:=by
  rw [hA]
  cases x0 with
  | nil=>exact absurd rfl cx
  | cons _ _=>simp
 have l1:1<=y0.length:=by
  cases y0 with
  | nil=>exact absurd rfl cy
  | cons _ _=>simp
 refine Ai (Cp (Ci (J:=fun i z O=>SgS st O/\z.1=none/\LH it lt p r (i+1) z.2.1 z.2.2.1 z.2.2.2.1) (Q:=fun z O=>SgS st O/\∃G,z.1=some G/\FdT it lt p r G) ?_ ?_
  ⟨⟨_,rfl⟩,rfl,[j0],[],p,[j0],y0,rfl,rfl,rfl,m1,l2,l1,aL _⟩) ?_)
 . rintro i0 ⟨r0,na,nb,G,g⟩ O an ⟨W,e,o,X,x,Y,y,e1,e2,e3,ms,h2,h1,hl⟩
   dsimp only at e e1 e2 e3 ⊢
   subst e e1 e2 e3
   refine Ai (Cp (Ci (J:=fun i z O=>SgS st O/\z.1=none/\LH it lt p r (i0+1+i) z.2.1 z.2.2.1 z.2.2.2.1)
    (Q:=fun z O=>SgS st O/\((∃G,z.1=some G/\FdT it lt p r G)\/z.1=none/\LH it lt p r (i0+2) z.2.1 z.2.2.1 z.2.2.2.1)) ?_ ?_ ⟨W,rfl,o,X,x,Y,y,rfl,rfl,rfl,ms,h2,h1,hl⟩) ?_)
   . rintro i1 ⟨r0,na,nb,G,ac,bc⟩ a6 ak ⟨W,e,o,X,x,Y,y,e1,e2,e3,ms,h2,h1,hl⟩
     dsimp only at e e1 e2 e3 ⊢
     subst e e1 e2 e3
     obtain⟨i,i',x',rfl⟩:=Aog h2
     obtain⟨j,y',rfl⟩:=Adl h1
     have jn:=P.bb j (ms.my (.head _))
     have a7:=P.ba i (ms.mx (.head _))
     have ah:=P.ne i (ms.mx (.head _)) j (ms.my (.head _))
     rw [show(i::i'::x').length-1=(i'::x').length from rfl,show(j::y').length-1=y'.length from rfl]
     refine Ai (Bx (Jk ms.ea) (Ai (Bx (Jk ms.eb) (Ai (Yz hc (W.kind U) a7 jn ah ?_)))))
     dsimp only
     split
     . rename_i l
       have m2:MS (flT lt) p r (o++ [j]) X (i::i'::x') (Y++ [j]) y':=MS.appB (u:=[j]) ms fun k U=>by
        rw [bA.mp U]
        exact ms.headB P l
       refine Ai (Bx (Jk ms.eb) ?_)
       rw [Ht]
       split
       . rename_i c
         have:y'=[]:=aR (by simpa using c)
         subst this
         exact Ao ⟨W,.inl ⟨_,rfl,Mq m2 (.inl ⟨rfl,rfl⟩) m2.zB⟩⟩
       . rename_i c
         have hy:1<=y'.length:=fX fun z=>c (by simpa using z)
         split
         . exact Ao ⟨W,.inr ⟨rfl,_,_,_,_,_,rfl,rfl,rfl,m2,h2,hy,by simp;omega⟩⟩
         . exact Ao ⟨W,rfl,_,_,_,_,_,rfl,rfl,rfl,m2,h2,hy,by simp;omega⟩
     . rename_i l
       have l':=hc.lo.not a7 jn ah (by simpa using l)
       have m2:MS (flT lt) p r (o++ [i]) (X++ [i]) (i'::x') Y (j::y'):=MS.appA (u:=[i]) ms fun k U=>by
        rw [bA.mp U]
        exact ms.headA P l'
       refine Ai (Bx (Jk ms.ea) ?_)
       rw [Ht]
       split
       . rename_i c
         have hx:x'=[]:=aR (by simpa using c)
         subst hx
         exact Ao ⟨W,.inl ⟨_,rfl,Vn P m2⟩⟩
       . rename_i c
         have hx:2<=(i'::x').length:=by
          have:(i'::x').length≠1:=fun z=>c (by simpa using z)
          simp only [bH]at this ⊢
          omega
         split
         . exact Ao ⟨W,.inr ⟨rfl,_,_,_,_,_,rfl,rfl,rfl,m2,hx,h1,by simp;omega⟩⟩
         . exact Ao ⟨W,rfl,_,_,_,_,_,rfl,rfl,rfl,m2,hx,h1,by simp;omega⟩
   . rintro⟨r0,na,nb,G,ac,bc⟩ a6 ⟨W,e,o,X,x,Y,y,e1,e2,e3,ms,h2,h1,hl⟩
     have a1:=bE length ms.ea
     simp only [aH]at a1
     refine⟨W,.inr ⟨e,o,X,x,Y,y,e1,e2,e3,ms,h2,h1,?_⟩⟩
     omega
   . rintro⟨r0,na,nb,G,ac,bc⟩ a6 ⟨W,⟨r',e,hf⟩ | ⟨e,o,X,x,Y,y,e1,e2,e3,ms,h2,h1,hl⟩⟩
     . dsimp only at e ⊢
       subst e
       exact Ao ⟨W,r',rfl,hf⟩
     dsimp only at e e1 e2 e3 ⊢
     subst e e1 e2 e3
     dsimp only
     refine Ai (J8 ?_)
     refine Ai (Cp (Ci (J:=fun i z O=>SgS st O/\z.1=none/\LH it lt p r (i0+2) z.2.1 z.2.2.1 z.2.2.2.1)
      (Q:=fun z O=>SgS st O/\((∃G,z.1=some G/\FdT it lt p r G)\/z.1=none/\LH it lt p r (i0+2) z.2.1 z.2.2.1 z.2.2.2.1)) ?_ ?_ ⟨W,rfl,o,X,x,Y,y,rfl,rfl,rfl,ms,h2,h1,hl⟩) ?_)
     . rintro i1 ⟨r0,na,nb,G,g,ac,bc⟩ a6 ak ⟨W,e,o,X,x,Y,y,e1,e2,e3,ms,h2,h1,hl⟩
       dsimp only at e e1 e2 e3 ⊢
       subst e e1 e2 e3
       obtain⟨i,x',rfl⟩:=Adl (Nat.le_of_succ_le h2)
       have a7:=P.ba i (ms.mx (.head _))
       rw [show(i::x').length-1=x'.length from rfl]
       rcases eN (g>1)with cg | cg
       all_goals
        first | rw [aI cg] | rw [aF cg]
        refine Ai (Ph W fun al Z=> ?_)
        refine Ai (Bx (Jk ms.ea) (Ai (Oi hc (Z.kind U) (X:=[]) (S:=y.reverse) (Y:=Y.reverse) (by rw [ms.eb];simp) (by simp) (by omega) a7 (fun k U=>⟨P.bb k (ms.my (cQ.mp U)),(P.ne i (ms.mx (.head _)) k (ms.my (cQ.mp U))).symm⟩) (gH.mpr (aX.mp ms.s2).2.1) fun s t a4 a5 ht=> ?_)))
        dsimp only
        obtain⟨u,rfl⟩:∃u,t=u.reverse:=⟨t.reverse,by simp⟩
        obtain⟨v,rfl⟩:∃v,s=v.reverse:=⟨s.reverse,by simp⟩
        have ey:y=u++v:=by
         have:=bE reverse a4
         simpa using this
        subst ey
        rw [eA,show(u++v).length-v.length=u.length by simp]
        have m2:MS (flT lt) p r (o++u) X (i::x') (Y++u) v:=ms.appB fun k U k2 a8=>by
         have l1:flT lt k i=true:=ht k (cQ.mpr U)
         rcases aS.mp a8 with rfl | e
         . exact l1
         . exact P.lo.trans _ _ _ (P.bb _ (ms.my (bK _ U))) a7 (P.ba _ (ms.mx a8)) l1 ((cU.mp (aX.mp ms.so).2.1).1 k2 e)
        have hv:∀k∈v,flT lt i k=true:=fun k U=>a5 k (cQ.mpr U)
        by_cases cu:u.length>0
        case' pos=>
         rw [aI cu]
         have em:im it o++((im it r.reverse).extract v.length (u++v).length).reverse=im it (o++u):=by rw [Zr ms.eb,K4]
         rw [em]
         rcases eN ((v.length==0)=true)with c | c1
         . rw [aI c]
           have:v=[]:=aR (by simpa using c)
           subst this
           exact Ao ⟨Z,.inl ⟨_,rfl,Mq m2 (.inl ⟨rfl,rfl⟩) m2.zB⟩⟩
         rw [aF c1]
         have ai:1<=v.length:=fX fun z=>c1 (by simpa using z)
         have a9:i0+2<=(o++u).length:=by simp;omega
         clear em c1 hl h1 a5 ht a4 ms
         revert m2 a9
         generalize o++u=o2
         generalize Y++u=Y2
         intro m2 a9
        case' neg=>
         rw [aF cu]
         have ad:u=[]:=aR (by omega)
         subst ad
         rw [jB]at*
         rw [bT]at m2
         rw [bT]at m2
         have ai:1<=v.length:=h1
         have a9:=hl
         clear hl h1 a5 ht a4 ms
         revert m2 a9
         generalize o=o2
         generalize Y=Y2
         intro m2 a9
        all_goals
         refine Ai (Bx (Jk m2.ea) ?_)
         have m3:MS (flT lt) p r (o2++ [i]) (X++ [i]) x' Y2 v:=MS.appA (u:=[i]) m2 (by intro k U;rw [bA.mp U];exact hv)
         rw [Ht]
         rcases eN ((x'.length==1)=true)with c | c3
         . rw [aI c]
           obtain⟨t,v',rfl⟩:=Adl (show 1<=x'.length from fZ (by simpa using c:x'.length=1).symm)
           have ae:v'=[]:=aR (by simpa using c)
           subst ae
           exact Ao ⟨Z,.inl ⟨_,rfl,Vn P m3⟩⟩
         rw [aF c3]
         have af:2<=x'.length:=by
          have:x'.length≠1:=fun z=>c3 (by simpa using z)
          simp only [bH]at h2
          omega
         obtain⟨j,v',rfl⟩:=Adl ai
         have jn:=P.bb j (m3.my (.head _))
         rw [show(j::v').length-1=v'.length from rfl]
         refine Ai (Bx (Jk m3.eb) (Ai (Oi hc (Z.kind U) (X:=[]) (S:=x'.reverse) (Y:=(X++ [i]).reverse) (by rw [m3.ea];simp) (by simp) (by omega) jn (fun k U=>⟨P.ba k (m3.mx (cQ.mp U)),P.ne k (m3.mx (cQ.mp U)) j (m3.my (.head _))⟩) (gH.mpr (aX.mp m3.so).2.1) fun s t a4 a5 ht=> ?_)))
         dsimp only
         obtain⟨u3,rfl⟩:∃u,t=u.reverse:=⟨t.reverse,by simp⟩
         obtain⟨v3,rfl⟩:∃v,s=v.reverse:=⟨s.reverse,by simp⟩
         have ey:x'=u3++v3:=by
          have:=bE reverse a4
          simpa using this
         subst ey
         rw [eA,show(u3++v3).length-v3.length=u3.length by simp]
         have m4:MS (flT lt) p r (o2++ [i]++u3) (X++ [i]++u3) v3 Y2 (j::v'):=m3.appA fun k U k2 a8=>by
          have l1:flT lt k j=true:=ht k (cQ.mpr U)
          rcases aS.mp a8 with rfl | e
          . exact l1
          . exact P.lo.trans _ _ _ (P.ba _ (m3.mx (bK _ U))) jn (P.bb _ (m3.my a8)) l1 ((cU.mp (aX.mp m3.s2).2.1).1 k2 e)
         have am:∀k∈v3,flT lt j k=true:=fun k U=>a5 k (cQ.mpr U)
         by_cases c4:u3.length>0
         case' pos=>
          rw [aI c4]
          have em:im it (o2++ [i])++((im it p.reverse).extract v3.length (u3++v3).length).reverse=im it (o2++ [i]++u3):=by rw [Zr m3.ea,K4]
          rw [em]
          rcases eN ((v3.length==1)=true)with c | c5
          . rw [aI c]
            obtain⟨t,v',rfl⟩:=Adl (show 1<=v3.length from fZ (by simpa using c:v3.length=1).symm)
            have ae:v'=[]:=aR (by simpa using c)
            subst ae
            exact Ao ⟨Z,.inl ⟨_,rfl,Vn P m4⟩⟩
          rw [aF c5]
          rcases eN ((v3.length==0)=true)with c | c6
          . rw [aI c]
            have:v3=[]:=aR (by simpa using c)
            subst this
            exact Ao ⟨Z,.inl ⟨_,rfl,Mq m4 (.inr ⟨rfl,rfl⟩) m4.zA⟩⟩
          rw [aF c6]
          have ag:2<=v3.length:=by
           have a1:v3.length≠1:=fun z=>c5 (by simpa using z)
           have a2:v3.length≠0:=fun z=>c6 (by simpa using z)
           omega
          have aa:i0+2<=(o2++ [i]++u3).length:=by simp;omega
          clear em m3 c3 c5 c6 a5 ht a4 af
          revert m4 aa
          generalize o2++ [i]++u3=o3
          generalize X++ [i]++u3=X3
          intro m4 aa
         case' neg=>
          rw [aF c4]
          have ad:u3=[]:=aR (by omega)
          subst ad
          rw [jB]at*
          rw [bT]at m4
          rw [bT]at m4
          have ag:2<=v3.length:=af
          have aa:i0+2<=(o2++ [i]).length:=by simp;omega
          clear m3 c3 a5 ht a4 af
          revert m4 aa
          generalize o2++ [i]=o3
          generalize X++ [i]=X3
          intro m4 aa
         all_goals
          refine Ai (Bx (Jk m4.eb) ?_)
          have m5:MS (flT lt) p r (o3++ [j]) X3 v3 (Y2++ [j]) v':=MS.appB (u:=[j]) m4 (by intro k U;rw [bA.mp U];exact am)
          rw [Ht]
          rcases eN ((v'.length==0)=true)with c | c7
          . rw [aI c]
            have:v'=[]:=aR (by simpa using c)
            subst this
            exact Ao ⟨Z,.inl ⟨_,rfl,Mq m5 (.inl ⟨rfl,rfl⟩) m5.zB⟩⟩
          rw [aF c7]
          have aj:1<=v'.length:=fX fun z=>c7 (by simpa using z)
          split
          . exact Ao ⟨Z,.inr ⟨rfl,_,_,_,_,_,rfl,rfl,rfl,m5,ag,aj,by simp;omega⟩⟩
          . exact Ao ⟨Z,rfl,_,_,_,_,_,rfl,rfl,rfl,m5,ag,aj,by simp;omega⟩
     . rintro⟨r0,na,nb,G,g,ac,bc⟩ a6 ⟨W,e⟩
       exact⟨W,.inr e⟩
     . rintro⟨r0,na,nb,G,g,ac,bc⟩ a6 ⟨W,⟨r',e,hf⟩ | ⟨e,hl⟩⟩
       . dsimp only at e ⊢
         subst e
         exact Ao ⟨W,r',rfl,hf⟩
       . dsimp only at e hl ⊢
         subst e
         dsimp only
         refine Ai (Ph W fun al Z=> ?_)
         exact Ao ⟨Z,rfl,hl⟩
 . rintro z O ⟨W,e,o,X,x,Y,y,e1,e2,e3,ms,h2,h1,hl⟩
   have a1:=bE length ms.ea
   have a2:=bE length ms.eb
   have a3:=ms.ln
   rw [Ds,eA]at hl
   simp only [aH]at a1 a2
   omega
 . rintro⟨r',z⟩ O ⟨W,G,e,hf⟩
   dsimp only at e ⊢
   subst e
   exact Ao (q _ _ W hf)
end
theorem Ug (i:Nat):mergeAt' i=(do
 let s<-get
 let (some (sa,na,power),some (sb,nb,_)):=((pendingOf s)[i]?,(pendingOf s)[i+1]?) | unsupported "internal:list.sort.pending"
 set (setPending s (((pendingOf s).setIfInBounds i (sa,na+nb,power)).eraseIdxIfInBounds (i+1)))
 let some k<-G3 false (<-elem' (arrOf s) sb) (arrOf s) sa na 0 | return false
 let (sa,na):=(sa+k,na-k)
 if na==0 then return true
 let some nb<-G3 true (<-elem' (arrOf s) (sa+na-1)) (arrOf s) sb nb (nb-1) | return false
 if nb==0 then return true
 let x:=(arrOf s).extract sa sb
 let y:=(arrOf s).extract sb (sb+nb)
 let merged<-if na<=nb then Qa x y else P0 x y
 modify fun s=>setArr s (merged.toList.zipIdx.foldl (fun a (p,j)=>a.setIfInBounds (sa+j) p) (arrOf s))
 return (failedOf (<-get)).isNone):=rfl
variable {pd:Array (Nat × Nat × Nat)}
section
variable {prog:Program}{w:World}{A:Around}{E:Value->Shared->Prop}{κ:SortKind}{it:Array Keyed}{n:Nat}{lt:Nat->Nat->Bool}{I:Shared->Prop}
theorem Zh:∀(z w X R:List Keyed) (s k:Nat),w.length=z.length->s+k=X.length->foldl (fun a x=>a.setIfInBounds (s+x.2) x.1) (X++(w++R)).toArray (z.zipIdx k)=(X++(z++R)).toArray
 | [],[],_,_,_,_,_,_=>rfl
 | [],_::_,_,_,_,_,h,_=>by simp at h
 | _::_,[],_,_,_,_,h,_=>by simp at h
 | c::z,d::w,X,R,s,k,h,e=>by
   rw [zipIdx_cons,jC]
   have G:(X++(d::w++R)).toArray.setIfInBounds (s+k) c=((X++ [c])++(w++R)).toArray:=by
    rw [e]
    simp
   dsimp only
   rw [G,Zh z w (X++ [c]) R s (k+1) (by simpa using h) (by simp;omega)]
   simp
theorem Jp {u v:List Nat}:(u++v).Pairwise (LT lt)↔u.Pairwise (LT lt)/\v.Pairwise (LT lt)/\∀i∈u,∀j∈v,lt i j=true:=aX
theorem Agm {v:List Nat} (h:v≠ []):∃G t,v=G++ [t]:=⟨v.dropLast,v.getLast h,(List.dropLast_concat_getLast h).symm⟩
theorem Ajt (X u R:List Nat) {s e:Nat} (G:s=X.length) (J:e=X.length+u.length):(im it (X++(u++R))).extract s e=im it u:=by
 subst G J
 exact Vt X u R
structure SI (κ:SortKind) (it:Array Keyed) (p:List Nat) (pd:Array (Nat × Nat × Nat)) (st:SortSt):Prop where
 kd:kindOf st=κ
 fa:failedOf st=none
 ar:arrOf st=im it p
 pe:pendingOf st=pd
theorem SI.sg {p:List Nat}{J:Array (Nat × Nat × Nat)}{st G:SortSt} (h:SI κ it p J st) (s:SgS st G):SI κ it p J G:=by
 obtain⟨g,rfl⟩:=s
 exact⟨h.kd,h.fa,h.ar,h.pe⟩
theorem W6 (hc:HC prog w A I κ it n lt) {X a b Y:List Nat}{i pa pb:Nat}{st:SortSt}{Q:Bool->SortSt->Prop} (hs:SI κ it (X++(a++(b++Y))) pd st)
 (h1:pd[i]? =some (X.length,a.length,pa)) (h2:pd[i+1]? =some (X.length+a.length,b.length,pb)) (ha:a≠ []) (hb:b≠ []) (sa:a.Pairwise (LT lt)) (sb:b.Pairwise (LT lt))
 (ba:∀i∈a,i<n) (bb:∀i∈b,i<n) (ne:∀i∈a,∀j∈b,i≠j)
 (q:∀z J,z.Perm (a++b)->z.Pairwise (LT lt)->SI κ it (X++(z++Y)) ((pd.setIfInBounds i (X.length,a.length+b.length,pa)).eraseIdxIfInBounds (i+1)) J->Q true J):CW prog w A E I (mergeAt' i) Q st:=by
 rw [Ug]
 dsimp only
 refine Ai (Ji ?_)
 rw [hs.pe,h1,h2]
 dsimp only
 obtain⟨j,y,eb⟩:=Adl (show 1<=b.length from fQ.mpr hb)
 have jn:=bb j (by rw [eb];exact .head _)
 refine Ai (Ai8 ?_)
 have G:kindOf (setPending st ((pd.setIfInBounds i (X.length,a.length+b.length,pa)).eraseIdxIfInBounds (i+1)))=κ:=hs.kd
 have s0:SI κ it (X++(a++(b++Y))) ((pd.setIfInBounds i (X.length,a.length+b.length,pa)).eraseIdxIfInBounds (i+1)) (setPending st ((pd.setIfInBounds i (X.length,a.length+b.length,pa)).eraseIdxIfInBounds (i+1))):=⟨hs.kd,hs.fa,hs.ar,rfl⟩
 generalize (pd.setIfInBounds i (X.length,a.length+b.length,pa)).eraseIdxIfInBounds (i+1)=ae at*
 generalize ai:setPending st ae=a5 at*
 rw [hs.ar]
 have eX:X.length+a.length=(X++a).length:=by simp
 refine Ai (Bx (x:=kas_item it j) (by rw [eX,eb];have:=La (it:=it) (X++a) (y++Y) j;simpa using this) ?_)
 refine Ai (Oi hc G (S:=a) (Y:=b++Y) rfl rfl (fQ.mpr ha) jn (fun k G=>⟨ba k G,ne k G j (by rw [eb];exact .head _)⟩) sa fun u v U hu hv=> ?_)
 dsimp only
 have jb:∀k∈b,k=j\/lt j k=true:=fun k G=>by
  rw [eb]at G sb
  rcases aS.mp G with e | e
  . exact .inl e
  . exact .inr ((cU.mp sb).1 k e)
 have ub:∀k∈u,∀k2∈b,lt k k2=true:=fun k G k2 O=>by
  rcases jb k2 O with rfl | e
  . exact hu k G
  . exact hc.lo.trans _ _ _ (ba k (by rw [U];exact bK _ G)) jn (bb k2 O) (hu k G) e
 have a6:=sa
 rw [U]at a6
 obtain⟨su,sv,af⟩:=Jp.mp a6
 by_cases v0:v=[]
 . rw [aI (by rw [U,v0];simp)]
   subst v0
   rw [bT]at U
   refine Ao (q (a++b) _ (jP _) (Jp.mpr ⟨sa,sb,by rw [U];exact ub⟩) ?_)
   rw [cK]
   exact s0
 rw [aF (by rw [U];simp [v0])]
 obtain⟨v',t,ev⟩:=Agm v0
 have ta:t∈a:=by rw [U,ev];simp
 have a3:∀k∈a,k=t\/lt k t=true:=fun k G=>by
  have e3:a=(u++v')++ [t]:=by rw [U,ev];simp
  rw [e3]at G sa
  rcases bG.mp G with e | e
  . exact .inr ((Jp.mp sa).2.2 k e t (.head _))
  . exact .inl (bA.mp e)
 refine Ai (Bx (x:=kas_item it t) ?_ ?_)
 . have e4:X++(a++(b++Y))=(X++(u++v'))++t::(b++Y):=by rw [U,ev];simp
   have e5:X.length+u.length+(a.length-u.length)-1=(X++(u++v')).length:=by
    rw [U,ev]
    simp only [aH,eG]
    omega
   rw [e4,e5]
   exact La _ _ _
 have e6:X++(a++(b++Y))=(X++a)++(b++Y):=by simp
 rw [eX]
 refine Ai (Oi hc G (X:=X++a) (S:=b) (Y:=Y) e6 rfl (by have:=fQ.mpr hb;omega) (ba t ta) (fun k G=>⟨bb k G,(ne t ta k G).symm⟩) sb fun b1 b2 W a7 a8=> ?_)
 dsimp only
 by_cases b0:b1=[]
 . rw [aI (by rw [b0];rfl)]
   subst b0
   refine Ao (q (a++b) _ (jP _) (Jp.mpr ⟨sa,sb,fun k G k2 O=> ?_⟩) ?_)
   . have:=a8 k2 (by rw [W]at O;simpa using O)
     rcases a3 k G with rfl | e
     . exact this
     . exact hc.lo.trans _ _ _ (ba k G) (ba t ta) (bb k2 O) e this
   . rw [cK]
     exact s0
 rw [aF (by simp [b0])]
 have a9:=sb
 rw [W]at a9
 obtain⟨aa,ag,ac⟩:=Jp.mp a9
 have hd:∀j' y',b1=j'::y'->j'=j:=fun j' y' e=>by
  rw [e,eb]at W
  exact(List.cons.inj W).1.symm
 have tl:∀X' i',v=X'++ [i']->i'=t:=fun X' i' e=>by
  rw [ev]at e
  have:=bE List.getLast? e
  simpa using this.symm
 have a1:∀k∈v,k∈a:=fun k G=>by rw [U];exact bD _ G
 have a2:∀k∈b1,k∈b:=fun k G=>by rw [W];exact bK _ G
 have x1:(im it (X++(a++(b++Y)))).extract (X.length+u.length) (X++a).length=im it v:=by
  rw [show X++(a++(b++Y))=(X++u)++(v++(b++Y))by rw [U];simp]
  exact Ajt _ _ _ (by simp) (by rw [U];simp;omega)
 have x2:(im it (X++(a++(b++Y)))).extract (X++a).length ((X++a).length+b1.length)=im it b1:=by
  rw [show X++(a++(b++Y))=(X++a)++(b1++(b2++Y))by rw [W];simp]
  exact Vt _ _ _
 rw [x1,x2]
 have ad:∀(z:List Nat) (J:SortSt),SgS a5 J->z.Perm (v++b1)->z.Pairwise (LT lt)->CW prog w A E I (do
  modify fun s=>setArr s ((im it z).toList.zipIdx.foldl (fun a x=>a.setIfInBounds (X.length+u.length+x.snd) x.fst) (arrOf s))
  let s<-get
  pure (failedOf s).isNone) Q J:=fun z J Z hp hz=>by
  refine Ai (Fl (Ai (Ji (Ao ?_))))
  have s2:=s0.sg Z
  have ah:failedOf (setArr J ((im it z).toList.zipIdx.foldl (fun a x=>a.setIfInBounds (X.length+u.length+x.snd) x.fst) (arrOf J)))=none:=s2.fa
  rw [ah]
  refine q (u++(z++b2)) _ ?_ ?_ ⟨s2.kd,s2.fa,?_,s2.pe⟩
  . rw [U,W,cK]
    refine eI _ ?_
    rw [<-cK]
    exact iO _ hp
  . have zm:∀k∈z,k∈v\/k∈b1:=fun k G=>bG.mp (hp.mem_iff.mp G)
    refine Jp.mpr ⟨su,Jp.mpr ⟨hz,ag,fun k G k2 O=> ?_⟩,fun k G k2 O=> ?_⟩
    . rcases zm k G with e | e
      . have l:=a8 k2 O
        rcases a3 k (a1 k e)with rfl | e2
        . exact l
        . exact hc.lo.trans _ _ _ (ba k (a1 k e)) (ba t ta) (bb k2 (by rw [W];exact bD _ O)) e2 l
      . exact ac k e k2 O
    . rcases bG.mp O with e | e
      . rcases zm k2 e with e | e
        . exact af k G k2 e
        . exact ub k G k2 (a2 k2 e)
      . exact ub k G k2 (by rw [W];exact bD _ e)
  . show(im it z).toList.zipIdx.foldl (fun a x=>a.setIfInBounds (X.length+u.length+x.snd) x.fst) (arrOf J)=_
    rw [s2.ar,show X++(a++(b++Y))=(X++u)++((v++b1)++(b2++Y))by rw [U,W];simp,show X++(u++(z++b2)++Y)=(X++u)++(z++(b2++Y))by simp]
    have:=Zh (z.map (kas_item it)) ((v++b1).map (kas_item it)) ((X++u).map (kas_item it)) ((b2++Y).map (kas_item it)) (X.length+u.length) 0 (by rw [aC,aC];exact hp.length_eq.symm) (by simp)
    simpa [im]using this
 have jv:∀k∈v,lt j k=true:=hv
 split
 . refine Ai (W8 hc G ⟨hc.lo,sv,aa,fun k G=>ba k (a1 k G),fun k G=>bb k (a2 k G),fun k G k2 O=>ne k (a1 k G) k2 (a2 k2 O),fun k G j' y' e=>by rw [hd j' y' e];exact jv k G,fun k G X' i' e=>by rw [tl X' i' e];exact a7 k G⟩ v0 b0 fun r J Z hf=> ?_)
   obtain⟨z,rfl,hp,hz⟩:=hf
   exact ad z J Z hp hz
 . have LF:LO n (flT lt):=⟨fun i j hi hj hn=>hc.lo.tri j i hj hi (cC hn),fun i j k hi hj G h1 h2=>hc.lo.trans k j i G hj hi h2 h1⟩
   have:=W7 (E:=E) (Q:=fun a4 J=>∃z:List Nat,SgS a5 J/\a4=im it z/\z.Perm (v++b1)/\z.Pairwise (LT lt)) hc G (p:=b1.reverse) (r:=v.reverse) ⟨LF,gH.mpr aa,gH.mpr sv,fun k G=>bb k (a2 k (cQ.mp G)),fun k G=>ba k (a1 k (cQ.mp G)),
    fun k G k2 O=>(ne k2 (a1 k2 (cQ.mp O)) k (a2 k (cQ.mp G))).symm,fun k G j' y' e=>by
     have e2:=bE reverse e
     rw [iZ,reverse_cons]at e2
     rw [tl _ _ e2]
     exact a7 k (cQ.mp G),fun k G X' i' e=>by
     have e2:=bE reverse e
     rw [iZ,List.reverse_append]at e2
     rw [hd _ _ e2]
     exact jv k (cQ.mp G)⟩ (by simp [b0]) (by simp [v0]) fun a4 J Z hf=>by
      obtain⟨z,e,hp,hz⟩:=hf
      refine⟨z.reverse,Z,e,?_,gH.mpr hz⟩
      refine(jU z).trans (hp.trans ?_)
      exact(Perm.append (jU _) (jU _)).trans iR
   rw [iZ,iZ]at this
   refine Ai (Cp this fun a4 J hh=> ?_)
   obtain⟨z,Z,rfl,hp,hz⟩:=hh
   exact ad z J Z hp hz
end
section
variable {prog:Program}{w:World}{A:Around}{E:Value->Shared->Prop}{κ:SortKind}{it:Array Keyed}{n:Nat}{lt:Nat->Nat->Bool}{I:Shared->Prop}
theorem K5 (X Z:List Nat)  (h:i<Z.length):(im it (X++Z))[X.length+i]? =some (kas_item it (Z.getD i 0)):=by
 simp [im,h]
theorem Ce {Z:List Nat} (h:i<Z.length):Z.getD i 0∈Z:=by simp [h]
theorem Ru {Z:List Nat} (J:Z.Nodup)  (hi:i<Z.length) (G:j<Z.length) (h:i≠j):Z.getD i 0≠Z.getD j 0:=by
 have pw:=bI.mp J
 have O:Z.getD i 0=Z[i]:=by simp [hi]
 have U:Z.getD j 0=Z[j]:=by simp [G]
 rw [O,U]
 rcases iG h with l | l
 . exact pw i j hi G l
 . exact(pw j i G hi l).symm
theorem J6 (hc:HC prog w A I κ it n lt) {X Z:List Nat}{st:SortSt} (U:SI κ it (X++Z) pd st) (W:∀i∈Z,i<n) (nd:Z.Nodup) {a b:Nat}{Q:Option Bool->SortSt->Prop} (hi:i=X.length+a) (hj:j=X.length+b)
 (G:a<Z.length) (J:b<Z.length) (O:a≠b) (q:Q (some (lt (Z.getD a 0) (Z.getD b 0))) st):CW prog w A E I (ltAt' i j) Q st:=by
 rw [ltAt'_eq]
 refine Ai (Ji ?_)
 dsimp only
 rw [U.ar]
 subst hi hj
 exact Ai (Bx (K5 X Z G) (Ai (Bx (K5 X Z J) (Yz hc U.kd (W _ (Ce G)) (W _ (Ce J)) (Ru nd G J O) q))))
noncomputable def Asc (lt:Nat->Nat->Bool) (Z:List Nat) (m:Nat):Prop:=∀i j,i<j->j<m->lt (Z.getD i 0) (Z.getD j 0)=true
noncomputable def Dsc (lt:Nat->Nat->Bool) (Z:List Nat) (m:Nat):Prop:=∀i j,i<j->j<m->lt (Z.getD j 0) (Z.getD i 0)=true
theorem Asc.next (L:LO n lt) {Z:List Nat} (G:∀i∈Z,i<n) (h1:1<=m) (U:m<Z.length) (h:Asc lt Z m) (l:lt (Z.getD (m-1) 0) (Z.getD m 0)=true):Asc lt Z (m+1):=fun i j J W=>by
 by_cases e:j=m
 . subst e
   by_cases O:i=j-1
   . rw [O]
     exact l
   . exact L.trans _ _ _ (G _ (Ce (by omega))) (G _ (Ce (by omega))) (G _ (Ce (by omega))) (h i (j-1) (by omega) (by omega)) l
 . exact h i j J (by omega)
theorem Dsc.next (L:LO n lt) {Z:List Nat} (G:∀i∈Z,i<n) (h1:1<=m) (U:m<Z.length) (h:Dsc lt Z m) (l:lt (Z.getD m 0) (Z.getD (m-1) 0)=true):Dsc lt Z (m+1):=fun i j J W=>by
 by_cases e:j=m
 . subst e
   by_cases O:i=j-1
   . rw [O]
     exact l
   . exact L.trans _ _ _ (G _ (Ce (by omega))) (G _ (Ce (by omega))) (G _ (Ce (by omega))) l (h i (j-1) (by omega) (by omega))
 . exact h i j J (by omega)
theorem Asc.pw {Z:List Nat} (W:m<=Z.length) (h:Asc lt Z m):(Z.take m).Pairwise (LT lt):=by
 refine bI.mpr fun i j hi J G=> ?_
 rw [bV]at hi J
 have:=h i j G (by omega)
 have O:Z.getD i 0=Z[i]'(by omega):=by simp [show i<Z.length by omega]
 have U:Z.getD j 0=Z[j]'(by omega):=by simp [show j<Z.length by omega]
 rw [O,U]at this
 rw [iN,iN]
 exact this
theorem Asc.of {Z:List Nat} (U:m<=Z.length) (h:(Z.take m).Pairwise (LT lt)):Asc lt Z m:=fun i j G W=>by
 have:=bI.mp h i j (by rw [bV];omega) (by rw [bV];omega) G
 rw [iN,iN]at this
 have J:Z.getD i 0=Z[i]'(by omega):=by simp [show i<Z.length by omega]
 have O:Z.getD j 0=Z[j]'(by omega):=by simp [show j<Z.length by omega]
 rw [J,O]
 exact this
theorem Aaa (X u v:List Nat):mirror (im it (X++(u++v))) X.length (X.length+u.length) ((X.length+u.length-X.length)/2)=im it (X++(u.reverse++v)):=by
 apply Array.ext_getElem?
 intro k
 rw [getElem?_mirror_all (by simp [im])]
 split
 . rename_i h
   have e:k=X.length+(k-X.length):=by omega
   generalize k-X.length=d at e
   subst e
   rw [show X.length+(X.length+u.length)-1-(X.length+d)=X.length+(u.length-1-d)by omega,K5 X (u++v) (by simp;omega),K5 X (u.reverse++v) (by simp;omega)]
   have J:d<u.length:=by omega
   have G:u.length-1-d<u.length:=by omega
   simp [dI,J,G]
 . rename_i h
   rcases lt_or_ge k X.length with l | l
   . simp [im,dI,l]
   . have:u.length<=k-X.length:=by omega
     have h2:¬k-X.length<u.length:=by omega
     simp [im,dI,Nat.not_lt.mpr l,h2]
theorem Ai7 {X u v:List Nat}{O:Array (Nat × Nat × Nat)}{st:SortSt} (J:SI κ it (X++(u++v)) O st) {Q:Unit->SortSt->Prop} (hi:i=X.length) (U:j=X.length+u.length) (q:∀G,SI κ it (X++(u.reverse++v)) O G->Q () G):CW prog w A E I (reverseSlice' i j) Q st:=by
 subst hi U
 rw [reverseSlice'_eq]
 refine Fl (q _ ⟨J.kd,J.fa,?_,J.pe⟩)
 show mirror (arrOf st) _ _ _=_
 rw [J.ar,Aaa]
theorem T6 (hc:HC prog w A I κ it n lt) {X Z:List Nat}{st:SortSt}{lo G:Nat}{Q:Option Nat->SortSt->Prop} (hs:SI κ it (X++Z) pd st) (hn:∀i∈Z,i<n) (nd:Z.Nodup) (a7:lo=X.length) (hm:G=Z.length) (h0:1<=G)
 (q:∀m Z' O,Z'.Perm Z->1<=m->m<=G->Asc lt Z' m->SI κ it (X++Z') pd O->Q (some m) O):CW prog w A E I (countRun' lo G) Q st:=by
 rw [countRun'_eq]
 dsimp only
 refine Ai (Cp (Ci (J:=fun i z O=>O=st/\z=(none,1+i)/\Asc lt Z (1+i)) (Q:=fun z O=>O=st/\∃m,z=(none,m)/\1<=m/\m<=G/\Asc lt Z m/\(m<G->lt (Z.getD m 0) (Z.getD (m-1) 0)=true)) ?_ ?_ ⟨rfl,rfl,fun i j a3 hj=>by omega⟩) ?_)
 . rintro i z O hi ⟨rfl,rfl,U⟩
   dsimp only
   refine Ai (J6 hc hs hn nd (a:=1+i) (b:=i) (by omega) (by omega) (by omega) (by omega) (by omega) ?_)
   dsimp only
   split
   . rename_i l
     exact Ao ⟨rfl,1+i,rfl,by omega,by omega,U,fun _=>by rw [show 1+i-1=i by omega];exact l⟩
   . rename_i l
     refine Ao ⟨rfl,by rw [eM],?_⟩
     rw [<-eM]
     refine Asc.next hc.lo hn (by omega) (by omega) U ?_
     rw [show 1+i-1=i by omega]
     exact hc.lo.not (hn _ (Ce (by omega))) (hn _ (Ce (by omega))) (Ru nd (by omega) (by omega) (by omega)) (by simpa using l)
 . rintro z O ⟨rfl,rfl,U⟩
   exact⟨rfl,1+(G-1),rfl,by omega,by omega,U,fun h=>by omega⟩
 . rintro z O ⟨rfl,m,rfl,m1,m2,U,hl⟩
   dsimp only
   by_cases e:m=G
   . rw [aI (by simp [e])]
     exact Ao (q m Z O (jP _) m1 m2 U hs)
   rw [aF (by simp [e])]
   have hl:=hl (by omega)
   by_cases e1:m>1
   . rw [aI e1]
     refine Ai (J6 hc hs hn nd (a:=0) (b:=m-1) (by omega) (by omega) (by omega) (by omega) (by omega) ?_)
     dsimp only
     rw [aI (U 0 (m-1) (by omega) (by omega))]
     exact Ao (q m Z O (jP _) m1 m2 U hs)
   rw [aF e1]
   have em:m=1:=by omega
   subst em
   refine Ai (J8 ?_)
   refine Ai (Cp (Ci (J:=fun i z W=>W=O/\z=(none,2+i,0)/\Dsc lt Z (2+i)) (Q:=fun z W=>W=O/\∃m,z=(none,m,0)/\2<=m/\m<=G/\Dsc lt Z m) ?_ ?_ ⟨rfl,rfl,fun i j a3 hj=> ?_⟩) ?_)
   . rintro i z W hi ⟨rfl,rfl,hd⟩
     dsimp only
     refine Ai (J6 hc hs hn nd (a:=2+i) (b:=1+i) (by omega) (by omega) (by omega) (by omega) (by omega) ?_)
     dsimp only
     split
     . rename_i l
       rw [aF (by omega)]
       refine Ao ⟨rfl,by rw [eM],?_⟩
       rw [<-eM]
       refine Dsc.next hc.lo hn (by omega) (by omega) hd ?_
       rw [show 2+i-1=1+i by omega]
       exact l
     . rename_i l
       refine Ai (J6 hc hs hn nd (a:=1+i) (b:=2+i) (by omega) (by omega) (by omega) (by omega) (by omega) ?_)
       dsimp only
       rw [aI (hc.lo.not (hn _ (Ce (by omega))) (hn _ (Ce (by omega))) (Ru nd (by omega) (by omega) (by omega)) (by simpa using l))]
       exact Ao ⟨rfl,2+i,rfl,by omega,by omega,hd⟩
   . rintro z W ⟨rfl,rfl,hd⟩
     exact⟨rfl,2+(G-(1+1)),rfl,by omega,by omega,hd⟩
   . have e1:i=0:=by omega
     have e2:j=1:=by omega
     subst e1 e2
     exact hl
   . rintro z W ⟨rfl,k,rfl,k1,k2,hd⟩
     dsimp only
     rw [aF (by omega)]
     have a8:SI κ it (X++(Z.take k++Z.drop k)) pd W:=by rw [dE];exact hs
     have lk:(Z.take k).length=k:=by rw [bV];omega
     refine Ai (Ai7 a8 a7 (by omega) fun a4 a5=> ?_)
     have pm:((Z.take k).reverse++Z.drop k).Perm Z:=by
      have:=iO (Z.drop k) (jU (Z.take k))
      rwa [dE]at this
     have a9:Asc lt ((Z.take k).reverse++Z.drop k) k:=fun i j a3 hj=>by
      have g:∀i,i<k->((Z.take k).reverse++Z.drop k).getD i 0=Z.getD (k-1-i) 0:=fun i hi=>by
       have h1:i<(Z.take k).reverse.length:=by simp;omega
       have h2:k-1-i<Z.length:=by omega
       have h3:k-1-i<k:=by omega
       have h4:min k Z.length=k:=by omega
       simp [aU,dI,h1,lF,h2,h3,h4,hi,List.getElem?_take]
      rw [g i (by omega),g j hj]
      exact hd _ _ (by omega) (by omega)
     have ln:=pm.length_eq
     have a1:∀i∈(Z.take k).reverse++Z.drop k,i<n:=fun i hi=>hn i (pm.mem_iff.mp hi)
     have a6:=pm.nodup_iff.mpr nd
     generalize (Z.take k).reverse++Z.drop k=Z' at*
     refine Ai (Cp (Ci (J:=fun i z O=>O=a4/\z=(none,k+i)/\Asc lt Z' (k+i)) (Q:=fun z O=>O=a4/\∃m,z=(none,m)/\1<=m/\m<=G/\Asc lt Z' m) ?_ ?_ ⟨rfl,rfl,a9⟩) ?_)
     . rintro i z a2 hi ⟨rfl,rfl,U⟩
       dsimp only
       refine Ai (J6 hc a5 a1 a6 (a:=k+i) (b:=k+i-1) (by omega) (by omega) (by omega) (by omega) (by omega) ?_)
       dsimp only
       split
       . rename_i l
         exact Ao ⟨rfl,k+i,rfl,by omega,by omega,U⟩
       . rename_i l
         refine Ao ⟨rfl,by rw [eM],?_⟩
         rw [<-eM]
         refine Asc.next hc.lo a1 (by omega) (by omega) U ?_
         exact hc.lo.not (a1 _ (Ce (by omega))) (a1 _ (Ce (by omega))) (Ru a6 (by omega) (by omega) (by omega)) (by simpa using l)
     . rintro z a2 ⟨rfl,rfl,U⟩
       exact⟨rfl,k+(G-k),rfl,by omega,by omega,U⟩
     . rintro z a2 ⟨rfl,m,rfl,m1,m2,U⟩
       dsimp only
       exact Ao (q m Z' a2 pm m1 m2 U a5)
theorem Yi (X u v R:List Nat) (c:Nat):bubble (im it (X++(u++(v++c::R)))) (X.length+(u.length+v.length)) (X.length+(u.length+v.length)-(X.length+u.length))=im it (X++(u++(c::v++R))):=by
 apply Array.ext_getElem?
 intro k
 rw [getElem?_bubble (by simp [im]) _ (by omega),show X.length+(u.length+v.length)-(X.length+(u.length+v.length)-(X.length+u.length))=X.length+u.length by omega]
 have G:im it (X++(u++(v++c::R)))=im it ((X++u)++(v++c::R)):=by rw [cK]
 have J:im it (X++(u++(c::v++R)))=im it ((X++u)++(c::v++R)):=by rw [cK]
 have O:X.length+u.length=(X++u).length:=by simp
 rw [G,J,<-eM,O]
 generalize X++u=Y
 split
 . rename_i h
   subst h
   have h1:=K5 (it:=it) Y (v++c::R) (i:=v.length) (by simp)
   have h2:=K5 (it:=it) Y (c::v++R) (i:=0) (by simp)
   rw [Nat.add_zero]at h2
   rw [h1,h2]
   simp
 . rename_i h
   split
   . rename_i h2
     obtain⟨d,rfl⟩:∃d,k=Y.length+(d+1):=⟨k-Y.length-1,by omega⟩
     rw [show Y.length+(d+1)-1=Y.length+d by omega,K5 Y (v++c::R) (by simp;omega),K5 Y (c::v++R) (by simp;omega)]
     have U:d<v.length:=by omega
     simp [dI,U]
   . rename_i h2
     rcases lt_or_ge k Y.length with l | l
     . simp [im,dI,l]
     . obtain⟨d,rfl⟩:∃d,k=Y.length+(v.length+1+d):=⟨k-Y.length-v.length-1,by omega⟩
       have W:¬v.length+1+d<v.length:=by omega
       have Z:v.length+1+d-v.length=d+1:=by omega
       have a3:v.length+1+d=(v.length+d)+1:=by omega
       simp [im,dI,W,Z]
       rw [a3]
       simp [dI]
       rw [aF (by omega),aF (by omega),aF (by omega)]
theorem Pg (hc:HC prog w A I κ it n lt) {X:List Nat}{pd:Array (Nat × Nat × Nat)}{lo ok:Nat}{Q:Bool->SortSt->Prop} (a8:lo=X.length) (h1:1<=ok) {Z0:List Nat}{st:SortSt} (hm:m<=Z0.length) (a9:ok<=m)
 (W:SI κ it (X++Z0) pd st) (hn:∀i∈Z0,i<n) (nd:Z0.Nodup) (ha:Asc lt Z0 ok)
 (q:∀Z G,Z.Perm Z0->Asc lt Z m->SI κ it (X++Z) pd G->Q true G):CW prog w A E I (binarySort' lo m ok) Q st:=by
 rw [binarySort'_eq]
 dsimp only
 have e1:max ok 1=ok:=by omega
 rw [e1]
 refine Ai (Cp (Ci (J:=fun i z G=>z=(none,())/\∃Z,Z.Perm Z0/\Asc lt Z (ok+i)/\SI κ it (X++Z) pd G) (Q:=fun z G=>z=(none,())/\∃Z,Z.Perm Z0/\Asc lt Z m/\SI κ it (X++Z) pd G) ?_ ?_ ⟨rfl,Z0,jP _,ha,W⟩) ?_)
 . rintro i z G hi ⟨rfl,Z,pm,ha,W⟩
   have O:∀i∈Z,i<n:=fun i hi=>hn i (pm.mem_iff.mp hi)
   have a6:=pm.nodup_iff.mpr nd
   have ln:=pm.length_eq
   generalize hk:ok+i=k at*
   have kZ:k<Z.length:=by omega
   refine Ai (Cp (Ci (J:=fun i z U=>U=G/\∃l r,z=(none,l,r)/\l<=r/\r<=k/\r-l<=k-i/\(∀i,i<l->lt (Z.getD i 0) (Z.getD k 0)=true)/\(∀i,r<=i->i<k->lt (Z.getD k 0) (Z.getD i 0)=true))
    (Q:=fun z U=>U=G/\∃l r,z=(none,l,r)/\l<=k/\(∀i,i<l->lt (Z.getD i 0) (Z.getD k 0)=true)/\(∀i,l<=i->i<k->lt (Z.getD k 0) (Z.getD i 0)=true)) ?_ ?_ ⟨rfl,0,k,rfl,by omega,by omega,by omega,fun i hi=>by omega,fun i h1 h2=>by omega⟩) ?_)
   . rintro i z U aa ⟨rfl,l,r,rfl,a1,a2,a3,a4,a5⟩
     dsimp only
     by_cases e:l>=r
     . rw [aI e]
       have:l=r:=by omega
       subst this
       exact Ao ⟨rfl,l,l,rfl,a2,a4,a5⟩
     rw [aF e]
     generalize ac:(l+r)/2=m2
     have b1:l<=m2:=by omega
     have b2:m2<r:=by omega
     refine Ai (J6 hc W O a6 (a:=k) (b:=m2) (by omega) (by omega) kZ (by omega) (by omega) ?_)
     dsimp only
     have T:=hc.lo.trans
     split
     . rename_i g
       refine Ao ⟨rfl,l,m2,rfl,b1,by omega,by omega,a4,fun i h1 h2=> ?_⟩
       by_cases e2:i=m2
       . rw [e2]
         exact g
       . exact T _ _ _ (O _ (Ce kZ)) (O _ (Ce (by omega))) (O _ (Ce (by omega))) g (ha m2 i (by omega) h2)
     . rename_i g
       have g':=hc.lo.not (O _ (Ce kZ)) (O _ (Ce (by omega:m2<Z.length))) (Ru a6 kZ (by omega) (by omega)) (by simpa using g)
       refine Ao ⟨rfl,m2+1,r,rfl,by omega,a2,by omega,fun i hi=> ?_,a5⟩
       by_cases e2:i=m2
       . rw [e2]
         exact g'
       . exact T _ _ _ (O _ (Ce (by omega))) (O _ (Ce (by omega))) (O _ (Ce kZ)) (ha i m2 (by omega) (by omega)) g'
   . rintro z U ⟨rfl,l,r,rfl,a1,a2,a3,a4,a5⟩
     have:l=r:=by omega
     subst this
     exact⟨rfl,l,l,rfl,a2,a4,a5⟩
   . rintro z U ⟨rfl,l,r,rfl,lk,a4,a5⟩
     dsimp only
     have eZ:Z=Z.take l++((Z.take k).drop l++Z.getD k 0::Z.drop (k+1)):=by
      have e2:Z.getD k 0::Z.drop (k+1)=Z.drop k:=by
       rw [gZ kZ]
       simp [kZ]
      have e3:Z.take l=(Z.take k).take l:=by rw [List.take_take,kY lk]
      rw [e2,<-cK,e3,dE,dE]
     have lu:(Z.take l).length=l:=by rw [bV];omega
     have lv:((Z.take k).drop l).length=k-l:=by rw [iV,bV];omega
     have st:=(Asc.pw (by omega) ha)
     have hu:∀i∈Z.take l,lt i (Z.getD k 0)=true:=fun i hi=>by
      obtain⟨j,hj,rfl⟩:=List.mem_take_iff_getElem.mp hi
      have a7:j<l/\j<Z.length:=by omega
      have:=a4 j a7.1
      have e2:Z.getD j 0=Z[j]:=by simp [a7.2]
      rwa [e2]at this
     have hv:∀i∈(Z.take k).drop l,lt (Z.getD k 0) i=true:=fun i hi=>by
      obtain⟨j,hj,rfl⟩:=List.mem_drop_iff_getElem.mp hi
      rw [bV]at hj
      have:=a5 (l+j) (by omega) (by omega)
      have e2:Z.getD (l+j) 0=Z[l+j]'(by omega):=by simp [show l+j<Z.length by omega]
      rw [e2]at this
      rw [iN]
      exact this
     have ek:Z.take k=Z.take l++(Z.take k).drop l:=by
      have e3:Z.take l=(Z.take k).take l:=by rw [List.take_take,kY lk]
      rw [e3,dE]
     rw [ek]at st
     obtain⟨s1,s2,s3⟩:=Jp.mp st
     generalize ad:Z.getD k 0=c at*
     generalize Z.take l=u at*
     generalize (Z.take k).drop l=v at*
     generalize Z.drop (k+1)=R at*
     refine Ai (m:=moveDown' (lo+k) (lo+l)) ?_
     have ml:moveDown' (lo+k) (lo+l)=modify fun s=>setArr s (bubble (arrOf s) (lo+k) ((lo+k)-(lo+l))):=moveDown'_eq _ _
     rw [ml]
     refine Fl (Ao ⟨rfl,u++(c::v++R),?_,?_,?_⟩)
     . refine Perm.trans ?_ pm
       rw [eZ]
       refine eI _ ?_
       rw [cons_append]
       exact List.perm_middle.symm
     . refine Asc.of (by simp;omega) ?_
       have e5:(u++(c::v++R)).take (ok+(i+1))=u++c::v:=by
        rw [show ok+(i+1)=(u++c::v).length by simp;omega,show u++(c::v++R)=(u++c::v)++R by simp,List.take_left]
       rw [e5]
       refine Jp.mpr ⟨s1,cU.mpr ⟨hv,s2⟩,fun i hi j hj=> ?_⟩
       rcases aS.mp hj with rfl | e
       . exact hu i hi
       . exact s3 i hi j e
     . refine⟨W.kd,W.fa,?_,W.pe⟩
       show bubble (arrOf U) _ _=_
       rw [W.ar,eZ,a8]
       have e6:k=u.length+v.length:=by omega
       have:=Yi (it:=it) X u v R c
       rw [<-e6,lu]at this
       exact this
 . rintro z G ⟨rfl,Z,pm,ha,W⟩
   exact⟨rfl,Z,pm,by rw [show ok+(m-ok)=m by omega]at ha;exact ha,W⟩
 . rintro z G ⟨rfl,Z,pm,ha,W⟩
   dsimp only
   exact Ao (q Z G pm ha W)
end
section
variable {prog:Program}{w:World}{A:Around}{E:Value->Shared->Prop}{κ:SortKind}{it:Array Keyed}{n:Nat}{lt:Nat->Nat->Bool}{I:Shared->Prop}
noncomputable def PR (lt:Nat->Nat->Bool):Nat->List (List Nat)->List (Nat × Nat × Nat)->Prop
 | _,[],[]=>True
 | s,r::rs,x::q=>(x.1=s/\x.2.1=r.length/\r≠ []/\r.Pairwise (LT lt))/\PR lt (s+r.length) rs q
 | _,[],_::_=>False
 | _,_::_,[]=>False
theorem PR.len:∀ {G:List (List Nat)}{q:List (Nat × Nat × Nat)}{s:Nat},PR lt s G q->G.length=q.length
 | [],[],_,_=>rfl
 | _::_,_::_,_,h=>by rw [bH,bH,PR.len h.2]
 | [],_::_,_,h=>h.elim
 | _::_,[],_,h=>h.elim
theorem PR.few:∀ {G:List (List Nat)}{q:List (Nat × Nat × Nat)}{s:Nat},PR lt s G q->G.length<=G.flatten.length
 | [],[],_,_=>aL _
 | r::G,_::_,_,h=>by
   have:=PR.few h.2
   have:=fQ.mpr h.1.2.2.1
   simp only [bH,gL,aH]
   omega
 | [],_::_,_,h=>h.elim
 | _::_,[],_,h=>h.elim
theorem PR.app:∀ {J G:List (List Nat)}{q O:List (Nat × Nat × Nat)}{s:Nat},PR lt s J q->PR lt (s+J.flatten.length) G O->PR lt s (J++G) (q++O)
 | [],_,[],_,_,_,h=>h
 | r::J,G,x::q,O,s,h,h2=>⟨h.1,PR.app h.2 (by rw [gL,aH,<-eM]at h2;exact h2)⟩
 | [],_,_::_,_,_,h,_=>h.elim
 | _::_,_,[],_,_,h,_=>h.elim
theorem PR.same:∀ {G:List (List Nat)}{q J:List (Nat × Nat × Nat)}{s:Nat},PR lt s G q->J.map (fun x=>(x.1,x.2.1))=q.map (fun x=>(x.1,x.2.1))->PR lt s G J
 | [],[],[],_,_,_=>trivial
 | [],[],_::_,_,_,e=>by simp at e
 | _::_,_::_,[],_,_,e=>by simp at e
 | r::G,x::q,x'::J,s,h,e=>by
   simp only [bC,List.cons.injEq,kC]at e
   exact⟨⟨by rw [e.1.1];exact h.1.1,by rw [e.1.2];exact h.1.2.1,h.1.2.2⟩,PR.same h.2 e.2⟩
 | [],_::_,_,_,h,_=>h.elim
 | _::_,[],_,_,h,_=>h.elim
theorem PR.split:∀ {i:Nat}{rs:List (List Nat)}{q:List (Nat × Nat × Nat)}{s:Nat},PR lt s rs q->i+1<q.length->∃J a b G U pa pb O,rs=J++a::b::G/\q=U++(s+J.flatten.length,a.length,pa)::(s+J.flatten.length+a.length,b.length,pb)::O/\U.length=i/\PR lt s J U/\
 a≠ []/\a.Pairwise (LT lt)/\b≠ []/\b.Pairwise (LT lt)/\PR lt (s+J.flatten.length+a.length+b.length) G O
 | 0,a::b::G,(s1,l1,p1)::(s2,l2,p2)::O,s,h,_=>by
   obtain⟨⟨Z,W,e3,e4⟩,⟨e5,e6,e7,e8⟩,h2⟩:=h
   dsimp only at Z W e5 e6
   subst Z W e5 e6
   exact⟨[],a,b,G,[],p1,p2,O,rfl,rfl,rfl,trivial,e3,e4,e7,e8,h2⟩
 | i+1,r::rs,x::q,s,h,hi=>by
   obtain⟨J,a,b,G,U,pa,pb,O,Z,W,e3,h1,a1,a2,b1,b2,h2⟩:=PR.split (i:=i) h.2 (by simpa using hi)
   have e:s+r.length+J.flatten.length=s+(r::J).flatten.length:=by simp [eM]
   rw [e]at W h2
   exact⟨r::J,a,b,G,x::U,pa,pb,O,by rw [Z];rfl,by rw [W];rfl,by rw [bH,e3],⟨h.1,h1⟩,a1,a2,b1,b2,h2⟩
 | 0,[],[],_,_,hi=>by simp at hi
 | 0,[],_::_,_,h,_=>h.elim
 | 0,_::_,[],_,h,_=>h.elim
 | 0,[_],_::_::_,_,h,_=>h.2.elim
 | 0,_::_::_,[_],_,h,_=>h.2.elim
 | 0,[_],[_],_,_,hi=>by simp at hi
 | _+1,[],[],_,_,hi=>by simp at hi
 | _+1,[],_::_,_,h,_=>h.elim
 | _+1,_::_,[],_,h,_=>h.elim
structure RS (κ:SortKind) (it:Array Keyed) (n:Nat) (lt:Nat->Nat->Bool) (rs:List (List Nat)) (Z:List Nat) (pd:Array (Nat × Nat × Nat)) (st:SortSt):Prop where
 si:SI κ it (rs.flatten++Z) pd st
 pr:PR lt 0 rs pd.toList
 pm:(rs.flatten++Z).Perm (List.range n)
theorem Ag3 (G J:List (Nat × Nat × Nat)) (x y O:Nat × Nat × Nat):((G++x::y::J).toArray.setIfInBounds G.length O).eraseIdxIfInBounds (G.length+1)=(G++O::J).toArray:=by
 apply gX.mp
 simp [Array.eraseIdxIfInBounds,List.eraseIdx_append_of_length_le]
theorem Ml (hc:HC prog w A I κ it n lt) {rs:List (List Nat)}{Z:List Nat}{st:SortSt}{Q:Bool->SortSt->Prop} (h:RS κ it n lt rs Z pd st) (hi:i+1<pd.size)
 (q:∀a3 a4 U,RS κ it n lt a3 Z a4 U->a4.size+1=pd.size->a3.flatten.length=rs.flatten.length->Q true U):CW prog w A E I (mergeAt' i) Q st:=by
 obtain⟨J,a,b,G,qp,pa,pb,q2,e1,e2,e3,h1,a1,a2,b1,b2,h2⟩:=h.pr.split (i:=i) (by rw [bF];exact hi)
 have O:pd=(qp++(0+J.flatten.length,a.length,pa)::(0+J.flatten.length+a.length,b.length,pb)::q2).toArray:=by
  apply gX.mp
  rw [e2]
 rw [kQ]at O h2
 have ef:rs.flatten++Z=J.flatten++(a++(b++(G.flatten++Z))):=by rw [e1];simp
 have hs:=h.si
 have pm:=h.pm
 rw [ef]at hs pm
 have nd:=pm.nodup_iff.mpr nodup_range
 have a5:∀i∈J.flatten++(a++(b++(G.flatten++Z))),i<n:=fun i hi=>cW.mp (pm.mem_iff.mp hi)
 refine W6 hc hs (pa:=pa) (pb:=pb) ?_ ?_ a1 b1 a2 b2 (fun i hi=>a5 i (by simp [hi])) (fun i hi=>a5 i (by simp [hi])) ?_ fun z U hp hz W=> ?_
 . rw [O,<-e3]
   simp
 . rw [O,<-e3]
   simp
 . have n1:=(jV.mp nd).2.1
   have n2:=(jV.mp n1).2.2
   exact fun i hi j hj=>n2 i hi j (bK _ hj)
 . have lz:=hp.length_eq
   rw [aH]at lz
   rw [O,<-e3,Ag3]at W
   have ez:J.flatten++(z++(G.flatten++Z))=(J++z::G).flatten++Z:=by simp
   rw [ez]at W
   refine q (J++z::G) _ U ⟨W,?_,?_⟩ ?_ ?_
   . rw [List.toList_toArray]
     refine h1.app ⟨⟨by simp,by simp [lz],fun e=> ?_,hz⟩,?_⟩
     . rw [e]at lz
       have:=fQ.mpr a1
       simp at lz
       omega
     . rw [lz,<-eM,kQ]
       exact h2
   . rw [<-ez]
     refine Perm.trans ?_ pm
     refine eI _ ?_
     have:=iO (G.flatten++Z) hp
     rwa [cK a b]at this
   . rw [O]
     simp
     omega
   . rw [e1]
     simp [lz]
     omega
theorem PR.push {G:List (List Nat)}{q:List (Nat × Nat × Nat)}{r:List Nat}{p:Nat} (h:PR lt 0 G q) (J:r≠ []) (O:r.Pairwise (LT lt)):PR lt 0 (G++ [r]) (q++ [(G.flatten.length,r.length,p)]):=
 h.app ⟨⟨by simp,rfl,J,O⟩,trivial⟩
theorem RS.push {G:List (List Nat)}{Z:List Nat}{U:Array (Nat × Nat × Nat)}{st:SortSt}{m:Nat} (h:RS κ it n lt G Z U st) (h1:1<=m) (W:m<=Z.length) (ha:Asc lt Z m) {lo:Nat} (J:lo=G.flatten.length):
 RS κ it n lt (G++ [Z.take m]) (Z.drop m) (U.push (lo,m,0)) (setPending st ((pendingOf st).push (lo,m,0))):=by
 have e:(G++ [Z.take m]).flatten++Z.drop m=G.flatten++Z:=by simp
 have O:(Z.take m).length=m:=by rw [bV];omega
 refine⟨⟨h.si.kd,h.si.fa,by rw [e];exact h.si.ar,?_⟩,?_,by rw [e];exact h.pm⟩
 . show(pendingOf st).push _=_
   rw [h.si.pe]
 . rw [Array.toList_push]
   have:=h.pr.push (r:=Z.take m) (p:=0) (fun z=>by rw [z]at O;simp at O;omega) (ha.pw W)
   rw [O,<-J]at this
   exact this
theorem RS.power {J:List (List Nat)}{Z:List Nat}{O:Array (Nat × Nat × Nat)}{st:SortSt} (h:RS κ it n lt J Z O st) (k pw:Nat):
 ∃G,RS κ it n lt J Z G (setPending st ((pendingOf st).modify k fun x=>(x.1,x.2.1,pw))):=by
 refine⟨O.modify k fun x=>(x.1,x.2.1,pw),⟨h.si.kd,h.si.fa,h.si.ar,?_⟩,?_,h.pm⟩
 . exact bE (fun p:Array (Nat × Nat × Nat)=>p.modify k fun x=>(x.1,x.2.1,pw)) h.si.pe
 . refine h.pr.same ?_
   rw [Array.toList_modify]
   refine kL (by simp) fun i a b=> ?_
   simp only [iW,List.getElem_modify]
   split<;>rfl
theorem RS.z {J:List (List Nat)}{Z O:List Nat}{U:Array (Nat × Nat × Nat)}{st G:SortSt} (h:RS κ it n lt J Z U st) (W:O.Perm Z) (hs:SI κ it (J.flatten++O) U G):RS κ it n lt J O U G:=
 ⟨hs,h.pr,(eI _ W).trans h.pm⟩
theorem T7 (hc:HC prog w A I κ it n lt) {st:SortSt}{Q:Unit->SortSt->Prop} (hs:SI κ it (List.range n) #[] st) (h2:1<=n)
 (q:∀p W U,p.Perm (List.range n)->p.Pairwise (LT lt)->SI κ it p W U->Q () U):CW prog w A E I sortRuns' Q st:=by
 rw [sortRuns'_eq]
 dsimp only
 refine Ai (Ji ?_)
 have sz:(arrOf st).size=n:=by rw [hs.ar,Ds,cJ]
 rw [sz]
 generalize minRun' n n 0=mr
 have tot:∀ {rs:List (List Nat)}{Z:List Nat}{W:Array (Nat × Nat × Nat)}{st:SortSt},RS κ it n lt rs Z W st->rs.flatten.length+Z.length=n:=fun h=>by
  have:=h.pm.length_eq
  rwa [aH,cJ]at this
 refine Ai (Cp (Ci (J:=fun i z U=>∃rs Z W lo,z=(none,lo)/\RS κ it n lt rs Z W U/\lo=rs.flatten.length/\i<=lo) (Q:=fun z U=>∃rs W lo,z=(none,lo)/\RS κ it n lt rs [] W U) ?_ ?_ ⟨[],List.range n,#[],0,rfl,⟨by simpa using hs,trivial,by simp⟩,rfl,aL _⟩) ?_)
 . rintro i z a7 hi ⟨rs,Z,W,lo,rfl,h,a1,ah⟩
   have tt:=tot h
   dsimp only
   by_cases e:lo>=n
   . rw [aI e]
     have hZ:Z=[]:=aR (by omega)
     subst hZ
     exact Ao ⟨rs,W,lo,rfl,h⟩
   rw [aF e]
   have hn:∀i∈Z,i<n:=fun i hi=>cW.mp (h.pm.mem_iff.mp (bD _ hi))
   have nd:Z.Nodup:=(jV.mp (h.pm.nodup_iff.mpr nodup_range)).2.1
   refine Ai (T6 hc h.si hn nd a1 (by omega) (by omega) fun m Z' a2 hp m1 m2 ha a8=> ?_)
   dsimp only
   have h2:=h.z hp a8
   have lz:=hp.length_eq
   have ac:∀i∈Z',i<n:=fun i hi=>hn i (hp.mem_iff.mp hi)
   have ad:=hp.nodup_iff.mpr nd
   clear a8
   by_cases c:m<mr
   case' pos=>
    rw [aI c]
    refine Ai (J8 ?_)
    generalize ai:min (n-lo) mr=m3
    refine Ai (Pg hc a1 m1 (by omega) (by omega) h2.si ac ad ha fun Z2 ae a9 a5 aa=> ?_)
    rw [aF (by simp)]
    have h3:=h2.z a9 aa
    have af:Z2.length=Z.length:=by rw [a9.length_eq,lz]
    have m4:1<=m3/\m3<=n-lo:=by omega
    clear aa ha h2
   case' neg=>
    rw [aF c]
    obtain⟨m3,rfl⟩:∃m3,m3=m:=⟨m,rfl⟩
    obtain⟨Z2,rfl⟩:∃Z2,Z2=Z':=⟨Z',rfl⟩
    obtain⟨ae,rfl⟩:∃s,s=a2:=⟨a2,rfl⟩
    have a5:=ha
    have h3:=h2
    have af:=lz
    have m4:1<=m3/\m3<=n-lo:=⟨m1,m2⟩
    clear ha h2
   all_goals
    refine Ai (Ji ?_)
    rw [h3.si.pe]
    cases hb:W.back? with
    | none=>
      dsimp only
      refine Ai (Fl (Ao ?_))
      refine⟨_,_,_,_,rfl,h3.push m4.1 (by omega) a5 a1,?_,by omega⟩
      simp [a1]
      omega
    | some x=>
      obtain⟨s1,n1,p1⟩:=x
      dsimp only
      generalize power' n _ _ n=pw
      refine Ai (Cp (Ci (J:=fun _ z U=>z=(none,())/\∃O G,RS κ it n lt O Z2 G U/\O.flatten.length=rs.flatten.length) (Q:=fun z U=>z=(none,())/\∃O G,RS κ it n lt O Z2 G U/\O.flatten.length=rs.flatten.length) ?_ ?_ ⟨rfl,rs,W,h3,rfl⟩) ?_)
      . rintro i z a6 hi ⟨rfl,O,G,h4,hl⟩
        refine Ai (Ji ?_)
        rw [h4.si.pe]
        by_cases c2:G.size>1
        . rw [aI c2]
          have e3:G[G.size-2]? =some (G[G.size-2]'(by omega)):=eE _
          rw [e3]
          obtain⟨y1,y2,y3⟩:=G[G.size-2]
          dsimp only
          split
          . exact Ao ⟨rfl,O,G,h4,hl⟩
          . refine Ai (Ml hc h4 (by omega) fun a3 a4 ag h5 _ aj=> ?_)
            rw [aF (by simp)]
            exact Ao ⟨rfl,a3,a4,h5,by omega⟩
        . rw [aF c2]
          exact Ao ⟨rfl,O,G,h4,hl⟩
      . rintro z a6 ⟨rfl,h4⟩
        exact⟨rfl,h4⟩
      . rintro z a6 ⟨rfl,O,G,h4,hl⟩
        dsimp only
        refine Ai (Fl (Ai (Fl (Ao ?_))))
        obtain⟨a4,h5⟩:=h4.power ((pendingOf a6).size-1) pw
        refine⟨_,_,_,_,rfl,h5.push m4.1 (by omega) a5 (by omega),?_,by omega⟩
        simp [a1,hl]
        omega
 . rintro z a7 ⟨rs,Z,W,lo,rfl,h,a1,hi⟩
   have tt:=tot h
   have hZ:Z=[]:=aR (by omega)
   subst hZ
   exact⟨rs,W,lo,rfl,h⟩
 . rintro z a7 ⟨rs,W,lo,rfl,h⟩
   dsimp only
   have tt:=tot h
   have lf:=h.pr.few
   have ll:rs.length=W.size:=h.pr.len.trans bF
   rw [eD]at tt
   refine Ai (Cp (Ci (J:=fun i z U=>z=(none,())/\∃rs W,RS κ it n lt rs [] W U/\(W.size<=1\/W.size+i<=n)) (Q:=fun z U=>z=(none,())/\∃rs W,RS κ it n lt rs [] W U/\W.size<=1) ?_ ?_ ⟨rfl,rs,W,h,.inr (by omega)⟩) ?_)
   . rintro i z a2 hi ⟨rfl,O,G,h4,hl⟩
     refine Ai (Ji ?_)
     rw [h4.si.pe]
     by_cases c:G.size<=1
     . rw [aI c]
       exact Ao ⟨rfl,O,G,h4,c⟩
     rw [aF c]
     refine Ai (Ml hc h4 ?_ fun a3 a4 ag h5 hz _=> ?_)
     . have:∀c:Bool,(if c=true then G.size-2-1 else G.size-2)+1<G.size:=fun c=>by cases c<;>simp<;>omega
       exact this _
     . rw [aF (by simp)]
       exact Ao ⟨rfl,a3,a4,h5,.inr (by omega)⟩
   . rintro z a2 ⟨rfl,O,G,h4,hl⟩
     exact⟨rfl,O,G,h4,by omega⟩
   . rintro z a2 ⟨rfl,O,G,h4,hl⟩
     have l2:=h4.pr.len
     rw [bF]at l2
     have pw:O.flatten.Pairwise (LT lt):=by
      have hp:=h4.pr
      revert hp
      generalize G.toList=q
      intro hp
      cases O with
      | nil=>exact .nil
      | cons r a3=>
        cases a3 with
        | nil=>
          cases q with
          | nil=>exact hp.elim
          | cons x q2=>simpa using hp.1.2.2.2
        | cons _ _=>simp at l2;omega
     have s5:=h4.si
     have p5:=h4.pm
     rw [bT]at s5 p5
     exact Ao (q _ _ _ p5 pw s5)
end
variable {vs:List Value}
theorem Ah7 {prog:Program}{w:World}{A:Around}{E:Value->Shared->Prop}{κ:SortKind}{lt:Nat->Nat->Bool}{I:Shared->Prop}{s:Shared} (h2:1<=vs.length) (L:LO vs.length lt)
 (hc:∀i j (C:Bool->Shared->Prop) s,I s->i<vs.length->j<vs.length->i≠j->(∀s',I s'->C (lt i j) s')->kas_ask prog w A κ vs i j C s) (hI:I s):
 wpAny (model prog w) A ((sortRuns').run (SortSt.mk' κ (vs.toArray.zip vs.toArray) #[] 7 none)) (fun r s'=>∃p:Array Nat,p.size=vs.length/\arrOf r.2=p.map (kas_item (vs.toArray.zip vs.toArray))/\failedOf r.2=none/\(PM vs.length p/\StT lt p vs.length)/\I s') E s:=by
 have J:HC prog w A I κ (vs.toArray.zip vs.toArray) vs.length lt:=⟨L,fun i j hi Z hn C s O q=>by
  rw [<-kat_ask_eq (ks:=vs) (vs:=vs) rfl]
  exact hc i j C s O hi Z hn q⟩
 have z0:(vs.toArray.zip vs.toArray).size=vs.length:=by simp
 have e0:vs.toArray.zip vs.toArray=im (vs.toArray.zip vs.toArray) (List.range vs.length):=by
  have h1:=kas_range (vs.toArray.zip vs.toArray)
  rw [z0]at h1
  have h2:im (vs.toArray.zip vs.toArray) (List.range vs.length)=(toArray (List.range vs.length)).map (kas_item (vs.toArray.zip vs.toArray)):=by rw [im,List.map_toArray]
  rw [h2,h1]
 have:=T7 (E:=E) (Q:=fun _ G=>∃p:Array Nat,p.size=vs.length/\arrOf G=p.map (kas_item (vs.toArray.zip vs.toArray))/\failedOf G=none/\(PM vs.length p/\StT lt p vs.length)) J (st:=SortSt.mk' κ (vs.toArray.zip vs.toArray) #[] 7 none) ⟨rfl,rfl,e0,rfl⟩ h2 fun p pd G hp O hi=>by
  have U:PM vs.length p.toArray:=PM.of (by simpa using hp)
  refine⟨p.toArray,U.sz,?_,hi.fa,U,fun i j W Z=> ?_⟩
  . rw [hi.ar]
    simp [im]
  . have sz:=U.sz
    rw [aM]at sz
    have:=bI.mp O i j (by omega) (by omega) W
    have e1:aT p.toArray i=p[i]'(by omega):=by simp [aT,show i<p.length by omega]
    have e2:aT p.toArray j=p[j]'(by omega):=by simp [aT,show j<p.length by omega]
    rw [e1,e2]
    exact this
 refine bP (this s hI) (fun r s' h=> ?_) fun _ _ e=>e
 obtain⟨hi,p,a1,a2,a3,a4⟩:=h
 exact⟨p,a1,a2,a3,a4,hi⟩
theorem G5 {prog:Program}{w:World}{A:Around}{E:Value->Shared->Prop}{s:Shared}{a:Addr}{vs:List Value}{n:Nat}{P:PySem.Fin->Shared->Prop}{κ:SortKind}{lt:Nat->Nat->Bool}
 (ho:s.heap.get? a=some (seqObj "list" vs.toArray n)) (a3:vs.length<16000000) (L:LO vs.length lt)
 (hk:2<=vs.length->∀h':Heap,(∀b o,b≠a->s.heap.get? b=some o->h'.get? b=some o)->wpAny (model prog w) A (keyKind' vs.toArray) (fun O s'=>O=κ/\s'={ s with heap:=h'}) (fun _ _=>False) { s with heap:=h'})
 (hc:∀(h':Heap) (i j:Nat) (C:Bool->Shared->Prop),(∀b o,b≠a->s.heap.get? b=some o->h'.get? b=some o)->i<vs.length->j<vs.length->i≠j->C (lt i j) { s with heap:=h'}->kas_ask prog w A κ vs i j C { s with heap:=h'})
 (h:∀p:Array Nat,PM vs.length p->StT lt p vs.length->P (.done (.ret .none)) { s with heap:=sortedHeap s.heap a vs (toArray (p.toList.map fun i=>vs.getD i Value.none))}):
 wpAny (model prog w) A (Builtin.«list.sort» ⟨[.ref a],[]⟩) P E s:=by
 have ha:a<s.heap.objs.size:=aJ ho
 obtain⟨Z,U⟩:∃Z,(s.heap.update a (Obj.mapSeq fun _=>(#[]:Array Value))).get? a=some (seqObj "list" #[] Z):=⟨_,get?_update_seq ho fun _=> #[]⟩
 rw [list_sort_plain]
 refine aA (listItems_at ho rfl ?_)
 refine aA (listUpdate_at ho rfl ?_ (by rw [aM,dX];omega) (cH _))
 refine aA (seqEpoch_at U rfl ?_)
 refine aA (wpAny_newTuple ?_ (by show vs.length<=_;rw [dX];omega))
 refine aA (wpAny_newList ?_ (cH _))
 refine dN ?_
 show wpAny (model prog w) A _ P E { s with heap:=((s.heap.update a (Obj.mapSeq fun _=>(#[]:Array Value))).push (seqObj "tuple" vs.toArray 0)).push (seqObj "list" #[] 0)}
 dsimp only
 have J:(((s.heap.update a (Obj.mapSeq fun _=>(#[]:Array Value))).push (seqObj "tuple" vs.toArray 0)).push (seqObj "list" #[] 0)).get? a=some (seqObj "list" #[] Z):=by
  rw [fA _ _ _ (by rw [size_push',jI];exact aP (bU ha)),fA _ _ _ (by rw [jI];exact aP ha)]
  exact U
 have kp:∀b o,b≠a->s.heap.get? b=some o->(((s.heap.update a (Obj.mapSeq fun _=>(#[]:Array Value))).push (seqObj "tuple" vs.toArray 0)).push (seqObj "list" #[] 0)).get? b=some o:=fun b o hb e=>by
  have W:b<s.heap.objs.size:=aJ e
  rw [fA _ _ _ (by rw [size_push',jI];exact aP (bU W)),fA _ _ _ (by rw [jI];exact aP W),jY _ _ _ _ hb]
  exact e
 by_cases h2:vs.toArray.size<2
 . rw [aI h2,aI h2]
   refine aA (aD ?_)
   rw [StateT.run_pure]
   refine aA (aD ?_)
   dsimp only
   have hl:vs.length<2:=by rw [aM]at h2;exact h2
   have G:(arrOf (SortSt.mk' general' (vs.toArray.zip vs.toArray) #[] 7 none)).map (·.2)=toArray ((toArray (List.range vs.length)).toList.map fun i=>vs.getD i Value.none):=by
    show(vs.toArray.zip vs.toArray).map (·.2)=_
    exact Ain hl
   rw [G]
   refine aA (seqEpoch_at J rfl ?_)
   refine aA (listUpdate_at J rfl ?_ (cH _) (by rw [aM,aC,dX];simp;omega))
   simp only [bne_self_eq_false,fF,gD]
   exact aD (h _ (PM.start _) fun i j a4 hj=>by omega)
 . rw [aF h2,aF h2]
   have hl:2<=vs.length:=by rw [aM]at h2;omega
   refine aA (bP (hk hl _ kp) (fun O s0 hh=> ?_) fun _ _ x=>x.elim)
   obtain⟨rfl,rfl⟩:=hh
   refine aA (bP (Ah7 (I:=fun s'=>s'={ s with heap:=((s.heap.update a (Obj.mapSeq fun _=>(#[]:Array Value))).push (seqObj "tuple" vs.toArray 0)).push (seqObj "list" #[] 0)}) (by omega) L (fun i j C s' e hi hj hn q=>by subst e;exact hc _ i j C kp hi hj hn (q _ rfl)) rfl) ?_ fun _ _ e=>e)
   rintro⟨⟨⟩,a5⟩ s' ⟨p,hp,a1,hf,hP,rfl⟩
   dsimp only
   have G:=kat_snds rfl a1
   have a2:(toArray (p.toList.map fun i=>vs.getD i Value.none)).size=vs.length:=by rw [aM,aC,bF,hp]
   rw [G]
   refine aA (seqEpoch_at J rfl ?_)
   refine aA (listUpdate_at J rfl ?_ (cH _) (aO (fZ a2) (by rw [dX];omega)))
   rw [hf]
   simp only [bne_self_eq_false,fF,gD]
   exact aD (h p hP.1 hP.2)
theorem Tv (hu:X.A.units+64<cLine):Er X (.builtin "sorted") (fun xs H Q=>∃(d:Addr) (ts:List Prt),xs=[.ref d]/\SqL X.K H d (ts.map fun t=>V.ref t.1)/\(∀t∈ts,Amw X.K H t)/\(ts.map Prt.ks).Nodup/\ts.length<16000000/\
 ∀(l:Addr) (us:List Prt),H l=none->us.Perm ts->us.Pairwise (fun x y=>HT.lexLt x.ks y.ks=true)->Q (.ref l) (upd H l (.lst (us.map fun t=>V.ref t.1)))):=by
 intro pins s σ H xs us Q I r h
 obtain⟨d,ts,rfl,hd,hp,nd,af,q⟩:=h
 obtain⟨u,rfl,ru⟩:=vals1 r
 cases ru
 obtain⟨G,rv,⟨oL,nL,eL,cL,dL,sL⟩,hz⟩:=I.list hd
 have ev:G=ts.map fun t=>Value.ref t.1:=by
  have:=Aa2 (as:=ts.map fun t=>t.1) (us:=G) (by simpa [aZ,jZ]using rv)
  simpa [aZ,jZ]using this
 have hl:G.length=ts.length:=by rw [ev,aC]
 have a6:s.heap.IsList d G.toArray:=⟨oL,eL,cL,nL,sL⟩
 have aa:∀t∈ts,Ab7 X.prog X.w s.heap t/\t.1<s.heap.objs.size/\t.2.1<s.heap.objs.size:=fun t ht=>(hp t ht).at I
 have O:∀i (hi:i<G.length),G.getD i Value.none= .ref (ts[i]'(by omega)).1:=fun i hi=>by
  subst ev
  simp only [aC]at hi
  simp [hi]
 refine call_function_entry kind_sorted plain_sorted entry_sorted (args_sorted1 _) ?_
 unfold Builtin.«sorted»
 refine aA (m:=checkCount "sorted" 1 1 _) (aD ?_)
 refine aA (collect_list a6 ?_ (by rw [dX];omega))
 refine aA (wpAny_newList ?_ (by rw [dX];omega))
 have Z:((s.heap.push (seqObj "list" #[] 0)).update s.heap.objs.size (Obj.mapSeq (· ++G.toArray))).objs.size=s.heap.objs.size+1:=by
  rw [jI,size_push']
 have U:(((s.heap.push (seqObj "list" #[] 0)).update s.heap.objs.size (Obj.mapSeq (· ++G.toArray))).push (seqObj "list" G.toArray 0)).get? (s.heap.objs.size+1)=some (seqObj "list" G.toArray 0):=by
  rw [<-Z];exact aK _ rfl
 have keep:∀b o,s.heap.get? b=some o->(((s.heap.push (seqObj "list" #[] 0)).update s.heap.objs.size (Obj.mapSeq (· ++G.toArray))).push (seqObj "list" G.toArray 0)).get? b=some o:=fun b o q=>by
  have a1:b<s.heap.objs.size:=aJ q
  rw [fA _ _ _ (by rw [Z];exact aP (bU a1)),jY _ _ _ _ (aP a1),fA _ _ _ (aP a1)]
  exact q
 show wpAny _ _ _ _ _ { s with heap:=((s.heap.push (seqObj "list" #[] 0)).update s.heap.objs.size (Obj.mapSeq (· ++G.toArray))).push (seqObj "list" G.toArray 0)}
 rw [Z]
 generalize ((s.heap.push (seqObj "list" #[] 0)).update s.heap.objs.size (Obj.mapSeq (· ++G.toArray))).push (seqObj "list" G.toArray 0)=g at U keep ⊢
 have J:∀h':Heap,(∀b o,b≠s.heap.objs.size+1->g.get? b=some o->h'.get? b=some o)->∀t∈ts,Ab7 X.prog X.w h' t:=fun h' k t ht=>by
  obtain⟨x,l1,l2⟩:=aa t ht
  exact(x.keeps (a:=s.heap.objs.size+1) (fun b o _ e=>keep b o e) (aP (bU l1)) (aP (bU l2))).keeps k (aP (bU l1)) (aP (bU l2))
 have L:LO G.length (fun i j=>HT.lexLt ((ts.map Prt.ks).getD i []) ((ts.map Prt.ks).getD j [])):=by
  refine⟨fun i j hi W hn=>Pz _ _ fun e=> ?_,fun i j k _ _ _=>lex_trans _ _ _⟩
  have pw:=bI.mp nd
  have a2:i<(ts.map Prt.ks).length:=by rw [aC];omega
  have a3:j<(ts.map Prt.ks).length:=by rw [aC];omega
  have e3:(ts.map Prt.ks)[i]=(ts.map Prt.ks)[j]:=by
   rw [aU,aU,aG a2,aG a3]at e
   exact e
  rcases iG hn with l | l
  . exact pw i j a2 a3 l e3
  . exact pw j i a3 a2 l e3.symm
 refine aA (dN (bZ slot_list_sort ⟨_,U,rfl⟩ entry_list_sort (G5 (κ:=tuples' false) (n:=0) U (by omega) L (fun h2 h' k=> ?_) (fun h' i j C k hi W hn hC=> ?_) fun p hP hS=>⟨_,rfl,?_⟩) (args_list_sort _)))
 . rw [ev]
   refine kat_kind (T:= .type "tuple") (fs:=ts.map fun t=>Value.ref t.2.1) (V9 ts (J h' k)) (by rw [aC];omega) (fun v hv=> ?_) (by simp) ⟨by simp,rfl⟩
   obtain⟨t,ht,rfl⟩:=aE.mp hv
   obtain⟨ae,⟨o,e,c,_⟩,_⟩:=(J h' k t ht).tu
   rw [<-c]
   exact(Looks.ld e).andThen .now
 . unfold kas_ask
   rw [O i hi,O j W]
   have e:∀i (hi:i<G.length),(ts.map Prt.ks).getD i []=(ts[i]'(by omega)).ks:=fun i hi=>by
    rw [hl]at hi
    simp [hi]
   rw [e i hi,e j W]at hC
   refine Anu ?_ (J h' k _ (cS _)) (J h' k _ (cS _)) (fun z=> ?_) hC
   . show X.A.units+2<cLine
     omega
   . have z2:=L.tri i j hi W hn
     rw [e i hi,e j W,z]at z2
     simp at z2
 . refine aD ⟨_,rfl,?_⟩
   have eo:(p.toList.map fun i=>G.getD i Value.none)=(p.toList.map fun i=>ts.getD i (0,0,[],V.non)).map fun t=>Value.ref t.1:=by
    rw [aZ]
    refine dZ fun i hi=> ?_
    have a4:i<G.length:=cW.mp (hP.pm.mem_iff.mp hi)
    rw [O i a4]
    show _=Value.ref (ts.getD i _).1
    rw [hl]at a4
    simp [a4]
   have a7:(p.toList.map fun i=>ts.getD i (0,0,[],V.non)).Perm ts:=by
    have h1:=hP.pm.map fun i=>ts.getD i ((0,0,[],V.non):Prt)
    have h2:(List.range G.length).map (fun i=>ts.getD i ((0,0,[],V.non):Prt))=ts:=by
     rw [hl]
     refine kL (by simp) fun i a b=> ?_
     simp only [aC,cJ]at a
     simp [a]
    rw [h2]at h1
    exact h1
   have ac:(p.toList.map fun i=>ts.getD i ((0,0,[],V.non):Prt)).Pairwise (fun x y=>HT.lexLt x.ks y.ks=true):=by
    refine bI.mpr fun i j hi W ad=> ?_
    have a8:(p.toList.map fun i=>ts.getD i ((0,0,[],V.non):Prt)).length=G.length:=by rw [aC,bF,hP.sz]
    have g:∀i (hi:i<(p.toList.map fun i=>ts.getD i ((0,0,[],V.non):Prt)).length),((p.toList.map fun i=>ts.getD i ((0,0,[],V.non):Prt))[i]).ks=(ts.map Prt.ks).getD (aT p i) []:=fun i hi=>by
     have a5:i<p.size:=by rw [hP.sz,<-a8];exact hi
     have ea:p.toList[i]'(by rw [bF];exact a5)=aT p i:=by simp [aT,a5]
     have hb:aT p i<ts.length:=by rw [<-hl];exact hP.lt i (by rw [<-hP.sz];exact a5)
     rw [iW,ea]
     simp [hb]
    rw [g i hi,g j W]
    exact hS i j ad (by rw [<-a8];exact W)
   obtain⟨e,he⟩:=sortedHeap_at (out:=toArray (p.toList.map fun i=>G.getD i Value.none)) U
   have kp:∀b o,s.heap.get? b=some o->(sortedHeap g (s.heap.objs.size+1) G (toArray (p.toList.map fun i=>G.getD i Value.none))).get? b=some o:=fun b o e1=>by
    have lt:b<s.heap.objs.size:=aJ e1
    rw [sortedHeap_old (aP (bU lt)) (aJ (keep b o e1))]
    exact keep b o e1
   have a9:(p.toList.map fun i=>ts.getD i ((0,0,[],V.non):Prt)).length<=sizeLine:=by rw [a7.length_eq,dX];omega
   refine⟨.ref (s.heap.objs.size+1),_,I.laid (a:=s.heap.objs.size+1) (t':=s.toks) (o:= .lst ((p.toList.map fun i=>ts.getD i ((0,0,[],V.non):Prt)).map fun t=>V.ref t.1)) kp (gR _) ⟨by rw [aC];exact a9,p.toList.map fun i=>G.getD i Value.none,e,?_,he⟩,rfl,q _ _ (I.hok.fresh (gR _)) a7 ac⟩
   rw [eo]
   have:=Mx ((p.toList.map fun i=>ts.getD i ((0,0,[],V.non):Prt)).map fun t=>t.1)
   simpa [aZ,jZ]using this
theorem Tz (hc:X.calm=true):Er X (.builtin "sorted") (fun xs H Q=>∃(d:Addr) (kvs:List (List Key × V)) (n:Nat),xs=[.ref d]/\H d=some (.dT kvs)/\(∀e∈kvs,∃ks:List Int,e.1=ks.map Sum.inl/\ks.length=n)/\0<n/\(kvs.map (·.1)).Nodup/\kvs.length<16000000/\
 ∀(l:Addr) (us:List Tpt),H l=none->(us.map fun t=>(t.2.map Sum.inl:List Key)).Perm (kvs.map (·.1))->(∀t∈us,H t.1=some (.tup (t.2.map V.int)))->us.Pairwise (fun x y=>HT.lexLt x.2 y.2=true)->Q (.ref l) (upd H l (.lst (us.map fun t=>V.ref t.1)))):=by
 intro pins s σ H xs us Q I r h
 obtain⟨d,kvs,n,rfl,hd,ad,aj,nd,ak,q⟩:=h
 obtain⟨u,rfl,ru⟩:=vals1 r
 cases ru
 obtain⟨z,lo,ys,a8,od,es,ep,h1,h2,h3,h4,h5⟩:=(show Cy X.prog X.w H s.heap d (.dT kvs)from I.hok d _ hd)
 have lk:kvs.length=ys.length:=jK a8
 have le:es.size=ys.length:=by
  have:=bE length h4
  rw [bF,aC]at this
  exact this
 obtain⟨ts,e1,e2,e3⟩:=Ah8 a8 ad
 have lt:ts.length=kvs.length:=by
  have:=bE length e1
  simpa using this
 have hz:es.size<=sizeLine:=by rw [le,<-lk,dX];omega
 have ae:∀t∈ts,Aem s.heap t/\t.1<s.heap.objs.size:=fun t ht=>by
  obtain⟨_,G,r,p⟩:=(show Cy X.prog X.w H s.heap t.1 (.tup (t.2.map V.int))from I.hok _ _ (e3 t ht).1)
  exact⟨⟨G,p,intsAre_of r⟩,p.lt⟩
 refine call_function_entry kind_sorted plain_sorted entry_sorted (args_sorted1 _) ?_
 unfold Builtin.«sorted»
 refine aA (m:=checkCount "sorted" 1 1 _) (aD ?_)
 refine aA (kdu_collect (Agb lo h2 h3) (I.ok.hd hc) h1 hz fun h' tk O J a1=> ?_)
 have ha:O.toList=ts.map fun t=>Value.ref t.1:=by
  refine List.ext_getElem? fun j=> ?_
  have la:O.toList.length=ts.length:=by
   rw [bF,lt,lk,<-le]
   exact a1.1
  by_cases Z:j<ts.length
  . obtain⟨v,hv⟩:∃v,O.toList[j]? =some v:=⟨_,aG (by omega)⟩
    obtain⟨en,he,rfl⟩:=a1.2 j v (by rw [<-fG];exact hv)
    rw [hv,aN,aG Z]
    rw [<-fG,h4,aN,aG (by omega)]at he
    have e5:(ts.map fun t=>t.1)[j]? =(ys.map fun y=>y.2.1)[j]? :=by rw [e2]
    rw [aN,aN,aG Z,aG (by omega)]at e5
    have e6:=aY he
    have e7:ts[j].1=ys[j].2.1:=aY e5
    rw [<-e6]
    show some (Value.ref ys[j].2.1)=some (Value.ref ts[j].1)
    rw [e7]
  . rw [gI (by omega),gI (by rw [aC];omega)]
 have hl:O.toList.length=ts.length:=by rw [ha,aC]
 refine aA (wpAny_newList ?_ (by rw [hl,lt,dX];omega))
 generalize ai:O.toList=G at ha hl
 have a2:(h'.push (seqObj "list" G.toArray 0)).get? h'.objs.size=some (seqObj "list" G.toArray 0):=aK _ rfl
 have U:∀i (hi:i<G.length),G.getD i Value.none= .ref (ts[i]'(by omega)).1:=fun i hi=>by
  subst ha
  simp only [aC]at hi
  simp [hi]
 have keep:∀b o,s.heap.get? b=some o->(h'.push (seqObj "list" G.toArray 0)).get? b=some o:=fun b o e=>aB _ (J b o e)
 have a9:∀b o,s.heap.get? b=some o->b≠h'.objs.size:=fun b o e=>aP (aJ (J b o e))
 have W:∀g:Heap,(∀b o,b≠h'.objs.size->(h'.push (seqObj "list" G.toArray 0)).get? b=some o->g.get? b=some o)->∀t∈ts,Aem g t:=fun g k t ht=>by
  have x:=(ae t ht).1
  obtain⟨_,⟨ot,et,_⟩,_⟩:=id x
  exact(x.keeps (a:=h'.objs.size) (fun b o _ e=>keep b o e) (a9 _ _ et)).keeps k (a9 _ _ et)
 have kk:∀i (hi:i<G.length),(ts.map fun t=>t.2).getD i []=(ts[i]'(by omega)).2:=fun i hi=>by
  rw [hl]at hi
  simp [hi]
 have af:(ts.map fun t=>t.2).Nodup:=by
  rw [<-e1]at nd
  refine bO.mpr ((bO.mp nd).imp fun h z=>h ?_)
  rw [z]
 have L:LO G.length (fun i j=>HT.lexLt ((ts.map fun t=>t.2).getD i []) ((ts.map fun t=>t.2).getD j [])):=by
  refine⟨fun i j hi Z hn=>Pz _ _ fun e=> ?_,fun i j k _ _ _=>lex_trans _ _ _⟩
  have pw:=bI.mp af
  have a3:i<(ts.map fun t=>t.2).length:=by rw [aC];omega
  have a4:j<(ts.map fun t=>t.2).length:=by rw [aC];omega
  have e3:(ts.map fun t=>t.2)[i]=(ts.map fun t=>t.2)[j]:=by
   rw [aU,aU,aG a3,aG a4]at e
   exact e
  rcases iG hn with l | l
  . exact pw i j a3 a4 l e3
  . exact pw j i a4 a3 l e3.symm
 refine aA (dN (bZ slot_list_sort ⟨_,a2,rfl⟩ entry_list_sort (G5 (κ:=tuples' true) (n:=0) a2 (by omega) L (fun h2 g k=> ?_) (fun g i j C k hi Z hn hC=> ?_) fun p hP hS=>⟨_,rfl,?_⟩) (args_list_sort _)))
 . obtain⟨fs,k1,k2,k3⟩:=Abr ts fun t ht=>⟨W g k t ht,fun z=>by
    have:=(e3 t ht).2
    rw [z]at this
    simp at this
    omega⟩
   rw [ha]
   refine kat_kind (T:= .type "int") k1 (by omega) (fun v hv=> ?_) (by simp) ⟨by simp,rfl⟩
   obtain⟨i,u,rfl⟩:=k3 v hv
   exact Looks.of_pure rfl
 . unfold kas_ask
   rw [U i hi,U j Z]
   rw [kk i hi,kk j Z]at hC
   exact Aof (W g k _ (cS _)) (W g k _ (cS _)) (by rw [(e3 _ (cS _)).2,(e3 _ (cS _)).2]) hC
 . refine aD ⟨_,rfl,?_⟩
   have eo:(p.toList.map fun i=>G.getD i Value.none)=(p.toList.map fun i=>ts.getD i ((0,[]):Tpt)).map fun t=>Value.ref t.1:=by
    rw [aZ]
    refine dZ fun i hi=> ?_
    have a5:i<G.length:=cW.mp (hP.pm.mem_iff.mp hi)
    rw [U i a5]
    show _=Value.ref (ts.getD i _).1
    rw [hl]at a5
    simp [a5]
   have a6:(p.toList.map fun i=>ts.getD i ((0,[]):Tpt)).Perm ts:=by
    have h1:=hP.pm.map fun i=>ts.getD i ((0,[]):Tpt)
    have h2:(List.range G.length).map (fun i=>ts.getD i ((0,[]):Tpt))=ts:=by
     rw [hl]
     refine kL (by simp) fun i a b=> ?_
     simp only [aC,cJ]at a
     simp [a]
    rw [h2]at h1
    exact h1
   have ag:(p.toList.map fun i=>ts.getD i ((0,[]):Tpt)).Pairwise (fun x y=>HT.lexLt x.2 y.2=true):=by
    refine bI.mpr fun i j hi Z ah=> ?_
    have aa:(p.toList.map fun i=>ts.getD i ((0,[]):Tpt)).length=G.length:=by rw [aC,bF,hP.sz]
    have g:∀i (hi:i<(p.toList.map fun i=>ts.getD i ((0,[]):Tpt)).length),((p.toList.map fun i=>ts.getD i ((0,[]):Tpt))[i]).2=(ts.map fun t=>t.2).getD (aT p i) []:=fun i hi=>by
     have a7:i<p.size:=by rw [hP.sz,<-aa];exact hi
     have ea:p.toList[i]'(by rw [bF];exact a7)=aT p i:=by simp [aT,a7]
     have hb:aT p i<ts.length:=by rw [<-hl];exact hP.lt i (by rw [<-hP.sz];exact a7)
     rw [iW,ea]
     simp [hb]
    rw [g i hi,g j Z]
    exact hS i j ah (by rw [<-aa];exact Z)
   obtain⟨e,he⟩:=sortedHeap_at (out:=toArray (p.toList.map fun i=>G.getD i Value.none)) a2
   have I1:Inv X pins σ H { s with heap:=h',toks:=tk}:=I.kept J
   have kp:∀b o,h'.get? b=some o->(sortedHeap (h'.push (seqObj "list" G.toArray 0)) h'.objs.size G (toArray (p.toList.map fun i=>G.getD i Value.none))).get? b=some o:=fun b o e1=>by
    have lt:b<h'.objs.size:=aJ e1
    rw [sortedHeap_old (aP lt) (by rw [size_push'];exact bU lt),fA _ _ _ (aP lt)]
    exact e1
   have ac:(p.toList.map fun i=>ts.getD i ((0,[]):Tpt)).length<=sizeLine:=by rw [a6.length_eq,lt,dX];omega
   refine⟨.ref h'.objs.size,_,I1.laid (a:=h'.objs.size) (t':=tk) (o:= .lst ((p.toList.map fun i=>ts.getD i ((0,[]):Tpt)).map fun t=>V.ref t.1)) kp (aL _) ⟨by rw [aC];exact ac,p.toList.map fun i=>G.getD i Value.none,e,?_,he⟩,rfl,q _ _ (I1.hok.fresh (aL _)) ?_ (fun t ht=>(e3 t (a6.mem_iff.mp ht)).1) ag⟩
   . rw [eo]
     have:=Mx ((p.toList.map fun i=>ts.getD i ((0,[]):Tpt)).map fun t=>t.1)
     simpa [aZ,jZ]using this
   . rw [<-e1]
     exact a6.map _
theorem ints_getD:∀ {vs:List Value}{ns:List Int}{i:Nat},IntsAre vs ns->i<vs.length->∃u,vs.getD i Value.none= .int (ns.getD i 0) u
 | _,_,_,.nil,h=>by simp at h
 | _,_,0,.cons _ u _,_=>⟨u,rfl⟩
 | _,_,i+1,.cons _ _ r,h=>by
   obtain⟨u,e⟩:=ints_getD (i:=i) r (by simpa using h)
   exact⟨u,by simpa using e⟩
variable {ns:List Int}
theorem Zt (h:IntsAre vs ns) {l:List Nat} (G:l.Perm (List.range vs.length)):IntsAre (l.map fun i=>vs.getD i Value.none) (l.map fun i=>ns.getD i 0):=by
 have J:∀i∈l,i<vs.length:=fun i hi=>cW.mp (G.mem_iff.mp hi)
 clear G
 induction l with
 | nil=>exact .nil
 | cons i r O=>
   obtain⟨u,e⟩:=ints_getD h (J i (.head _))
   rw [bC,bC,e]
   exact .cons _ u (O fun j U=>J j (.tail _ U))
theorem Tt (hc:X.calm=true):Er X (.builtin "sorted") (fun xs H Q=>∃(d:Addr) (kvs:List (Key × V)) (ns:List Int),xs=[.ref d]/\H d=some (.dK kvs)/\kvs.map (·.1)=ns.map Sum.inl/\ns.Nodup/\ns.length<16000000/\∀(l:Addr) (ms:List Int),H l=none->ms.Perm ns->ms.Pairwise (· < ·)->Q (.ref l) (upd H l (.lst (ms.map V.int)))):=by
 intro pins s σ H xs us Q I r h
 obtain⟨d,kvs,ns,rfl,hd,hk,nd,ah,q⟩:=h
 obtain⟨u,rfl,ru⟩:=vals1 r
 cases ru
 obtain⟨hz,lo,O,aa,dd⟩:kvs.length<=sizeLine/\(d==sysModules)=false/\∃O,KV kvs O/\s.heap.DictOf (Cw X.prog X.w) d O:=I.hok d _ hd
 obtain⟨ep,Z⟩:=dd.dictAt
 have ek:O.map (·.1)=ns.map Sum.inl:=by rw [<-aa.keysL,hk]
 have hn:O.length=ns.length:=by
  have:=bE length ek
  simpa using this
 have hs:O.length<=sizeLine:=by rw [hn];rw [dX];omega
 refine call_function_entry kind_sorted plain_sorted entry_sorted (args_sorted1 _) ?_
 unfold Builtin.«sorted»
 refine aA (m:=checkCount "sorted" 1 1 _) (aD ?_)
 refine aA (PySem.W.kdu_collect (PySem.W.kdl_dict (knd:=Cw X.prog X.w) (kvs:=O) (ep:=ep) lo) (I.ok.hd hc) Z hs fun h' tk G a6 a5=> ?_)
 have hl:G.toList.length=ns.length:=by rw [bF,<-hn];exact a5.1
 have hI:IntsAre G.toList ns:=Vv hl fun j v e=>by
  obtain⟨k,x,hx,hv⟩:=a5.2 j v (by rw [<-fG];exact e)
  have J:(O.map (·.1))[j]? =some k:=by rw [aN,hx];rfl
  rw [ek,aN]at J
  obtain⟨i,hi,rfl⟩:=iL.mp J
  obtain⟨t,rfl⟩:=Value.isInt_shape (k:=i) (v:=v) hv
  exact⟨i,t,hi,rfl⟩
 refine aA (wpAny_newList ?_ (by rw [hl,<-hn];exact hs))
 have a7:(h'.push (seqObj "list" G.toList.toArray 0)).get? h'.objs.size=some (seqObj "list" G.toList.toArray 0):=aK _ rfl
 have Z:∀i (hi:i<G.toList.length),∃u,G.toList.getD i Value.none= .int (ns.getD i 0) u:=fun i hi=>by
  obtain⟨u,hu⟩:=ints_getD hI hi
  exact⟨u,hu⟩
 have L:LO G.toList.length (fun i j=>decide (ns.getD i 0<ns.getD j 0)):=by
  refine⟨fun i j hi U hn=> ?_,fun i j k _ _ _ h1 h2=> ?_⟩
  . have pw:=bI.mp nd
    rw [hl]at hi U
    have J:ns.getD i 0=ns[i]:=by simp [hi]
    have e2:ns.getD j 0=ns[j]:=by simp [U]
    have ne:ns[i]≠ns[j]:=by
     rcases iG hn with l | l
     . exact pw i j hi U l
     . exact(pw j i U hi l).symm
    rw [J,e2]
    by_cases c:ns[i]<ns[j]
    . rw [cO c,bY (by omega)]
      rfl
    . rw [bY c,cO (by omega)]
      rfl
  . have:=dY h1
    have:=dY h2
    exact cO (by omega)
 refine aA (dN (bZ slot_list_sort ⟨_,a7,rfl⟩ entry_list_sort (G5 (κ:=oneType') (n:=0) a7 (by omega) L (fun h2 ac k=> ?_) (fun ac i j C k hi U hn hC=> ?_) fun p hP hS=>⟨_,rfl,?_⟩) (args_list_sort _)))
 . have h3:2<=G.toList.length:=h2
   generalize G.toList=O at hI h3
   match O,hI,h3 with
   | v1::v2::r,hI,_=>
     rw [keyKind_ints hI]
     exact aD ⟨rfl,rfl⟩
 . unfold kas_ask
   obtain⟨u1,J⟩:=Z i hi
   obtain⟨u2,e2⟩:=Z j U
   rw [J,e2,keyLt'_oneType]
   exact oneLt_int hC
 have a1:IntsAre (toArray (p.toList.map fun i=>G.toList.getD i Value.none)).toList (p.toList.map fun i=>ns.getD i 0):=by
  rw [List.toList_toArray]
  exact Zt hI hP.pm
 have a2:(p.toList.map fun i=>ns.getD i 0).Perm ns:=by
  have h1:=hP.pm.map fun i=>ns.getD i (0:Int)
  have h2:(List.range G.toList.length).map (fun i=>ns.getD i (0:Int))=ns:=by
   rw [hl]
   refine kL (by simp) fun i a b=> ?_
   simp only [aC,cJ]at a
   simp [a]
  rw [h2]at h1
  exact h1
 have a3:(p.toList.map fun i=>ns.getD i (0:Int)).Pairwise (· < ·):=by
  refine bI.mpr fun i j hi U ad=> ?_
  rw [aC,bF,hP.sz]at hi U
  have:=dY (hS i j ad U)
  have ae:i<p.size:=by rw [hP.sz];exact hi
  have af:j<p.size:=by rw [hP.sz];exact U
  rw [iW,iW]
  have J:aT p i=p[i]:=by simp [aT,ae]
  have e2:aT p j=p[j]:=by simp [aT,af]
  rw [J,e2]at this
  exact this
 refine aD ⟨_,rfl,?_⟩
 generalize ai:(p.toList.map fun i=>ns.getD i (0:Int))=a8 at a1 a2 a3
 generalize ag:toArray (p.toList.map fun i=>G.toList.getD i Value.none)=a4 at a1
 obtain⟨e,he⟩:=sortedHeap_at (out:=a4) a7
 have a9:a8.length=ns.length:=a2.length_eq
 have I1:Inv X pins σ H { s with heap:=h',toks:=tk}:=I.kept a6
 have kp:∀b o,h'.get? b=some o->(sortedHeap (h'.push (seqObj "list" G.toList.toArray 0)) h'.objs.size G.toList a4).get? b=some o:=fun b o J=>by
  have lt:b<h'.objs.size:=aJ J
  rw [sortedHeap_old (aP lt) (by rw [size_push'];exact bU lt),fA _ _ _ (aP lt)]
  exact J
 exact⟨.ref h'.objs.size,_,I1.laid (a:=h'.objs.size) (t':=tk) kp (aL _) (show Cy X.prog X.w _ _ _ (.lst (a8.map V.int))from⟨by rw [aC,a9,<-hn];exact hs,a4.toList,e,Oj a1,he⟩),rfl,q _ a8 (I1.hok.fresh (aL _)) a2 a3⟩
structure DPr {P:Program}{w:World} (h:Heap) (d I:Addr) (it:Value) (kx:Key × Value):Prop where
 ex:∃p o n kv,it= .ref p/\h.get? p=some o/\o.cls= .type "tuple"/\o.data= .seq #[kv,kx.2] n/\(Cw P w).is kx.1 kv=true/\p≠d/\p≠I
noncomputable abbrev Dpt:=Addr × Int × V
noncomputable def dK (t:Dpt):Key × V:=(.inl t.2.1,t.2.2)
open PySem PySem.SeqAt PySem.Spec PyProof.Rows
noncomputable def Ahm (K:Frag):V->List V->Hp->VK->Prop:=fun x vs H Q=>∃(l:Addr) (xs:List V) (y:V) (j:Nat),x= .ref l/\vs=[y]/\SqT K H l xs/\Ms y=true/\xs.all Ms=true/\(∃z,xs[j]? =some z/\eqV z y=true)/\(∀i z,i<j->xs[i]? =some z->eqV z y=false)/\Q (.int (j:Nat)) H
theorem Ana {M:Model}{A:Around}{E:Value->Shared->Prop}{β:Type}{b:Nat}{f:Nat->β->Sem (ForInStep β)} (J:Nat->β->Shared->Prop) {Q:β->Shared->Prop}
 (G:∀i c s,i<b->J i c s->wpAny M A (f i c) (fun r s'=>match r with | .done O=>Q O s' | .yield O=>J (i+1) O s') E s) (U:∀c s,J b c s->Q c s) {c:β}{s:Shared} (h:J 0 c s):wpAny M A (forIn [0:b] c f) Q E s:=by
 rw [Std.Legacy.Range.forIn_eq_forIn_range']
 have W:([0:b]:Std.Legacy.Range).size=b:=by simp [Std.Legacy.Range.size]
 show wpAny M A (forIn (range' 0 ([0:b]:Std.Legacy.Range).size 1) c f) Q E s
 rw [W]
 have:∀(k i:Nat) (c:β) (s:Shared),i+k=b->J i c s->wpAny M A (forIn (range' i k 1) c f) Q E s:=by
  intro k
  induction k with
  | zero=>
    intro i c s e h
    rw [List.range'_zero,jO]
    exact aD (U c s (by rw [<-e];exact h))
  | succ k ih=>
    intro i c s e h
    rw [range'_succ,iC]
    refine aA (bP (G i c s (by omega) h) (fun r s' Z=> ?_) fun _ _ e=>e)
    cases r with
    | done O=>exact aD Z
    | yield O=>exact ih (i+1) O s' (by omega) Z
 exact this b 0 c s (by omega) h
theorem Ww {y:V}:∀ {xs:List V}{us:List Value} (r:Vals xs us),xs.all Ms=true->∀i (hi:i<us.length),eqU y us[i]=eqV (xs[i]'(by rw [r.length];exact hi)) y
 | _,_,.cons r t,f,0,_=>by
   rw [kD,cD]at f
   exact Zc r f.1
 | _,_,.cons r t,f,i+1,hi=>by
   rw [kD,cD]at f
   exact Ww t f.2 i (by simpa using hi)
theorem Aad:MtM X "tuple.index" (Ahm X.K):=by
 intro pins s σ H x vs v us Q I rx rv h
 obtain⟨l,xs,y,j,rfl,rfl,hS,fy,fx,⟨z,Z,ez⟩,a1,q⟩:=h
 cases rx
 obtain⟨u,rfl,ru⟩:=rv.one
 obtain⟨G,r,pl,a2⟩:=I.tuple hS
 have hm:∀w∈G,EqAt X.A.in1 s w u (eqU y w):=Lg ru fy r fx
 obtain⟨o,ho,hc,n,hd⟩:=id pl
 have hT:s.TypeIs (.ref l) "tuple":=⟨o,ho,hc⟩
 refine bZ PySem.F.slot_tuple_index hT PySem.F.entry_tuple_index ?_ (PySem.F.args_tuple_index_2 _ _)
 unfold Builtin.«tuple.index»
 refine aA (wpAny_of_eq (a:=(Value.ref l,[u])) rfl ?_)
 dsimp only
 refine aA ?_
 unfold Builtin.Tuple.tupleItemsOf
 refine aA (dQ ho hd (aD ?_))
 refine aA (aD (aA (aD ?_)))
 rw [Nat.min_self]
 have lx:xs.length=G.length:=r.length
 have jl:j<G.length:=by
  rw [<-lx]
  exact(aW.mp Z).1
 have ev:∀i (hi:i<G.length),eqU y G[i]=eqV (xs[i]'(by omega)) y:=fun i hi=>Ww r fx i hi
 refine aA (bP (Ana (J:=fun i c s'=>c=(none,())/\s'=s/\i<=j) (Q:=fun c s'=>∃O,c=(some O,())/\O=PySem.Fin.done (Flow.ret (.int (j:Nat) s.toks))/\s'={ s with toks:=s.toks+1}) ?_ ?_ ⟨rfl,rfl,cH _⟩) ?_ fun _ _ e=>e)
 . rintro i c s' hi ⟨rfl,rfl,U⟩
   rw [aM]at hi
   have e:G.toArray[i]? =some G[i]:=by simp [hi]
   rw [e]
   dsimp only
   have W:i<xs.length:=by omega
   refine aA (hm G[i] (cS hi) _ _ _ _ ?_)
   rw [ev i hi]
   by_cases c:i=j
   . subst c
     rw [aG W]at Z
     rw [aY Z,ez,aI rfl]
     unfold retInt
     refine aA (aA (wpAny_mkInt (aD (aD ⟨_,rfl,rfl,rfl⟩))))
   . rw [a1 i _ (by omega) (aG W),aF (by simp)]
     exact aD ⟨rfl,rfl,by omega⟩
 . rintro c s' ⟨rfl,rfl,U⟩
   rw [aM]at U
   omega
 . rintro c s' ⟨O,rfl,rfl,rfl⟩
   exact aD ⟨_,rfl,.int (j:Nat),H,I.tok _,⟨_,rfl⟩,q⟩
set_option maxRecDepth 100000
noncomputable def Cm {α:Type}:Sem α->Prop
 | .pure _=>True
 | .raise _=>True
 | .unsupported _=>True
 | .finish _=>True
 | .rule _ k=>Cm (k ())
 | .at _ k=>Cm (k ())
 | .load _ _ k=>∀o,Cm (k o)
 | .update _ _ f k=>(∀o,(f o).dict=o.dict)/\Cm (k ())
 | .alloc _ k=>∀n,Cm (k n)
 | .loadIfAlive _ k=>∀o,Cm (k o)
 | .point _ k=>Cm (k ())
 | .fresh k=>∀t,Cm (k t)
 | .ask k=>∀t,Cm (k t)
 | .choose _ _ k=>∀t,Cm (k t)
 | .os _ _ k=>∀t,Cm (k t)
 | .handled _ k=>∀t,Cm (k t)
 | .stack k=>∀t,Cm (k t)
 | .thread k=>∀t,Cm (k t)
 | .register _ _=>True
 | .newGen _ k=>∀t,Cm (k t)
 | .genState _ k=>∀t,Cm (k t)
 | .call .. =>False
 | .resume .. =>False
 | .yield .. =>True
 | .fork .. =>True
 | .await .. =>True
theorem Cm.bind {α β:Type}{t:Sem α}{f:α->Sem β} (h:Cm t) (g:∀a,Cm (f a)):Cm (t>>=f):=by
 show Cm (Sem.bind t f)
 induction t with
 | pure a=>exact g a
 | raise=>trivial
 | unsupported=>trivial
 | finish=>trivial
 | rule _ k G=>exact G _ h
 | «at» _ k G=>exact G _ h
 | load _ _ k G=>exact fun o=>G o (h o)
 | update _ _ f k G=>exact⟨h.1,G _ h.2⟩
 | alloc _ k G=>exact fun o=>G o (h o)
 | loadIfAlive _ k G=>exact fun o=>G o (h o)
 | point _ k G=>exact G _ h
 | register=>trivial
 | fresh k G=>exact fun o=>G o (h o)
 | ask k G=>exact fun o=>G o (h o)
 | choose _ _ k G=>exact fun o=>G o (h o)
 | os _ _ k G=>exact fun o=>G o (h o)
 | call=>exact h.elim
 | handled _ k G=>exact fun o=>G o (h o)
 | newGen _ k G=>exact fun o=>G o (h o)
 | genState _ k G=>exact fun o=>G o (h o)
 | resume=>exact h.elim
 | yield=>trivial
 | stack k G=>exact fun o=>G o (h o)
 | fork=>trivial
 | thread k G=>exact fun o=>G o (h o)
 | await=>trivial
noncomputable def dOf (h:Heap) (b:Addr):Option (Option Addr):=(h.objs[b]?).map Obj.dict
variable {b:Addr}{o:Obj}
theorem Y0 (e:h.get? b=some o):dOf h b=some o.dict:=by
 unfold Heap.get? at e
 unfold dOf
 split at e
 . cases e
 . rw [e];rfl
noncomputable def Wy (h h':Heap):Prop:=∀b d,dOf h b=some d->dOf h' b=some d
variable {M:Model}
theorem Cm.keep {α:Type}{U:PySem.Ctx}{t:Sem α}:∀ {Q:α->Pos->Shared->Prop}{E:Value->Pos->Shared->Prop}{p:Pos}{s:Shared},Cm t->Sem.wp M U t Q E p s->
 Sem.wp M U t (fun a W s'=>Q a W s'/\Wy s.heap s'.heap) (fun e W s'=>E e W s'/\Wy s.heap s'.heap) p s:=by
 induction t with
 | pure a=>exact fun _ h=>⟨h,fun _ _ z=>z⟩
 | raise=>exact fun _ h=>⟨h,fun _ _ z=>z⟩
 | unsupported=>exact fun _ h=>h
 | finish=>exact fun _ h=>h
 | rule _ k G=>exact fun c h=>G _ c h
 | «at» _ k G=>exact fun c h=>G _ c h
 | load _ _ k G=>exact fun c ⟨o,e,h⟩=>⟨o,e,G o (c o) h⟩
 | update a _ f k G=>
   intro Q E p s c h
   refine⟨h.1,?_⟩
   have st:Wy s.heap (s.heap.update a f):=fun b d e=>by
    obtain⟨⟨O,l⟩,_,_,_,_⟩:=s
    show((O.modify a f)[b]?).map Obj.dict=some d
    have J:(O[b]?).map Obj.dict=some d:=e
    rw [Array.getElem?_modify]
    split
    . rename_i z;subst z
      cases q:O[a]? with
      | none=>rw [q]at J;cases J
      | some o=>rw [q]at J;show some (f o).dict=_;rw [c.1];exact J
    . exact J
   exact Sem.wp_mono M U _ (fun _ _ _ z=>⟨z.1,fun b d e=>z.2 b d (st b d e)⟩) (fun _ _ _ z=>⟨z.1,fun b d e=>z.2 b d (st b d e)⟩) p _ (G _ c.2 h.2)
 | alloc o k G=>
   intro Q E p s c h
   have st:Wy s.heap (s.heap.push o):=fun b d e=>by
    obtain⟨⟨O,l⟩,_,_,_,_⟩:=s
    show((O.push o)[b]?).map Obj.dict=some d
    have J:(O[b]?).map Obj.dict=some d:=e
    have Z:b<O.size:=by
     cases q:O[b]? with
     | none=>rw [q]at J;cases J
     | some _=>exact(jR.mp q).1
    rw [Array.getElem?_push_lt Z]
    rw [eE Z]at J
    exact J
   exact Sem.wp_mono M U _ (fun _ _ _ z=>⟨z.1,fun b d e=>z.2 b d (st b d e)⟩) (fun _ _ _ z=>⟨z.1,fun b d e=>z.2 b d (st b d e)⟩) p _ (G _ (c _) h)
 | loadIfAlive _ k G=>exact fun c h=>G _ (c _) h
 | point _ k G=>exact fun c h=>G _ c h
 | register=>exact fun _ h=>h
 | fresh k G=>exact fun c h=>G _ (c _) h
 | ask k G=>exact fun c h=>G _ (c _) h
 | choose _ _ k G=>exact fun c h=>⟨h.1,G _ (c _) h.2⟩
 | os _ _ k G=>exact fun c h=>G _ (c _) h
 | call=>exact fun c=>c.elim
 | handled _ k G=>exact fun c h=>G _ (c _) h
 | newGen _ k G=>exact fun c h=>G _ (c _) h
 | genState _ k G=>exact fun c ⟨o,e,h⟩=>⟨o,e,G _ (c _) h⟩
 | resume=>exact fun c=>c.elim
 | yield=>exact fun _ h=>h
 | stack k G=>exact fun c h=>G _ (c _) h
 | fork=>exact fun _ h=>h
 | thread k G=>exact fun c h=>G _ (c _) h
 | await=>exact fun _ h=>h
variable {A:Around}
theorem wpD {α:Type}{t:Sem α}{Q:α->Shared->Prop}{E:Value->Shared->Prop} (c:Cm t) (h:wpAny M A t Q E s):
 wpAny M A t (fun a s'=>Q a s'/\Wy s.heap s'.heap) (fun e s'=>E e s'/\Wy s.heap s'.heap) s:=fun J p G=>c.keep (h J p G)
theorem Aep {f:Obj->Obj} (h:∀o,(f o).dict=o.dict):Cm (update a f):=⟨h,trivial⟩
theorem Ai4 {f:Array Value->Array Value}:Cm (update a (Obj.mapFields f)):=Aep fun o=>by
 unfold Obj.mapFields
 split<;>rfl
theorem Pb {v:Value}:Cm (field v i):=by
 unfold field fieldsOf
 repeat' (first | trivial | exact fun _=>rfl | refine Cm.bind ?_ fun _=> ?_ | intro _ | split)
theorem Mh {v x:Value}:Cm (setField v i x):=by
 unfold setField updateField
 repeat' (first | trivial | exact fun _=>rfl | exact Ai4 | refine Cm.bind ?_ fun _=> ?_ | intro _ | split)
theorem Hr {v:Value}{f:Option Addr}:Cm (setFlight v f):=by
 unfold setFlight
 repeat' (first | trivial | exact fun _=>rfl | exact Pb | exact Mh | refine Cm.bind ?_ fun _=> ?_ | intro _ | split)
variable {f:Addr}
theorem Aci {b:Bool}:Cm (entryPlaceOf f b):=by
 unfold entryPlaceOf
 repeat' (first | trivial | exact fun _=>rfl | refine Cm.bind ?_ fun _=> ?_ | intro _ | split)
theorem Acg {a b c d e:Value}{l:List Value}:Cm (EntryCells.newEntry a b c d e l):=by
 unfold EntryCells.newEntry newFields newObj
 repeat' (first | trivial | exact fun _=>rfl | refine Cm.bind ?_ fun _=> ?_ | intro _ | split)
theorem Af7 {e:Env}{b:Bool}{l:List Env}:Cm (keptBack e b l):=by
 unfold keptBack underTheClaimsCaller
 repeat' (first | trivial | exact fun _=>rfl | refine Cm.bind ?_ fun _=> ?_ | intro _ | split)
theorem Yu {e:Env}{l:List Env}:Cm (behindIsImport e l):=by
 unfold behindIsImport
 repeat' (first | trivial | exact fun _=>rfl | exact Pb | refine Cm.bind ?_ fun _=> ?_ | intro _ | split)
theorem Vj:∀l,Cm (readyFrames l)
 | []=>trivial
 | env::outer=>by
   unfold readyFrames
   have:=Vj outer
   repeat' (first | trivial | exact fun _=>rfl | exact this | exact Af7 | exact Yu | exact Aep fun _=>rfl | refine Cm.bind ?_ fun _=> ?_ | intro _ | split)
variable {env:Env}
theorem Ach:Cm (PySem.frameOf env):=by
 unfold PySem.frameOf frameObject frameEnvs
 repeat' (first | trivial | exact fun _=>rfl | exact Vj _ | refine Cm.bind ?_ fun _=> ?_ | intro _ | split)
theorem Yv {v:Value}:Cm (noteFrame v env):=by
 unfold noteFrame
 repeat' (first | trivial | exact fun _=>rfl | exact Pb | exact Mh | exact Aci | exact Acg | exact Ach | refine Cm.bind ?_ fun _=> ?_ | intro _ | split)
theorem Og {v:Value}:Cm (leaving env v):=Cm.bind Yv fun _=>Hr
end L2
namespace L2
open PySem PySem.Spec PyProof.Rows PySem.W Builtin Builtin.ObjectAttr
set_option maxRecDepth 100000
section
variable {prog:Program}{w:World}{A:Around}{R:Result->Shared->Prop}{h:Heap}{g:Array GenState}{d:Drawn}{t:Nat}{os:OsState}
variable {nm q:Str}{C N fI:Addr}{bs bm bmB:List Value}{hdct:Bool}{sn:List Str}{sub:List Value}{ab:Bool}{col:Option Bool}{dd:Option Addr}{k0 k1 k2 k3 k5:Option Value}{B newId initId:String}
noncomputable abbrev Aef (rest:List Value):Obj:={ cls:= .type "tuple",data:= .seq rest.toArray}
noncomputable abbrev Nu (C t:Addr):Obj:={ cls:= .ref C,data:= .fields #[.ref t,.none,.none,.none,.bool false,.none]}
theorem Ac0 (F:ExcBaseFacts B newId initId bmB) (T:OwnTail h bmB bm) {mN:Str->Option Value}{rest:List Value} (U:h.get? C=some (excClassObj nm q C N bs bm hdct sn sub ab col dd k0 k1 k2 k3 k5 newId)) (hn:h.Ns N mN) (a3:mN "__init__"=some (.ref fI))
 (hb:∀J,Looks (model prog w) h (bindSpecial (.ref fI) J) (.ref fI,[J])) (W:rest.length<=sizeLine)
 (hq:codeAny (model prog w) (A.under (.builtin "type.__call__" ⟨.ref C::rest,[]⟩)) (.call (.ref fI) ⟨.ref (h.objs.size+1)::rest,[]⟩) (InitBack (h.objs.size+1) R) ⟨(h.push (Aef rest)).push (Nu C h.objs.size),g,d,t,os⟩):
 codeAny (model prog w) A (.call (.ref C) ⟨rest,[]⟩) R ⟨h,g,d,t,os⟩:=by
 have f1:=tc_lookup
 have f2:=tc_bind (.ref C)
 refine codeAny_of_tree ?_
 show wpAny _ _ (callAny (.ref C) _) _ _ _
 repeat (any_goals (first | assumption | with_reducible refine cE U ?_ | wp_step))
 refine⟨rfl,?_⟩
 refine codeAny_call_builtin_at (Code.quiet_builtin _ (by decide+kernel)) entry_typeCall (wpAny_check_type_call_sub U ?_)
 repeat (first | with_reducible refine cE U ?_ | with_reducible refine wpAny_madeBy_exc U ?_ | wp_step)
 refine codeAny_call_builtin_code (Code.quiet_builtin _ F.quiet) (wpAny_check_new_subT F T U ?_)
 refine codeAny_exc_new_subT F T U ?_ W
 show wpAny _ _ _ _ _ _
 have k:∀b o,h.get? b=some o->((h.push (Aef rest)).push (Nu C h.objs.size)).get? b=some o:=fun b o e=>aB _ (aB _ e)
 have G:=k _ _ U
 have Z:=hn.keeps k
 have O:((h.push (Aef rest)).push (Nu C h.objs.size)).get? (h.objs.size+1)=some (Nu C h.objs.size):=by heap_get
 have a1:(Value.ref C::bm).contains (.ref C)=true:=by simp
 have a2:=T.keeps k
 have b1:=(hb (.ref (h.objs.size+1))).keeps k
 unfold isInstance
 repeat (first | with_reducible refine cE O ?_ | (with_reducible refine jT G ?_;rw [a1]) | wp_step)
 show wpAny _ _ (isSubtype (.ref C) (.ref C)) _ _ _
 refine jT G ?_
 rw [a1]
 unfold callSpecial? specialOf
 repeat (first | with_reducible refine cE O ?_ | wp_step)
 show wpAny _ _ (typeLookup (.ref C) _) _ _ _
 refine wpAny_typeLookup_tail G Z a2 F.mroIs F.init.lookup ?_
 rw [a3]
 refine dN (aA (b1.at ?_))
 refine aA (wpAny_call ?_)
 refine iF hq fun r s' z=> ?_
 rcases r with e | (v | _ | _ | _)<;>first | exact z | exact z.elim | skip
 obtain⟨rfl,z⟩:=z
 exact aD (aD z)
end
noncomputable def Ad2:List Value->Bool
 | .ref _::r=>Ad2 r
 | l=>l==VE
theorem Sh (G:Value):∀ {l:List Value},Ad2 l=true->refuseLoop G "__setattr__" l=pure ()
 | .ref c::r,e=>by rw [refuseLoop_ref];exact Sh G e
 | [],e=>by cases e
 | .type n::r,e=>by rw [show(.type n::r)=VE from kO.mp e];exact PySem.F.store_ValueError.passes G
 | .none::r,e | .notImplemented::r,e | .ellipsis::r,e=>by cases e
structure Yc (K:Frag) (C:Addr) (name:Str):Prop where
 mr:(clsIn K C).any (fun cd=>Ad2 cd.mro)=true
 hd:(clsIn K C).any (·.hasDict)=true
 ob:mroIn K C (.type "object")=some true
 sa:findIn K (.ref C) "__setattr__"=some (some (.builtin "object.__setattr__"))
 na:findIn K (.ref C) name=some none
noncomputable abbrev Yb (C dx t:Addr):Obj:={ cls:= .ref C,dict:=some dx,data:= .fields #[.ref t,.none,.none,.none,.bool false,.none]}
section
variable {prog:Program}{w:World}{A:Around}{K:Frag}{C x t0:Addr}{s:Shared}{name:Str}{v:Value}{E:Value->Shared->Prop}{Q:Unit->Shared->Prop}
theorem Aht (X:K.In s.heap) (Z:Yc K C name) (hx:s.heap.get? x=some (Nu C t0))
 (h:∀h' tk,h'.get? x=some (Yb C s.heap.objs.size t0)->h'.Ns1 s.heap.objs.size (fun y=>if y=name then some v else none)->(∀b o,b≠x->s.heap.get? b=some o->h'.get? b=some o)->Q () { s with heap:=h',toks:=tk}):
 wpAny (model prog w) A (setAttr (.ref x) name v) Q E s:=by
 have I:InstAt s.heap x (Nu C t0) C none:=⟨hx,rfl,rfl,trivial⟩
 have U:=PySem.F.store_ValueError
 refine PySem.W.set_plain X I Z.sa ?_
 obtain⟨cd,hc,ho⟩:=any_some Z.mr
 obtain⟨a3,a4,hd⟩:=any_some Z.hd
 obtain rfl:cd=a3:=aY (hc.symm.trans a4)
 obtain⟨G,g,dr,J,os⟩:=s
 have sub:Looks (model prog w) G (isInstance (.ref x) (.type "object")) true:=I.type.andThen (looks_mroIn X Z.ob)
 refine hV U.slot.plain U.entry (@check_slot (model prog w) _ _ ⟨G,g,dr,J+1,os⟩ "object.__setattr__" "object" "__setattr__" (.ref x) [.str name J,v] [] _ U.kind U.split sub (U.args (.ref x) (.str name J) v) ?_)
 have hm:Looks (model prog w) G (mroOf (.ref C)) cd.mro:=(looks_clsIn X hc).andThen .now
 have ha:=looks_findIn (M:=model prog w) X Z.na
 rw [osa_eq,refuse_eq]
 refine aA (aA (I.type.at (aA (hm.at ?_))))
 rw [Sh _ ho]
 refine aD (aA (I.type.at (aA (ha.at ?_))))
 show wpAny _ _ (storeInOwnDict (.ref x) (.ref C) (.str name J) name v false) _ _ _
 refine aA (aD (aA (aA (wpAny_loadPart hx (aA ((looks_clsIn X hc).at ?_))))))
 rw [hd]
 have O:(G.push emptyDict).get? x=some (Nu C t0):=aB _ hx
 have a1:x≠G.objs.size:=aP (aJ hx)
 refine aA (wpAny_alloc' (aA (wpAny_update' O (aD ?_))))
 have a5:((G.push emptyDict).update x fun o=>{ cls:=o.cls,dict:=some G.objs.size,data:=o.data,slots:=o.slots}).get? G.objs.size=some emptyDict:=
  (jY _ _ _ _ a1.symm).trans (Heap.get?_push_at rfl rfl)
 have a6:((G.push emptyDict).update x fun o=>{ cls:=o.cls,dict:=some G.objs.size,data:=o.data,slots:=o.slots}).Ns G.objs.size (fun _=>none):=
  ⟨_,#[],_,a5,rfl,fun e he=>absurd he (by simp),fun _=>rfl⟩
 show wpAny _ _ (storeInDict G.objs.size (.str name J) name v) _ _ _
 refine aA (aD (aA (wpAny_nsSet1 (Heap.Ns1.of_empty a6) fun h' a2 hs=> ?_)))
 obtain⟨oD,aa,ac,a7,a8,a9⟩:=a2.count (PySem.Within.cons name v PySem.Within.nil)
 refine aA (wpAny_lookBehind a7 (by rw [a8];exact pastItsLine_dict (aO a9 (by rw [bH,eD,dX];omega))) ?_)
 refine aD (h h' _ ?_ ?_ fun b o hb e=> ?_)
 . exact(hs.2 x a1).trans (eO _ O rfl)
 . exact a2
 . exact(hs.2 b (aP (aJ e))).trans ((jY _ _ _ _ hb).trans (aB _ e))
end
section
variable {prog:Program}{w:World}{A:Around}{K:Frag}{C x dx:Addr}{oe:Obj}{mA:Str->Option Value}{name:Str}{v:Value}{E:Value->Shared->Prop}{h:Heap}{g:Array GenState}{d:Drawn}{t:Nat}{os:OsState}
theorem Ac2 {tk:Tok}{Q:Fin->Shared->Prop} (X:K.In h) (Z:Yc K C name) (U:h.get? x=some oe) (hc:oe.cls= .ref C) (hn:∀c,oe.data≠ .cls c) (hd:oe.dict=some dx) (G:h.Ns1 dx mA) (hv:mA name=some v) (q:Q (.done (.ret v)) ⟨h,g,d,t,os⟩):
 wpAny (model prog w) A (Builtin.«object.__getattribute__» ⟨[.ref x,.str name tk],[]⟩) Q E ⟨h,g,d,t,os⟩:=by
 obtain⟨cd,J,O⟩:=any_some Z.hd
 have l2:=fM (M:=model prog w) X Z.na
 have l3:=PySem.W.looks_clsIn (M:=model prog w) X J
 repeat (any_goals (first | assumption | (with_reducible refine cE U ?_;rw [hc]) | with_reducible refine l2.at ?_ | with_reducible refine l3.at ?_ | wp_step))
 split
 . rename_i c q1
   exact absurd q1 (hn c)
 unfold instanceDict
 refine aA (cE U ?_)
 rw [hc]
 refine aA (l3.at ?_)
 rw [O,hd]
 refine aD (wpAny_nsGet G.ns ?_)
 rw [hv]
 repeat (any_goals (first | assumption | wp_step))
theorem Ac1 {tk:Tok}{b:Bool}{Q:Value->Shared->Prop} (X:K.In h) (Y:Tc K C) (Z:Yc K C name) (G:h.get? x=some oe) (J:oe.cls= .ref C) (U:∀c,oe.data≠ .cls c) (hd:oe.dict=some dx) (O:h.Ns1 dx mA) (hv:mA name=some v) (hh:handedOut v=pure v) (q:Q v ⟨h,g,d,t,os⟩):
 wpAny (model prog w) A (getAttrBy (.ref x) (.str name tk) b true) Q E ⟨h,g,d,t,os⟩:=by
 have f3:=iI.ga.bind (.ref x)
 have y0:(true&&onTheHeap (Value.builtin "BaseException.__getattribute__"))=false:=rfl
 have y1:(onTheHeap (Value.ref C)&&Value.builtin "BaseException.__getattribute__"==Value.builtin "object.__getattribute__")=false:=by
  rw [show(Value.builtin "BaseException.__getattribute__"==Value.builtin "object.__getattribute__")=false by decide+kernel];rfl
 have l2:=fM (M:=model prog w) X Y.ga
 have l3:=fM (M:=model prog w) X Y.gn
 repeat (any_goals (first | assumption | (with_reducible refine cE G ?_;rw [J]) | with_reducible refine l2.at ?_ | with_reducible refine l3.at ?_ | wp_step))
 refine hV iI.ga.plain entry_bexc_ga (Vm X Y G J (Ac2 X Z G J U hd O hv ?_))
 repeat (any_goals (first | assumption | rw [hh] | wp_step))
theorem Zg {Q:Value->Shared->Prop} (X:K.In h) (Y:Tc K C) (Z:Yc K C name) (J:h.get? x=some oe) (O:oe.cls= .ref C) (U:∀c,oe.data≠ .cls c) (W:oe.dict=some dx) (G:h.Ns1 dx mA) (hv:mA name=some v) (hh:handedOut v=pure v) (q:Q v ⟨h,g,d,t+1,os⟩):
 wpAny (model prog w) A (getAttr (.ref x) name true) Q E ⟨h,g,d,t,os⟩:=by
 unfold getAttr
 repeat (any_goals (first | assumption | with_reducible apply Ac1 X Y Z J O U W G hv hh | wp_step))
end
variable {h:Heap}
theorem Agu {K:Frag}{N:Addr}{m:Str->Option Value}{n:Str}{v:Value} (X:K.In h) (G:h.Ns N m) (e:nsIn K N n=some (some v)):m n=some v:=by
 obtain⟨o,es,ep,ho,J,_,O⟩:=G
 rw [<-O]
 unfold nsIn at e
 split at e
 . rename_i q
   cases ho.symm.trans (X _ _ q)
   cases J
   unfold nsFind findBy
   rw [<-Array.find?_toList]
   split at e
   . rename_i z
     cases e
     exact bE (Option.map (·.val)) z
   . split at e<;>cases e
 . cases e
noncomputable def Zd (K:Frag) (C f:Addr) (bmB:List Value) (newId:String):Bool:=match K.lookup C with
 | some ⟨.type "type",_,.cls cd,sl⟩=>(match cd.mro,sl.toList with
   | .ref c::bm,[_,_,_,_,some (.builtin n),_]=>(c==C)&&((n==newId)&&(!cd.hasDel&&(tailIn K bmB bm&&(nsOkIn K cd.ns&&nsIn K cd.ns "__init__"==some (some (.ref f))))))
   | _,_=>false)
 | _=>false
noncomputable def Td (K:Frag) (C f:Addr):Prop:=Zd K C f VE "ValueError.__new__"=true
noncomputable def Ait (h:Heap) (C f:Addr):Prop:=∃bm N nm q bs hdct sn sub ab col dd k0 k1 k2 k3 k5 mN,h.get? C=some (excClassObj nm q C N bs bm hdct sn sub ab col dd k0 k1 k2 k3 k5 "ValueError.__new__")/\h.Ns N mN/\mN "__init__"=some (.ref f)/\OwnTail h VE bm
variable {C f:Addr}
theorem Td.obj {K:Frag} (q:Td K C f) (X:K.In h):Ait h C f:=by
 unfold Td Zd at q
 cases e:K.lookup C with
 | none=>rw [e]at q;cases q
 | some ob=>
   rw [e]at q
   have O:=X _ _ e
   split at q
   . rename_i dd cd U z
     cases z
     split at q
     . rename_i C1 bm a0 Z a2 a3 n a5 hm hs
       simp only [cD,kO,not_eq_true']at q
       obtain⟨y1,y2,y3,z4,G,y6⟩:=q
       obtain⟨c1,c2,c3,c4,c5,c6,c7,c8,c9,J,a4⟩:=cd
       have hl:U= #[a0,Z,a2,a3,some (.builtin n),a5]:=by
        cases U
        exact bE Array.mk hs
       dsimp only at hm y3 y6 G
       rw [hl,hm,y1,y2,y3]at O
       exact⟨bm,c4,c1,c5,c2,c6,c7,c8,c9,J,dd,a0,Z,a2,a3,a5,_,O,Heap.Ns.of_isNs (isNs_of_in X G),Agu X (Heap.Ns.of_isNs (isNs_of_in X G)) y6,tail_of_in X z4⟩
     . cases q
   . cases q
noncomputable def XO (x:Addr) (o:Obj):HO:= .ext fun h=>h.get? x=some o
variable {P:Program}{w:World}{H:Hp}{o:Obj}
theorem Aeg {x:Addr} (e:h.get? x=some o):Cy P w H h x (XO x o):=⟨e,⟨o,e⟩,fun _ _ z k=>k _ z⟩
theorem HOk.xo {x:Addr} (k:HOk P w H h) (e:H x=some (XO x o)):h.get? x=some o:=(k x _ e).1
structure Afw (K:Frag) (D:Addr):Prop where
 ga:specialIn K (.ref D) "__getattribute__"=some (some (.builtin "type.__getattribute__"))
 rd:readsIn K D (.type "type")=true
 fi:findCls K (.ref D) (.type "type") "__init__"=some (.val (.builtin "ValueError.__init__"))
noncomputable def tBI (K:Frag) (ta:TA):TE:=fun σ H Q=>ta σ H fun vs H1=>∃x C t0 f r,vs= .ref x::r/\r.length<=sizeLine/\Td K C f/\H1 x=some (XO x (Nu C t0))/\∀t1,Q .non (upd H1 x (XO x (Nu C t1)))
variable {h':Heap}{dx:Addr}
section
variable {X:Cx}{pins:List (Addr × Obj)}{σ:St}{H:Hp}{s:Shared}{Q:VK}{x C t0 f D:Addr}{us:List Value}
theorem Acb (I:Inv X pins σ H s) (e:H x=some (XO x (Nu C t0))) (Z:Td X.K C f) (hl:us.length<=sizeLine) (h:∀t1,Q .non (upd H x (XO x (Nu C t1)))):
 wpAny (model X.prog X.w) X.A (call (.builtin "ValueError.__init__") (.ref x::us)) (EP X pins σ Q) X.xe s:=by
 obtain⟨bm,N',nm,q,bs,hdct,sn,sub,ab,col,dd,k0,k1,k2,k3,k5,mN,hC,hN,a1,TL⟩:=Z.obj I.kIn
 have F:=PySem.F.excBase_ValueError
 have O:=I.hok.xo e
 obtain⟨J,g,d,t,os⟩:=s
 refine wpAny_call (hV F.init.plain F.initEntry (wpAny_check_init_subT F TL hC O rfl ?_))
 unfold Builtin.«BaseException.__init__»
 dsimp only
 rw [aF (by simp)]
 unfold newTuple Builtin.BaseException.bexcPut
 have G:=aB (h:=J) (Aef us) O
 have U:(Nu C t0).data= .fields #[.ref t0,.none,.none,.none,.bool false,.none]:=rfl
 refine aA (bX (aA (aA (cG G U rfl (aA (iX G U (by simp) ?_))))) (by show us.toArray.size<=sizeLine;rw [aM];exact hl))
 refine gK (aD ?_)
 show EP X pins σ Q .none _
 have W:((J.push (Aef us)).update x (Obj.mapFields (·.setIfInBounds 0 (.ref J.objs.size)))).get? x=some (Nu C J.objs.size):=eO _ G rfl
 refine⟨.non,_,I.write (x:=x) (e:=x) (t':=t) (by rw [e];exact True.intro) (.inl rfl) (fun b u hb z=> ?_) ⟨_,W⟩ (Aeg W),rfl,h J.objs.size⟩
 rw [dO _ _ (cC hb)]
 exact aB _ z
variable {cx:Str}{np apos pos:Pos}{e:Expr}{es:List Expr}{t:TA}
theorem Qj {pl:Sem Bool} (Z:Afw X.K D) (U:X.mg cx=some (.ref D)) (ha:PA X (e::es) t) (hg:Gl X cx:=by rfl) (G:(cx==("__debug__":Str))=false:=by decide)
 (J:starEach (e::es) X.env=(false,eval e X.env)::starEach es X.env:=by rfl) (O:(backTo pos (starEach es X.env)).any (·.1)=false:=by rfl)
 (ht:eval (.Call (.Attribute (.Name cx np) "__init__" apos) (e::es) [] pos) X.env=(do
   let ov<-eval (.Name cx np) X.env
   standAt apos.atName
   let (f,first)<-holding [ov] (getMethod ov "__init__" pl)
   callWith pos f first (backTo pos (starEach (e::es) X.env)) (backToKw pos (keywordEach [] X.env))):=by rfl):
 PE X (.Call (.Attribute (.Name cx np) "__init__" apos) (e::es) [] pos) (tBI X.K t):=by
 intro pins s σ H Q I h
 refine PySem.W.methodCall_KW (pl:=pl) (Kd I hg U ?_ G) ht
 refine method_cls I.kIn Z.ga (cls_value I.kIn Z.rd Z.fi (by decide+kernel) ?_)
 have I':=I.tok (s.toks+1)
 refine PyProof.Rows.callWith_builtin1 (thn (ha pos pins _ σ H _ I' h) fun us s1 ⟨vs,H1,I1,r,q⟩=> ?_) J O
 obtain⟨x,C,t0,f,r2,rfl,hl,zc,ex,q⟩:=q
 cases r with
 | cons r0 r1=>
   cases r0
   exact Acb I1 ex zc (by rw [<-r1.length];exact hl) q
theorem S.Qj {pl:Sem Bool} (Z:Afw X.K D) (U:X.mg cx=some (.ref D)) (W:Gd X (e::es) t) (hg:Gl X cx:=by rfl) (G:(cx==("__debug__":Str))=false:=by decide)
 (J:starEach (e::es) X.env=(false,eval e X.env)::starEach es X.env:=by rfl) (O:(backTo pos (starEach es X.env)).any (·.1)=false:=by rfl)
 (ht:eval (.Call (.Attribute (.Name cx np) "__init__" apos) (e::es) [] pos) X.env=(do
   let ov<-eval (.Name cx np) X.env
   standAt apos.atName
   let (f,first)<-holding [ov] (getMethod ov "__init__" pl)
   callWith pos f first (backTo pos (starEach (e::es) X.env)) (backToKw pos (keywordEach [] X.env))):=by rfl):
 Bc X (.Call (.Attribute (.Name cx np) "__init__" apos) (e::es) [] pos) (tBI X.K t):=by with_unfolding_all exact L2.Qj (pl:=pl) Z U W hg G J O ht
noncomputable def tSN (K:Frag) (ta tv:TE) (n:Str):TS:=fun D σ H=>tv σ H fun y H1=>ta σ H1 fun o H2=>∃x C t0,o= .ref x/\H2 x=some (XO x (Nu C t0))/\Yc K C n/\∀dx,H2 dx=none->D.nx σ (upd (upd H2 dx (.xd [(n,y)])) x (XO x (Yb C dx t0)))
noncomputable def tEN (K:Frag) (ta:TE) (n:Str):TE:=fun σ H Q=>ta σ H fun o H1=>∃x oe C dx fs v,o= .ref x/\H1 x=some (XO x oe)/\oe.cls= .ref C/\(∀c,oe.data≠ .cls c)/\oe.dict=some dx/\H1 dx=some (.xd fs)/\fs.lookup n=some v/\Tc K C/\Yc K C n/\Q v H1
theorem HOk.two {x:Addr}{U:Heap->Prop}{G J:HO} (ok:HOk P w H h) (e:H x=some (.ext U)) (n:H dx=none) (k:∀b u,b≠x->h.get? b=some u->h'.get? b=some u)
 (n1:Cy P w (upd (upd H dx G) x J) h' dx G) (n2:Cy P w (upd (upd H dx G) x J) h' x J):HOk P w (upd (upd H dx G) x J) h':=fun b u q=>by
 have Z:∀c y,H c=some y->(∀U,y≠ .ext U)->upd (upd H dx G) x J c=some y:=fun c y r z=>by
  rw [Ax (fun w=>by subst w;rw [e]at r;cases r;exact z _ rfl),Ax (fun w=>by subst w;rw [n]at r;cases r)]
  exact r
 by_cases W:b=x
 . subst W;rw [Af]at q;cases q;exact n2
 . rw [Ax W]at q
   by_cases hd:b=dx
   . subst hd;rw [Af]at q;cases q;exact n1
   . rw [Ax hd]at q
     refine(ok b u q).stay (fun c v O r=>k c v ?_ r) (fun c r=>Z _ _ r (fun _ z=>nomatch z)) fun c xs r=>Z _ _ r (fun _ z=>nomatch z)
     rcases O with rfl | O
     . exact W
     . rintro rfl
       rw [e]at O;cases O
theorem Un.two {fs ex:List Addr}{x:Addr}{G:Heap->Prop}{O U:HO} (e:H x=some (.ext G)) (n:H dx=none) (Z:h.objs.size<=dx) (k:∀b u,b≠x->h.get? b=some u->h'.get? b=some u) (hx:∃u,h'.get? x=some u):Un fs ex H (upd (upd H dx O) x U) h h':=by
 have J:∀c y,H c=some y->(∀G,y≠ .ext G)->upd (upd H dx O) x U c=some y:=fun c y r z=>by
  rw [Ax (fun w=>by subst w;rw [e]at r;cases r;exact z _ rfl),Ax (fun w=>by subst w;rw [n]at r;cases r)]
  exact r
 have nx:∀b,H b=none->b≠x:=fun b q z=>by subst z;rw [e]at q;cases q
 refine⟨fun b u q m _ _=>k b u (nx b m) q,fun b u q m _ _=>⟨u.slots,k b u (nx b m) q⟩,fun b u q m _=> ?_,fun b u q _=> ?_,fun b xs q=>J _ _ q (fun _ z=>nomatch z),fun b u xs q=>J _ _ q (fun _ z=>nomatch z),fun b ps q=>⟨#[],(J _ _ q (fun _ z=>nomatch z)).trans (by simp)⟩⟩
 . rw [Ax (nx b m),Ax (aP (bB (aJ q) Z))]
   exact m
 . by_cases W:b=x
   . subst W;exact hx
   . exact⟨u,k b u W q⟩
variable {o value:Expr}{n:Str}{tpos:Pos}{ta tv:TE}
theorem Qm (ha:PE X o ta) (hv:PE X value tv) (hs:swapsWith value (some (.Attribute o n apos)) pos.line X.env=pure false:=by rfl):PS X (.Assign [.Attribute o n apos] value pos) (tSN X.K ta tv n):=by
 intro pins s σ H D I h
 refine plainObj_wpAny_Assign_Attribute (thn (hv pins s σ H _ I h) fun u s1 ⟨y,H1,I1,ry,q⟩=>thn (ha pins s1 σ H1 _ I1 q) fun ov s2 ⟨o,H2,G,rx,x,C,t0,ex,J,Z,q2⟩=> ?_) hs
 subst ex
 obtain rfl:ov=Value.ref x:=rx
 have he:=G.hok.xo J
 have O:=G.fresh
 refine Aht G.kIn Z he fun h' tk W g2 g3=>⟨σ,_,?_,q2 _ O⟩
 refine G.un (h':=h') (t':=tk) (Un.two J O (aL _) g3 ⟨_,W⟩) (HOk.two G.hok J O g3 ⟨_,g2,fun f=> ?_⟩ (Aeg W))
 show Vf (([(n,y)]:List (Str × V)).lookup f) (if f=n then some u else none)
 by_cases z:f=n
 . have U:(f==n)=true:=kO.mpr z
   simp only [List.lookup,U,aI z]
   exact ry
 . have U:(f==n)=false:=eS.mpr z
   simp only [List.lookup,U,aF z]
   exact True.intro
theorem S.Qm (G:Bc X o ta) (J:Bc X value tv) (O:swapsWith value (some (.Attribute o n apos)) pos.line X.env=pure false:=by rfl):Gn X (.Assign [.Attribute o n apos] value pos) (tSN X.K ta tv n):=by with_unfolding_all exact L2.Qm G J O
theorem X4:∀ {v:V}{u:Value},RelV v u->handedOut u=pure u
 | .non,_,r | .bl _,_,r | .ref _,_,r | .ty _,_,r=>by cases r;rfl
 | .int _,_,r | .str _,_,r | .byt _,_,r | .flt _,_,r=>by obtain⟨_,rfl⟩:=r;rfl
theorem Qk (W:PE X o ta) (hb:attributeBase o n X.env (eval o X.env)=eval o X.env:=by rfl):PE X (.Attribute o n pos) (tEN X.K ta n):=by
 intro pins s σ H Q I h
 refine Af2 hb (thn (W pins s σ H _ I h) fun u s1 ⟨o,H1,J,rx,x,oe,C,dx,fs,v,ex,ea,hc,hn,hd,O,hl,Y,Z,q⟩=> ?_)
 subst ex
 obtain rfl:u=Value.ref x:=rx
 obtain⟨mA,U,G⟩:=J.hok dx _ O
 have G:=G n
 rw [hl]at G
 cases hm:mA n with
 | none=>rw [hm]at G;exact G.elim
 | some u=>
   rw [hm]at G
   have G:RelV v u:=G
   obtain⟨hh,g,d,t,os⟩:=s1
   refine Zg J.kIn Y Z (J.hok.xo ea) hc hn hd U hm (X4 G) ⟨v,H1,J.tok _,G,q⟩
theorem S.Qk (G:Bc X o ta) (J:attributeBase o n X.env (eval o X.env)=eval o X.env:=by rfl):Bc X (.Attribute o n pos) (tEN X.K ta n):=by with_unfolding_all exact L2.Qk G J
end
noncomputable def Ani (i:Nat):Stmt->Stmt
 | .ClassDef _ _ _ body .. =>body.getD i (.Pass ⟨0,0,0,0⟩)
 | st=>st
end L2
namespace L2
open PySem PySem.Spec PyProof.Rows PySem.W
set_option maxRecDepth 100000
noncomputable def CXN (P:Program) (w:World):CXT:=fun outer H s E e s'=>∃(x C:Addr) (a0:Value) (B:Heap) (H':Hp) (dx:Addr),e= .ref x/\s'.os=s.os/\AllBare s'.gens/\Heap.FlyingW B outer x (.ref C) a0 s'.heap/\FX P w (frs outer) H s.heap B H' s'.heap/\dOf s'.heap x=some (some dx)/\E (.ref C) (some dx) H'
noncomputable def rmH (H:Hp) (x:Addr):Hp:=fun b=>if b=x then none else H b
variable {H:Hp}{b:Addr}
theorem U0 {x:Addr} (h:b≠x):rmH H x b=H b:=aF h
theorem Alq {x:Addr}{o:HO} (e:rmH H x b=some o):b≠x/\H b=some o:=by
 unfold rmH at e
 split at e
 . cases e
 . exact⟨by assumption,e⟩
variable {P:Program}{w:World}{h:Heap}
section
variable {X:Cx}{pins:List (Addr × Obj)}{σ:St}{H H':Hp}{s s':Shared}{B:Heap}{x:Addr}{oe:Obj}
theorem An2 {G:Heap->Prop} (k:HOk P w H h) (e:H x=some (.ext G)):HOk P w (rmH H x) h:=fun b u q=>by
 obtain⟨J,q⟩:=Alq q
 exact(k b u q).stay (fun c v _ r=>r) (fun c r=>(U0 (fun z=>by subst z;rw [e]at r;cases r)).trans r) fun c xs r=>(U0 (fun z=>by subst z;rw [e]at r;cases r)).trans r
theorem Inv.fxN {O:Heap->Prop} (I:Inv X pins σ H s) (G:X.ex=[]) (e:H x=some (.ext O)) (U:X.s₀.heap.get? x=none):FX X.prog X.w X.fs X.H₀ X.s₀.heap (hideAll s.heap (x::frs X.stack)) (rmH H x) s.heap:=by
 have u:=G▸I.base
 refine⟨fun b o q=>jL _ q,fun b o q J=> ?_,fun b v q=> ?_,I.fr0,⟨u.keep,u.slot,fun b o q n Z=> ?_,u.there,fun b xs q=> ?_,fun b o xs q=> ?_,fun b ps q=> ?_⟩,An2 I.hok e⟩
 . obtain⟨o',e1,e2⟩:=I.one G q J
   refine⟨o',hU _ e1 (fun z=> ?_),fun n=>(e2 n).1⟩
   rcases aS.mp z with z | z
   . subst z;rw [U]at q;cases q
   . exact I.old q J z
 . obtain⟨J,q⟩:=Alq q
   obtain⟨o,eo⟩:=(I.hok b v q).has
   refine⟨o,hU _ eo fun z=> ?_⟩
   rcases aS.mp z with z | z
   . exact J z
   . have:=I.stkFree b z;rw [q]at this;cases this
 . have:=u.free b o q n Z
   unfold rmH
   split
   . rfl
   . exact this
 . have r:=u.tups b xs q
   exact(U0 (fun z=>by subst z;rw [e]at r;cases r)).trans r
 . have r:=u.frzs b o xs q
   exact(U0 (fun z=>by subst z;rw [e]at r;cases r)).trans r
 . obtain⟨m,r⟩:=u.tbls b ps q
   exact⟨m,(U0 (fun z=>by subst z;rw [e]at r;cases r)).trans r⟩
end
section
variable {P:Program}{w:World}{K:Frag}{mg:Str->Option Value}{base:Heap}{N:List Str}{qual:Str}{scope:Scope}{f:Addr}{cd:Value}{A:Around}{outer:List Env}{s0:Shared}{H0:Hp}{E:XK}
theorem Anp:Passes (CXN P w) (Mp (CXN P w) P w K mg base N qual scope f cd A outer s0 H0 E) E:=by
 intro pins σ H s e s' I h
 obtain⟨x,C,a0,B,H',dx,rfl,os,J,O,fx,U,q⟩:=h
 show wpAny _ _ (leaving _ (.ref x)) _ _ s'
 refine bP (wpD Og (wpAny_leaves_onW (Q:=fun _ z=>∃h',z={ s' with heap:=h'}/\Heap.FlyingW B outer x (.ref C) a0 h'/\s'.heap.UpToSlots h') (E:=fun _ _=>False) I.ok.frames rfl O fun h' G up=>⟨h',rfl,G,up⟩)) (fun _ z y=> ?_) fun _ _ z=>z.1.elim
 obtain⟨⟨h',rfl,G,up⟩,W⟩:=y
 exact⟨x,C,a0,B,H',dx,rfl,os.trans I.os,J,G,(I.fxOn rfl os J fx).step G.1 up,W _ _ U,q⟩
end
variable {x qual:Str}{f:Addr}{fd:FuncData}{N ps:List Str}{sp:Sp}
theorem Fun.okN {P:Program}{w:World}{K:Frag}{mg:Str->Option Value}{base:Heap}{st:Stmt}{k:Nat} (F:Fun K x qual st f fd) (S:Bb N ps (Ak st)) (len:∀vs H Q E,sp vs H Q E->vs.length=ps.length)
 (J:∀(G:Value) (A:Around) (outer:List Env) (s:Shared) (H:Hp) (vs:List V) (Q:VK) (E:XK),Hi k (A.deeper (envOfC qual (Ak st) s.heap.objs.size f G))->sp vs H Q E->
   ∃t,PSs (Mp (CXN P w) P w K mg base N qual (Ak st) f G A outer s H E) (Gj st) t/\t { nx:=fun _ H'=>Q .non H',rt:=Q} (start N vs) H):Lq P w K mg base (CXN P w) (k+1) f fd ps sp:=by
 obtain⟨oc,od,kV,Z,pm,an,G,ct,a1,rfl,lk,O⟩:=F.ex
 exact Ajm lk O S len fun A outer s H vs Q E hr U=>J G A outer s H vs Q E hr U
noncomputable def Lf (P:Program) (w:World) (K:Frag) (mg:Str->Option Value) (base:Heap) (k:Nat) (x:Str) (ps:List Str) (sp:Sp):Prop:=
 ∃f fd,Lq P w K mg base (CXN P w) k f fd ps sp/\mg x=some (.ref f)/\keepIn K (.ref f)=true/\Binds K fd ps []
theorem Df.calN {P:Program}{w:World}{K:Frag}{mg:Str->Option Value}{base:Heap}{k:Nat}{x:Str}{st:Stmt}{ps:List Str}{f:Addr}{fd:FuncData}{sp:Sp}
 (F:Df K mg x st ps f fd) (G:Lq P w K mg base (CXN P w) k f fd ps sp):Lf P w K mg base k x ps sp:=⟨f,fd,G,F.at',F.fn.kp,F.bd⟩
theorem Lf.calm {P:Program}{w:World}{K:Frag}{mg:Str->Option Value}{base:Heap}{k:Nat}{x:Str}{ps:List Str}{sp O:Sp}
 (C:Lf P w K mg base k x ps sp) (h:∀J H Q E,O J H Q E->sp J H Q E0):Cal P w K mg base k x ps O:=by
 obtain⟨f,fd,G,a,b,c⟩:=C
 refine⟨f,fd,⟨fun J H Q E z=>G.len J H Q E0 (h _ _ _ _ z),fun A outer s H args us J Q E U Z hb hv hs=> ?_⟩,a,b,c⟩
 refine iF (G.run A outer s H args us J Q E0 U Z hb hv (h _ _ _ _ hs)) fun r s' q=> ?_
 cases r with
 | ok fl=>cases fl<;>exact q
 | error e=>
   obtain⟨_,_,_,_,_,_,_,_,_,_,_,_,z⟩:=q
   exact z.elim
section
variable {P:Program}{w:World}{K:Frag}{mg:Str->Option Value}{base:Heap}{N:List Str}{qual:Str}{scope:Scope}{f:Addr}{cd:Value}{A:Around}{outer:List Env}{s0:Shared}{H0:Hp}{E:XK}
theorem G8 {k:Nat}{x:Str}{ps:List Str}{sp:Sp}{p pos:Pos}{e:Expr}{es:List Expr}{t:TA}
 (C:Lf P w K mg base k x ps sp) (U:Hi k (A.deeper (envOfC qual scope s0.heap.objs.size f cd))) (W:PA (Mp (CXN P w) P w K mg base N qual scope f cd A outer s0 H0 E) (e::es) t) (Z:Gl (Mp (CXN P w) P w K mg base N qual scope f cd A outer s0 H0 E) x:=by rfl) (J:(x==("__debug__":Str))=false:=by decide)
 (he:starEach (e::es) (envOfC qual scope s0.heap.objs.size f cd)=(false,eval e (envOfC qual scope s0.heap.objs.size f cd))::starEach es (envOfC qual scope s0.heap.objs.size f cd):=by rfl)
 (O:(backTo pos (starEach es (envOfC qual scope s0.heap.objs.size f cd))).any (·.1)=false:=by rfl):
 PE (Mp (CXN P w) P w K mg base N qual scope f cd A outer s0 H0 E) (.Call (.Name x p) (e::es) [] pos) (Qy sp [] E t):=by
 obtain⟨f',fd,G,a,b,c⟩:=C
 exact Aap (X:=Mp (CXN P w) P w K mg base N qual scope f cd A outer s0 H0 E) G U Z a b c .nil Anp W J he O
theorem S.G8 {k:Nat}{x:Str}{ps:List Str}{sp:Sp}{p pos:Pos}{e:Expr}{es:List Expr}{t:TA}
 (C:Lf P w K mg base k x ps sp) (O:Hi k (A.deeper (envOfC qual scope s0.heap.objs.size f cd))) (U:Gd (Mp (CXN P w) P w K mg base N qual scope f cd A outer s0 H0 E) (e::es) t) (W:Gl (Mp (CXN P w) P w K mg base N qual scope f cd A outer s0 H0 E) x:=by rfl) (G:(x==("__debug__":Str))=false:=by decide)
 (Z:starEach (e::es) (envOfC qual scope s0.heap.objs.size f cd)=(false,eval e (envOfC qual scope s0.heap.objs.size f cd))::starEach es (envOfC qual scope s0.heap.objs.size f cd):=by rfl)
 (J:(backTo pos (starEach es (envOfC qual scope s0.heap.objs.size f cd))).any (·.1)=false:=by rfl):
 Bc (Mp (CXN P w) P w K mg base N qual scope f cd A outer s0 H0 E) (.Call (.Name x p) (e::es) [] pos) (Qy sp [] E t):=by with_unfolding_all exact L2.G8 C O U W G Z J
end
section
variable {M:Model}{A:Around}{E:Value->Shared->Prop}{s:Shared}{env:Env}{Q:Flow->Shared->Prop}
theorem Aaz {x:Sem Value} (U:A.handled=none)
 (h:wpAny M A x (fun v G=>∃e C f dx t,v= .ref e/\Ait G.heap C f/\G.heap.get? e=some (Yb C dx t)/\E (.ref e) G) E s):wpAny M A (raiseStmt env (some x) none) Q E s:=by
 unfold raiseStmt
 refine aA (bP h (fun v G h1=> ?_) fun _ _ x=>x)
 obtain⟨e,C,f,dx,t,rfl,ho,W,Z⟩:=h1
 obtain⟨bm,N,nm,q,bs,hdct,sn,sub,ab,col,dd,k0,k1,k2,k3,k5,mN,O,hN,a1,TL⟩:=ho
 have hB:bm.contains (.type "BaseException")=true:=TL.hasType (by decide)
 have J:(Value.ref C::bm).contains (.type "BaseException")=true:=by rw [List.contains_cons,hB,Bool.or_true]
 obtain⟨hp,g,d,tk,os⟩:=G
 repeat (first | with_reducible refine cE W ?_ | with_reducible refine cE O ?_ | (with_reducible refine jT O ?_;rw [J]) | wp_step)
 exact wpAny_raiseNew_none U Z
end
structure NmK (P:Program) (w:World) (K:Frag) (mg:Str->Option Value) (base:Heap) (k:Nat) (C:Addr) (n:Str):Prop where
 ex:∃f fd ps,ps.length=2/\Td K C f/\typeIn K (.ref f)=some (.type "function")/\Binds K fd ps []/\
  Lq P w K mg base (CXN P w) k f fd ps (fun vs H Q _=>∃x v t0,vs=[.ref x,v]/\H x=some (XO x (Nu C t0))/\∀dx t1,H dx=none->dx≠x->Q .non (upd (upd H dx (.xd [(n,v)])) x (XO x (Yb C dx t1))))
 kp:keepIn K (.ref C)=true
noncomputable def Vb (C:Addr) (n:Str) (E:XK) (t:TA):TS:=fun _ σ H=>t σ H fun vs H1=>∃v,vs=[v]/\∀dx H2,Same H1 H2->H2 dx=some (.xd [(n,v)])->E (.ref C) (some dx) H2
variable {C:Addr}
section
variable {P:Program}{w:World}{K:Frag}{mg:Str->Option Value}{base:Heap}{N:List Str}{qual:Str}{scope:Scope}{f:Addr}{cd:Value}{A:Around}{outer:List Env}{s0:Shared}{H0:Hp}{E:XK}
theorem Mw {k:Nat}{n:Str}{np cpos pos:Pos}{e:Expr}{es:List Expr}{t:TA} (Z:NmK P w K mg base k C n) (hr:Hi (k+1) (A.deeper (envOfC qual scope s0.heap.objs.size f cd))) (hm:mg x=some (.ref C))
 (ha:PA (Mp (CXN P w) P w K mg base N qual scope f cd A outer s0 H0 E) (e::es) t) (hg:Gl (Mp (CXN P w) P w K mg base N qual scope f cd A outer s0 H0 E) x:=by rfl) (a5:(x==("__debug__":Str))=false:=by decide)
 (he:starEach (e::es) (envOfC qual scope s0.heap.objs.size f cd)=(false,eval e (envOfC qual scope s0.heap.objs.size f cd))::starEach es (envOfC qual scope s0.heap.objs.size f cd):=by rfl)
 (a6:(backTo cpos (starEach es (envOfC qual scope s0.heap.objs.size f cd))).any (·.1)=false:=by rfl):
 PS (Mp (CXN P w) P w K mg base N qual scope f cd A outer s0 H0 E) (.Raise (some (.Call (.Name x np) (e::es) [] cpos)) none pos) (Vb C n E t):=by
 intro pins s σ H D I h
 rw [arm_exec_Raise]
 refine aA (jJ (Aaz (I.ok.hd rfl) (aA (bP ?_ (fun v s3 h3=>aA (jJ (aD h3))) fun _ _ x=>x))))
 refine fL (Kd I hg hm ?_ a5)
 refine jM (h₀:=base) I.ok.mod.kin Z.kp (thn (ha cpos pins s σ H _ I h) fun us O ⟨vs,H1,I1,r,q⟩=>⟨I1.kIn,?_⟩) he a6
 obtain⟨v,rfl,q⟩:=q
 obtain⟨fI,fd,ps,a7,hq,a8,a9,G⟩:=Z.ex
 obtain⟨bm,N',nm,qn,bs,hdct,sn,sub,ab,col,dd,k0,k1,k2,k3,k5,mN,hC,hN,aa,TL⟩:=hq.obj I1.kIn
 have k1:∀b o,O.heap.get? b=some o->((O.heap.push (Aef us)).push (Nu C O.heap.objs.size)).get? b=some o:=fun b o e=>aB _ (aB _ e)
 have hx:((O.heap.push (Aef us)).push (Nu C O.heap.objs.size)).get? (O.heap.objs.size+1)=some (Nu C O.heap.objs.size):=by heap_get
 have I2:=I1.laid (a:=O.heap.objs.size+1) (o:=XO (O.heap.objs.size+1) (Nu C O.heap.objs.size)) (t':=O.toks) k1 (gR _) (Aeg hx)
 have nx:H1 (O.heap.objs.size+1)=none:=I1.hok.fresh (gR _)
 obtain⟨J,g,d,tk,os⟩:=O
 have hb:=a9 ⟨(J.push (Aef us)).push (Nu C J.objs.size),g,d,tk,os⟩ (.ref (J.objs.size+1)::us) I2.kIn (by rw [bT,bH,<-r.length,a7];rfl)
 rw [bT]at hb
 have R:=G.run _ _ ⟨(J.push (Aef us)).push (Nu C J.objs.size),g,d,tk,os⟩ _ ⟨.ref (J.objs.size+1)::us,[]⟩ (.ref (J.objs.size+1)::us) (.ref (J.objs.size+1):: [v])
  (fun u H2=>u= .non/\∃dx t1,H1 dx=none/\dx≠J.objs.size+1/\H2=upd (upd (upd H1 (J.objs.size+1) (XO (J.objs.size+1) (Nu C J.objs.size))) dx (.xd [(n,v)])) (J.objs.size+1) (XO (J.objs.size+1) (Yb C dx t1))) E0
  (hr.make C us []) (I2.env0.make C us []) hb (Paired.cons (a:=V.ref (J.objs.size+1)) (b:=Value.ref (J.objs.size+1)) rfl r) ⟨_,v,_,rfl,Af,fun dx t1 hd a1=>⟨rfl,dx,t1,(Ax a1).symm.trans hd,a1,rfl⟩⟩
 show wpAny (model P w) _ (call (.ref C) us) _ _ _
 refine wpAny_call (Ac0 PySem.F.excBase_ValueError TL hC hN aa (fun a3=>PySem.W.bind_fn I1.kIn a3 a8) (by rw [<-r.length];exact bL rfl) (iF R fun r s' U=> ?_))
 cases r with
 | error e=>
   obtain⟨_,_,_,_,_,_,_,_,_,_,_,_,z⟩:=U
   exact z.elim
 | ok fl=>
   cases fl with
   | ret u=>
     obtain⟨v2,H2,I3,rv,ev,dx,t1,hd,a1,eH⟩:=I2.after U
     subst ev
     refine⟨rv,?_⟩
     have ex:H2 (J.objs.size+1)=some (XO (J.objs.size+1) (Yb C dx t1)):=by rw [eH,Af]
     have a2:=I3.hok.xo ex
     refine⟨_,C,fI,dx,t1,rfl,hq.obj I3.kIn,a2,?_⟩
     have n0:s0.heap.get? (J.objs.size+1)=none:=Heap.get?_none_of_le (Nat.le_succ_of_le I1.sz)
     have fn:(hideAll s'.heap ((J.objs.size+1)::frs (envOfC qual scope s0.heap.objs.size f cd::outer))).get? (J.objs.size+1)=none:=hideAll_none _ cY
     show wpAny _ _ (leaving _ (.ref (J.objs.size+1))) _ _ _
     refine bP (wpD Og (wpAny_leaving_firstW (base:=hideAll s'.heap ((J.objs.size+1)::frs (envOfC qual scope s0.heap.objs.size f cd::outer))) (Q:=fun _ z=>∃h',z={ s' with heap:=h'}/\Heap.LeftW (hideAll s'.heap ((J.objs.size+1)::frs (envOfC qual scope s0.heap.objs.size f cd::outer))) (envOfC qual scope s0.heap.objs.size f cd::outer) (J.objs.size+1) (.ref C) (.ref t1) s'.heap h') (E:=fun _ _=>False) I3.ok.frames
      (PySem.W.funFrames_hide I3.stack fun env he b hb=>cI _ (mem_filterMap.mpr ⟨env,he,hb⟩)) rfl a2 (fun b o q=>jL _ q) fn rfl rfl rfl fun h' hL=>⟨h',rfl,hL⟩)) (fun _ z y=> ?_) fun _ _ z=>z.1.elim
     obtain⟨⟨h',rfl,g1,⟨_,_,g2⟩,g3,g4⟩,sd⟩:=y
     have a4:dx≠J.objs.size+1:=a1
     refine⟨_,C,.ref t1,_,rmH H2 (J.objs.size+1),dx,rfl,I3.os,I3.bare,⟨g1,fn,g2,g3⟩,(I3.fxN rfl ex n0).step g1 g4,sd _ _ (Y0 a2),q dx _ (fun b o e=> ?_) ?_⟩
     . have nb:b≠J.objs.size+1:=fun z=>by subst z;rw [nx]at e;cases e
       have nd:b≠dx:=fun z=>by subst z;rw [hd]at e;cases e
       rw [U0 nb,eH,Ax nb,Ax nd,Ax nb]
       exact e
     . rw [U0 a4,eH,Ax a4,Af]
   | next=>exact False.elim U
   | brk=>exact False.elim U
   | cont=>exact False.elim U
theorem S.Mw {k:Nat}{C:Addr}{n x:Str}{np cpos pos:Pos}{e:Expr}{es:List Expr}{t:TA} (Z:NmK P w K mg base k C n) (O:Hi (k+1) (A.deeper (envOfC qual scope s0.heap.objs.size f cd))) (U:mg x=some (.ref C))
 (W:Gd (Mp (CXN P w) P w K mg base N qual scope f cd A outer s0 H0 E) (e::es) t) (hg:Gl (Mp (CXN P w) P w K mg base N qual scope f cd A outer s0 H0 E) x:=by rfl) (G:(x==("__debug__":Str))=false:=by decide)
 (he:starEach (e::es) (envOfC qual scope s0.heap.objs.size f cd)=(false,eval e (envOfC qual scope s0.heap.objs.size f cd))::starEach es (envOfC qual scope s0.heap.objs.size f cd):=by rfl)
 (J:(backTo cpos (starEach es (envOfC qual scope s0.heap.objs.size f cd))).any (·.1)=false:=by rfl):
 Gn (Mp (CXN P w) P w K mg base N qual scope f cd A outer s0 H0 E) (.Raise (some (.Call (.Name x np) (e::es) [] cpos)) none pos) (Vb C n E t):=by with_unfolding_all exact L2.Mw Z O U W hg G he J
end
end L2
namespace L2
open PySem PySem.Spec PyProof.Rows PySem.W
set_option maxRecDepth 100000
noncomputable abbrev Cx.held (X:Cx) (x:Addr):Cx:={ X with A:=X.A.mark (some (.ref x)),calm:=false,xe:=fun _ _=>False}
section
variable {X:Cx}{pins:List (Addr × Obj)}{σ:St}{H H':Hp}{s s':Shared}{x:Addr}{oe:Obj}
theorem Cx.Ok.held (ok:X.Ok) (x:Addr):(X.held x).Ok:=
 ⟨ok.mod,ok.kind,ok.glob,ok.blt,ok.above,ok.inj,ok.has,ok.cab,(fun z=>nomatch z),ok.frames,ok.stk,ok.exf,ok.bs,ok.bsz,ok.noex,ok.exfs,ok.funs,ok.frf⟩
theorem Inv.held (I:Inv X pins σ H s):Inv (X.held x) pins σ H s:=⟨I.ok.held x,I.os,I.bare,I.base,I.loc,I.cell,I.free,I.freeC,I.pin,I.hok,I.len⟩
theorem Inv.unheld (ok:X.Ok) (I:Inv (X.held x) pins σ H s):Inv X pins σ H s:=⟨ok,I.os,I.bare,I.base,I.loc,I.cell,I.free,I.freeC,I.pin,I.hok,I.len⟩
theorem Inv.track (I:Inv X pins σ H s) (J:Inv X pins σ H' s') (U:X.ex=[]) (n0:s.heap.get? x=none) (nH:H' x=none) (e:s'.heap.get? x=some oe):Inv X pins σ (upd H' x (XO x oe)) s':=by
 have O:∀ {b:Addr}{o:Obj},s.heap.get? b=some o->b≠x:=fun q z=>by subst z;rw [n0]at q;cases q
 have n1:∀ {b:Addr}{o:Obj},X.s₀.heap.get? b=some o->b≠x:=fun q=>by
  obtain⟨o',q'⟩:=I.base.there _ _ q (by rw [U];simp)
  exact O q'
 have nl:X.env.locals≠x:=by
  obtain⟨m,hn,_⟩:=I.loc
  obtain⟨o,_,_,q,_⟩:=hn
  exact O q
 have G:∀c y,H' c=some y->upd H' x (XO x oe) c=some y:=fun c y r=>(Ax (fun z=>by subst z;rw [nH]at r;cases r)).trans r
 refine⟨J.ok,J.os,J.bare,⟨J.base.keep,J.base.slot,fun b o q n hx=>(Ax (n1 q)).trans (J.base.free b o q n hx),J.base.there,fun b xs q=>G _ _ (J.base.tups b xs q),fun b o xs q=>G _ _ (J.base.frzs b o xs q),fun b ps q=> ?_⟩,J.loc,J.cell,(Ax nl).trans J.free,fun y c q=> ?_,fun p W=> ?_,fun b u q=> ?_,J.len⟩
 . obtain⟨m,r⟩:=J.base.tbls b ps q
   exact⟨m,G _ _ r⟩
 . obtain⟨v,o,z⟩:=I.cell y c q
   exact(Ax (O z.1)).trans (J.freeC y c q)
 . obtain⟨a1,a2,a3⟩:=J.pin p W
   exact⟨a1,(Ax (O (I.pin p W).1)).trans a2,a3⟩
 . by_cases Z:b=x
   . subst Z;rw [Af]at q;cases q;exact Aeg e
   . rw [Ax Z]at q
     exact(J.hok b u q).stay (fun _ _ _ r=>r) (fun c r=>G _ _ r) fun c xs r=>G _ _ r
end
noncomputable def BTN (X:Cx) (st:Stmt) (t:TB):Prop:=∀(pins:List (Addr × Obj)) (s:Shared) (σ:St) (H:Hp) (N:St->Hp->Prop) (E:XK) (XE:Value->Shared->Prop) (R:Flow->Shared->Prop),Inv X pins σ H s->t σ H N E->
 (∀s1 H1 e s',Inv X pins σ H1 s1->CXN X.prog X.w X.stack H1 s1 E e s'->XE e s')->(∀σ' H1 s1,N σ' H1->Inv X pins σ' H1 s1->R .next s1)->wpAny (model X.prog X.w) X.A (exec st X.env) R XE s
variable {X:Cx}{pins:List (Addr × Obj)}{σ:St}{H:Hp}{s:Shared}{ps:List Str}{sp:Sp}{ta:TA}
theorem Aly {k:Nat}{f:Str}{a:Expr}{as:List Expr}{E:XK}{Q:VK}{XE:Value->Shared->Prop}{p cpos:Pos} (Ca:Lf X.prog X.w X.K X.mg X.base k f ps sp) (hr:Hi k X.A) (ha:PA X.nox (a::as) ta) (I:Inv X pins σ H s)
 (h:ta σ H fun vs H1=>sp vs H1 Q E) (hx:∀J H1 e s',Inv X pins σ H1 J->CXN X.prog X.w X.stack H1 J E e s'->XE e s') (hg:Gl X f) (a1:(f==("__debug__":Str))=false) (he:starEach (a::as) X.env=(false,eval a X.env)::starEach as X.env) (a2:(backTo cpos (starEach as X.env)).any (·.1)=false):
 wpAny (model X.prog X.w) X.A (eval (.Call (.Name f p) (a::as) [] cpos) X.env) (EP X pins σ Q) XE s:=by
 obtain⟨f',fd,G,hm,hk,hb⟩:=Ca
 refine fL (Kd I hg hm ?_ a1)
 refine jM (h₀:=X.base) I.ok.mod.kin hk (bP (ha cpos pins s σ H _ (I.wish _) h) (fun us J ⟨vs,H1,O,r,q⟩=>⟨O.unwish.kIn,?_⟩) fun _ _ z=>False.elim z) he a2
 have O:Inv X pins σ H1 J:=O.unwish
 have hl:us.length=ps.length:=by rw [<-r.length];exact G.len _ _ _ _ q
 have U:=hb J us O.kIn (by rw [bT];exact hl)
 rw [bT]at U
 refine wpAny_call (iF (G.run X.A X.stack J H1 ⟨us,[]⟩ us vs Q E hr O.env0 U r q) fun r s' Z=> ?_)
 cases r with
 | error e=>exact hx J H1 e s' O Z
 | ok fl=>
   cases fl with
   | ret u=>exact O.after Z
   | next=>exact False.elim Z
   | brk=>exact False.elim Z
   | cont=>exact False.elim Z
variable {tc:TT}
section
variable {X:Cx}{C:Addr}{cx n f:Str}{np p cpos pos hpos:Pos}{b0 st:Stmt}{suite:List Stmt}{i k:Nat}{ps:List Str}{sp:Sp}{a:Expr}{as:List Expr}{ta:TA}{g:V->St->St}{tb:TB}
theorem Gz (O:Lf X.prog X.w X.K X.mg X.base k f ps sp) (U:Hi k X.A) (W:PA X.nox (a::as) ta) (Z:Ve X st (.Call (.Name f p) (a::as) [] cpos) g)
 (hg:Gl X f:=by rfl) (G:(f==("__debug__":Str))=false:=by decide) (he:starEach (a::as) X.env=(false,eval a X.env)::starEach as X.env:=by rfl) (J:(backTo cpos (starEach as X.env)).any (·.1)=false:=by rfl):BTN X st (Af3 sp g ta):=by
 intro pins s σ H N E XE R I h hx hn
 exact Z pins s σ H XE (fun v H2=>N (g v σ) H2) R I (Aly O U W I h hx hg G he J) fun v H1 s1 q I1=>hn _ _ _ q I1
theorem S.Gz (O:Lf X.prog X.w X.K X.mg X.base k f ps sp) (U:Hi k X.A) (W:Gd X.nox (a::as) ta) (Z:Ve X st (.Call (.Name f p) (a::as) [] cpos) g)
 (hg:Gl X f:=by rfl) (G:(f==("__debug__":Str))=false:=by decide) (he:starEach (a::as) X.env=(false,eval a X.env)::starEach as X.env:=by rfl) (J:(backTo cpos (starEach as X.env)).any (·.1)=false:=by rfl):BTN X st (Af3 sp g ta):=by with_unfolding_all exact L2.Gz O U W Z hg G he J
theorem Oe {c:Expr}{x y:Stmt}{t u:TB} (hc:PT X.nox c tc) (hx:BTN X x t) (hy:BTN X y u):BTN X (.If c [x] [y] pos) (bIf tc t u):=by
 intro pins s σ H N E Z R I h hE hn
 refine wpAny_If (bP (hc pins s σ H _ (I.wish _) h) (fun d O ⟨H1,J,q1⟩=> ?_) fun _ _ z=>False.elim z)
 have J:Inv X pins σ H1 O:=J.unwish
 cases d with
 | true=>exact jF (hx pins O σ H1 N E Z _ J q1 hE fun G H2 U n W=>fN (hn G H2 U n W))
 | false=>exact jF (hy pins O σ H1 N E Z _ J q1 hE fun G H2 U n W=>fN (hn G H2 U n W))
theorem S.Oe {c:Expr}{x y:Stmt}{tc:TT}{t u:TB} (G:Jd X.nox c tc) (J:BTN X x t) (O:BTN X y u):BTN X (.If c [x] [y] pos) (bIf tc t u):=by with_unfolding_all exact L2.Oe G J O
noncomputable def Abk (Cs:List Addr) (i:Nat) (tb:TB) (ts:TS):TS:=fun D σ H=>tb σ H (fun σ' H'=>D.nx σ' H')
 (fun c od H2=>∃C,c= .ref C/\C∈Cs/\∀x oe dx,oe.cls= .ref C->(∀c,oe.data≠ .cls c)->od=some dx->oe.dict=some dx->H2 x=none->ts { nx:=fun σ' H'=>D.nx (σ'.set i none) H',rt:=D.rt,bk:=fun σ' H'=>D.bk (σ'.set i none) H',ct:=fun σ' H'=>D.ct (σ'.set i none) H'} (σ.set i (some (.ref x))) (upd H2 x (XO x oe)))
end
section
variable {M:Model}{A:Around}{E:Value->Shared->Prop}{Q:Unit->Shared->Prop}{s:Shared}{B:Heap}{env:Env}{outer l:List Env}{L x:Addr}{cls a0:Value}{d:Option Addr}
theorem Aka (G:A.frames=some (env::outer)) (J:env.frame=some L) (O:Heap.FlyingW B (env::outer) x cls a0 s.heap) (U:dOf s.heap x=some d)
 (k:∀h',Heap.HeldW B (env::outer) x cls a0 L h'->s.heap.UpToSlots h'->dOf h' x=some d->Q () { s with heap:=h'}):wpAny M A (noteFrame (.ref x) env) Q E s:=by
 refine bP (wpD Yv (wpAny_looks_onW (Q:=fun _ z=>∃h',z={ s with heap:=h'}/\Heap.HeldW B (env::outer) x cls a0 L h'/\s.heap.UpToSlots h') (E:=fun _ _=>False) G J O fun h' a b=>⟨h',rfl,a,b⟩)) (fun _ z y=> ?_) fun _ _ z=>z.1.elim
 obtain⟨⟨h',rfl,a,b⟩,W⟩:=y
 exact k h' a b (W _ _ U)
theorem Aj9 (G:Heap.HeldW B l x cls a0 L s.heap) (J:dOf s.heap x=some d)
 (k:∀h',Heap.FlyingW B l x cls a0 h'->s.heap.UpToSlots h'->dOf h' x=some d->Q () { s with heap:=h'}):wpAny M A (setFlight (.ref x) none) Q E s:=by
 refine bP (wpD Hr (wpAny_landsW (Q:=fun _ z=>∃h',z={ s with heap:=h'}/\Heap.FlyingW B l x cls a0 h'/\s.heap.UpToSlots h') (E:=fun _ _=>False) G fun h' a b=>⟨h',rfl,a,b⟩)) (fun _ z y=> ?_) fun _ _ z=>z.1.elim
 obtain⟨⟨h',rfl,a,b⟩,O⟩:=y
 exact k h' a b (O _ _ J)
theorem Aiz (G:Heap.FlyingW B l x cls a0 s.heap) (J:dOf s.heap x=some d)
 (k:∀h',Heap.FlyingW B l x cls a0 h'->s.heap.UpToSlots h'->dOf h' x=some d->Q () { s with heap:=h'}):wpAny M A (setFlight (.ref x) none) Q E s:=by
 refine bP (wpD Hr (lands_againW (Q:=fun _ z=>∃h',z={ s with heap:=h'}/\Heap.FlyingW B l x cls a0 h'/\s.heap.UpToSlots h') (E:=fun _ _=>False) G fun h' a b=>⟨h',rfl,a,b⟩)) (fun _ z y=> ?_) fun _ _ z=>z.1.elim
 obtain⟨⟨h',rfl,a,b⟩,O⟩:=y
 exact k h' a b (O _ _ J)
end
section
variable {X:Cx}{Dc:Addr}{Cs:List Addr}{cx n:Str}{np pos hpos:Pos}{b0 st:Stmt}{suite:List Stmt}{i:Nat}{ts:TS}{tb:TB}
theorem Qn (hb:BTN X st tb) (hq:Afy X.K Dc) (hm:X.mg cx=some (.ref Dc)) (hA:∀C∈Cs,PySem.W.mroIn X.K C (.ref Dc)=some true)
 (hs:∀x,PSs (X.held x) (b0::suite) ts) (hN:X.N.Nodup) (hi:X.N[i]? =some n) (ag:X.ex=[]:=by rfl) (a3:X.stack=X.env::X.outer:=by rfl) (hf:X.env.frame=some X.env.locals:=by rfl) (ah:Gl X cx:=by rfl) (ai:(cx==("__debug__":Str))=false:=by decide)
 (hn:X.env.kindOf n=some .local :=by rfl) (aj:Loc X.env.scope n:=by exact Or.inl rfl) (ak:X.env.scope.names.lookup n=some .local :=by rfl):
 PS X (.Try [st] [.ExceptHandler (some (.Name cx np)) (some n) (b0::suite) hpos] [] [] pos) (Abk Cs i tb ts):=by
 intro pins s σ H D I h
 refine wpAny_Try_except (jF (hb pins s σ H _ _ _ _ I h (fun s1 H1 e s' I1 z=> ?_) fun G H1 s1 q I1=>fN (fN ⟨_,_,I1,q⟩)))
 obtain⟨x,C,a0,B,H',dx,rfl,os,a7,fl,fx,hd,C2,eC,al,q⟩:=z
 obtain rfl:C=C2:=by cases eC;rfl
 obtain⟨hh,gg,dd,tt,oo⟩:=s'
 have nB:B.get? x=none:=fl.2.1
 have nx:H' x=none:=by
  cases z:H' x with
  | none=>rfl
  | some u=>
    obtain⟨o,eo⟩:=fx.k2 x u z
    rw [nB]at eo;cases eo
 have a8:∀h7,Heap.FlyingW B X.stack x (.ref C) a0 h7->FX X.prog X.w (frs X.stack) H1 s1.heap B H' h7->dOf h7 x=some (some dx)->∃oe,oe.cls= .ref C/\(∀c,oe.data≠ .cls c)/\oe.dict=some dx/\Inv (X.held x) pins σ (upd H' x (XO x oe)) ⟨h7,gg,dd,tt,oo⟩:=fun h7 Z a4 a5=>by
  have J:Inv X pins σ H' ⟨h7,gg,dd,tt,oo⟩:=I1.call' (s':=⟨h7,gg,dd,tt,oo⟩) (ch:=[]) os a4.un a4.hok a7 fun b z=>absurd z (by simp)
  obtain⟨oe,vs,a6,hc,a9,_⟩:=Z.first
  have hx:x∉frs X.stack:=fun z=>by
   obtain⟨_,o,ho,am⟩:=Z.2.2.1.mem z
   rw [a6]at ho;cases ho
   exact am vs a9
  have n1:s1.heap.get? x=none:=by
   cases z:s1.heap.get? x with
   | none=>rfl
   | some o=>
     obtain⟨o',eo,_⟩:=a4.k1 x o z hx
     rw [nB]at eo;cases eo
  have:=Y0 a6
  rw [a5]at this
  exact⟨oe,hc,(fun c z=>by rw [a9]at z;cases z),(aY this).symm,(I1.track J ag n1 nx a6).held⟩
 have aa:=fl
 rw [a3]at aa
 refine Aka (a3▸I1.ok.frames) hf aa hd fun h4 a1 an ao=> ?_
 refine Aj9 a1 ao fun h5 a2 ap ac=> ?_
 have ad:=(fx.step a1.1 an).step a2.1 ap
 rw [<-a3]at a2
 obtain⟨ax,ay,_,_,J5⟩:=a8 h5 a2 ad ac
 refine wpAny_handleBy_cons (codeAny_handlers_test (Kd J5 ah hm ?_ ai)) (by intro q;cases q)
 obtain⟨ob,aq,ae⟩:=a2.there
 refine Ze J5.kIn (hq.obj J5.kIn) (hA C al) aq ae ?_
 refine codeAny_handlers_suite_as ?_
 refine Aiz a2 ac fun h7 Z ar a5=> ?_
 obtain⟨oe,hc,au,av,J7⟩:=a8 h7 Z (ad.step Z.1 ar) a5
 refine J1 (X:=X.held x) J7 hN hi aj (v:= .ref x) (u:= .ref x) rfl (fun s8 I8=> ?_) (.inr ak)
 refine bP (hs x pins s8 _ _ _ I8 (q x oe dx hc au rfl av nx)) (fun fl s9 q9=> ?_) fun _ _ z=>False.elim z
 have go:∀ {G:St}{O:Hp}{R:Unit->Shared->Prop},Inv (X.held x) pins G O s9->(∀U,Inv X pins (G.set i none) O U->R () U)->wpAny (model X.prog X.w) X.A (do bindName X.env n .none;unbindBehindTheSuite X.env n hpos) R X.xe s9:=fun {G O R} J k=>by
  have J':=J.unheld I.ok
  obtain⟨m,af,hl⟩:=id J'.loc
  refine wpAny_nameGoes_keeps hn af (by rw [I.ok.kind];rfl) fun h' v hv aw=>k _ ?_
  exact J'.gone hN hi hl af hv aw
 cases fl with
 | next=>obtain⟨G,O,J9,q⟩:=q9;exact go J9 fun U J=>⟨_,_,J,q⟩
 | brk=>obtain⟨G,O,J9,q⟩:=q9;exact go J9 fun U J=>⟨_,_,J,q⟩
 | cont=>obtain⟨G,O,J9,q⟩:=q9;exact go J9 fun U J=>⟨_,_,J,q⟩
 | ret u=>obtain⟨v,G,O,J9,r,q⟩:=q9;exact go J9 fun U J=>⟨v,_,_,J,r,q⟩
theorem S.Qn (hb:BTN X st tb) (hq:Afy X.K Dc) (hm:X.mg cx=some (.ref Dc)) (hA:∀C∈Cs,PySem.W.mroIn X.K C (.ref Dc)=some true)
 (hs:∀x,Hj (X.held x) (b0::suite) ts) (hN:X.N.Nodup) (hi:X.N[i]? =some n) (G:X.ex=[]:=by rfl) (J:X.stack=X.env::X.outer:=by rfl) (hf:X.env.frame=some X.env.locals:=by rfl) (O:Gl X cx:=by rfl) (U:(cx==("__debug__":Str))=false:=by decide)
 (hn:X.env.kindOf n=some .local :=by rfl) (Z:Loc X.env.scope n:=by exact Or.inl rfl) (a1:X.env.scope.names.lookup n=some .local :=by rfl):
 Gn X (.Try [st] [.ExceptHandler (some (.Name cx np)) (some n) (b0::suite) hpos] [] [] pos) (Abk Cs i tb ts):=by with_unfolding_all exact L2.Qn hb hq hm hA hs hN hi G J hf O U hn Z a1
end
theorem Rp:Er X (.builtin "isinstance") (fun xs H Q=>∃x oe C b,H x=some (XO x oe)/\oe.cls= .ref C/\Tc X.K C/\((∃J,xs=[.ref x,.ref J]/\kitOne X.K (.ref C) (.ref J)=some b)\/∃T,xs=[.ref x,.ty T]/\kitOne X.K (.ref C) (.type T)=some b)/\Q (.bl b) H):=by
 intro pins s σ H xs us Q I r h
 obtain⟨x,oe,C,b,G,hc,Z,h,q⟩:=h
 have G:=I.hok.xo G
 rcases h with⟨J,rfl,e⟩ | ⟨T,rfl,e⟩
 . obtain⟨u,c,rfl,O,U⟩:=vals2 r
   cases O;cases U
   exact cV (Vx Z hc) I.kIn G e (fun z=>nomatch z) fun tk=>⟨.bl b,H,I.tok tk,rfl,q⟩
 . obtain⟨u,c,rfl,O,U⟩:=vals2 r
   cases O;cases U
   exact cV (Vx Z hc) I.kIn G e (fun z=>nomatch z) fun tk=>⟨.bl b,H,I.tok tk,rfl,q⟩
variable {C:Addr}{E:XK}{D:Ends}
theorem Aej {n:Str}{t:TA}:Vb C n E t D σ H=t σ H (fun G H1=>∃v,G=[v]/\∀dx H2,Same H1 H2->H2 dx=some (.xd [(n,v)])->E (.ref C) (some dx) H2):=rfl
variable {Q:VK}
theorem Aii {K:Frag}{ta:TE}{n:Str}:tEN K ta n σ H Q=ta σ H (fun o H1=>∃x oe C dx fs v,o= .ref x/\H1 x=some (XO x oe)/\oe.cls= .ref C/\(∀c,oe.data≠ .cls c)/\oe.dict=some dx/\H1 dx=some (.xd fs)/\fs.lookup n=some v/\Tc K C/\Yc K C n/\Q v H1):=rfl
variable {i:Nat}
theorem Aim {Cs:List Addr}{tb:TB}{ts:TS}:Abk Cs i tb ts D σ H=tb σ H (fun G H'=>D.nx G H')
 (fun c J H2=>∃C,c= .ref C/\C∈Cs/\∀x oe dx,oe.cls= .ref C->(∀c,oe.data≠ .cls c)->J=some dx->oe.dict=some dx->H2 x=none->ts { nx:=fun G H'=>D.nx (G.set i none) H',rt:=D.rt,bk:=fun G H'=>D.bk (G.set i none) H',ct:=fun G H'=>D.ct (G.set i none) H'} (σ.set i (some (.ref x))) (upd H2 x (XO x oe))):=rfl
noncomputable def Ah1 (te:TE):TS:=fun _ σ H=>te σ H fun _ _=>False
variable {iter:Expr}{te:TE}
theorem Uz {tg:Expr}{G:List Stmt}{pos:Pos} (J:PE X iter te) (O:∀x,foldedSetIterable iter X.env x=pure x:=by intro _;rfl):PS X (.For tg iter G [] pos) (Ah1 te):=by
 intro pins s σ H D I h
 exact wpAny_For (thn (J pins s σ H _ I h) fun v U ⟨_,_,_,_,q⟩=>False.elim q) O
theorem S.Uz {X:Cx}{tg iter:Expr}{G:List Stmt}{te:TE}{pos:Pos} (J:Bc X iter te) (O:∀x,foldedSetIterable iter X.env x=pure x:=by intro _;rfl):Gn X (.For tg iter G [] pos) (Ah1 te):=by with_unfolding_all exact L2.Uz J O
theorem Ame:Ah1 te D σ H=te σ H (fun _ _=>False):=rfl
theorem Af4 {v:Value}:Er X v (fun _ _ _=>False):=fun _ _ _ _ _ _ _ _ _ h=>False.elim h
end L2
namespace L2
open PySem PySem.Spec PyProof.Rows
set_option maxRecDepth 100000
noncomputable def rwI (n i:Nat):Int:=if i<n then(n:Int)-1-i else-1
noncomputable def Itw (K:Frag) (a:Addr) (n:Nat):It:=
 ⟨fun i H=>∃xs x,SqL K H a xs/\xs.length=n/\xs.reverse[i]? =some x,fun i H x H'=>H'=H/\∀xs,SqL K H a xs->xs.reverse[i]? =some x,fun i _=>n<=i⟩
variable {P:Program}{w:World}{tg:Expr}
theorem Aib {K:Frag} (a it:Addr) (n:Nat):Turn P w K tg (Itw K a n) [it] it (fun i h=>h.IsRevIter it a (rwI n i)) where
 mem:=by simp
 obj:=fun i h st b G=>by
  have e:b=it:=by simpa using G
  subst e
  obtain⟨o,e,c,d⟩:=st
  exact⟨o,e,fun v z=>by rw [d]at z;cases z⟩
 keep:=fun i h h' st k=>st.at fun o e=>k it (by simp) o e
 item:=by
  intro X hP hw hK hc i pins s σ H E I U st Z
  subst hP hw hK
  obtain⟨xs,x,hq,hl,hx⟩:=Z
  obtain⟨a4,rv,p,hz⟩:=I.list hq
  have a1:i<n:=by
   have:=(aW.mp hx).1
   simpa [hl]using this
  have a2:xs[n-1-i]? =some x:=by
   rw [lF (by omega)]at hx
   rw [<-hl];exact hx
  obtain⟨u,hu,ru⟩:=rv.get a2
  obtain⟨f0,f1,f2,f3,f4,f5⟩:=U it (by simp)
  have J:s.heap.IsRevIter it a ((n-1-i:Nat):Int):=by
   have z:((n-1-i:Nat):Int)=rwI n i:=by unfold rwI;rw [aI a1];omega
   rw [z];exact st
  refine wpAny_pyNext_rev_item J p.isList (x:=u) (by simpa using hu) fun h' a3 sb=> ?_
  have I1:Inv X pins σ H { s with heap:=h'}:=I.turned (t':=s.toks) (fun b o G e=>(sb.2 b G).trans e) f0 f1 f3 f4 f5
  have O:h'.IsRevIter it a (rwI n (i+1)):=by
   have z:((n-1-i:Nat):Int)-1=rwI n (i+1):=by unfold rwI;split<;>omega
   rw [<-z];exact a3
  obtain⟨o,e,c,d⟩:=id O
  exact⟨u,rfl,Ac4 (s:={ s with heap:=h'}) e c d (by decide) ⟨x,H,I1,ru,⟨rfl,fun ys hy=>by rw [I.list_inj hy hq];exact hx⟩,O,fun b G=>(U b G).1⟩⟩
 done:=by
  intro X hP hw hK hc i pins s σ H E I U st Z
  subst hP hw hK
  have Z:n<=i:=Z
  obtain⟨f0,f1,f2,f3,f4,f5⟩:=U it (by simp)
  have J:s.heap.IsRevIter it a (-1):=by
   have z:rwI n i= -1:=by unfold rwI;rw [aF (by omega)]
   rw [<-z];exact st
  exact wpAny_pyNext_rev_end (I.ok.hd hc) J fun h' eb=>⟨rfl,I.turned (t':=s.toks) (fun b o G e=>eb b o G e) f0 f1 f3 f4 f5⟩
 self:=fun _ _ _ _ _ st h=>wpAny_pyIter_revIter st h
section
variable {X:Cx}{a:Expr}{ta:TA}{tg:Expr}{p pos:Pos}
noncomputable def iRw (K:Frag) (ta:TA):TI:=fun σ H R=>ta σ H fun vs H1=>∃a,vs=[.ref a]/\∃xs,SqL K H1 a xs/\R (Itw K a xs.length) H1
theorem Aha (hg:Gl X "reversed") (hm:X.mg "reversed"=none) (ha:PA X [a] ta) (hs:starEach [a] X.env=[(false,eval a X.env)]:=by rfl):PI X tg (.Call (.Name "reversed" p) [a] [] pos) (iRw X.K ta):=by
 intro pins s σ H R I h
 refine Call_ (Jm I hg hm boot_reversed (dU (thn (ha pos pins s σ H _ I h) fun us G ⟨vs,H1,U,r1,q1⟩=> ?_) hs rfl))
 obtain⟨b,rfl,xs,hq,q⟩:=q1
 obtain⟨v,rfl,rv⟩:=vals1 r1
 cases rv
 obtain⟨J,rr,pl,hz⟩:=U.list hq
 have hl:=rr.length
 refine call_reversed_list pl.isList ?_
 have Z:(G.heap.push (revObj b ((J.toArray.size:Int)-1))).IsRevIter G.heap.objs.size b (rwI xs.length 0):=by
  have z:rwI xs.length 0=(J.toArray.size:Int)-1:=by unfold rwI;simp;split<;>omega
  rw [z];exact⟨_,aK _ rfl,rfl,rfl⟩
 have I2:Inv X pins σ H1 { G with heap:=G.heap.push (revObj b ((J.toArray.size:Int)-1))}:=
  U.kept (t':=G.toks) fun c o' e=>aB _ e
 refine wpAny_pyIter_revIter Z ⟨G.heap.objs.size,[G.heap.objs.size],_,_,H1,rfl,I2,Aib b _ _,Z,fun c W=> ?_,q⟩
 have O:G.heap.objs.size<=c:=by
  have z:c=G.heap.objs.size:=by simpa using W
  exact fZ z.symm
 exact U.fpOk O (U.hok.fresh O)
theorem S.Aha (G:Gl X "reversed") (J:X.mg "reversed"=none) (O:Gd X [a] ta) (U:starEach [a] X.env=[(false,eval a X.env)]:=by rfl):K9 X tg (.Call (.Name "reversed" p) [a] [] pos) (iRw X.K ta):=by with_unfolding_all exact L2.Aha G J O U
end
variable {σ:St}{H:Hp}{ta:TA}
theorem Aow {K:Frag}{R:It->Hp->Prop}:iRw K ta σ H R=ta σ H (fun G H1=>∃a,G=[.ref a]/\∃xs,SqL K H1 a xs/\R (Itw K a xs.length) H1):=rfl
variable {a:Addr}
theorem Aie {K:Frag}{α:Type}{es:List α}{inj:α->V} (h:SqL K H a (es.map inj)):Aen (Itw K a es.length) H es.reverse inj:=fun i=>by
 refine⟨fun e=> ?_,fun e G=>⟨⟨_,inj e,h,by simp,?_⟩,?_⟩⟩
 . have z:=bS.mp e
   show es.length<=i
   simpa using z
 . rw [<-List.map_reverse,aN,G];rfl
 . rintro x J ⟨rfl,k⟩
   have z:=k _ h
   rw [<-List.map_reverse,aN,G]at z
   exact⟨rfl,(aY z).symm⟩
end L2
noncomputable abbrev zC:List PySem.Str:=["_law_script","_law_one","_law_two","_law_draws_here","_law_here","_law_name","_law_at","_law_weights","_law_put","_law_inner","_law_due","_law_lone","_law_rows","_law_part","_law_kept","_law_other","_law_height","_law_weight_here"]
noncomputable abbrev zD:List PySem.Str:=["_law_draws_here","_law_most"]
noncomputable abbrev zE:List PySem.Str:=["_law_way","_law_one","_law_two","_law_name"]
noncomputable abbrev zF:List PySem.Str:=["_law_draws_here"]
noncomputable abbrev zG:List PySem.Str:=["_law_draws_here","_law_many","_law_most"]
noncomputable abbrev zH:List PySem.Str:=["one","other"]
noncomputable abbrev zI:List PySem.Str:=["thing"]
noncomputable abbrev zJ:List PySem.Str:=["start","one","many","product"]
noncomputable abbrev zK:List PySem.Str:=["_law_script","_law_k"]
noncomputable abbrev zM:List PySem.Str:=["_law_rows","_law_here"]
noncomputable abbrev zN:List PySem.Str:=["_law_cell","_law_many"]
noncomputable abbrev zO:List PySem.Str:=["number","many"]
noncomputable abbrev zP:List PySem.Str:=["f","place"]
noncomputable abbrev zQ:List PySem.Str:=["f","name","place","found","powers","weight"]
noncomputable abbrev zR:List PySem.Str:=["f","g","name","paper"]
noncomputable abbrev zS:List PySem.Str:=["place","many"]
noncomputable abbrev zT:List PySem.Str:=["f","g"]
noncomputable abbrev zU:List PySem.Str:=["powers","place"]
noncomputable abbrev zV:List PySem.Str:=["_law_script"]
noncomputable abbrev zW:List PySem.Str:=["f","place","point"]
noncomputable abbrev zX:List PySem.Str:=["_law_rows","_law_here","_law_found","_law_height","_law_part","_law_powers"]
noncomputable abbrev zY:List PySem.Str:=["f","name"]
noncomputable abbrev zZ:List PySem.Str:=["f","name","g"]
noncomputable abbrev yA:List PySem.Str:=["powers","weight"]
noncomputable abbrev yB:List PySem.Str:=["_law_terms_here"]
noncomputable abbrev yC:List PySem.Str:=["_law_powers","_law_weight_here"]
noncomputable abbrev yD:List PySem.Str:=["_law_terms_here","_law_found","_law_powers","_law_weight_here"]
noncomputable abbrev yE:List PySem.Str:=["one","many"]
noncomputable abbrev yF:List PySem.Str:=["f","base"]
noncomputable abbrev yG:List PySem.Str:=["f","at","tables","total","bottom","place","powers","weight"]
noncomputable abbrev yH:List PySem.Str:=["top","bottom"]
noncomputable abbrev yI:List PySem.Str:=["f","g","name"]
noncomputable abbrev yJ:List PySem.Str:=["sums","base"]
noncomputable abbrev yK:List PySem.Str:=["p","name"]
noncomputable abbrev yL:List PySem.Str:=["terms"]
noncomputable abbrev yM:List PySem.Str:=["name"]
noncomputable abbrev yN:List PySem.Str:=["_law_one_powers","_law_weight_here","_law_here"]
noncomputable abbrev yO:List PySem.Str:=["self","name"]
namespace Z
variable {b:Int}
theorem Pr {a:Int} (h:0<b):a.fdiv (Int.gcd a b:Int)=(divInt a b).num/\b.fdiv (Int.gcd a b:Int)=((divInt a b).den:Int):=by
 have G:(0:Int)<=(Int.gcd a b:Int):=Int.natCast_nonneg _
 rw [gT _ G,gT _ G,Rat.num_divInt,Rat.den_divInt]
 rw [aF (by omega),Int.sign_eq_one_of_pos h,jX,Int.gcd_comm b a]
 refine⟨rfl,?_⟩
 rw [Int.natCast_ediv]
 congr 1
 omega
theorem Vq {a:Int} (h:b<0):a.fdiv (-(Int.gcd a b:Int))=(divInt a b).num/\b.fdiv (-(Int.gcd a b:Int))=((divInt a b).den:Int):=by
 have e:divInt a b=divInt (-a) (-b):=(Rat.neg_divInt_neg a b).symm
 have p:=Pr (a:= -a) (b:= -b) (by omega)
 have G:Int.gcd (-a) (-b)=Int.gcd a b:=by rw [Int.gcd_neg,Int.neg_gcd]
 rw [G]at p
 rw [e,<-p.1,<-p.2]
 constructor
 . rw [<-Int.neg_fdiv_neg (-a),Int.neg_neg]
 . rw [<-Int.neg_fdiv_neg (-b),Int.neg_neg]
theorem Akj (a b:Int):(divInt a b).num.natAbs<=a.natAbs:=by
 rw [Rat.num_divInt]
 refine aO (Int.natAbs_ediv_le_natAbs _ _) ?_
 rw [natAbs_mul]
 have:b.sign.natAbs<=1:=by
  rcases Int.lt_trichotomy b 0 with h | h | h
  . rw [Int.sign_eq_neg_one_of_neg h];decide
  . subst h;decide
  . rw [Int.sign_eq_one_of_pos h];decide
 calc b.sign.natAbs*a.natAbs<=1*a.natAbs:=lJ _ this
  _=a.natAbs:=Nat.one_mul _
theorem Aja {a:Int} (h:b≠0):(divInt a b).den<=b.natAbs:=by
 rw [Rat.den_divInt,aF h]
 exact Nat.div_le_self _ _
theorem abs_eq (i:Int):(if i<0 then-i else i)=((i.natAbs:Nat):Int):=by
 split<;>omega
theorem Vs (x y:Nat):Nat.gcd y (x%y)=Nat.gcd x y:=by
 rw [Nat.gcd_comm y (x%y),<-Nat.gcd_rec,Nat.gcd_comm]
noncomputable def sg (q:Rat):Int:=if q=0 then 0 else if 0<q then 1 else-1
noncomputable abbrev M3:=Nat × Nat × Nat
noncomputable def m3 (x y:M3):M3:=(x.1+y.1,x.2.1+y.2.1,x.2.2+y.2.2)
theorem Aqg (x y:M3):m3 x y=m3 y x:=by unfold m3;ext<;>simp<;>omega
theorem Aqf (x y z:M3):m3 (m3 x y) z=m3 x (m3 y z):=by unfold m3;ext<;>simp<;>omega
theorem Aqh {x y z:M3} (h:m3 x y=m3 x z):y=z:=by
 unfold m3 at h
 simp only [kC]at h
 obtain⟨a,b,c⟩:=y
 obtain⟨G,J,O⟩:=z
 simp only [kC]
 simp only at h
 omega
noncomputable abbrev Tl:=List (M3 × Int)
noncomputable def tot:Tl->M3->Int
 | [],_=>0
 | e::r,k=>(if e.1=k then e.2 else 0)+tot r k
theorem Cj (a b:Tl) (k:M3):tot (a++b) k=tot a k+tot b k:=by
 induction a with
 | nil=>show tot b k=0+tot b k;omega
 | cons e r G=>
   show _+tot (r++b) k=(_+tot r k)+tot b k
   rw [G]
   omega
noncomputable def mt1 (x:M3 × Int) (b:Tl):Tl:=b.map fun y=>(m3 x.1 y.1,x.2*y.2)
noncomputable def mt (a b:Tl):Tl:=a.flatMap fun x=>mt1 x b
theorem Ek (x:M3 × Int) (a b:Tl):mt (x::a) b=mt1 x b++mt a b:=rfl
theorem Aac (x:M3 × Int) (a b:Tl):mt1 x (a++b)=mt1 x a++mt1 x b:=aQ
theorem Q0 (x:M3 × Int) (k:M3):∀b:Tl,tot (mt1 x b) (m3 x.1 k)=x.2*tot b k
 | []=>by show(0:Int)=x.2*0;omega
 | y::r=>by
   show(if m3 x.1 y.1=m3 x.1 k then x.2*y.2 else 0)+tot (mt1 x r) (m3 x.1 k)=x.2*((if y.1=k then y.2 else 0)+tot r k)
   rw [Q0 x k r,Int.mul_add]
   by_cases h:y.1=k
   . rw [aI h,aI (by rw [h])]
   . rw [aF h,aF fun z=>h (Aqh z),Int.mul_zero]
theorem K3 (x:M3 × Int) {k:M3} (h:∀j,m3 x.1 j≠k):∀b:Tl,tot (mt1 x b) k=0
 | []=>rfl
 | y::r=>by
   show(if m3 x.1 y.1=k then x.2*y.2 else 0)+tot (mt1 x r) k=0
   rw [K3 x h r,aF (h y.1)]
   rfl
theorem Abp {a b:Tl} (h:∀k,tot a k=tot b k) (x:M3 × Int) (k:M3):tot (mt1 x a) k=tot (mt1 x b) k:=by
 by_cases e:∃j,m3 x.1 j=k
 . obtain⟨j,rfl⟩:=e
   rw [Q0,Q0,h]
 . have G:∀j,m3 x.1 j≠k:=fun j z=>e ⟨j,z⟩
   rw [K3 x G,K3 x G]
theorem Agp {a b:Tl} (h:∀k,tot a k=tot b k) (k:M3):∀c:Tl,tot (mt c a) k=tot (mt c b) k
 | []=>rfl
 | x::r=>by rw [Ek,Ek,Cj,Cj,Abp h,Agp h k r]
theorem V2 (y:M3 × Int) (k:M3):∀a:Tl,tot (mt a [y]) k=tot (mt1 y a) k
 | []=>rfl
 | x::r=>by
   rw [Ek,Cj,V2 y k r]
   show(if m3 x.1 y.1=k then x.2*y.2 else 0)+0+tot (mt1 y r) k=(if m3 y.1 x.1=k then y.2*x.2 else 0)+tot (mt1 y r) k
   rw [Aqg,Int.mul_comm]
   omega
theorem V1:∀a:Tl,mt a []=[]
 | []=>rfl
 | x::r=>by rw [Ek,V1 r];rfl
theorem Vz (a b c:Tl) (k:M3):tot (mt a (b++c)) k=tot (mt a b) k+tot (mt a c) k:=by
 induction a with
 | nil=>rfl
 | cons x r G=>
   rw [Ek,Ek,Ek,Aac,Cj,Cj,Cj,Cj,G]
   omega
theorem Adb (a b c:Tl):mt (a++b) c=mt a c++mt b c:=List.flatMap_append
theorem Qc (k:M3) (b:Tl):∀a:Tl,tot (mt a b) k=tot (mt b a) k
 | []=>by rw [V1];rfl
 | x::r=>by
   rw [Ek,Cj,Qc k b r,show x::r=[x]++r from rfl,Vz,V2]
theorem Ae7 (x:M3 × Int) (b:Tl):∀a:Tl,mt1 x (mt a b)=mt (mt1 x a) b
 | []=>rfl
 | y::r=>by
   rw [Ek,Aac,Ae7 x b r]
   show _=mt1 (m3 x.1 y.1,x.2*y.2) b++mt (mt1 x r) b
   congr 1
   unfold mt1
   rw [aZ]
   refine dZ fun z _=> ?_
   show(m3 x.1 (m3 y.1 z.1),x.2*(y.2*z.2))=(m3 (m3 x.1 y.1) z.1,x.2*y.2*z.2)
   rw [Aqf,Int.mul_assoc]
theorem V0 (b c:Tl):∀a:Tl,mt (mt a b) c=mt a (mt b c)
 | []=>rfl
 | x::r=>by rw [Ek,Adb,V0 b c r,Ek,Ae7]
noncomputable def ngT (a:Tl):Tl:=a.map fun y=>(y.1,-y.2)
theorem Nq (k:M3):∀a:Tl,tot (ngT a) k= -tot a k
 | []=>rfl
 | e::r=>by
   show(if e.1=k then-e.2 else 0)+tot (ngT r) k= -((if e.1=k then e.2 else 0)+tot r k)
   rw [Nq k r]
   split<;>omega
noncomputable def csT (c:Int):Tl:=[((0,0,0),c)]
theorem Aqe (x:M3):m3 (0,0,0) x=x:=by unfold m3;simp
theorem Wr (c:Int) (k:M3) (a:Tl):tot (mt (csT c) a) k=c*tot a k:=by
 show tot (mt1 ((0,0,0),c) a++ []) k=_
 rw [bT]
 have:=Q0 ((0,0,0),c) k a
 rwa [Aqe]at this
noncomputable instance tlS:Setoid Tl:=⟨fun a b=>∀k,tot a k=tot b k,⟨fun _ _=>rfl,fun h k=>(h k).symm,fun h g k=>(h k).trans (g k)⟩⟩
noncomputable def Fq:Type:=Quotient tlS
noncomputable def fq (a:Tl):Fq:=Quotient.mk tlS a
theorem Hq {a b:Tl} (h:∀k,tot a k=tot b k):fq a=fq b:=Quotient.sound h
theorem Agf {a b:Tl} (h:fq a=fq b) (k:M3):tot a k=tot b k:=Quotient.exact h k
theorem Ge (x:Fq):∃a,x=fq a:=by
 induction x using Quotient.inductionOn with
 | h a=>exact⟨a,rfl⟩
noncomputable instance:Add Fq:=⟨Quotient.lift₂ (fun a b=>fq (a++b)) fun a b c d h g=>Hq fun k=>by rw [Cj,Cj,h k,g k]⟩
noncomputable instance:Mul Fq:=⟨Quotient.lift₂ (fun a b=>fq (mt a b)) fun a b c d h g=>Hq fun k=>by rw [Agp g k a,Qc k d a,Agp h k d,Qc k c d]⟩
noncomputable instance:Neg Fq:=⟨Quotient.lift (fun a=>fq (ngT a)) fun a b h=>Hq fun k=>by rw [Nq,Nq,h k]⟩
theorem Zi (a b:Tl):fq a+fq b=fq (a++b):=rfl
theorem Zj (a b:Tl):fq a*fq b=fq (mt a b):=rfl
theorem Aew (a:Tl): -fq a=fq (ngT a):=rfl
noncomputable def cF (c:Int):Fq:=fq (csT c)
noncomputable instance:Sub Fq:=⟨fun a b=>a+ -b⟩
noncomputable instance:NatCast Fq:=⟨fun n=>cF n⟩
noncomputable instance:IntCast Fq:=⟨fun n=>cF n⟩
noncomputable instance (n:Nat):OfNat Fq n:=⟨cF n⟩
noncomputable def pwF (a:Fq):Nat->Fq
 | 0=>1
 | n+1=>pwF a n*a
noncomputable instance:HPow Fq Nat Fq:=⟨pwF⟩
noncomputable instance:SMul Nat Fq:=⟨fun n a=>cF n*a⟩
noncomputable instance:SMul Int Fq:=⟨fun n a=>cF n*a⟩
theorem Ub (x y:Fq):x*y=y*x:=by
 obtain⟨a,rfl⟩:=Ge x
 obtain⟨b,rfl⟩:=Ge y
 exact Hq fun k=>Qc k b a
theorem Gm (c:Int) (k:M3):tot (csT c) k=if(0,0,0)=k then c else 0:=by
 show(if((0,0,0):M3)=k then c else 0)+0=_
 omega
theorem Ajp (x:Fq):x*1=x:=by
 rw [Ub]
 obtain⟨a,rfl⟩:=Ge x
 exact Hq fun k=>by
  rw [Wr]
  show(1:Int)*_=_
  omega
theorem Ajn (x:Fq):0*x=0:=by
 obtain⟨a,rfl⟩:=Ge x
 exact Hq fun k=>by rw [Wr,Gm];split<;>omega
theorem Ajo (x y z:Fq):x*(y+z)=x*y+x*z:=by
 obtain⟨a,rfl⟩:=Ge x
 obtain⟨b,rfl⟩:=Ge y
 obtain⟨c,rfl⟩:=Ge z
 exact Hq fun k=>by rw [Vz,Cj]
noncomputable instance fqSemi:Lean.Grind.Semiring Fq where
 add_zero x:=by
  obtain⟨a,rfl⟩:=Ge x
  exact Hq fun k=>by rw [Cj,Gm];split<;>omega
 add_comm x y:=by
  obtain⟨a,rfl⟩:=Ge x
  obtain⟨b,rfl⟩:=Ge y
  exact Hq fun k=>by rw [Cj,Cj,eY]
 add_assoc x y z:=by
  obtain⟨a,rfl⟩:=Ge x
  obtain⟨b,rfl⟩:=Ge y
  obtain⟨c,rfl⟩:=Ge z
  exact Hq fun k=>by rw [Cj,Cj,Cj,Cj,Int.add_assoc]
 mul_assoc x y z:=by
  obtain⟨a,rfl⟩:=Ge x
  obtain⟨b,rfl⟩:=Ge y
  obtain⟨c,rfl⟩:=Ge z
  exact Hq fun k=>by rw [V0]
 mul_one:=Ajp
 one_mul x:=by rw [Ub,Ajp]
 left_distrib:=Ajo
 right_distrib x y z:=by rw [Ub,Ajo,Ub z x,Ub z y]
 zero_mul:=Ajn
 mul_zero x:=by rw [Ub,Ajn]
 pow_zero x:=rfl
 pow_succ x n:=rfl
 ofNat_succ n:=Hq fun k=>by
  rw [Cj,Gm,Gm,Gm]
  split<;>omega
noncomputable instance fqRing:Lean.Grind.Ring Fq where
 neg_add_cancel x:=by
  obtain⟨a,rfl⟩:=Ge x
  exact Hq fun k=>by rw [Cj,Nq,Gm];split<;>omega
 sub_eq_add_neg x y:=rfl
 neg_zsmul c x:=by
  obtain⟨a,rfl⟩:=Ge x
  exact Hq fun k=>by rw [Nq,Wr,Wr];grind
 intCast_neg c:=Hq fun k=>by
  rw [Nq,Gm,Gm]
  split<;>omega
noncomputable instance fqComm:Lean.Grind.CommRing Fq where
 mul_comm:=Ub
noncomputable def n1:Tl->Nat
 | []=>0
 | e::r=>e.2.natAbs+n1 r
theorem Ae8 (a b:Tl):n1 (a++b)=n1 a+n1 b:=by
 induction a with
 | nil=>show n1 b=0+n1 b;omega
 | cons e r G=>
   show _+n1 (r++b)=(_+n1 r)+n1 b
   rw [G]
   omega
theorem Ae9 (x:M3 × Int):∀b:Tl,n1 (mt1 x b)=x.2.natAbs*n1 b
 | []=>by show 0=_*0;omega
 | y::r=>by
   show(x.2*y.2).natAbs+n1 (mt1 x r)=x.2.natAbs*(y.2.natAbs+n1 r)
   rw [Ae9 x r,natAbs_mul,mul_add]
theorem Akg (b:Tl):∀a:Tl,n1 (mt a b)=n1 a*n1 b
 | []=>by show 0=0*_;omega
 | x::r=>by
   rw [Ek,Ae8,Ae9,Akg b r]
   show _=(x.2.natAbs+n1 r)*n1 b
   rw [Nat.add_mul]
theorem Akh:∀a:Tl,n1 (ngT a)=n1 a
 | []=>rfl
 | e::r=>by
   show(-e.2).natAbs+n1 (ngT r)=e.2.natAbs+n1 r
   rw [Akh r,Int.natAbs_neg]
theorem Afr (k:M3):∀a:Tl,(tot a k).natAbs<=n1 a
 | []=>aL _
 | e::r=>by
   have:=Afr k r
   show((if e.1=k then e.2 else 0)+tot r k).natAbs<=e.2.natAbs+n1 r
   split<;>omega
noncomputable def le3 (x:M3) (d:Nat):Prop:=x.1<=d/\x.2.1<=d/\x.2.2<=d
noncomputable def Bd (s:Fq) (d n:Nat):Prop:=∃l:Tl,s=fq l/\(∀e∈l,le3 e.1 d)/\n1 l<=2^n
variable {s:Fq}{d n d':Nat}
theorem Bd.mono {O:Nat} (h:Bd s d n) (G:d<=d') (U:n<=O):Bd s d' O:=by
 obtain⟨l,e,b,z⟩:=h
 exact⟨l,e,fun x J=>⟨aO (b x J).1 G,aO (b x J).2.1 G,aO (b x J).2.2 G⟩,aO z (Nat.pow_le_pow_right (by decide) U)⟩
theorem Bd.mul {t:Fq}{J:Nat} (h:Bd s d n) (g:Bd t d' J):Bd (s*t) (d+d') (n+J):=by
 obtain⟨l,rfl,b,z⟩:=h
 obtain⟨m,rfl,c,y⟩:=g
 refine⟨mt l m,Zj l m,fun e G=> ?_,by rw [Akg,pow_add];exact fD z y⟩
 obtain⟨x,O,G⟩:=iU.mp G
 obtain⟨y,U,rfl⟩:=aE.mp G
 have h1:=b x O
 have h2:=c y U
 unfold le3 at h1 h2 ⊢
 unfold m3
 dsimp only
 omega
theorem Bd.add {t:Fq} (h:Bd s d n) (g:Bd t d n):Bd (s+t) d (n+1):=by
 obtain⟨l,rfl,b,z⟩:=h
 obtain⟨m,rfl,c,y⟩:=g
 refine⟨l++m,Zi l m,fun e G=> ?_,by rw [Ae8,Nat.pow_succ];omega⟩
 rcases bG.mp G with h | h
 . exact b e h
 . exact c e h
theorem Bd.neg (h:Bd s d n):Bd (-s) d n:=by
 obtain⟨l,rfl,b,z⟩:=h
 refine⟨ngT l,Aew l,fun e G=> ?_,by rw [Akh];exact z⟩
 obtain⟨x,J,rfl⟩:=aE.mp G
 exact b x J
theorem Bd.sub {t:Fq} (h:Bd s d n) (g:Bd t d n):Bd (s-t) d (n+1):=h.add g.neg
theorem Bd.one:Bd 1 0 0:=⟨csT 1,rfl,fun e G=>by
 rw [bA.mp G]
 exact⟨aL _,aL _,aL _⟩,by decide⟩
theorem Bd.zero:Bd 0 0 0:=⟨csT 0,rfl,fun e G=>by
 rw [bA.mp G]
 exact⟨aL _,aL _,aL _⟩,by decide⟩
theorem Abo {a:Tl}{k:M3} (h:tot a k≠0):∃e∈a,e.1=k:=by
 induction a with
 | nil=>exact absurd rfl h
 | cons e r G=>
   by_cases c:e.1=k
   . exact⟨e,.head _,c⟩
   . have:tot r k≠0:=fun z=>h (by
      show(if e.1=k then e.2 else 0)+tot r k=0
      rw [aF c,z]
      rfl)
     obtain⟨x,J,O⟩:=G this
     exact⟨x,.tail _ J,O⟩
structure Nz (l:Tl):Prop where
 nd:(l.map (·.1)).Nodup
 nn:∀e∈l,e.2≠0
theorem Aeb {a:Tl}{k:M3} (h:∀e∈a,e.1≠k):tot a k=0:=by
 by_cases z:tot a k=0
 . exact z
 . obtain⟨e,G,c⟩:=Abo z
   exact absurd c (h e G)
theorem Nz.at:∀ {l:Tl},Nz l->∀e∈l,tot l e.1=e.2
 | [],_,_,h=>by cases h
 | x::r,h,e,G=>by
   have J:=eQ.mp h.nd
   rcases aS.mp G with rfl | G
   . show(if e.1=e.1 then e.2 else 0)+tot r e.1=e.2
     rw [aI rfl,Aeb fun y O z=>J.1 (aE.mpr ⟨y,O,z⟩)]
     omega
   . have U:=Nz.at (l:=r) ⟨J.2,fun y O=>h.nn y (.tail _ O)⟩ e G
     show(if x.1=e.1 then x.2 else 0)+tot r e.1=e.2
     rw [aF fun z=>J.1 (by show x.1∈_;rw [z];exact aE.mpr ⟨e,G,rfl⟩),U]
     omega
theorem Bd.nz {l:Tl} (h:Bd (fq l) d n) (z:Nz l):∀e∈l,le3 e.1 d/\e.2.natAbs<=2^n:=fun e G=>by
 obtain⟨m,J,b,y⟩:=h
 have h1:=Agf J e.1
 rw [z.at e G]at h1
 have h2:tot m e.1≠0:=by rw [<-h1];exact z.nn e G
 obtain⟨x,O,ex⟩:=Abo h2
 refine⟨by rw [<-ex];exact b x O,?_⟩
 rw [h1]
 exact aO (Afr _ m) y
structure Ky (κ:M3->Nat) (l2 l3:Tl):Prop where
 ad:∀x y,κ (m3 x y)=κ x+κ y
 i2:∀x∈l2,∀y∈l2,κ x.1=κ y.1->x.1=y.1
 i3:∀x∈l3,∀y∈l3,κ x.1=κ y.1->x.1=y.1
noncomputable def kk (B:Nat) (x:M3):Nat:=(x.1*B+x.2.1)*B+x.2.2
noncomputable def rt (x:M3):M3:=(x.2.1,x.2.2,x.1)
noncomputable def tk (κ:M3->Nat):Tl->Nat->Int
 | [],_=>0
 | e::r,k=>(if κ e.1=k then e.2 else 0)+tk κ r k
section
variable {κ:M3->Nat}
theorem Abq (x:M3) (j:M3):∀a:Tl,tot (a.filter fun e=>decide (e.1≠x)) j=if j=x then 0 else tot a j
 | []=>by split<;>rfl
 | e::r=>by
   have G:=Abq x j r
   by_cases c:e.1=x
   . rw [dS (by simp [c]),G]
     show _=if j=x then 0 else(if e.1=j then e.2 else 0)+tot r j
     by_cases d:j=x
     . rw [aI d,aI d]
     . rw [aF d,aF d,aF fun z=>d (z.symm.trans c),gW]
   . rw [eP (by simp [c])]
     show(if e.1=j then e.2 else 0)+tot (r.filter _) j=if j=x then 0 else(if e.1=j then e.2 else 0)+tot r j
     rw [G]
     by_cases d:j=x
     . rw [aI d,aI d,aF fun z=>c (z.trans d)]
       rfl
     . rw [aF d,aF d]
theorem Ake {G h:Tl}{z:M3 × Int} (J:z∈mt G h):∃x∈G,∃y∈h,z=(m3 x.1 y.1,x.2*y.2):=by
 obtain⟨x,O,J⟩:=iU.mp J
 obtain⟨y,U,e⟩:=aE.mp J
 exact⟨x,O,y,U,e.symm⟩
end
noncomputable def pw3 (j:Nat) (x:M3):Nat:=match j with | 0=>x.1 | 1=>x.2.1 | _=>x.2.2
noncomputable def ej (j m:Nat):M3:=match j with | 0=>(m,0,0) | 1=>(0,m,0) | _=>(0,0,m)
noncomputable def zj (j:Nat) (x:M3):M3:=match j with | 0=>(0,x.2.1,x.2.2) | 1=>(x.1,0,x.2.2) | _=>(x.1,x.2.1,0)
theorem Alc (j:Nat) (x y:M3):pw3 j (m3 x y)=pw3 j x+pw3 j y:=by unfold pw3 m3;split<;>rfl
theorem Ald:∀j m:Nat,pw3 j (ej j m)=m
 | 0,_=>rfl
 | 1,_=>rfl
 | _+2,_=>rfl
theorem Ao9 (j:Nat) (x:M3):m3 (zj j x) (ej j (pw3 j x))=x:=by unfold m3 zj ej pw3;split<;>simp
theorem Ale:∀(j:Nat) (x:M3),pw3 j (zj j x)=0
 | 0,_=>rfl
 | 1,_=>rfl
 | _+2,_=>rfl
variable {j:Nat}
theorem Apa {x:M3} (h:le3 x d):le3 (zj j x) d:=by
 unfold le3 zj at*
 split<;>simp<;>omega
theorem Am8 (j a b:Nat):m3 (ej j a) (ej j b)=ej j (a+b):=by unfold m3 ej;split<;>simp
noncomputable def Yj (j m:Nat):Fq:=fq [(ej j m,1)]
theorem Aiy (j a b:Nat):Yj j (a+b)=Yj j a*Yj j b:=by
 show fq _=fq _
 rw [show mt [(ej j a,(1:Int))] [(ej j b,1)]=[(m3 (ej j a) (ej j b),1*1)]from rfl,Am8]
 rfl
theorem Aph (j:Nat):Yj j 0=1:=by
 show fq _=fq (csT 1)
 congr 1
 unfold ej csT
 split<;>rfl
noncomputable def DL (j:Nat) (s:Fq) (m:Nat):Prop:=∃l:Tl,s=fq l/\∀e∈l,pw3 j e.1<=m
variable {m:Nat}
theorem DL.mono {G:Nat} (h:DL j s m) (l:m<=G):DL j s G:=by
 obtain⟨a,e,b⟩:=h
 exact⟨a,e,fun x J=>aO (b x J) l⟩
theorem DL.mul {t:Fq} (h:DL j s m) (g:DL j t n):DL j (s*t) (m+n):=by
 obtain⟨a,rfl,b⟩:=h
 obtain⟨c,rfl,d⟩:=g
 refine⟨mt a c,Zj a c,fun e G=> ?_⟩
 obtain⟨x,J,y,O,rfl⟩:=Ake G
 have h1:=b x J
 have h2:=d y O
 show pw3 j (m3 x.1 y.1)<=_
 rw [Alc]
 omega
theorem DL.add {t:Fq} (h:DL j s m) (g:DL j t m):DL j (s+t) m:=by
 obtain⟨a,rfl,b⟩:=h
 obtain⟨c,rfl,d⟩:=g
 refine⟨a++c,Zi a c,fun e G=> ?_⟩
 rcases bG.mp G with h | h
 . exact b e h
 . exact d e h
theorem DL.neg (h:DL j s m):DL j (-s) m:=by
 obtain⟨a,rfl,b⟩:=h
 refine⟨ngT a,Aew a,fun e G=> ?_⟩
 obtain⟨x,J,rfl⟩:=aE.mp G
 exact b x J
theorem DL.sub {t:Fq} (h:DL j s m) (g:DL j t m):DL j (s-t) m:=h.add g.neg
theorem DL.Y (j m:Nat):DL j (Yj j m) m:=⟨_,rfl,fun e G=>by
 rw [bA.mp G,Ald]
 exact aL _⟩
theorem DL.one (j:Nat):DL j 1 0:=by
 rw [<-Aph j]
 exact DL.Y j 0
theorem DL.zero (j:Nat):DL j 0 0:=⟨[],Hq fun k=>by rw [Gm];split<;>rfl,by simp⟩
theorem Rt:fq []=0:=Hq fun k=>by rw [Gm];split<;>rfl
structure Wt (j m:Nat) (s lo w:Fq):Prop where
 eq:s=lo+w*Yj j m
 d0:DL j w 0
 lo1:∀k,m=k+1->DL j lo k
 lo0:m=0->lo=0
structure Mo (j:Nat) (s:Fq) (m:Nat):Prop where
 dl:DL j s m
 le:∀m',DL j s m'->m<=m'
noncomputable def PD (j:Nat) (t lead:Fq) (e:Nat):Nat->Fq->Fq->Fq->Fq->Fq->Fq->Prop
 | 0,r,sc,q,r',sc',q'=>r'=r/\sc'=sc/\q'=q
 | k+1,r,sc,q,r',sc',q'=>∃lo top,Wt j (e+k) r lo top/\PD j t lead e k (r*lead-top*Yj j k*t) (sc*lead) (q*lead+top*Yj j k) r' sc' q'
theorem PD.eq {j e:Nat}{t G s:Fq}:∀ {k:Nat}{r sc q O J U:Fq},s*sc=q*t+r->PD j t G e k r sc q O J U->s*J=U*t+O
 | 0,_,_,_,_,_,_,h,p=>by
   obtain⟨rfl,rfl,rfl⟩:=p
   exact h
 | k+1,r,sc,q,_,_,_,h,p=>by
   obtain⟨lo,top,_,p⟩:=p
   refine PD.eq ?_ p
   have:s*(sc*G)=(q*t+r)*G:=by rw [<-h];grind
   rw [this]
   grind
variable {G:Fq}
theorem Ah9 {e k:Nat}{t tl r lo top:Fq} (J:Wt j (e+1) t tl G) (O:Wt j (e+1+k) r lo top):DL j (r*G-top*Yj j k*t) (e+k):=by
 have h1:r*G-top*Yj j k*t=lo*G-top*Yj j k*tl:=by
  rw [O.eq,J.eq,show e+1+k=k+(e+1)by omega,Aiy]
  grind
 rw [h1]
 have U:=(O.lo1 (e+k) (by omega)).mul J.d0
 have W:=(O.d0.mul (DL.Y j k)).mul (J.lo1 e rfl)
 exact U.sub (W.mono (by omega))
theorem PD.dl {j e:Nat}{t G tl:Fq} (O:Wt j (e+1) t tl G):∀ {k:Nat}{r sc q U J W:Fq},DL j r (e+k)->PD j t G (e+1) k r sc q U J W->DL j U e
 | 0,_,_,_,_,_,_,h,p=>by
   obtain⟨rfl,_,_⟩:=p
   exact h
 | k+1,_,_,_,_,_,_,h,p=>by
   obtain⟨lo,top,w,p⟩:=p
   exact PD.dl O (Ah9 O w) p
theorem Jq (a:Rat) (n:Nat):a^(n+1)=a^n*a:=Rat.pow_succ a n
theorem Aay (a:Rat) (m:Nat):∀n:Nat,a^(m+n)=a^m*a^n
 | 0=>by rw [Nat.add_zero,cP];grind
 | n+1=>by rw [<-eM,Jq,Jq,Aay a m n];grind
noncomputable def mo3 (c:Nat->Rat) (x:M3):Rat:=c 0^x.1*c 1^x.2.1*c 2^x.2.2
theorem Ank (c:Nat->Rat) (x y:M3):mo3 c (m3 x y)=mo3 c x*mo3 c y:=by
 unfold mo3 m3
 simp only [Aay]
 grind
noncomputable def eR (c:Nat->Rat):Tl->Rat
 | []=>0
 | e::r=>(e.2:Rat)*mo3 c e.1+eR c r
theorem Vl (c:Nat->Rat):∀a b:Tl,eR c (a++b)=eR c a+eR c b
 | [],b=>by show eR c b=0+eR c b;grind
 | e::r,b=>by
   show _+eR c (r++b)=_+eR c r+eR c b
   rw [Vl c r b]
   grind
theorem Aji (c:Nat->Rat):∀a:Tl,eR c (ngT a)= -eR c a
 | []=>by show(0:Rat)= -0;grind
 | e::r=>by
   show((-e.2:Int):Rat)*mo3 c e.1+eR c (ngT r)= -((e.2:Rat)*mo3 c e.1+eR c r)
   rw [Aji c r,Rat.intCast_neg]
   grind
theorem Ajg (c:Nat->Rat) (x:M3 × Int):∀b:Tl,eR c (mt1 x b)=(x.2:Rat)*mo3 c x.1*eR c b
 | []=>by show(0:Rat)=_*0;grind
 | y::r=>by
   show((x.2*y.2:Int):Rat)*mo3 c (m3 x.1 y.1)+eR c (mt1 x r)=_*((y.2:Rat)*mo3 c y.1+eR c r)
   rw [Ajg c x r,fH,Ank]
   grind
theorem Ajh (c:Nat->Rat) (b:Tl):∀a:Tl,eR c (mt a b)=eR c a*eR c b
 | []=>by show(0:Rat)=0*_;grind
 | x::r=>by
   rw [Ek,Vl,Ajg,Ajh c b r]
   show _=((x.2:Rat)*mo3 c x.1+eR c r)*eR c b
   grind
theorem Aet (c:Nat->Rat) (x:M3):∀a:Tl,eR c a=(tot a x:Rat)*mo3 c x+eR c (a.filter fun e=>decide (e.1≠x))
 | []=>by show(0:Rat)=((0:Int):Rat)*_+0;grind
 | e::r=>by
   have G:=Aet c x r
   show(e.2:Rat)*mo3 c e.1+eR c r=(((if e.1=x then e.2 else 0)+tot r x:Int):Rat)*mo3 c x+_
   rw [Rat.intCast_add]
   by_cases h:e.1=x
   . rw [aI h,dS (by simp [h]),G,h]
     grind
   . rw [aF h,eP (by simp [h])]
     show _=_+((e.2:Rat)*mo3 c e.1+eR c _)
     rw [G]
     grind
theorem Apl (c:Nat->Rat):∀(n:Nat) (a:Tl),a.length<=n->(∀k,tot a k=0)->eR c a=0
 | _,[],_,_=>rfl
 | 0,_::_,h,_=>by simp at h
 | n+1,e::r,h,z=>by
   rw [Aet c e.1,z]
   have l:((e::r).filter fun x=>decide (x.1≠e.1)).length<=n:=by
    rw [dS (by simp)]
    have:=dF (fun x:M3 × Int=>decide (x.1≠e.1)) r
    rw [bH]at h
    omega
   rw [Apl c n _ l fun k=>by rw [Abq,z];split<;>rfl]
   grind
theorem Am7 {a b:Tl} (c:Nat->Rat) (h:∀k,tot a k=tot b k):eR c a=eR c b:=by
 have:=Apl c _ (a++ngT b) (aL _) fun k=>by rw [Cj,Nq,h];omega
 rw [Vl,Aji]at this
 grind
noncomputable def eF (c:Nat->Rat):Fq->Rat:=Quotient.lift (eR c) fun _ _ h=>Am7 c h
theorem Ap9 (c:Nat->Rat) (x y:Fq):eF c (x+y)=eF c x+eF c y:=by
 obtain⟨a,rfl⟩:=Ge x
 obtain⟨b,rfl⟩:=Ge y
 exact Vl c a b
theorem Aqa (c:Nat->Rat) (x y:Fq):eF c (x*y)=eF c x*eF c y:=by
 obtain⟨a,rfl⟩:=Ge x
 obtain⟨b,rfl⟩:=Ge y
 exact Ajh c b a
theorem Ap7 (c:Nat->Rat):eF c 0=0:=by
 show((0:Int):Rat)*_+0=0
 grind
section
variable {α:Type} [Lean.Grind.CommRing α]
noncomputable def ho (W:Nat->α) (T:α):Nat->Nat->α
 | _,0=>0
 | i,k+1=>ho W T (i+1) k*T+W i
theorem Zo (W:Nat->α) (T:α):∀k i:Nat,ho W T i (k+1)=ho W T i k+W (i+k)*T^k
 | 0,i=>by
   show 0*T+W i=0+W (i+0)*T^0
   rw [Nat.add_zero]
   grind
 | k+1,i=>by
   show ho W T (i+1) (k+1)*T+W i=(ho W T (i+1) k*T+W i)+W (i+(k+1))*T^(k+1)
   rw [Zo W T k (i+1),show i+1+k=i+(k+1)by omega,Lean.Grind.Semiring.pow_succ]
   grind
theorem Aex (V W:Nat->α) (T:α):∀k i:Nat,ho (fun m=>V m+W m) T i k=ho V T i k+ho W T i k
 | 0,i=>by show(0:α)=0+0;grind
 | k+1,i=>by
   show ho (fun m=>V m+W m) T (i+1) k*T+(V i+W i)=(ho V T (i+1) k*T+V i)+(ho W T (i+1) k*T+W i)
   rw [Aex V W T k (i+1)]
   grind
theorem Aey (p:Nat) (x T:α):∀k:Nat,ho (fun m=>if p=m then x else 0) T 0 k=if p<k then x*T^p else 0
 | 0=>by rw [aF (by omega)];rfl
 | k+1=>by
   rw [Zo,Aey p x T k,kQ]
   by_cases h:p=k
   . subst h
     rw [aF (by omega),aI rfl,aI (by omega)]
     grind
   . rw [aF h]
     by_cases g:p<k
     . rw [aI g,aI (by omega)]
       grind
     . rw [aF g,aF (by omega)]
       grind
theorem Apm (T:α):∀k i:Nat,ho (fun _=>(0:α)) T i k=0
 | 0,_=>rfl
 | k+1,i=>by
   show ho (fun _=>(0:α)) T (i+1) k*T+0=0
   rw [Apm T k (i+1)]
   grind
theorem Ajs {V W:Nat->α} (T:α):∀k i:Nat,(∀m,i<=m->m<i+k->V m=W m)->ho V T i k=ho W T i k
 | 0,_,_=>rfl
 | k+1,i,h=>by
   show ho V T (i+1) k*T+V i=ho W T (i+1) k*T+W i
   rw [Ajs T k (i+1) fun m h1 h2=>h m (by omega) (by omega),h i (by omega) (by omega)]
end
theorem Agc (c:Nat->Rat) (W:Nat->Fq) (T:Fq):∀k i:Nat,eF c (ho W T i k)=ho (fun m=>eF c (W m)) (eF c T) i k
 | 0,_=>Ap7 c
 | k+1,i=>by
   show eF c (ho W T (i+1) k*T+W i)=ho (fun m=>eF c (W m)) (eF c T) (i+1) k*eF c T+eF c (W i)
   rw [Ap9,Aqa,Agc c W T k (i+1)]
theorem Aqb (j:Nat) (x:M3) (w:Int):fq [(x,w)]=fq [(zj j x,w)]*Yj j (pw3 j x):=by
 show _=fq [(m3 (zj j x) (ej j (pw3 j x)),w*1)]
 rw [Ao9,Int.mul_one]
theorem Afl (a b:Rat):∀n:Nat,(a*b)^n=a^n*b^n
 | 0=>by rw [cP,cP,cP];grind
 | n+1=>by rw [Jq,Jq,Jq,Afl a b n];grind
theorem Ol (a:Int):∀n:Nat,((a^n:Int):Rat)=(a:Rat)^n
 | 0=>by rw [Int.pow_zero,cP];rfl
 | n+1=>by rw [Int.pow_succ,Jq,fH,Ol a n]
theorem scR {t:Int} (G:b≠0) {k M:Nat} (h:k<=M):((t^k*b^(M-k):Int):Rat)=((t:Rat)/(b:Rat))^k*(b:Rat)^M:=by
 have J:(b:Rat)≠0:=fun z=>G (Rat.intCast_eq_zero_iff.mp z)
 have e:((t:Rat)/(b:Rat))*(b:Rat)=t:=by grind
 rw [fH,Ol,Ol]
 have O:(b:Rat)^M=(b:Rat)^k*(b:Rat)^(M-k):=by rw [<-Aay];congr 1;omega
 rw [O]
 have U:((t:Rat)/(b:Rat))^k*(b:Rat)^k=(t:Rat)^k:=by rw [<-Afl,e]
 rw [<-U]
 grind
open PySem L2
local macro_rules | `(tactic| done)=> `(tactic| simp only [Ao7,Aml,Aov,Ao6,Ama,Aoi,Aij,Ao4,Amq,Amr,z_c,Apw,Aq0,Aqw,Ao5,Aqx,Aon,Ao1,Aom,Ao0,Afv,Aqz,Aop,Aor,Aoo,Amb,Amc,Ao3,Aoh,Aqv,Al3,Amm,Aqu,Al4,Ao2,Al6,Aqs,Ao8,Aoz,Al5,Amp,Aik,Amj,Aos,Aox,Aoy,Aot,Aqy,Aei,Amo,Aok,Aqr,Aol,Amn,Aou,Amh,Aow,Amf,Amd,Ami,Aif,Aoj,Aoq,Amg,Ail,Aeh,Aih,Amk,Al8,Al7,Aig,Al9,Aqt,cpσ,kK,List.getElem?_cons_succ,Option.join_some,List.set_cons_zero,List.set_cons_succ,bT,decide_eq_true_eq,not_eq_true',decide_eq_false_iff_not,Bool.not_not,ite_not,fF,Bool.true_eq_false,gD,fW,aI,bH,eD,kQ,Nat.reduceAdd,Alv,Alw,true_and,and_true,L2.start,bC,jG,Bool.not_true,Bool.not_false,Nat.reduceSub,fP,List.replicate_zero,cons_append,jB,Aej,Aii,Aim,Ame])
noncomputable def top (i:Nat):Stmt:=PySem.Challenge.pw_rootcourt_k35_forms_put_in.main.body.getD i (.Pass ⟨0,0,0,0⟩)
theorem Cz {N P:List Str}{sc:Scope} (h1:sc.kind= .function:=by rfl) (h2:sc.isCoroutine=false:=by rfl) (G:sc.isGenerator=false:=by rfl) (J:N.Nodup:=by decide+kernel) (O:N.take P.length=P:=by rfl) (U:∀x∈P,sc.names.lookup x=some .local \/sc.names.lookup x=some .cell:=by decide+kernel) (W:∀y∈sc.names,y.2≠ .free:=by decide+kernel):Bb N P sc:=⟨h1,h2,G,J,O,U,W⟩
noncomputable abbrev Kh:Stmt:=top 5
theorem U6:Bb zI zI (Ak Kh):=Cz
noncomputable abbrev Mz:Stmt:=top 6
theorem Ii:Bb ["one","other","greater","lesser"] zH (Ak Mz):=Cz
noncomputable abbrev Kg:Stmt:=top 8
theorem Ja:Bb ["top","bottom","shared"] yH (Ak Kg):=Cz
noncomputable abbrev M5:Stmt:=top 10
theorem Fb:Bb ["one","other","weights","place","weight","further","factor"] zH (Ak M5):=Cz
noncomputable abbrev U5:Stmt:=top 11
theorem Ad5:Bb yE yE (Ak U5):=Cz
noncomputable abbrev Kq:Stmt:=top 12
theorem Dt:Bb ["start","one","many","product","found","square","left"] zJ (Ak Kq):=Cz
noncomputable abbrev Hg:Stmt:=top 13
theorem N7:Bb zO zO (Ak Hg):=Cz
noncomputable abbrev Hy:Stmt:=top 17
theorem X5:Bb zI zI (Ak Hy):=Cz
noncomputable abbrev Js:Stmt:=top 18
theorem Ku:Bb ["thing","powers","weight"] zI (Ak Js):=Cz
noncomputable abbrev Wg:Stmt:=top 19
theorem Qt:Bb ["terms","sums","powers","weight"] yL (Ak Wg):=Cz
noncomputable abbrev Qo:Stmt:=top 20
theorem Aba:Bb zT zT (Ak Qo):=Cz
noncomputable abbrev M4:Stmt:=top 23
theorem Dz:Bb ["f","g","base","others","sums","one","weight","other","factor"] zT (Ak M4):=Cz
noncomputable abbrev Dn:Stmt:=top 24
theorem Ks:Bb ["f"] ["f"] (Ak Dn):=Cz
noncomputable abbrev Lh:Stmt:=top 25
theorem Abb:Bb yF yF (Ak Lh):=Cz
noncomputable abbrev Kr:Stmt:=top 26
theorem Fy:Bb ["sums","base","found","key","upper","k"] yJ (Ak Kr):=Cz
noncomputable abbrev Jr:Stmt:=top 27
theorem Dj:Bb yG ["f","at"] (Ak Jr):=Cz
noncomputable abbrev Fx:Stmt:=top 28
theorem Br:Bb ["f","place","point","greatest","found","top","bottom","powers","weight","many"] zW (Ak Fx):=Cz
noncomputable abbrev Wi:Stmt:=top 29
theorem Ahs:Bb zP zP (Ak Wi):=Cz
noncomputable abbrev Km:Stmt:=top 30
theorem U7:Bb yM yM (Ak Km):=Cz
noncomputable abbrev Gg:Stmt:=top 31
theorem Qu:Bb zS zS (Ak Gg):=Cz
noncomputable abbrev Wf:Stmt:=top 32
theorem Aa9:Bb ["p","name","place"] yK (Ak Wf):=Cz
noncomputable abbrev U4:Stmt:=top 33
theorem Jt:Bb ["f","name","g","found","weight"] zZ (Ak U4):=Cz
noncomputable abbrev Fw:Stmt:=top 34
theorem Eo:Bb zQ zY (Ak Fw):=Cz
noncomputable abbrev M8:Stmt:=top 35
theorem X6:Bb zU zU (Ak M8):=Cz
noncomputable abbrev Iz:Stmt:=top 37
theorem K6:Bb ["f","g","name","place","found","b","a"] yI (Ak Iz):=Cz
noncomputable abbrev Hf:Stmt:=top 38
theorem Iu:Bb ["f","g","name","paper","place","found","a","b"] zR (Ak Hf):=Cz
noncomputable abbrev Iw:Stmt:=top 47
theorem Sq:Bb zK zK (Ak Iw):=Cz
noncomputable abbrev M6:Stmt:=top 48
theorem Dk:Bb ["_law_cell","_law_many","_law_found","_law_rest","_law_first","_law_mixed","_law_k"] zN (Ak M6):=Cz
noncomputable abbrev Qp:Stmt:=top 49
theorem Abd:Bb zD zD (Ak Qp):=Cz
noncomputable abbrev Ko:Stmt:=top 50
theorem M9:Bb ["_law_draws_here","_law_kind"] zF (Ak Ko):=Cz
noncomputable abbrev M7:Stmt:=top 51
theorem Ij:Bb ["_law_draws_here","_law_many","_law_most","_law_found","_law_k","_law_powers"] zG (Ak M7):=Cz
noncomputable abbrev Qq:Stmt:=top 52
theorem Lj:Bb yD yB (Ak Qq):=Cz
noncomputable abbrev Hz:Stmt:=top 54
theorem Ed:Bb ["_law_draws_here","_law_bottom","_law_top","_law_one","_law_two"] zF (Ak Hz):=Cz
noncomputable abbrev Qs:Stmt:=top 57
theorem Ju:Bb ["_law_way","_law_one","_law_two","_law_name","_law_word_here","e"] zE (Ak Qs):=Cz
noncomputable abbrev Li:Stmt:=top 58
theorem Gu:Bb zX zM (Ak Li):=Cz
noncomputable abbrev Kl:Stmt:=top 59
theorem Ec:Bb zC zV (Ak Kl):=Cz
noncomputable abbrev G9:Stmt:=L2.Ani 0 (top 3)
theorem Aa8:Bb yO yO (Ak G9):=Cz
noncomputable def Ad7 (K:Frag):Sp:=fun vs H Q _=>∃(a:Addr) (ns:List Int),vs=[.ref a]/\SqL K H a (ns.map V.int)/\ns.length<=63/\∀H',Q (.bl true) H'
noncomputable def cell (ns:List Int) (k:Int):Int:=ns.getD k.toNat 0
noncomputable def Ie (K:Frag):Sp:=fun vs H Q _=>∃(a:Addr) (ns:List Int) (k:Int),vs=[.ref a,.int k]/\SqL K H a (ns.map V.int)/\0<=k/\Q (.int (cell ns k)) H
variable {H H' H1 H2:Hp}{a l p u:Addr}{xs zs ys:List V}{v:V}{X:Cx}{i x r:Int}{kvs:List (List Key × V)}{e:List Int × Int}{g:TG}{ms ns:List Int}{Q:VK}{E:XK}{S T:Fq}{D:Nat}{L:List (List Int × Int)}{q:Nat->Addr}{M:Nat->Int}{c c':Nat->Rat}
section
variable {P:Program}{w:World}{K:Frag}{mg:Str->Option Value}{base:Heap}{f:Addr}{fd:FuncData}
theorem R5 (F:Df K mg "_law_cell_at" Iw zK f fd)  (G:mg "len"=none)   :Cal P w K mg base 1 "_law_cell_at" zK (Ie K):=by
 refine F.cal (F.fn.ok Sq (fun U H Q E h=> ?_) (fun W A outer s H U Q E hr h=> ?_))
 . obtain⟨a,ns,k,rfl,_⟩:=h
   rfl
 obtain⟨a,ns,k,rfl,O,Z,q⟩:=h
 refine Aw ⟨_,(Ac (Bp (Av Ag0 (Ae 1) (Bf Cq rfl G fT (Aa (Ae 0) Ab)) (Bl _)) (Ag (Ar (Bj Fp (Ae 0) (Ae 1) (fun _ _=>rfl)))) Ba)
  (Ag (Ar Ad))),?_⟩
 done
 refine⟨a,_,rfl,.inl O,?_⟩
 rw [aC]
 split
 . rename_i h
   have J:k.toNat<ns.length:=by omega
   refine Nr O (v:= .int (cell ns k)) ?_ q
   have e:=Es (xs:=ns.map V.int) (j:=k.toNat) (v:= .int (cell ns k)) (by
    rw [aN,aG J]
    unfold cell
    rw [aU,aG J]
    rfl)
   rw [eV Z]at e
   exact e
 . rename_i h
   have e:cell ns k=0:=by
    unfold cell
    rw [aU,gI (by omega)]
    rfl
   rw [e]at q
   exact q
noncomputable def Aix (K:Frag) (a:Addr) (xs:List V):Prop:=∃(o:Obj) (its:Array Value) (n:Nat),K.lookup a=some o/\o.cls= .type "tuple"/\o.data= .seq its n/\its.size<=sizeLine/\Vals xs its.toList
theorem Aix.sq {K:Frag} (h:Aix K a xs):SqT K H a xs:= .inr h
noncomputable def Apf (K:Frag) (a:Addr):Prop:=∃b c,Aix K a [.ref b]/\Aix K b [.ref c,.int 1]/\Aix K c [.int 0,.int 0,.int 0]
noncomputable def Aiq (K:Frag) (a:Addr) (xs:List V):Prop:=∃(o:Obj) (its:Array Value) (n:Nat),K.lookup a=some o/\o.cls= .type "tuple"/\o.data= .seq its n/\its.size<=sizeLine/\Vals xs its.toList/\o.dict=none
theorem Aiq.sq {K:Frag} (h:Aiq K a xs):SqT K H a xs:=by
 obtain⟨o,G,n,h1,h2,J,O,U,_⟩:=h
 exact .inr ⟨o,G,n,h1,h2,J,O,U⟩
theorem Aiq.ty {K:Frag} (h:Aiq K a xs):tyV K "tuple" (.ref a) H:=by
 obtain⟨o,G,n,h1,h2,O,U,Z,J⟩:=h
 exact .inr (.inl ⟨rfl,o,h1,h2,J⟩)
theorem Aae {C D:Addr}{fd:FuncData} (F:Fun K "__init__" "NoName.__init__" G9 f fd) (bd:Binds K fd yO []) (J:Td K C f) (Z:typeIn K (.ref f)=some (.type "function")) (zp:keepIn K (.ref C)=true) (zn:Yc K C "name") (zb:Afw K D) (xm:mg "CourtError"=some (.ref D)):NmK P w K mg base 1 C "name":=by
 refine⟨⟨f,fd,_,rfl,J,Z,bd,F.okN Aa8 (fun vs H Q E h=> ?_) (fun a1 A outer s H vs Q E hr h=> ?_)⟩,zp⟩
 . obtain⟨x,v,t0,rfl,_⟩:=h
   rfl
 obtain⟨x,v,t0,rfl,hx,k⟩:=h
 refine Aw ⟨_,Ac (Dy (S.Qj zb xm (Aa (Ae 0) (Aa Fe Ab)))) (Ag (S.Qm (Ae 0) (Ae 1))),?_⟩
 done
 unfold tBI
 done
 refine⟨x,C,t0,f,_,rfl,bL rfl,J,hx,fun O=> ?_⟩
 unfold tSN
 done
 refine⟨x,C,O,rfl,Af,zn,fun dx G=> ?_⟩
 have U:dx≠x:=fun z=>by subst z;rw [Af]at G;cases G
 have k0:=k dx O ((Ax U).symm.trans G) U
 have e:∀(a b c:HO),upd (upd (upd H x a) dx b) x c=upd (upd H dx b) x c:=fun a b c=>by
  funext y
  unfold upd
  by_cases h:y=x
  . rw [aI h,aI h]
  . rw [aF h,aF h]
    split<;>rfl
 rw [e]
 exact k0
inductive Wh (K:Frag) (H:Hp):V->Bool->Prop where
 | int (i:Int):Wh K H (.int i) true
 | bl (b:Bool):Wh K H (.bl b) false
 | non:Wh K H .non false
 | str (x:Str):Wh K H (.str x) false
 | tup {a:Addr}{xs:List V} (e:H a=some (.tup xs)):Wh K H (.ref a) false
 | lst {a:Addr}{xs:List V} (e:H a=some (.lst xs)):Wh K H (.ref a) false
noncomputable def Aqn (K:Frag):Sp:=fun vs H Q _=>∃v b,vs=[v]/\Wh K H v b/\Q (.bl b) H
theorem isi {G:Bool->Prop}{t:Value}{T:String}{b:Bool} (Z:S8 K H v t) (hk:kitOne K t (.type T)=some b) (q:G b):
 ∃x J O U,[v,V.ty T]=[x,V.ty O]/\S8 K H x J/\kitOne K J (.type O)=some U/\G U:=⟨v,t,T,b,rfl,Z,hk,q⟩
theorem Px {T U:String}{b:Bool} (h:(if(Value.type T==Value.type U)=true then some true else if PySem.W.kitMeta U=true then subIn [] (.type T) (.type U)else none)=some b):kitOne K (.type T) (.type U)=some b:=h
theorem Aj4:kitOne K (.type "int") (.type "int")=some true:=Px (by decide+kernel)
theorem Aj3:kitOne K (.type "int") (.type "bool")=some false:=Px (by decide+kernel)
theorem Aj1:kitOne K (.type "bool") (.type "int")=some true:=Px (by decide+kernel)
theorem Aj0:kitOne K (.type "bool") (.type "bool")=some true:=Px (by decide+kernel)
theorem Aj6:kitOne K (.type "NoneType") (.type "int")=some false:=Px (by decide+kernel)
theorem Aj7:kitOne K (.type "str") (.type "int")=some false:=Px (by decide+kernel)
theorem Aj8:kitOne K (.type "tuple") (.type "int")=some false:=Px (by decide+kernel)
theorem Aj5:kitOne K (.type "list") (.type "int")=some false:=Px (by decide+kernel)
noncomputable def Ni (K:Frag):Sp:=Aqn K
theorem Uq (F:Df K mg "is_whole" Kh zI f fd)  (G:mg "isinstance"=none) (O:mg "int"=none) (J:mg "bool"=none)   :Cal P w K mg base 1 "is_whole" zI (Ni K):=by
 refine F.cal (F.fn.ok U6 (fun U H Q E h=> ?_) (fun W A outer s H U Q E hr h=> ?_))
 . obtain⟨v,b,rfl,_⟩:=h
   rfl
 obtain⟨v,b,rfl,Z,q⟩:=h
 refine Aw ⟨_,(Ag (Ar (Je (Bf Jh rfl G cM (Aa (Ae 0) (Aa (Ef (v:= .ty "int") rfl O lD rfl) Ab))) (Ly (Rb (Bf Jh rfl G cM (Aa (Ae 0) (Aa (Ef (v:= .ty "bool") rfl J boot_bool rfl) Ab)))))))),?_⟩
 done
 cases Z with
 | int i=>
   refine isi (.int i) Aj4 ?_
   done
   refine isi (.int i) Aj3 ?_
   done
   exact q
 | bl b=>
   refine isi (.bl b) Aj1 ?_
   done
   refine isi (.bl b) Aj0 ?_
   done
   exact q
 | non=>
   refine isi .non Aj6 ?_
   done
   exact q
 | str x=>
   refine isi (.str x) Aj7 ?_
   done
   exact q
 | tup e=>
   refine isi (.tup e) Aj8 ?_
   done
   exact q
 | lst e=>
   refine isi (.lst e) Aj5 ?_
   done
   exact q
theorem Wh.mono {b:Bool} (h:Wh K H v b) (s:Same H H'):Wh K H' v b:=by
 cases h with
 | int i=>exact .int i
 | bl b=>exact .bl b
 | non=>exact .non
 | str x=>exact .str x
 | tup e=>exact .tup (s _ _ e)
 | lst e=>exact .lst (s _ _ e)
theorem Ae2:kitOne K (.type "int") (.type "tuple")=some false:=Px (by decide+kernel)
theorem Ae3:kitOne K (.type "NoneType") (.type "tuple")=some false:=Px (by decide+kernel)
theorem Ae5:kitOne K (.type "str") (.type "tuple")=some false:=Px (by decide+kernel)
theorem Z4:kitOne K (.type "list") (.type "tuple")=some false:=Px (by decide+kernel)
theorem Ir:kitOne K (.type "tuple") (.type "tuple")=some true:=Px (by decide+kernel)
inductive TyA (K:Frag) (H:Hp):V->Value->Prop where
 | of {v:V}{t:Value} (h:S8 K H v t):TyA K H v t
 | tup {a:Addr}{xs:List V} (h:SqT K H a xs):TyA K H (.ref a) (.type "tuple")
theorem O7:Er X (.builtin "isinstance") (fun xs H Q=>∃x t T b,xs=[x,.ty T]/\TyA X.K H x t/\kitOne X.K t (.type T)=some b/\Q (.bl b) H):=by
 intro pins s σ H xs us Q I r h
 obtain⟨x,t,T,b,rfl,G,J,q⟩:=h
 cases G with
 | of G=>exact Jh pins s σ H _ us Q I r ⟨x,t,T,b,rfl,G,J,q⟩
 | tup O=>exact Ace pins s σ H _ us Q I r ⟨_,_,T,b,rfl,O,J,q⟩
theorem isa {G:Bool->Prop}{t:Value}{T:String}{b:Bool} (Z:TyA K H v t) (hk:kitOne K t (.type T)=some b) (q:G b):
 ∃x J O U,[v,V.ty T]=[x,V.ty O]/\TyA K H x J/\kitOne K J (.type O)=some U/\G U:=⟨v,t,T,b,rfl,Z,hk,q⟩
theorem at0 {α:Type} (x:α) (r:List α):atI (x::r) 0=some x:=Es (j:=0) rfl
theorem Ag1 (K:Frag) (G:X.A.units+64<cLine) (h:X.K=K:=by rfl):OpR X (compareOp .Lt) (Aps K):=by
 subst h
 exact Akk (by omega)
theorem Ai5 (xs:List V):Ih xs (some 1) none=xs.drop 1:=by
 unfold Ih
 rw [HT.Ad4,show(some (1:Int))=some ((1:Nat):Int)from rfl,HT.Ahr]
 cases xs with
 | nil=>rfl
 | cons x r=>
   rw [kY (by simp),kR (by simp)]
inductive Pw (K:Frag) (H:Hp):V->Bool->Prop where
 | int (i:Int):Pw K H (.int i) (decide (0<=i))
 | no {v:V} (h:Wh K H v false):Pw K H v false
theorem Pw.mono {H H':Hp}{v:V}{b:Bool} (h:Pw K H v b) (s:Same H H'):Pw K H' v b:=by
 cases h with
 | int i=>exact .int i
 | no h=>exact .no (h.mono s)
inductive Tm (K:Frag) (H:Hp):V->Bool->Prop where
 | int (i:Int):Tm K H (.int i) false
 | non:Tm K H .non false
 | str (x:Str):Tm K H (.str x) false
 | lst {a:Addr}{xs:List V} (e:H a=some (.lst xs)):Tm K H (.ref a) false
 | long {a:Addr}{xs:List V} (h:SqT K H a xs) (hl:xs.length≠2):Tm K H (.ref a) false
 | notT {a c:Addr}{w:V}{xs:List V} (h:SqT K H a [.ref c,w]) (e:H c=some (.lst xs)):Tm K H (.ref a) false
 | plen {a c:Addr}{w:V}{xs:List V} (h:SqT K H a [.ref c,w]) (hc:SqT K H c xs) (hl:xs.length≠3):Tm K H (.ref a) false
 | notw {a c:Addr}{w:V}{xs:List V} (h:SqT K H a [.ref c,w]) (hc:SqT K H c xs) (hl:xs.length=3) (hw:Wh K H w false):Tm K H (.ref a) false
 | gen {a c:Addr}{w:Int}{es:List (V × Bool)} (h:SqT K H a [.ref c,.int w]) (hc:SqT K H c (es.map (·.1))) (hl:es.length=3) (hp:∀e∈es,Pw K H e.1 e.2):Tm K H (.ref a) (decide (w≠0)&&(es.map (·.2)).all id)
theorem Tm.mono {H H':Hp}{v:V}{b:Bool} (h:Tm K H v b) (s:Same H H'):Tm K H' v b:=by
 cases h with
 | int i=>exact .int i
 | non=>exact .non
 | str x=>exact .str x
 | lst e=>exact .lst (s _ _ e)
 | long h G=>exact .long (s.tup h) G
 | notT h e=>exact .notT (s.tup h) (s _ _ e)
 | plen h J G=>exact .plen (s.tup h) (s.tup J) G
 | notw h J G O=>exact .notw (s.tup h) (s.tup J) G (O.mono s)
 | gen h J G U=>exact .gen (s.tup h) (s.tup J) G fun e W=>(U e W).mono s
noncomputable def Ow (K:Frag):Sp:=fun vs H Q _=>∃v b,vs=[v]/\Tm K H v b/\∀H',Same H H'->Q (.bl b) H'
theorem Xm (F:Df K mg "is_term" Js zI f fd)  (Z:mg "all"=none) (G:mg "isinstance"=none) (O:mg "tuple"=none) (U:mg "len"=none) (a1:mg "power"=some (.ref (cA K "power"))) (J:Cal P w K mg base 1 "is_whole" zI (Ni K)):Cal P w K mg base 2 "is_term" zI (Ow K):=by
 refine F.cal (F.fn.ok Ku (fun vs H Q E h=> ?_) (fun a3 A outer s H vs Q E hr h=> ?_))
 . obtain⟨v,b,rfl,_⟩:=h
   rfl
 obtain⟨v,b,rfl,hv,k⟩:=h
 refine Aw ⟨_,(Ac (Bp (Eu (Ew (En (Eb (Bf O7 rfl G cM (Aa (Ae 0) (Aa (Ef (v:= .ty "tuple") rfl O bJ rfl) Ab))))) (Fg (Av Qi (Bf Cq rfl U fT (Aa (Ae 0) Ab)) Ad (Bl _))))) (Ag (Ar El)) Ba)
  (Ac (Jf (Ae 0) (Cg rfl (Al (Aq 1 Ku.nd) (Al (Aq 2 Ku.nd) Bg))))
  (Ac (Bp (Eu (Ew (En (Eb (Bf O7 rfl G cM (Aa (Ae 1) (Aa (Ef (v:= .ty "tuple") rfl O bJ rfl) Ab))))) (Ew (Av Qi (Bf Cq rfl U fT (Aa (Ae 1) Ab)) Ad (Bl _)) (Ew (En (Eb (Aj J hr (Aa (Ae 2) Ab)))) (Fg (Av Kf (Ae 2) Ad (Bl _))))))) (Ag (Ar El)) Ba)
  (Ag (Ar (Bf (Jg rfl) rfl Z gG (Aa (Bk (ts:=["power"]) (fs:=[]) rfl (Dg.of (sc:=Ak Js) (N:=["thing","powers","weight"]) rfl rfl (by decide+kernel)) (Ea (Ae 1)) (fun _ _ _=>(Aq 0 (show Nodup (["power"]:List Str)by decide+kernel))) (fun _ _ _=>Bo) (fun _ _ _=>(Je (Aj J hr (Aa (Ae 0) Ab)) (Ly (Eh Ano (Ae 0) Ad (Bl _)))))) Ab))))))),?_⟩
 done
 have k0:=k _ (Same.refl _)
 cases hv with
 | int i=>
   refine isa (.of (.int i)) Ae2 ?_
   try done
   exact k0
 | non=>
   refine isa (.of .non) Ae3 ?_
   try done
   exact k0
 | str x=>
   refine isa (.of (.str x)) Ae5 ?_
   try done
   exact k0
 | lst e=>
   refine isa (.of (.lst e)) Z4 ?_
   try done
   exact k0
 | @long a xs h hl=>
   refine isa (.tup h) Ir ?_
   try done
   refine⟨a,_,rfl,.inr h,?_⟩
   try done
   rw [aF (show ¬((xs.length:Nat):Int)=2 by omega)]
   exact k0
 | @notT a c w xs h e=>
   refine isa (.tup h) Ir ?_
   try done
   refine⟨a,_,rfl,.inr h,?_⟩
   try done
   refine Dd h ?_
   try done
   refine isa (.of (.lst e)) Z4 ?_
   try done
   exact k0
 | @plen a c w xs h W hl=>
   refine isa (.tup h) Ir ?_
   try done
   refine⟨a,_,rfl,.inr h,?_⟩
   try done
   refine Dd h ?_
   try done
   refine isa (.tup W) Ir ?_
   try done
   refine⟨c,_,rfl,.inr W,?_⟩
   try done
   rw [aF (show ¬((xs.length:Nat):Int)=3 by omega)]
   exact k0
 | @notw a c w xs h W hl hw=>
   refine isa (.tup h) Ir ?_
   try done
   refine⟨a,_,rfl,.inr h,?_⟩
   try done
   refine Dd h ?_
   try done
   refine isa (.tup W) Ir ?_
   try done
   refine⟨c,_,rfl,.inr W,?_⟩
   try done
   rw [aI (show((xs.length:Nat):Int)=3 by omega)]
   refine⟨_,false,rfl,hw,?_⟩
   try done
   exact k0
 | @gen a c w es h W hl hp=>
   refine isa (.tup h) Ir ?_
   try done
   refine⟨a,_,rfl,.inr h,?_⟩
   try done
   refine Dd h ?_
   try done
   refine isa (.tup W) Ir ?_
   try done
   refine⟨c,_,rfl,.inr W,?_⟩
   try done
   rw [aC,aI (show((es.length:Nat):Int)=3 by omega)]
   refine⟨_,true,rfl,.int w,?_⟩
   try done
   by_cases w0:w=0
   . rw [aI w0]
     rw [bY (fun z=>z w0),Bool.false_and]at k0
     exact k0
   rw [aF w0]
   rw [cO (show w≠0 from w0),Bool.true_and]at k
   refine⟨⟨_,W⟩,fun p1 a2=>Fj (es:=es) (inj:=(·.1)) (fun e=> .bl e.2) (by rw [hl];decide) a2 (K8 W) ?_ ?_⟩
   . intro e H2 R he s2 hR
     done
     have hw:=(hp e he).mono s2
     obtain⟨v,b⟩:=e
     cases hw with
     | int i=>
       refine⟨_,true,rfl,.int i,?_⟩
       try done
       exact hR _ (Same.refl _)
     | no hw=>
       refine⟨_,false,rfl,hw,?_⟩
       try done
       exact hR _ (Same.refl _)
   intro H2 s2 h2
   have em:es.map (fun e=>V.bl e.2)=(es.map (·.2)).map V.bl:=by rw [aZ];rfl
   rw [em]at h2
   refine⟨p1,_,rfl,.of h2,?_⟩
   exact k _ s2
noncomputable def upT (ks:List (List Int)):Bool:=(List.range (ks.length-1)).all fun i=>HT.lexLt (ks.getD i []) (ks.getD (i+1) [])
structure Aip (K:Frag) (H:Hp) (t:Prt):Prop where
 pr:Amw K H t
 tm:Tm K H (.ref t.1) true
theorem Aip.mono {H H':Hp}{t:Prt} (h:Aip K H t) (s:Same H H'):Aip K H' t:=⟨⟨s.tup h.pr.pr,s.tup h.pr.tu⟩,h.tm.mono s⟩
inductive Fm (K:Frag) (H:Hp):V->Bool->Prop where
 | int (i:Int):Fm K H (.int i) false
 | bl (b:Bool):Fm K H (.bl b) false
 | non:Fm K H .non false
 | str (x:Str):Fm K H (.str x) false
 | lst {a:Addr}{xs:List V} (e:H a=some (.lst xs)):Fm K H (.ref a) false
 | bad {a:Addr}{es:List (V × Bool)} (h:SqT K H a (es.map (·.1))) (hl:es.length<=16000000) (hw:∀e∈es,Tm K H e.1 e.2) (hb:(es.map (·.2)).all id=false):Fm K H (.ref a) false
 | good {a:Addr}{ts:List Prt} (h:SqT K H a (ts.map fun t=>V.ref t.1)) (hl:ts.length<=16000000) (hw:∀t∈ts,Aip K H t):Fm K H (.ref a) (upT (ts.map Prt.ks))
theorem Aj2:kitOne K (.type "bool") (.type "tuple")=some false:=Px (by decide+kernel)
noncomputable def Kz (K:Frag):Sp:=fun vs H Q _=>∃v b,vs=[v]/\Fm K H v b/\∀H',Same H H'->Q (.bl b) H'
theorem Xl (F:Df K mg "is_form" Hy zI f fd)  (O:mg "all"=none) (G:mg "isinstance"=none) (U:mg "tuple"=none) (a1:mg "zip"=none)  (J:Cal P w K mg base 2 "is_term" zI (Ow K)):Cal P w K mg base 3 "is_form" zI (Kz K):=by
 refine F.cal (F.fn.ok X5 (fun vs H Q E h=> ?_) (fun a4 A outer s H vs Q E hr h=> ?_))
 . obtain⟨v,b,rfl,_⟩:=h
   rfl
 obtain⟨v,b,rfl,hv,k⟩:=h
 refine Aw ⟨_,(Ac (Bp (Eu (Ew (En (Eb (Bf O7 rfl G cM (Aa (Ae 0) (Aa (Ef (v:= .ty "tuple") rfl U bJ rfl) Ab))))) (Fg (En (Eb (Bf (Jg rfl) rfl O gG (Aa (Bk (ts:=["term"]) (fs:=[]) rfl (Dg.of (sc:=Ak Hy) (N:=zI) rfl rfl (by decide+kernel)) (Ea (Ae 0)) (fun _ _ _=>(Aq 0 (show Nodup (["term"]:List Str)by decide+kernel))) (fun _ _ _=>Bo) (fun _ _ _=>(Aj J hr (Aa (Ae 0) Ab)))) Ab))))))) (Ag (Ar El)) Ba)
  (Ag (Ar (Bf (Jg rfl) rfl O gG (Aa (Bk (ts:=zH) (fs:=[]) rfl (Dg.of (sc:=Ak Hy) (N:=zI) rfl rfl (by decide+kernel)) (Wz true true rfl a1 (Aa (Ae 0) (Aa (Dh Nf (Ae 0) (Dw Ad) Dv) Ab))) (fun _ _ _=>(Ej K 2 rfl rfl (Al (Aq 0 (show Nodup (zH:List Str)by decide+kernel)) (Al (Aq 1 (show Nodup (zH:List Str)by decide+kernel)) Bg)))) (fun _ _ _=>Bo) (fun _ _ _=>(Eh (Ag1 K hr.units) (Bj (Hu K) (Ae 0) Ad (fun _ _=>rfl)) (Bj (Hu K) (Ae 1) Ad (fun _ _=>rfl)) (Bl _)))) Ab))))),?_⟩
 done
 cases hv with
 | int i=>
   refine isa (.of (.int i)) Ae2 ?_
   try done
   exact k _ (Same.refl _)
 | bl b=>
   refine isa (.of (.bl b)) Aj2 ?_
   try done
   exact k _ (Same.refl _)
 | non=>
   refine isa (.of .non) Ae3 ?_
   try done
   exact k _ (Same.refl _)
 | str x=>
   refine isa (.of (.str x)) Ae5 ?_
   try done
   exact k _ (Same.refl _)
 | lst e=>
   refine isa (.of (.lst e)) Z4 ?_
   try done
   exact k _ (Same.refl _)
 | @bad a es h hl hw hb=>
   refine isa (.tup h) Ir ?_
   try done
   refine⟨⟨_,h⟩,fun p1 a2=>Fj (es:=es) (inj:=(·.1)) (fun e=> .bl e.2) (aO hl (by decide)) a2 (K8 h) ?_ ?_⟩
   . intro e H2 R he Z hR
     done
     exact⟨_,_,rfl,(hw e he).mono Z,hR⟩
   intro H2 Z h2
   have em:es.map (fun e=>V.bl e.2)=(es.map (·.2)).map V.bl:=by rw [aZ];rfl
   rw [em]at h2
   refine⟨p1,_,rfl,.of h2,?_⟩
   rw [aI hb]
   exact k _ Z
 | @good a ts h hl hw=>
   refine isa (.tup h) Ir ?_
   try done
   refine⟨⟨_,h⟩,fun p1 a2=>Fj (es:=ts) (inj:=fun t=>V.ref t.1) (fun _=> .bl true) (aO hl (by decide)) a2 (K8 h) ?_ ?_⟩
   . intro e H2 R he Z hR
     done
     exact⟨_,_,rfl,(hw e he).tm.mono Z,hR⟩
   intro H2 Z h2
   have em:ts.map (fun _=>V.bl true)=(ts.map fun _=>true).map V.bl:=by rw [aZ];rfl
   rw [em]at h2
   refine⟨p1,_,rfl,.of h2,?_⟩
   rw [aF (by simp)]
   refine⟨a,_,rfl,Z.tup h,fun z3 H3 s3 h3=> ?_⟩
   rw [Ai5,<-map_drop]at h3
   have W:=Z.trans s3
   refine⟨a,z3,rfl,⟨_,W.tup h⟩,⟨_,h3⟩,fun p4 n4=>Acf (xs:=ts.map fun t=>V.ref t.1) (ys:=(ts.drop 1).map fun t=>V.ref t.1) (ts.length-1) (by rw [aC,aC,iV];omega) (fun i=> .bl (HT.lexLt ((ts.map Prt.ks).getD i []) ((ts.map Prt.ks).getD (i+1) []))) (aO (show ts.length-1<=16000000 by omega) (by decide)) n4 (fun H' s'=>(W.trans s').tup h) (fun H' s'=>s'.tup h3) ?_ ?_⟩
   . intro i H4 q R hi s4 hq hR
     have e1:(ts.map fun t=>V.ref t.1).getD i .non= .ref (ts[i]'(by omega)).1:=by
      rw [aU,aN,aG (by omega)]
      rfl
     have e2:((ts.drop 1).map fun t=>V.ref t.1).getD i .non= .ref (ts[i+1]'(by omega)).1:=by
      rw [aU,aN,List.getElem?_drop,Nat.add_comm 1 i,aG (by omega)]
      rfl
     have e3:(ts.map Prt.ks).getD i []=(ts[i]'(by omega)).ks:=by
      rw [aU,aN,aG (by omega)]
      rfl
     have e4:(ts.map Prt.ks).getD (i+1) []=(ts[i+1]'(by omega)).ks:=by
      rw [aU,aN,aG (by omega)]
      rfl
     rw [e1,e2]at hq
     rw [e3,e4]at hR
     have t1:=((hw _ (cS (show i<ts.length by omega))).mono (W.trans s4)).pr
     have t2:=((hw _ (cS (show i+1<ts.length by omega))).mono (W.trans s4)).pr
     refine Dd (.of hq) ?_
     done
     refine Ip t1.pr (at0 _ _) (Ip t2.pr (at0 _ _) ?_)
     try done
     exact⟨_,_,_,_,rfl,rfl,t1.tu,t2.tu,hR _ (Same.refl _)⟩
   intro H4 s4 h4
   have a3:(List.range (ts.length-1)).map (fun i=>V.bl (HT.lexLt ((ts.map Prt.ks).getD i []) ((ts.map Prt.ks).getD (i+1) [])))=((List.range (ts.length-1)).map fun i=>HT.lexLt ((ts.map Prt.ks).getD i []) ((ts.map Prt.ks).getD (i+1) [])).map V.bl:=by rw [aZ];rfl
   rw [a3]at h4
   have eu:((List.range (ts.length-1)).map fun i=>HT.lexLt ((ts.map Prt.ks).getD i []) ((ts.map Prt.ks).getD (i+1) [])).all id=upT (ts.map Prt.ks):=by
    unfold upT
    rw [List.all_map,aC]
    rfl
   refine⟨p4,_,rfl,.of h4,?_⟩
   rw [eu]
   exact k _ (W.trans s4)
noncomputable def Bq:List (List Int × Int)->List Int->Int
 | [],_=>0
 | e::r,k=>(if e.1=k then e.2 else 0)+Bq r k
theorem Qz (a b:List (List Int × Int)) (k:List Int):Bq (a++b) k=Bq a k+Bq b k:=by
 induction a with
 | nil=>show Bq b k=0+Bq b k;omega
 | cons e r G=>
   show _+Bq (r++b) k=(_+Bq r k)+Bq b k
   rw [G]
   omega
theorem Abn {a b:List (List Int × Int)} (h:a.Perm b) (k:List Int):Bq a k=Bq b k:=by
 induction h with
 | nil=>rfl
 | cons e _ G=>show _+Bq _ k=_+Bq _ k;rw [G]
 | swap x y l=>show _+(_+_)=_+(_+_);omega
 | trans _ _ J O=>exact J.trans O
theorem Gb {a:List (List Int × Int)}{k:List Int} (h:∀e∈a,e.1≠k):Bq a k=0:=by
 induction a with
 | nil=>rfl
 | cons e r G=>
   show(if e.1=k then e.2 else 0)+Bq r k=0
   rw [aF (h e (.head _)),G fun x J=>h x (.tail _ J)]
   rfl
noncomputable abbrev UpT (fs:List (List Int × Int)):Prop:=fs.Pairwise fun x y=>HT.lexLt x.1 y.1=true
theorem Om {a b:List Int} (h:HT.lexLt a b=true):a≠b:=fun e=>by
 subst e
 have:∀ks:List Int,HT.lexLt ks ks=false:=fun ks=>by
  induction ks with
  | nil=>rfl
  | cons x r G=>rw [HT.Bh,aI rfl];exact G
 rw [this]at h
 cases h
theorem Ga {k:List Int}{w:Int}{r:List (List Int × Int)} (h:UpT ((k,w)::r)):Bq ((k,w)::r) k=w:=by
 show(if k=k then w else 0)+Bq r k=w
 rw [aI rfl,Gb fun e G z=> ?_]
 . omega
 . exact Om ((cU.mp h).1 e G) z.symm
theorem Qd:∀fs J:List (List Int × Int),UpT fs->UpT J->(∀e∈fs,e.2≠0)->(∀e∈J,e.2≠0)->(∀k,Bq fs k=Bq J k)->fs=J
 | [],[],_,_,_,_,_=>rfl
 | [],(k,w)::r,_,hg,_,ng,h=>by
   have:=h k
   rw [Ga hg]at this
   exact absurd this.symm (ng _ (.head _))
 | (k,w)::r,[],hf,_,nf,_,h=>by
   have:=h k
   rw [Ga hf]at this
   exact absurd this (nf _ (.head _))
 | (k,w)::r,(l,v)::t,hf,hg,nf,ng,h=>by
   have O:=cU.mp hf
   have U:=cU.mp hg
   by_cases e:k=l
   . subst e
     have W:=h k
     rw [Ga hf,Ga hg]at W
     subst W
     have Z:=Qd r t O.2 U.2 (fun x G=>nf x (.tail _ G)) (fun x G=>ng x (.tail _ G)) fun m=>by
      have hm:(if k=m then w else 0)+Bq r m=(if k=m then w else 0)+Bq t m:=h m
      omega
     rw [Z]
   . exfalso
     cases lt:HT.lexLt k l with
     | true=>
       have:=h k
       rw [Ga hf,Gb fun x G=> ?_]at this
       . exact nf _ (.head _) this
       . rcases aS.mp G with rfl | G
         . exact fun z=>e z.symm
         . exact fun z=>Om (lex_trans _ _ _ lt (U.1 x G)) z.symm
     | false=>
       have gt:HT.lexLt l k=true:=by
        have:=Pz k l e
        rw [lt]at this
        cases g:HT.lexLt l k
        . rw [g]at this
          cases this
        . rfl
       have:=h l
       rw [Ga hg,Gb fun x G=> ?_]at this
       . exact ng _ (.head _) this.symm
       . rcases aS.mp G with rfl | G
         . exact e
         . exact fun z=>Om (lex_trans _ _ _ gt (O.1 x G)) z.symm
noncomputable def Ab9 (a b:List Int):List Int:=List.zipWith (· + ·) a b
noncomputable def Sg (f g:List (List Int × Int)):List (List Int × Int):=f.flatMap fun x=>g.map fun y=>(Ab9 x.1 y.1,x.2*y.2)
noncomputable def pk (b:Int) (ks:List Int):Int:=(ks.getD 0 0*b+ks.getD 1 0)*b+ks.getD 2 0
theorem Ak5 {j k l m n:Int} (G:0<=j/\j<b) (J:0<=k/\k<b) (O:0<=m/\m<b) (U:0<=n/\n<b) (h:pk b [i,j,k]=pk b [l,m,n]):i=l/\j=m/\k=n:=by
 have h':(i*b+j)*b+k=(l*b+m)*b+n:=h
 have b0:b≠0:=by omega
 have W:k=n:=by
  have:=bE (· %b) h'
  simp only [eY _ k,eY _ n,gP]at this
  rwa [gO J.1 J.2,gO U.1 U.2]at this
 subst W
 have h2:i*b+j=l*b+m:=Int.eq_of_mul_eq_mul_right b0 (by omega)
 have Z:j=m:=by
  have:=bE (· %b) h2
  simp only [eY _ j,eY _ m,gP]at this
  rwa [gO G.1 G.2,gO O.1 O.2]at this
 subst Z
 exact⟨Int.eq_of_mul_eq_mul_right b0 (by omega),rfl,rfl⟩
theorem Xz {k:List Key}{w:V} (h:Gi kvs k=some w):(putK kvs k v).map (·.1)=kvs.map (·.1):=by
 unfold putK
 rw [Ez,h,jN,aI rfl,aZ]
 refine dZ fun p _=> ?_
 show(if p.1=k then(p.1,v)else p).1=p.1
 split<;>rfl
theorem Vy (ks:List Int):(ks.map Sum.inl:List Key).map kV=ks.map V.int:=by rw [aZ];rfl
structure Te (K:Frag) (H:Hp) (v:V) (e:List Int × Int):Prop where
 at_:∃a b,v= .ref a/\SqT K H a [.ref b,.int e.2]/\H b=some (.tup (e.1.map V.int))
 ln:e.1.length=3
theorem Te.mono (h:Te K H v e) (s:Same H H'):Te K H' v e:=by
 obtain⟨⟨a,b,G,J,O⟩,l⟩:=h
 exact⟨⟨a,b,G,s.tup J,s _ _ O⟩,l⟩
theorem Te.put (h:Te K H v e) (G:H f=some (.lst zs)):Te K (upd H f (.lst ys)) v e:=by
 obtain⟨⟨a,b,O,U,J⟩,l⟩:=h
 refine⟨⟨a,b,O,?_,by rw [Ax (G6 J G (fun z=>nomatch z))];exact J⟩,l⟩
 rcases U with(e | ⟨o,e⟩) | h
 . exact .inl (.inl (by rw [Ax (G6 e G (fun z=>nomatch z))];exact e))
 . exact .inl (.inr ⟨o,by rw [Ax (G6 e G (fun z=>nomatch z))];exact e⟩)
 . exact .inr h
structure Sus (H H':Hp) (d:Addr) (kvs:List (List Key × V)) (ts:List (List Int × Int)):Prop where
 sm:Same H H'
 it:H' d=some (.dT kvs)
 le:kvs.length<=ts.length
 nd:(kvs.map (·.1)).Nodup
 ky:∀e∈kvs,∃ks:List Int,e.1=ks.map Sum.inl/\ks.length=3
 vl:∀ks:List Int,Gi kvs (ks.map Sum.inl)=some (.int (Bq ts ks))\/(Gi kvs (ks.map Sum.inl)=none/\Bq ts ks=0)
theorem Uc {a b:List Int} (h:(a.map Sum.inl:List Key)=b.map Sum.inl):a=b:=by
 have:=bE (List.map toI) h
 rwa [Jc,Jc]at this
theorem Sus.put {H H' H2:Hp}{d:Addr}{kvs:List (List Key × V)}{ts:List (List Int × Int)} (h:Sus H H' d kvs ts) (n:H d=none) {ks:List Int}{w:Int} (O:ks.length=3) (U:H2=upd H' d (.dT (putK kvs (ks.map Sum.inl) (.int (Bq ts ks+w))))):Sus H H2 d (putK kvs (ks.map Sum.inl) (.int (Bq ts ks+w))) (ts++ [(ks,w)]):=by
 subst U
 refine⟨h.sm.put n,Af,?_,?_,fun e G=> ?_,fun J=> ?_⟩
 . rw [aH]
   exact aO (G4 _ _ _) (gS h.le 1)
 . cases e:Gi kvs (ks.map Sum.inl)with
   | none=>exact Agq _ h.nd e
   | some v=>
     rw [Xz e]
     exact h.nd
 . have:e∈kvs\/e.1=ks.map Sum.inl:=by
    unfold putK at G
    split at G
    . obtain⟨p,W,rfl⟩:=aE.mp G
      split
      . rename_i c
        exact .inr c
      . exact .inl W
    . rcases bG.mp G with G | G
      . exact .inl G
      . have:e=(ks.map Sum.inl,.int (Bq ts ks+w)):=by simpa using G
        exact .inr (by rw [this])
   rcases this with G | G
   . exact h.ky e G
   . exact⟨ks,G,O⟩
 . rw [Ln,Qz]
   by_cases e:J=ks
   . subst e
     rw [aI rfl]
     refine .inl ?_
     show some (V.int (Bq ts J+w))=some (V.int (Bq ts J+((if J=J then w else 0)+0)))
     rw [aI rfl,jH]
   . rw [aF fun z=>e (Uc z)]
     have Z:Bq [(ks,w)] J=0:=by
      show(if ks=J then w else 0)+0=0
      rw [aF (cC e)]
      rfl
     rw [Z,jH]
     exact h.vl J
structure Frm (K:Frag) (H:Hp) (a:Addr) (fs:List (V × (List Int × Int))):Prop where
 it:SqT K H a (fs.map (·.1))
 al:∀e∈fs,Te K H e.1 e.2
 up:UpT (fs.map (·.2))
 nn:∀e∈fs,e.2.2≠0
theorem Lk (T:List Int->Int) (k:List Int):∀us:List Tpt,(us.map fun t=>t.2).Nodup->Bq ((us.filter fun t=>decide (T t.2≠0)).map fun t=>(t.2,T t.2)) k=if k∈us.map (fun t=>t.2)then T k else 0
 | [],_=>rfl
 | u::r,h=>by
   have G:=eQ.mp h
   have O:=Lk T k r G.2
   by_cases J:T u.2=0
   . rw [dS (by simp [J]),O]
     by_cases e:k=u.2
     . subst e
       rw [aF G.1,aI (by simp),J]
     . have:(k∈(u::r).map fun t=>t.2)=(k∈r.map fun t=>t.2):=by simp [e]
       simp only [this]
   . rw [eP (by simp [J])]
     show(if u.2=k then T u.2 else 0)+Bq ((r.filter fun t=>decide (T t.2≠0)).map fun t=>(t.2,T t.2)) k=_
     rw [O]
     by_cases e:u.2=k
     . subst e
       rw [aI rfl,aF G.1,aI (by simp),jH]
     . have:(k∈(u::r).map fun t=>t.2)=(k∈r.map fun t=>t.2):=by simp [cC e]
       rw [aF e,gW]
       simp only [this]
theorem Wu {k:List Key} (h:Gi kvs k=some v):k∈kvs.map (·.1):=by
 obtain⟨p,G,_⟩:=iL.mp (show(kvs.find? fun J=>decide (J.1=k)).map (·.2)=some v from h)
 have:=List.find?_some G
 exact aE.mpr ⟨p,List.mem_of_find?_eq_some G,by simpa using this⟩
noncomputable def U9 (K:Frag):Sp:=fun vs H Q _=>∃(a:Addr) (es:List (V × (List Int × Int))),vs=[.ref a]/\(SqL K H a (es.map (·.1))\/SqT K H a (es.map (·.1)))/\(∀e∈es,Te K H e.1 e.2)/\es.length<16000000/\
 ∀z H' fs,Same H H'->Frm K H' z fs->(∀k,Bq (fs.map (·.2)) k=Bq (es.map (·.2)) k)->fs.length<=es.length->Q (.ref z) H'
theorem Ab0 {α:Type}{H0:Hp}{es:List α}{inj:α->V}{tb:TS}{D:Ends}{σ:St} (h:SqL K H0 l (es.map inj)\/SqT K H0 l (es.map inj)) (s:Same H0 H) (k:∀J,(∀H',Same H0 H'->Aen J H' es inj)->FI J g tb D σ H):(∃xs,SqL K H l xs)/\FI (Itl K l) g tb D σ H\/(∃xs,SqT K H l xs)/\FI (Itt K l) g tb D σ H:=
 h.imp (fun h=>⟨⟨_,s.seq h⟩,k _ fun _ s=>Gw (s.seq h)⟩) (fun h=>⟨⟨_,s.tup h⟩,k _ fun _ s=>Lp (s.tup h)⟩)
theorem Agx (F:Df K mg "form" Wg yL f fd)  (W:mg "tuple"=none) (U:mg "sorted"=none)   :Cal P w K mg base 1 "form" yL (U9 K):=by
 refine F.cal (F.fn.ok Qt (fun vs H Q E h=> ?_) (fun ac A outer s H vs Q E hr h=> ?_))
 . obtain⟨a,es,rfl,_⟩:=h
   rfl
 obtain⟨a,es,rfl,hS,hT,ad,k⟩:=h
 refine Aw ⟨_,(Ac (Am 1 Qt.nd Ls)
  (Ac (Bt bR rfl (Yh (Ae 0)) (Cg rfl (Al (Aq 2 Qt.nd) (Al (Aq 3 Qt.nd) Bg))) (Ag (Ig (hu1 hr.units) (Ae 1) (Ae 2) (Ah Bw (Iv (hu1 hr.units) (Ae 1) (Ae 2) Ad ⟨rfl,rfl,rfl,rfl⟩) (Ae 3)) rfl)))
  (Ag (Ar (Bu Bm rfl W bJ (Aa (Bk (ts:=["powers"]) (fs:=[(1,"sums")]) rfl (Dg.of (sc:=Ak Wg) (N:=["terms","sums","powers","weight"]) rfl rfl (by decide+kernel)) (Du (Bf (Tz rfl) rfl U kB (Aa (Ae 1) Ab))) (fun _ _ _=>(Aq 0 (show Nodup (["powers","sums"]:List Str)by decide+kernel))) (fun _ _ _=>(Oc (Av Qi (Ei (hu1 hr.units) (Ae 1) (Ae 0) (fun _ _=>rfl)) Ad (Bl _)))) (fun _ _ _=>(Az (Aa (Ae 0) (Aa (Ei (hu1 hr.units) (Ae 1) (Ae 0) (fun _ _=>rfl)) Ab))))) Ab)))))),?_⟩
 done
 intro d hd
 have s1:=Same.upd hd (.dT [])
 refine Ab0 hS s1 fun J hJ=>Mr (es:=es) (inj:=(·.1)) (fun Z a2 H'=>∃(G:List (List Key × V)) (o2 o3:Option V),a2=[some (.ref a),some (.ref d),o2,o3]/\Sus H H' d G (Z.map (·.2))) ⟨[],_,_,rfl,⟨s1,Af,aL _,by simp,by simp,fun _=> .inr ⟨rfl,rfl⟩⟩⟩ ?_ ?_ ?_
 . rintro Z a2 H' ⟨G,o2,o3,rfl,O⟩
   exact hJ _ O.sm
 . rintro Z e aa a2 H' hE ⟨G,o2,o3,rfl,O⟩
   have hm:e∈es:=by rw [hE];simp
   obtain⟨⟨b,c,eb,hb,hc⟩,ln⟩:=(hT e hm).mono O.sm
   rw [eb]
   refine Dd hb ?_
   done
   have ek:H' c=some (.tup ((e.2.1.map Sum.inl:List Key).map kV)):=by rw [Vy];exact hc
   refine⟨.inr ⟨G,.inl O.it⟩,_,N8.t O.it ek,?_⟩
   have ev:(Gi G (e.2.1.map Sum.inl)).getD (.int 0)= .int (Bq (Z.map (·.2)) e.2.1):=by
    rcases O.vl e.2.1 with h | ⟨h,h0⟩
    . rw [h]
      rfl
    . rw [h,h0]
      rfl
   rw [ev]
   try done
   refine⟨d,_,rfl,Ab4.t O.it ek ?_,putK G (e.2.1.map Sum.inl) (.int (Bq (Z.map (·.2)) e.2.1+e.2.2)),_,_,rfl,?_⟩
   . have l1:=O.le
     have l2:=bE length hE
     rw [aH]at l2
     rw [aC]at l1
     exact cN (show G.length<=16000000 by omega) (by decide)
   . rw [aQ]
     exact O.put hd ln rfl
 rintro a2 H' ⟨G,o2,o3,rfl,O⟩
 obtain⟨ts,a3⟩:∃ts:List (List Int × Int),es.map (·.2)=ts:=⟨_,rfl⟩
 have ae:ts.length=es.length:=by rw [<-a3,aC]
 rw [a3]at O
 rw [a3]at k
 done
 have a4:G.length<16000000:=by
  have l1:=O.le
  omega
 refine⟨d,G,3,rfl,O.it,O.ky,by decide,O.nd,a4,fun l us hl a1 a5 a7=> ?_⟩
 have sl:=Same.upd hl (.lst (us.map fun t=>V.ref t.1))
 refine⟨⟨_,.of Af⟩,fun p hp=> ?_⟩
 have a8:(us.map fun t=>t.2).Nodup:=by
  have h1:(us.map fun t=>(t.2.map Sum.inl:List Key)).Nodup:=a1.nodup_iff.mpr O.nd
  refine bO.mpr ((bO.mp h1).imp fun h z=>h ?_)
  rw [z]
 have lu:us.length=G.length:=by
  have:=a1.length_eq
  simpa using this
 have ls:us.length<=sizeLine:=by rw [lu];exact aO (fY a4) (by decide)
 have vu:∀t∈us,Gi G (t.2.map Sum.inl)=some (.int (Bq ts t.2)):=fun t ht=>by
  rcases O.vl t.2 with h | ⟨h,_⟩
  . exact h
  . exact absurd (a1.mem_iff.mp (aE.mpr ⟨t,ht,rfl⟩)) (Wv h)
 have l3:∀t∈us,t.2.length=3:=fun t ht=>by
  obtain⟨e,he,e1⟩:=aE.mp (a1.mem_iff.mp (aE.mpr ⟨t,ht,rfl⟩))
  obtain⟨ks,e2,e3⟩:=O.ky e he
  rw [e2]at e1
  rw [<-Uc e1]
  exact e3
 refine Mg (es:=us) (inj:=fun t=>V.ref t.1) (fun t=>decide (Bq ts t.2≠0)) (fun t v H=>Te K H v (t.2,Bq ts t.2)) (fun t v H H' h s=>h.mono s) (fun t v H ys zs h hp=>h.put hp) ls hp (Q7 (.of Af)) ?_ ?_
 . intro t H3 R RF ht s3 k1 k2
   have s4:=sl.trans s3
   have ek:H3 t.1=some (.tup ((t.2.map Sum.inl:List Key).map kV)):=by rw [Vy];exact s4 _ _ (a5 t ht)
   have dg:N8 H3 d (.ref t.1) (some (.int (Bq ts t.2))):=by
    have:=N8.t (s4 _ _ O.it) ek
    rw [vu t ht]at this
    exact this
   done
   refine⟨d,_,rfl,dg,?_⟩
   try done
   by_cases w0:Bq ts t.2=0
   . rw [aI w0]
     exact k2 (by simp [w0]) _ (Same.refl _)
   . rw [aF w0]
     refine⟨d,_,rfl,dg,fun p2 a6=>k1 (by simp [w0]) _ _ (Same.upd a6 _) ⟨⟨p2,t.1,rfl,.of Af,?_⟩,l3 t ht⟩⟩
     exact Same.upd a6 _ _ _ (s4 _ _ (a5 t ht))
 intro H3 vs s3 h3 hv a9
 have s4:=(O.sm.trans sl).trans s3
 refine⟨p,_,rfl,.inl ⟨.of h3,fun z hz=> ?_⟩⟩
 have sz:=Same.upd hz (.tup (vs.map (·.1)))
 have e1:(vs.map fun x=>(x.1,((x.2.2,Bq ts x.2.2):List Int × Int))).map (·.1)=vs.map (·.1):=by rw [aZ];rfl
 have e2:(vs.map fun x=>(x.1,((x.2.2,Bq ts x.2.2):List Int × Int))).map (·.2)=(us.filter fun t=>decide (Bq ts t.2≠0)).map fun t=>(t.2,Bq ts t.2):=by
  rw [<-hv,aZ,aZ]
  rfl
 refine k z _ (vs.map fun x=>(x.1,(x.2.2,Bq ts x.2.2))) (s4.trans sz) ⟨by rw [e1];exact .of Af,fun e he=> ?_,?_,fun e he=> ?_⟩ (fun q=> ?_) ?_
 . obtain⟨x,hx,rfl⟩:=aE.mp he
   exact(a9 x hx).mono sz
 . rw [e2]
   exact bO.mpr (a7.sublist List.filter_sublist)
 . obtain⟨x,hx,rfl⟩:=aE.mp he
   have:x.2∈us.filter fun t=>decide (Bq ts t.2≠0):=by rw [<-hv];exact aE.mpr ⟨x,hx,rfl⟩
   simpa using(dJ.mp this).2
 . rw [e2,Lk (Bq ts) q us a8]
   split
   . rfl
   . rename_i hq
     rcases O.vl q with h | ⟨_,h⟩
     . obtain⟨t,ht,et⟩:=aE.mp (a1.mem_iff.mpr (Wu h))
       exact absurd (aE.mpr ⟨t,ht,Uc et⟩) hq
     . exact h.symm
 . have e3:=bE length hv
   rw [aC]at e3
   rw [aC,e3]
   refine aO (dF _ _) ?_
   rw [lu]
   have:=O.le
   omega
structure Tw (K:Frag) (H:Hp) (v:V) (e:List Int × Int):Prop where
 at_:∃a b,v= .ref a/\SqT K H a [.ref b,.int e.2]/\SqT K H b (e.1.map V.int)
 ln:e.1.length=3
theorem Te.weak (h:Te K H v e):Tw K H v e:=by
 obtain⟨⟨a,b,G,J,O⟩,l⟩:=h
 exact⟨⟨a,b,G,J,.of O⟩,l⟩
theorem Tw.mono (h:Tw K H v e) (s:Same H H'):Tw K H' v e:=by
 obtain⟨⟨a,b,G,J,O⟩,l⟩:=h
 exact⟨⟨a,b,G,s.tup J,s.tup O⟩,l⟩
structure J4 (K:Frag) (H:Hp) (a:Addr) (fs:List (V × (List Int × Int))):Prop where
 it:SqT K H a (fs.map (·.1))
 al:∀e∈fs,Tw K H e.1 e.2
 up:UpT (fs.map (·.2))
 nn:∀e∈fs,e.2.2≠0
theorem Frm.weak {H:Hp}{a:Addr}{fs:List (V × (List Int × Int))} (h:Frm K H a fs):J4 K H a fs:=⟨h.it,fun e G=>(h.al e G).weak,h.up,h.nn⟩
theorem J4.mono {H H':Hp}{a:Addr}{fs:List (V × (List Int × Int))} (h:J4 K H a fs) (s:Same H H'):J4 K H' a fs:=⟨s.tup h.it,fun e G=>(h.al e G).mono s,h.up,h.nn⟩
structure Tws (K:Frag) (H:Hp) (a:Addr) (fs:List (V × (List Int × Int))):Prop where
 it:SqT K H a (fs.map (·.1))
 al:∀e∈fs,Tw K H e.1 e.2
theorem J4.ts {fs:List (V × (List Int × Int))} (h:J4 K H a fs):Tws K H a fs:=⟨h.it,h.al⟩
theorem Frm.mono {H H':Hp}{a:Addr}{fs:List (V × (List Int × Int))} (h:Frm K H a fs) (s:Same H H'):Frm K H' a fs:=⟨s.tup h.it,fun e G=>(h.al e G).mono s,h.up,h.nn⟩
theorem Frm.same {b:Addr}{fs G:List (V × (List Int × Int))} (h:Frm K H a fs) (g:Frm K H' b G) (e:∀k,Bq (fs.map (·.2)) k=Bq (G.map (·.2)) k):fs.map (·.2)=G.map (·.2):=
 Qd _ _ h.up g.up (fun x J=>by
  obtain⟨y,O,rfl⟩:=aE.mp J
  exact h.nn y O) (fun x J=>by
  obtain⟨y,O,rfl⟩:=aE.mp J
  exact g.nn y O) e
noncomputable def fD3 (e:List Int × Int):PyData:= .tuple [.tuple (e.1.map .int),.int e.2]
theorem Ue:∀us:List (List Int × Int),PyData.canLayAll0 (us.map fD3)=true
 | []=>rfl
 | c::cs=>by simp [fD3,PyData.canLayAll0,PyData.canLay0,lA,Ue cs]
theorem T8:∀us:List (List Int × Int),PyData.depthAll (us.map fD3)<=8
 | []=>by simp [PyData.depthAll]
 | c::cs=>by
   have:=T8 cs
   simp only [bC,PyData.depthAll,PyData.depth,fD3,ke_depthAll]at this ⊢
   exact Nat.max_le.mpr ⟨by simp,this⟩
theorem Ik (us:List (List Int × Int)):SeqAt.shaped (.tuple (us.map fD3))=true:=by
 have h1:=Ue us
 have h2:=T8 us
 simp [SeqAt.shaped,PyData.canLay0,PyData.depth,h1]
 omega
theorem Aa0 {H:Hp}:∀fs:List (V × (List Int × Int)),(∀e∈fs,Te K H e.1 e.2)->Q8 K H (fs.map (·.1)) ((fs.map (·.2)).map fD3)
 | [],_=> .nil
 | t::r,h=>by
   obtain⟨⟨a,b,G,J,O⟩,_⟩:=h t (.head _)
   refine .cons ?_ (Aa0 r fun u U=>h u (.tail _ U))
   show RdD K H t.1 (fD3 t.2)
   rw [G]
   exact .tup J (.cons (RdD.ints (.of O)) (.cons (.int _) .nil))
theorem Pq:∀us G:List (List Int × Int),PyData.eqvAll (us.map fD3) (G.map fD3)=decide (us=G)
 | [],[]=>by simp [PyData.eqvAll]
 | [],_::_=>by simp [PyData.eqvAll]
 | _::_,[]=>by simp [PyData.eqvAll]
 | a::r,b::t=>by
   simp only [bC,PyData.eqvAll,PyData.eqv,fD3,Jj,Bool.and_true]
   rw [Pq r t]
   by_cases h':r=t
   . by_cases h1:a.1=b.1<;>by_cases h2:a.2=b.2<;>simp [h1,h2,h',Prod.ext_iff]
   . simp [h']
noncomputable def Jw (K:Frag):Sp:=fun vs H Q _=>∃(a b:Addr) (fs gs:List (V × (List Int × Int))),vs=[.ref a,.ref b]/\Frm K H a fs/\Frm K H b gs/\fs.length+gs.length<16000000/\
 ∀z H' hs,Same H H'->Frm K H' z hs->(∀k,Bq (hs.map (·.2)) k=Bq (fs.map (·.2)) k+Bq (gs.map (·.2)) k)->hs.length<=fs.length+gs.length->Q (.ref z) H'
theorem Aag (F:Df K mg "f_plus" Qo zT f fd)    (G:Cal P w K mg base 1 "form" yL (U9 K)):Cal P w K mg base 2 "f_plus" zT (Jw K):=by
 refine F.cal (F.fn.ok Aba (fun vs H Q E h=> ?_) (fun a1 A outer s H vs Q E hr h=> ?_))
 . obtain⟨a,b,fs,U,rfl,_⟩:=h
   rfl
 obtain⟨a,b,fs,U,rfl,W,Z,hl,k⟩:=h
 refine Aw ⟨_,(Ag (Ar (Aj G hr (Aa (Ah Aal (Ae 0) (Ae 1)) Ab)))),?_⟩
 done
 refine⟨a,b,_,_,rfl,rfl,W.it,Z.it,?_,fun z H1 O h1=> ?_⟩
 . rw [aC,aC]
   exact aO (fY hl) (by decide)
 rw [<-aQ]at h1
 refine⟨z,fs++U,rfl,.inr h1,fun e J=> ?_,by rw [aH];exact hl,fun z2 H2 hs s2 fr et el=>k z2 H2 hs (O.trans s2) fr (fun q=> ?_) (by rw [aH]at el;exact el)⟩
 . rcases bG.mp J with J | J
   . exact(W.al e J).mono O
   . exact(Z.al e J).mono O
 . rw [et q,aQ,Qz]
theorem O8 {H1:Hp}{p:Addr}{cσ:St}{g:TG}{te:TE}{Q:VK}{α:Type}{es:List α}{inj:α->V}{J:It} (G:α->V->Hp->Prop)
 (mono:∀e v H H',G e v H->Same H H'->G e v H') (put:∀e v H ys zs,G e v H->H p=some (.lst ys)->G e v (upd H p (.lst zs))) (Z:es.length<=sizeLine) (hp:H1 p=none) (hJ:Wk J H1 es inj)
 (step:∀(e:α) (H':Hp) (R:VK),e∈es->Same H1 H'->(∀v W,Same H' W->G e v W->R v W)->g (inj e) cσ H' fun O H4=>Kp cσ O/\te O H4 R)
 (U:∀H' (vs:List (V × α)),Same H1 H'->H' p=some (.lst (vs.map (·.1)))->vs.map (·.2)=es->(∀x∈vs,G x.2 x.1 H')->Q (.ref p) H'):cIn J cσ g J2 te Q H1 p:=
 Mg (fun _=>true) G mono put Z hp hJ (fun e H' R RF he s hR _=>step e H' R he s (hR rfl)) (fun H' vs s h ev hr=>U H' vs s h (by rw [ev];exact List.filter_eq_self.mpr fun _ _=>rfl) hr)
theorem Vd {e:List Key × V}:∀ {kvs:List (List Key × V)},(kvs.map (·.1)).Nodup->e∈kvs->Gi kvs e.1=some e.2
 | [],_,h=>nomatch h
 | p::r,nd,h=>by
   have n:=eQ.mp nd
   rcases aS.mp h with rfl | h
   . exact Dq rfl
   . rw [Dp fun z=>n.1 (aE.mpr ⟨e,h,z.symm⟩)]
     exact Vd n.2 h
structure Pn (H:Hp) (t:Prt) (e:List Key × V):Prop where
 pr:H t.1=some (.tup [.ref t.2.1,t.2.2.2])
 tu:H t.2.1=some (.tup (t.ks.map V.int))
 ky:(t.ks.map Sum.inl:List Key)=e.1
 vl:t.2.2.2=e.2
theorem Pn.mono {t:Prt}{e:List Key × V} (h:Pn H t e) (s:Same H H'):Pn H' t e:=⟨s _ _ h.pr,s _ _ h.tu,h.ky,h.vl⟩
theorem Pn.put {t:Prt}{e:List Key × V} (h:Pn H t e) (G:H f=some (.lst zs)):Pn (upd H f (.lst ys)) t e:=
 ⟨by rw [Ax (G6 h.pr G (fun z=>nomatch z))];exact h.pr,by rw [Ax (G6 h.tu G (fun z=>nomatch z))];exact h.tu,h.ky,h.vl⟩
theorem Ak2 {H:Hp}:∀G:List (V × (List Key × V)),(∀x∈G,∃t:Prt,x.1= .ref t.1/\Pn H t x.2)->
 ∃ts:List Prt,ts.map (fun t=>V.ref t.1)=G.map (·.1)/\(∀t∈ts,∃x∈G,Pn H t x.2)/\ts.map (fun t=>(t.ks.map Sum.inl:List Key))=(G.map (·.2)).map (·.1)
 | [],_=>⟨[],rfl,by simp,rfl⟩
 | x::r,h=>by
   obtain⟨t,a,b⟩:=h x (.head _)
   obtain⟨ts,U,W,Z⟩:=Ak2 r fun y J=>h y (.tail _ J)
   refine⟨t::ts,by rw [bC,bC,U,a],fun u O=> ?_,by rw [bC,bC,bC,Z,b.ky]⟩
   rcases aS.mp O with rfl | O
   . exact⟨x,.head _,b⟩
   . obtain⟨y,J,p⟩:=W u O
     exact⟨y,.tail _ J,p⟩
noncomputable def Jz (K:Frag):Sp:=fun vs H Q _=>∃(a:Addr) (es:List (V × (List Int × Int))),vs=[.ref a]/\SqL K H a (es.map (·.1))/\(∀e∈es,Te K H e.1 e.2)/\es.length<16000000/\
 ∀z H' fs,Same H H'->Frm K H' z fs->(∀k,Bq (fs.map (·.2)) k=Bq (es.map (·.2)) k)->Q (.ref z) H'
theorem Adk (F:Df K mg "_law_sum" Qq yB f fd)  (Z:mg "tuple"=none) (U:mg "sorted"=none)   :Cal P w K mg base 1 "_law_sum" yB (Jz K):=by
 refine F.cal (F.fn.ok Lj (fun vs H Q E h=> ?_) (fun aj A outer s H vs Q E hr h=> ?_))
 . obtain⟨a,es,rfl,_⟩:=h
   rfl
 obtain⟨a,es,rfl,hS,hT,ak,k⟩:=h
 refine Aw ⟨_,(Ac (Am 1 Lj.nd Ls)
  (Ac (Bt bR rfl (Du (Ae 0)) (Cg rfl (Al (Aq 2 Lj.nd) (Al (Aq 3 Lj.nd) Bg))) (Ag (Ig (hu1 hr.units) (Ae 1) (Ae 2) (Ah Bw (Iv (hu1 hr.units) (Ae 1) (Ae 2) Ad ⟨rfl,rfl,rfl,rfl⟩) (Ae 3)) rfl)))
  (Ag (Ar (Bu Bm rfl Z bJ (Aa (Bf (Tv hr.units) rfl U kB (Aa (Bk (ts:=yC) (fs:=[]) rfl (Dg.of (sc:=Ak Qq) (N:=yD) rfl rfl (by decide+kernel)) (Ti (Ae 1) ⟨rfl,rfl,rfl,rfl⟩) (fun _ _ _=>(Ej K 2 rfl rfl (Al (Aq 0 (show Nodup (yC:List Str)by decide+kernel)) (Al (Aq 1 (show Nodup (yC:List Str)by decide+kernel)) Bg)))) (fun _ _ _=>(Oc (Av Qi (Ae 1) Ad (Bl _)))) (fun _ _ _=>(Az (Aa (Ae 0) (Aa (Ae 1) Ab))))) Ab)) Ab)))))),?_⟩
 done
 intro d hd
 have s1:=Same.upd hd (.dT [])
 refine⟨⟨_,s1.seq hS⟩,Mr (es:=es) (inj:=(·.1)) (fun a4 a5 H'=>∃(G:List (List Key × V)) (o2 o3:Option V),a5=[some (.ref a),some (.ref d),o2,o3]/\Sus H H' d G (a4.map (·.2))) ⟨[],_,_,rfl,⟨s1,Af,aL _,by simp,by simp,fun _=> .inr ⟨rfl,rfl⟩⟩⟩ ?_ ?_ ?_⟩
 . rintro a4 a5 H' ⟨G,o2,o3,rfl,O⟩
   exact Gw (O.sm.seq hS)
 . rintro a4 e ai a5 H' hE ⟨G,o2,o3,rfl,O⟩
   have hm:e∈es:=by rw [hE];simp
   obtain⟨⟨b,c,eb,hb,hc⟩,ln⟩:=(hT e hm).mono O.sm
   rw [eb]
   refine Dd hb ?_
   done
   have ek:H' c=some (.tup ((e.2.1.map Sum.inl:List Key).map kV)):=by rw [Vy];exact hc
   refine⟨.inr ⟨G,.inl O.it⟩,_,N8.t O.it ek,?_⟩
   have ev:(Gi G (e.2.1.map Sum.inl)).getD (.int 0)= .int (Bq (a4.map (·.2)) e.2.1):=by
    rcases O.vl e.2.1 with h | ⟨h,h0⟩
    . rw [h]
      rfl
    . rw [h,h0]
      rfl
   rw [ev]
   try done
   refine⟨d,_,rfl,Ab4.t O.it ek ?_,putK G (e.2.1.map Sum.inl) (.int (Bq (a4.map (·.2)) e.2.1+e.2.2)),_,_,rfl,?_⟩
   . have l1:=O.le
     have l2:=bE length hE
     rw [aH]at l2
     rw [aC]at l1
     exact cN (show G.length<=16000000 by omega) (by decide)
   . rw [aQ]
     exact O.put hd ln rfl
 rintro a5 H' ⟨G,o2,o3,rfl,O⟩
 obtain⟨ts,a6⟩:∃ts:List (List Int × Int),es.map (·.2)=ts:=⟨_,rfl⟩
 have al:ts.length=es.length:=by rw [<-a6,aC]
 rw [a6]at O
 rw [a6]at k
 have a9:G.length<16000000:=by
  have l1:=O.le
  omega
 have vk:∀e∈G,e.2= .int (Bq ts (e.1.map toI))/\(e.1.map toI).length=3/\((e.1.map toI).map Sum.inl:List Key)=e.1:=fun e W=>by
  obtain⟨ks,e1,e2⟩:=O.ky e W
  have e3:e.1.map toI=ks:=by rw [e1,Jc]
  rw [e3]
  refine⟨?_,e2,e1.symm⟩
  have v:=Vd O.nd W
  rw [e1]at v
  rcases O.vl ks with h | ⟨h,_⟩
  . rw [h]at v
    exact(aY v).symm
  . rw [h]at v
    cases v
 done
 refine⟨d,G,rfl,O.it,fun od p hp=> ?_⟩
 have ac:Same H (upd H' d (.frz od (.dT G))):=O.sm.put hd
 refine Ys (fun e=>decide (e.2≠ .int 0)) (fun e v H=>∃t:Prt,v= .ref t.1/\Pn H t e) (fun e v H H' ⟨t,a,b⟩ s=>⟨t,a,b.mono s⟩) (fun e v H ys zs ⟨t,a,b⟩ h=>⟨t,a,b.put h⟩) (aO (fY a9) (by decide)) hp Af ?_ ?_
 . intro e H3 b q R RF W s3 hb hq k1 k2
   obtain⟨v1,v2,v3⟩:=vk e W
   rw [v1]at hq
   refine Dd (.of hq) ?_
   done
   by_cases w0:Bq ts (e.1.map toI)=0
   . rw [aI w0]
     exact k2 (by rw [v1,w0];rfl) _ (Same.refl _)
   . rw [aF w0]
     rw [<-v3,Vy]at hb
     exact fun p2 aa=>k1 (by rw [v1];exact cO fun z=>w0 (V.int.inj z)) _ _ (Same.upd aa _) ⟨(p2,b,e.1.map toI,.int (Bq ts (e.1.map toI))),rfl,⟨Af,Same.upd aa _ _ _ hb,v3,v1.symm⟩⟩
 intro H3 vs s3 h3 hv ad
 obtain⟨J,e1,ae,e2⟩:=Ak2 vs ad
 rw [hv]at e2
 have nd3:(J.map Prt.ks).Nodup:=by
  have h1:((G.filter fun e=>decide (e.2≠ .int 0)).map (·.1)).Nodup:=O.nd.sublist (List.filter_sublist.map _)
  rw [<-e2]at h1
  refine bO.mpr ((bO.mp h1).imp fun h z=>h ?_)
  rw [z]
 have l3:J.length<16000000:=by
  have h1:=bE length e2
  rw [aC,aC]at h1
  rw [h1]
  exact cN (dF _ _) a9
 have a7:∀t∈J,t.2.2.2= .int (Bq ts t.ks)/\Bq ts t.ks≠0/\t.ks.length=3/\H3 t.1=some (.tup [.ref t.2.1,.int (Bq ts t.ks)])/\H3 t.2.1=some (.tup (t.ks.map V.int)):=fun t ht=>by
  obtain⟨x,hx,pn⟩:=ae t ht
  have af:x.2∈G.filter fun e=>decide (e.2≠ .int 0):=by rw [<-hv];exact aE.mpr ⟨x,hx,rfl⟩
  obtain⟨hk,hn⟩:=dJ.mp af
  obtain⟨v1,v2,v3⟩:=vk x.2 hk
  have ek:x.2.1.map toI=t.ks:=by rw [<-pn.ky,Jc]
  rw [ek]at v1 v2
  have pr:=pn.pr
  rw [pn.vl,v1]at pr
  refine⟨by rw [pn.vl,v1],fun z=> ?_,v2,pr,pn.tu⟩
  have:=dY hn
  exact this (by rw [v1,z])
 rw [<-e1]at h3
 refine⟨p,J,rfl,.of h3,fun t ht=> ?_,nd3,l3,fun l us hl a8 ag=>⟨l,_,rfl,.inl ⟨.of Af,fun z hz=> ?_⟩⟩⟩
 . obtain⟨a1,_,_,a2,a3⟩:=a7 t ht
   exact⟨by rw [a1];exact .of a2,.of a3⟩
 have s4:=(Same.upd hl (.lst (us.map fun t=>V.ref t.1))).trans (Same.upd hz (.tup (us.map fun t=>V.ref t.1)))
 have f1:(us.map fun t=>((V.ref t.1,(t.ks,Bq ts t.ks)):V × (List Int × Int))).map (·.1)=us.map fun t=>V.ref t.1:=by rw [aZ];rfl
 have f2:(us.map fun t=>((V.ref t.1,(t.ks,Bq ts t.ks)):V × (List Int × Int))).map (·.2)=us.map fun t=>(t.ks,Bq ts t.ks):=by rw [aZ];rfl
 refine k z _ (us.map fun t=>(V.ref t.1,(t.ks,Bq ts t.ks))) ((ac.trans s3).trans s4) ⟨by rw [f1];exact .of Af,fun e W=> ?_,?_,fun e W=> ?_⟩ (fun q=> ?_)
 . obtain⟨t,ht,rfl⟩:=aE.mp W
   obtain⟨_,_,a0,a2,a3⟩:=a7 t (a8.mem_iff.mp ht)
   exact⟨⟨t.1,t.2.1,rfl,.of (s4 _ _ a2),s4 _ _ a3⟩,a0⟩
 . rw [f2]
   exact bO.mpr ag
 . obtain⟨t,ht,rfl⟩:=aE.mp W
   exact(a7 t (a8.mem_iff.mp ht)).2.1
 . rw [f2,Abn (a8.map fun t=>(t.ks,Bq ts t.ks)) q]
   have g1:J.map (fun t=>t.ks)=(G.filter fun e=>decide (e.2≠ .int 0)).map fun e=>e.1.map toI:=by
    have:=bE (List.map (List.map toI)) e2
    rw [aZ,aZ]at this
    have h0:J.map (List.map toI ∘ fun t=>(t.ks.map Sum.inl:List Key))=J.map fun t=>t.ks:=dZ fun t _=>Jc t.ks
    rw [h0]at this
    exact this
   have g2:J.map (fun t=>(t.ks,Bq ts t.ks))=((G.map fun e=>((0,e.1.map toI):Tpt)).filter fun t=>decide (Bq ts t.2≠0)).map fun t=>(t.2,Bq ts t.2):=by
    have h1:J.map (fun t=>(t.ks,Bq ts t.ks))=(J.map fun t=>t.ks).map fun q=>(q,Bq ts q):=by rw [aZ];rfl
    rw [h1,g1,aZ,List.filter_map,aZ]
    have h2:(G.filter fun e=>decide (e.2≠ .int 0))=G.filter ((fun t:Tpt=>decide (Bq ts t.2≠0)) ∘ fun e=>((0,e.1.map toI):Tpt)):=by
     refine List.filter_congr fun e W=> ?_
     rw [(vk e W).1]
     show decide (V.int (Bq ts (e.1.map toI))≠ .int 0)=decide (Bq ts (e.1.map toI)≠0)
     simp
    rw [h2]
    rfl
   have ah:((G.map fun e=>((0,e.1.map toI):Tpt)).map fun t=>t.2).Nodup:=by
    rw [aZ]
    refine bO.mpr ?_
    have:=bO.mp O.nd
    refine Pairwise.imp_of_mem (fun {x y} hx hy h z=>h ?_) this
    rw [<-(vk x hx).2.2,<-(vk y hy).2.2]
    exact bE (List.map Sum.inl) z
   rw [g2,Lk (Bq ts) q _ ah]
   split
   . rfl
   . rename_i hq
     rcases O.vl q with h | ⟨_,h⟩
     . obtain⟨e,W,ee⟩:=aE.mp (Wu h)
       refine absurd (aE.mpr ⟨(0,e.1.map toI),aE.mpr ⟨e,W,rfl⟩,?_⟩) hq
       show e.1.map toI=q
       rw [ee,Jc]
     . exact h.symm
theorem W2 (h:x.natAbs<2^60):Builtin.Int.intBits x<=64:=aO (lI.mpr h) (by decide)
structure Dr (l:Addr) (H H':Hp) (ms:List Int):Prop where
 sm:∀b u,b≠l->H b=some u->H' b=some u
 it:H' l=some (.lst (ms.map V.int))
theorem Dr.trans (a:Dr l H H1 ms) (b:Dr l H1 H2 ns):Dr l H H2 ns:=⟨fun c u n e=>b.sm c u n (a.sm c u n e),b.it⟩
theorem Dr.same (a:Dr l H H1 ms) (s:Same H1 H2):Dr l H H2 ms:=⟨fun c u n e=>s _ _ (a.sm c u n e),s _ _ a.it⟩
theorem Dr.of (e:H l=some (.lst (ms.map V.int))) (s:Same H H'):Dr l H H' ms:=⟨fun c u _ e=>s _ _ e,s _ _ e⟩
noncomputable def Fz (K:Frag):Sp:=fun vs H Q _=>∃(l:Addr) (m:Int) (ns:List Int),vs=[.ref l,.int m]/\H l=some (.lst (ns.map V.int))/\0<m/\∀r H' ms,0<=r->r<m->Dr l H H' ms->Q (.int r) H'
theorem Aaj (F:Df K mg "_law_next" Qp zD f fd)     :Cal P w K mg base 1 "_law_next" zD (Fz K):=by
 refine F.cal (F.fn.ok Abd (fun W H Q E h=> ?_) (fun Z A outer s H W Q E hr h=> ?_))
 . obtain⟨l,m,ns,rfl,_⟩:=h
   rfl
 obtain⟨l,m,ns,rfl,U,G,k⟩:=h
 refine Aw ⟨_,(Ac (Bp (Av (Oq hr.units) (Ae 0) (Bs Ab) (Bl _)) (Ag (Ar Ad)) Ba)
  (Ag (Ar (Ah Hv (Gf dG PySem.F.slot_list_pop PySem.F.type_list_pop Ade (Ae 0) (Aa Ad Ab)) (Ae 1))))),?_⟩
 done
 refine⟨by decide,fun p hp=> ?_⟩
 have J:=Same.upd hp (.lst [])
 have O:=J _ _ U
 refine Acx (ms:=[]) (.of O) (.of Af) ?_
 try done
 cases ns with
 | nil=>
   rw [aI rfl]
   exact k 0 _ [] (by omega) G (.of U J)
 | cons x r=>
   rw [aF (by simp)]
   refine⟨.inl ⟨rfl,_,.of O⟩,l,_,0,0,.int x,rfl,rfl,O,by decide,by decide,by simp [seqIndex?],rfl,?_⟩
   try done
   refine⟨G,k _ _ r (Int.emod_nonneg _ (by omega)) (Int.emod_lt_of_pos _ G) ⟨fun b u n e=> ?_,Af⟩⟩
   rw [Ax n]
   exact J _ _ e
theorem Gh {m:Int} (h:H l=some (.lst (ns.map V.int))) (G:0<m) (k:∀r H' ms,0<=r->r<m->Dr l H H' ms->Q (.int r) H'):Fz K [.ref l,.int m] H Q E:=⟨l,m,ns,rfl,h,G,k⟩
noncomputable def Jb (K:Frag):Sp:=fun vs H Q _=>∃(l:Addr) (ns:List Int),vs=[.ref l]/\H l=some (.lst (ns.map V.int))/\∀(r:Int) H' ms,r.natAbs<=10^20->Dr l H H' ms->Q (.int r) H'
theorem Us (F:Df K mg "_law_weight" Ko zF f fd)    (G:Cal P w K mg base 1 "_law_next" zD (Fz K)):Cal P w K mg base 2 "_law_weight" zF (Jb K):=by
 refine F.cal (F.fn.ok M9 (fun vs H Q E h=> ?_) (fun a1 A outer s H vs Q E O h=> ?_))
 . obtain⟨l,ns,rfl,_⟩:=h
   rfl
 obtain⟨l,ns,rfl,hS,k⟩:=h
 refine Aw ⟨_,(Ac (Am 1 M9.nd (Aj G O (Aa (Ae 0) (Aa Ad Ab))))
  (Ac (Bp (Av Kf (Ae 1) Ad (Bl _)) (Ag (Ar (Ah Ot (Aj G O (Aa (Ae 0) (Aa (Ah Dm Ad (Ah Hw Ad Ad)) Ab))) (Ah Hw Ad Ad)))) Ba)
  (Ag (Ar (Ah Ot (Aj G O (Aa (Ae 0) (Aa Ad Ab))) Ad))))),?_⟩
 done
 refine Gh hS (by decide) fun r H1 ms r0 r1 J=> ?_
 try done
 split
 . refine⟨⟨by decide,by decide,by decide⟩,.of_left (W2 (by decide)),Gh J.it (by decide) fun r2 H2 U x0 x1 W=> ?_⟩
   try done
   have Z:(10:Int)^toNat 20=100000000000000000000:=by decide
   rw [Z]at x1 ⊢
   exact⟨⟨by decide,by decide,by decide⟩,k _ _ _ (by omega) (J.trans W)⟩
 . refine Gh J.it (by decide) fun r2 H2 U x0 x1 W=> ?_
   try done
   exact k _ _ _ (by omega) (J.trans W)
theorem Dr.tup {l a:Addr}{H H':Hp}{ms:List Int}{zs xs:List V} (d:Dr l H H' ms) (G:H l=some (.lst zs)) (e:H a=some (.tup xs)):H' a=some (.tup xs):=d.sm _ _ (G6 e G (fun z=>nomatch z)) e
theorem Dr.sqT (d:Dr l H H' ms) (G:H l=some (.lst zs)) (h:SqT K H a xs):SqT K H' a xs:=by
 rcases h with(e | ⟨o,e⟩) | h
 . exact .inl (.inl (d.tup G e))
 . exact .inl (.inr ⟨o,d.sm _ _ (G6 e G (fun z=>nomatch z)) e⟩)
 . exact .inr h
theorem Dr.back (d:Dr l H1 H2 ms) (n:H l=none) (s:Same H H1):Same H H2:=fun b u e=>d.sm b u (Ay e n) (s _ _ e)
theorem Te.dr (h:Te K H v e) (d:Dr l H H' ms) (G:H l=some (.lst zs)):Te K H' v e:=by
 obtain⟨⟨a,b,J,O,U⟩,n⟩:=h
 exact⟨⟨a,b,J,d.sqT G O,d.tup G U⟩,n⟩
noncomputable def Lo (q:Nat) (e:List Int × Int):Prop:=(∀x∈e.1,0<=x/\x<=(q:Int))/\e.2.natAbs<=10^20
structure TmJ (K:Frag) (q:Nat) (H H':Hp) (l f:Addr) (ms:List Int) (es:List (V × (List Int × Int))):Prop where
 dr:Dr l H H' ms
 it:H' f=some (.lst (es.map (·.1)))
 al:∀e∈es,Te K H' e.1 e.2
 lo:∀e∈es,Lo q e.2
noncomputable def Im (K:Frag):Sp:=fun vs H Q _=>∃(l:Addr) (ns:List Int) (m q:Nat),vs=[.ref l,.int (m:Nat),.int (q:Nat)]/\H l=some (.lst (ns.map V.int))/\m<=20/\q<=20/\∀f H' ms es,H f=none->TmJ K q H H' l f ms es->es.length<=m->Q (.ref f) H'
theorem Xp (F:Df K mg "_law_terms" M7 zG f fd)  (O:mg "range"=none)  (G:Cal P w K mg base 1 "_law_next" zD (Fz K)) (J:Cal P w K mg base 2 "_law_weight" zF (Jb K)):Cal P w K mg base 3 "_law_terms" zG (Im K):=by
 refine F.cal (F.fn.ok Ij (fun vs H Q E h=> ?_) (fun a7 A outer s H vs Q E hr h=> ?_))
 . obtain⟨l,ns,m,q,rfl,_⟩:=h
   rfl
 obtain⟨l,ns,m,q,rfl,hS,hm,hq,k⟩:=h
 refine Aw ⟨_,(Ac (Am 3 Ij.nd (Bs Ab))
  (Ac (Bt bR rfl (Bv rfl O (Aa (Aj G hr (Aa (Ae 0) (Aa (Ah Bw (Ae 1) Ad) Ab))) Ab)) (Aq 4 Ij.nd) (Ac (Am 5 Ij.nd (Az (Aa (Aj G hr (Aa (Ae 0) (Aa (Ah Bw (Ae 2) Ad) Ab))) (Aa (Aj G hr (Aa (Ae 0) (Aa (Ah Bw (Ae 2) Ad) Ab))) (Aa (Aj G hr (Aa (Ae 0) (Aa (Ah Bw (Ae 2) Ad) Ab))) Ab)))))
  (Ag (Dy (Gf dG eK eJ Fv (Ae 3) (Aa (Az (Aa (Ae 5) (Aa (Aj J hr (Aa (Ae 0) Ab)) Ab))) Ab))))))
  (Ag (Ar (Ae 3))))),?_⟩
 done
 refine⟨by decide,fun f hf=> ?_⟩
 have s1:=Same.upd hf (.lst [])
 have g1:=s1 _ _ hS
 have nl:l≠f:=Ay hS hf
 refine Gh g1 (by omega) fun c H2 ms c0 c8 d2=> ?_
 try done
 have a3:Dr l H H2 ms:=⟨fun b u n e=>d2.sm b u n (s1 _ _ e),d2.it⟩
 have f2:H2 f=some (.lst []):=d2.sm _ _ (cC nl) Af
 refine⟨by omega,by omega,?_⟩
 refine Am9 c.toNat (fun i=> .int (0+(i:Nat))) (fun i W H'=>∃(ms:List Int) (es:List (V × (List Int × Int))) (o4 o5:Option V),W=[some (.ref l),some (.int (m:Nat)),some (.int (q:Nat)),some (.ref f),o4,o5]/\TmJ K q H H' l f ms es/\es.length=i) ⟨ms,[],_,_,rfl,⟨a3,f2,by simp,by simp⟩,rfl⟩ ?_ ?_ ?_
 . rintro i W H' _
   exact Gx
 . rintro i W H' hi ⟨ms,es,o4,o5,rfl,Z,tl⟩
   done
   refine Gh Z.dr.it (by omega) fun x1 H3 m3 a8 a9 d3=> ?_
   try done
   refine Gh d3.it (by omega) fun x2 H4 m4 aa ac d4=> ?_
   try done
   refine Gh d4.it (by omega) fun x3 H5 m5 ad ae d5=> ?_
   try done
   have a4:=(d3.trans d4).trans d5
   refine⟨by decide,fun p hp=> ?_⟩
   have sp:=Same.upd hp (.tup [V.int x1,V.int x2,V.int x3])
   have gp:upd H5 p (.tup [V.int x1,V.int x2,V.int x3]) p=some (.tup [V.int x1,V.int x2,V.int x3]):=Af
   generalize upd H5 p (.tup [V.int x1,V.int x2,V.int x3])=H6 at sp gp
   have d6:=a4.same sp
   refine⟨.inl ⟨rfl,_,.of (d6.sm _ _ (cC nl) Z.it)⟩,l,m5,rfl,d6.it,fun w H7 m7 wb d7 p1 a5=> ?_⟩
   have a1:=Same.upd a5 (.tup [V.ref p,V.int w])
   have a2:upd H7 p1 (.tup [V.ref p,V.int w]) p1=some (.tup [V.ref p,V.int w]):=Af
   generalize upd H7 p1 (.tup [V.ref p,V.int w])=H8 at a1 a2
   have dd:Dr l H' H8 m7:=(d6.trans d7).same a1
   have f8:=dd.sm _ _ (cC nl) Z.it
   have tn:Te K H8 (.ref p1) ([x1,x2,x3],w):=⟨⟨p1,p,rfl,.of a2,a1 _ _ (d7.tup d6.it gp)⟩,rfl⟩
   refine⟨f,_,_,rfl,rfl,f8,?_,m7,es++ [(.ref p1,([x1,x2,x3],w))],_,_,rfl,⟨⟨fun b u n e=> ?_,?_⟩,?_,fun t U=> ?_,fun t U=> ?_⟩,?_⟩
   . rw [aC]
     exact bB (show es.length<30 by omega) (by decide)
   . rw [Ax (Ay e hf)]
     exact dd.sm b u n (Z.dr.sm b u n e)
   . rw [Ax nl]
     exact dd.it
   . rw [Af,aQ]
     rfl
   . rcases bG.mp U with U | U
     . exact((Z.al t U).dr dd Z.dr.it).put f8
     . have e:t=(.ref p1,([x1,x2,x3],w)):=by simpa using U
       rw [e]
       exact tn.put f8
   . rcases bG.mp U with U | U
     . exact Z.lo t U
     . have e:t=(.ref p1,([x1,x2,x3],w)):=by simpa using U
       rw [e]
       refine⟨fun x hx=> ?_,wb⟩
       have a6:x=x1\/x=x2\/x=x3:=by simpa using hx
       rcases a6 with rfl | rfl | rfl<;>omega
   . rw [aH,tl]
     rfl
 . rintro W H' ⟨ms,es,o4,o5,rfl,Z,tl⟩
   done
   exact k f H' ms es hf Z (by omega)
structure Mst (fs:List (V × (List Int × Int))) (j:Nat) (M:Int):Prop where
 le:∀e∈fs,e.2.1.getD j 0<=M
 no:fs=[]->M=0
 is:fs≠ []->∃e∈fs,e.2.1.getD j 0=M
noncomputable def Qx (K:Frag):Sp:=fun vs H Q _=>∃(a:Addr) (fs:List (V × (List Int × Int))) (j:Nat),vs=[.ref a,.int (j:Nat)]/\J4 K H a fs/\fs.length<16000000/\j<3/\∀M H',Same H H'->Mst fs j M->Q (.int M) H'
theorem Agy (F:Df K mg "most" Wi zP f fd)  (G:mg "max"=none)   :Cal P w K mg base 1 "most" zP (Qx K):=by
 refine F.cal (F.fn.ok Ahs (fun Z H Q E h=> ?_) (fun a1 A outer s H Z Q E hr h=> ?_))
 . obtain⟨a,fs,j,rfl,_⟩:=h
   rfl
 obtain⟨a,fs,j,rfl,U,hl,hj,k⟩:=h
 refine Aw ⟨_,(Ag (Ar (Ob rfl rfl G (Aa (Bk (ts:=yA) (fs:=[(1,"place")]) rfl (Dg.of (sc:=Ak Wi) (N:=zP) rfl rfl (by decide+kernel)) (Ea (Ae 0)) (fun _ _ _=>(Ej K 2 rfl rfl (Al (Aq 0 (show Nodup (["powers","weight","place"]:List Str)by decide+kernel)) (Al (Aq 1 (show Nodup (["powers","weight","place"]:List Str)by decide+kernel)) Bg)))) (fun _ _ _=>Bo) (fun _ _ _=>(Bj (Hu K) (Ae 0) (Ae 2) (fun _ _=>rfl)))) Ab) Ad))),?_⟩
 done
 refine⟨⟨_,U.it⟩,fun p hp=>Fj (es:=fs) (inj:=(·.1)) (fun e=> .int (e.2.1.getD j 0)) (aO (fY hl) (by decide)) hp (K8 U.it) ?_ ?_⟩
 . intro e H2 R J O hR
   obtain⟨⟨b,d,eb,hb,hd⟩,ln⟩:=(U.al e J).mono O
   rw [eb]
   refine Dd hb ?_
   done
   refine Ip hd (v:= .int (e.2.1.getD j 0)) (Es ?_) (hR _ (Same.refl _))
   rw [aN,aU,aG (by omega)]
   rfl
 intro H2 O h2
 have em:fs.map (fun e=>V.int (e.2.1.getD j 0))=(fs.map fun e=>e.2.1.getD j 0).map V.int:=by rw [aZ];rfl
 rw [em]at h2
 try done
 refine⟨p,_,rfl,.of h2,fun z=> ?_,fun z M hM hB=> ?_⟩
 . have W:fs=[]:=eU.mp z
   exact k 0 H2 O ⟨by simp [W],fun _=>rfl,fun n=>absurd W n⟩
 . refine k M H2 O ⟨fun e J=>hB _ (aE.mpr ⟨e,J,rfl⟩),fun n=>absurd (by rw [n];rfl) z,fun _=> ?_⟩
   obtain⟨e,J,ee⟩:=aE.mp hM
   exact⟨e,J,ee⟩
theorem W3 (K:Frag) (G:X.calm=true) (h:X.K=K:=by rfl):Er X (.builtin "max") (fun xs H Q=>∃(a:Addr) (ns:List Int),xs=[.ref a]/\(SqL K H a (ns.map V.int)\/SqT K H a (ns.map V.int))/\ns≠ []/\∀M,M∈ns->(∀x∈ns,x<=M)->Q (.int M) H):=by
 subst h
 exact Yl G
structure Gst (fs:List (V × (List Int × Int))) (M:Int):Prop where
 le:∀e∈fs,∀x∈e.2.1,x<=M
 no:fs=[]->M=0
 is:fs≠ []->∃e∈fs,M∈e.2.1
noncomputable def mx:List Int->Int
 | []=>0
 | [x]=>x
 | x::y::r=>max x (mx (y::r))
theorem Ul:∀ks:List Int,ks≠ []->mx ks∈ks/\∀x∈ks,x<=mx ks
 | [],h=>absurd rfl h
 | [x],_=>⟨by simp [mx],by simp [mx]⟩
 | x::y::r,_=>by
   obtain⟨a,b⟩:=Ul (y::r) (by simp)
   refine⟨?_,fun z G=> ?_⟩
   . show max x (mx (y::r))∈x::y::r
     by_cases h:x<=mx (y::r)
     . rw [Int.max_eq_right h]
       exact .tail _ a
     . rw [Int.max_eq_left (by omega)]
       exact .head _
   . show z<=max x (mx (y::r))
     rcases aS.mp G with rfl | G
     . omega
     . have:=b z G
       omega
noncomputable def Gv (K:Frag):Sp:=fun vs H Q _=>∃(a:Addr) (fs:List (V × (List Int × Int))),vs=[.ref a]/\Tws K H a fs/\fs.length<16000000/\∀M H',Same H H'->Gst fs M->Q (.int M) H'
theorem Ke (F:Df K mg "greatest_power" Dn ["f"] f fd)  (G:mg "max"=none)   :Cal P w K mg base 1 "greatest_power" ["f"] (Gv K):=by
 refine F.cal (F.fn.ok Ks (fun vs H Q E h=> ?_) (fun a1 A outer s H vs Q E hr h=> ?_))
 . obtain⟨a,fs,rfl,_⟩:=h
   rfl
 obtain⟨a,fs,rfl,O,hl,k⟩:=h
 refine Aw ⟨_,(Ag (Ar (Ob rfl rfl G (Aa (Bk (ts:=yA) (fs:=[]) rfl (Dg.of (sc:=Ak Dn) (N:=["f"]) rfl rfl (by decide+kernel)) (Ea (Ae 0)) (fun _ _ _=>(Ej K 2 rfl rfl (Al (Aq 0 (show Nodup (yA:List Str)by decide+kernel)) (Al (Aq 1 (show Nodup (yA:List Str)by decide+kernel)) Bg)))) (fun _ _ _=>Bo) (fun _ _ _=>(Bf (W3 K rfl) rfl G boot_max (Aa (Ae 0) Ab)))) Ab) Ad))),?_⟩
 done
 refine⟨⟨_,O.it⟩,fun p hp=>Fj (es:=fs) (inj:=(·.1)) (fun e=> .int (mx e.2.1)) (aO (fY hl) (by decide)) hp (K8 O.it) ?_ ?_⟩
 . intro e H2 R J U hR
   obtain⟨⟨b,d,eb,hb,hd⟩,W⟩:=(O.al e J).mono U
   rw [eb]
   refine Dd hb ?_
   done
   have Z:e.2.1≠ []:=fun z=>by rw [z]at W;simp at W
   refine⟨d,e.2.1,rfl,.inr hd,Z,fun M h1 h2=> ?_⟩
   obtain⟨m1,m2⟩:=Ul e.2.1 Z
   have:M=mx e.2.1:=Int.le_antisymm (m2 M h1) (h2 _ m1)
   rw [this]
   exact hR _ (Same.refl _)
 intro H2 U h2
 have em:fs.map (fun e=>V.int (mx e.2.1))=(fs.map fun e=>mx e.2.1).map V.int:=by rw [aZ];rfl
 rw [em]at h2
 try done
 have nz:∀e∈fs,e.2.1≠ []:=fun e J z=>by
  have:=(O.al e J).ln
  rw [z]at this
  simp at this
 refine⟨p,_,rfl,.of h2,fun z=> ?_,fun z M hM hB=> ?_⟩
 . have z':fs=[]:=eU.mp z
   exact k 0 H2 U ⟨by simp [z'],fun _=>rfl,fun n=>absurd z' n⟩
 . refine k M H2 U ⟨fun e J x hx=>le_trans ((Ul _ (nz e J)).2 x hx) (hB _ (aE.mpr ⟨e,J,rfl⟩)),fun n=>absurd (by rw [n];rfl) z,fun _=> ?_⟩
   obtain⟨e,J,ee⟩:=aE.mp hM
   exact⟨e,J,by rw [<-ee];exact(Ul _ (nz e J)).1⟩
noncomputable def Pk (K:Frag) (H:Hp) (v:V) (e:Int × Int):Prop:=∃a,v= .ref a/\SqT K H a [.int e.1,.int e.2]
theorem Pk.mono {e:Int × Int} (h:Pk K H v e) (s:Same H H'):Pk K H' v e:=by
 obtain⟨a,G,J⟩:=h
 exact⟨a,G,s.tup J⟩
theorem Ahv (h:SqT K H a xs) (G:H f=some (.lst zs)):SqT K (upd H f (.lst ys)) a xs:=by
 rcases h with(e | ⟨o,e⟩) | h
 . exact .inl (.inl (by rw [Ax (G6 e G (fun z=>nomatch z))];exact e))
 . exact .inl (.inr ⟨o,by rw [Ax (G6 e G (fun z=>nomatch z))];exact e⟩)
 . exact .inr h
theorem Pk.put {e:Int × Int} (h:Pk K H v e) (G:H f=some (.lst zs)):Pk K (upd H f (.lst ys)) v e:=by
 obtain⟨a,J,O⟩:=h
 exact⟨a,J,Ahv O G⟩
noncomputable def Sv (K:Frag):Sp:=fun vs H Q _=>∃(a:Addr) (fs:List (V × (List Int × Int))) (b:Int),vs=[.ref a,.int b]/\J4 K H a fs/\fs.length<16000000/\0<=b/\b<=250/\(∀e∈fs,∀x∈e.2.1,0<=x/\x<=120)/\
 ∀l H' (gs:List (V × (Int × Int))),Same H H'->H' l=some (.lst (gs.map (·.1)))->(∀e∈gs,Pk K H' e.1 e.2)->gs.map (·.2)=fs.map (fun e=>(pk b e.2.1,e.2.2))->Q (.ref l) H'
theorem Aah (F:Df K mg "packed" Lh yF f fd)     :Cal P w K mg base 1 "packed" yF (Sv K):=by
 refine F.cal (F.fn.ok Abb (fun O H Q E h=> ?_) (fun a3 A outer s H O Q E hr h=> ?_))
 . obtain⟨a,fs,b,rfl,_⟩:=h
   rfl
 obtain⟨a,fs,b,rfl,U,hl,b0,b1,hb,k⟩:=h
 refine Aw ⟨_,(Ag (Ar (Bk (ts:=yA) (fs:=[(1,"base")]) rfl (Dg.of (sc:=Ak Lh) (N:=yF) rfl rfl (by decide+kernel)) (Ea (Ae 0)) (fun _ _ _=>(Ej K 2 rfl rfl (Al (Aq 0 (show Nodup (["powers","weight","base"]:List Str)by decide+kernel)) (Al (Aq 1 (show Nodup (["powers","weight","base"]:List Str)by decide+kernel)) Bg)))) (fun _ _ _=>Bo) (fun _ _ _=>(Az (Aa (Ah Bw (Ah Dm (Ah Bw (Ah Dm (Bj (Hu K) (Ae 0) Ad (fun _ _=>rfl)) (Ae 2)) (Bj (Hu K) (Ae 0) Ad (fun _ _=>rfl))) (Ae 2)) (Bj (Hu K) (Ae 0) Ad (fun _ _=>rfl))) (Aa (Ae 1) Ab))))))),?_⟩
 done
 refine⟨⟨_,U.it⟩,fun p W=>O8 (es:=fs) (inj:=fun e=>e.1) (fun e v H=>Pk K H v (pk b e.2.1,e.2.2)) (fun e v H H' h s=>h.mono s) (fun e v H ys zs h W=>h.put W) (aO (fY hl) (by decide)) W (K8 U.it) ?_ ?_⟩
 . intro e H2 R G Z hR
   obtain⟨⟨c,d,eb,hc,J⟩,ln⟩:=(U.al e G).mono Z
   have lo:=hb e G
   obtain⟨⟨i,j,m,ek⟩⟩:Nonempty (∃i j m,e.2.1=[i,j,m]):=by
    match h:e.2.1,ln with
    | [i,j,m],_=>exact⟨i,j,m,rfl⟩
   rw [ek]at J hR lo
   have hi:=lo i (by simp)
   rw [eb]
   refine Dd hc ?_
   done
   refine Ip J (v:= .int i) rfl ?_
   try done
   refine⟨.of_left (W2 (by omega)),Ip J (v:= .int j) rfl ?_⟩
   try done
   refine⟨.of_right (W2 (by omega)),Ip J (v:= .int m) rfl ?_⟩
   try done
   exact fun p2 a1=>hR _ _ (Same.upd a1 _) ⟨p2,rfl,.of Af⟩
 intro H2 O Z h2 hv a2
 refine k p H2 (O.map fun x=>(x.1,(pk b x.2.2.1,x.2.2.2))) Z ?_ (fun e G=> ?_) ?_
 . rw [aZ]
   exact h2
 . obtain⟨x,hx,rfl⟩:=aE.mp G
   exact a2 x hx
 . rw [<-hv,aZ,aZ]
   rfl
theorem Aau {u v k n:Int} (J:0<=k/\k<b) (O:0<=n/\n<b):(u*b+k<v*b+n)=(u<v\/(u=v/\k<n)):=by
 refine propext ⟨fun h=> ?_,fun h=> ?_⟩
 . by_cases e:u=v
   . subst e
     exact .inr ⟨rfl,by omega⟩
   . refine .inl (Int.not_le.mp fun z=> ?_)
     have G:v+1<=u:=by omega
     have:=cX G (show 0<=b by omega)
     rw [add_mul,jX]at this
     omega
 . rcases h with h | ⟨rfl,h⟩
   . have G:u+1<=v:=by omega
     have:=cX G (show 0<=b by omega)
     rw [add_mul,jX]at this
     omega
   . omega
theorem Ak6 {j k l m n:Int} (G:0<=j/\j<b) (W:0<=k/\k<b) (J:0<=m/\m<b) (Z:0<=n/\n<b):HT.lexLt [i,j,k] [l,m,n]=decide (pk b [i,j,k]<pk b [l,m,n]):=by
 have e:(pk b [i,j,k]<pk b [l,m,n])=(i*b+j<l*b+m\/(i*b+j=l*b+m/\k<n)):=Aau (u:=i*b+j) (v:=l*b+m) W Z
 have O:(i*b+j<l*b+m)=(i<l\/(i=l/\j<m)):=Aau G J
 rw [HT.Bh,HT.Bh,HT.Bh]
 by_cases h1:i=l
 . subst h1
   rw [aI rfl]
   by_cases h2:j=m
   . subst h2
     rw [aI rfl]
     by_cases U:k=n
     . rw [aI U]
       refine(bY ?_).symm
       rw [e]
       omega
     . rw [aF U]
       refine decide_eq_decide.mpr ?_
       rw [e]
       omega
   . rw [aF h2]
     refine decide_eq_decide.mpr ?_
     rw [e,O]
     constructor
     . exact fun h=> .inl (.inr ⟨rfl,h⟩)
     . rintro((h | ⟨_,h⟩) | ⟨h,_⟩)
       . omega
       . exact h
       . omega
 . rw [aF h1]
   refine decide_eq_decide.mpr ?_
   rw [e,O]
   constructor
   . exact fun h=> .inl (.inl h)
   . rintro((h | ⟨h,_⟩) | ⟨h,_⟩)
     . exact h
     . exact absurd h h1
     . exfalso
       have:=bE (· /b) h
       have b0:b≠0:=by omega
       simp only [eY _ j,eY _ m,kU _ _ b0,iP G.1 G.2,iP J.1 J.2]at this
       omega
theorem Ahb {j k:Int} (G:0<=j/\j<b) (J:0<=k/\k<b):pk b [i,j,k]/b/b=i/\pk b [i,j,k]/b%b=j/\pk b [i,j,k]%b=k:=by
 have b0:b≠0:=by omega
 have O:pk b [i,j,k]/b=i*b+j:=by
  show((i*b+j)*b+k)/b=_
  rw [eY,kU _ _ b0,iP J.1 J.2,gW]
 rw [O]
 refine⟨?_,?_,?_⟩
 . rw [eY,kU _ _ b0,iP G.1 G.2,gW]
 . rw [eY,gP,gO G.1 G.2]
 . show((i*b+j)*b+k)%b=k
   rw [eY,gP,gO J.1 J.2]
noncomputable def Nt:List (Int × Int)->Int->Int
 | [],_=>0
 | e::r,k=>(if e.1=k then e.2 else 0)+Nt r k
theorem Wq (a b:List (Int × Int)) (k:Int):Nt (a++b) k=Nt a k+Nt b k:=by
 induction a with
 | nil=>show Nt b k=0+Nt b k;omega
 | cons e r G=>
   show _+Nt (r++b) k=(_+Nt r k)+Nt b k
   rw [G]
   omega
noncomputable def Rg (b:Int) (ks:List Int):Prop:=∃i j k,ks=[i,j,k]/\(0<=i/\i<b)/\(0<=j/\j<b)/\0<=k/\k<b
theorem Rg.inj {b:Int}{x y:List Int} (G:Rg b x) (J:Rg b y) (h:pk b x=pk b y):x=y:=by
 obtain⟨i,j,k,rfl,_,h1,h2⟩:=G
 obtain⟨l,m,n,rfl,_,O,U⟩:=J
 obtain⟨rfl,rfl,rfl⟩:=Ak5 h1 h2 O U h
 rfl
theorem Vo:∀(m:Nat) (l:List Int),l.Nodup->(∀x∈l,0<=x/\x<(m:Int))->l.length<=m
 | 0,[],_,_=>aL _
 | 0,x::_,_,h=>by have:=h x (.head _);omega
 | m+1,l,nd,h=>by
   have G:=Vo m (l.erase (m:Int)) (nd.erase _) fun x J=>by
    have h1:=h x (List.mem_of_mem_erase J)
    have h2:=(nd.mem_erase_iff.mp J).1
    omega
   rw [List.length_erase]at G
   split at G<;>omega
theorem Rg.pkb {x:List Int} (J:Rg b x) (h:b<=250):0<=pk b x/\pk b x<((15625000:Nat):Int):=by
 obtain⟨i,j,k,rfl,G,h1,h2⟩:=J
 show 0<=(i*b+j)*b+k/\(i*b+j)*b+k<_
 have O:0<=i*b:=lL G.1 (by omega)
 have U:i*b<=249*250:=le_trans (Int.mul_le_mul_of_nonneg_left h G.1) (cX (by omega) (by decide))
 have W:0<=(i*b+j)*b:=lL (by omega) (by omega)
 have Z:(i*b+j)*b<=(249*250+249)*250:=le_trans (Int.mul_le_mul_of_nonneg_left h (by omega)) (cX (by omega) (by decide))
 omega
noncomputable def Abw (b p:Int):List Int:=[p/b/b,p/b%b,p%b]
theorem Rg.back {x:List Int} (G:Rg b x):Abw b (pk b x)=x:=by
 obtain⟨i,j,k,rfl,_,h1,h2⟩:=G
 obtain⟨J,O,U⟩:=Ahb (i:=i) h1 h2
 unfold Abw
 rw [J,O,U]
theorem Rg.lex {x y:List Int} (G:Rg b x) (J:Rg b y) (h:pk b x<pk b y):HT.lexLt x y=true:=by
 obtain⟨i,j,k,rfl,_,h1,h2⟩:=G
 obtain⟨l,m,n,rfl,_,O,U⟩:=J
 rw [Ak6 h1 h2 O U]
 exact cO h
theorem Vc {b:Int}{q:List Int} (G:Rg b q):∀ {P:List (List Int × Int)},(∀e∈P,Rg b e.1)->Nt (P.map fun e=>(pk b e.1,e.2)) (pk b q)=Bq P q
 | [],_=>rfl
 | e::r,h=>by
   show(if pk b e.1=pk b q then e.2 else 0)+Nt (r.map fun e=>(pk b e.1,e.2)) (pk b q)=(if e.1=q then e.2 else 0)+Bq r q
   rw [Vc G fun x J=>h x (.tail _ J)]
   by_cases z:e.1=q
   . rw [aI z,aI (by rw [z])]
   . rw [aF z,aF fun y=>z ((h e (.head _)).inj G y)]
structure SuN (kvs:List (Key × V)) (ks:List Int) (ts:List (Int × Int)):Prop where
 ky:kvs.map (·.1)=ks.map Sum.inl
 nd:ks.Nodup
 le:ks.length<=ts.length
 mem:∀i∈ks,∃e∈ts,e.1=i
 vl:∀k,Gi kvs (.inl k)=some (.int (Nt ts k))/\k∈ks\/(Gi kvs (.inl k)=none/\Nt ts k=0/\¬k∈ks)
theorem Abm (T:List Int->Int) (k:List Int) (us:List (List Int)) (h:us.Nodup):Bq ((us.filter fun t=>decide (T t≠0)).map fun t=>(t,T t)) k=if k∈us then T k else 0:=by
 have e:=Lk T k (us.map fun u=>((0,u):Tpt)) (by rw [aZ];exact(jW us).symm▸h)
 have G:(us.map fun u=>((0,u):Tpt)).map (fun t=>t.2)=us:=by rw [aZ];exact jW us
 rw [G,List.filter_map,aZ]at e
 exact e
theorem Aqd (b0:0<b) (G:b<=250):b.natAbs.log2<9000:=by
 have:b.natAbs.log2<=b.natAbs:=Nat.log2_le_self _
 omega
noncomputable def Nk (K:Frag):Sp:=fun vs H Q _=>∃(d:Addr) (b:Int) (kvs:List (Key × V)) (ks:List Int) (P:List (List Int × Int)),vs=[.ref d,.int b]/\H d=some (.dK kvs)/\0<b/\b<=250/\(∀e∈P,Rg b e.1)/\SuN kvs ks (P.map fun e=>(pk b e.1,e.2))/\
 ∀z H' fs,Same H H'->Frm K H' z fs->(∀q,Bq (fs.map (·.2)) q=Bq P q)->Q (.ref z) H'
structure Unp (K:Frag) (H H':Hp) (f:Addr) (es:List (V × (List Int × Int))) (ts:List (List Int × Int)):Prop where
 sm:Same H H'
 it:H' f=some (.lst (es.map (·.1)))
 al:∀e∈es,Te K H' e.1 e.2
 eq:es.map (·.2)=ts
theorem Uu (F:Df K mg "unpacked" Kr yJ f fd)  (J:mg "sorted"=none) (W:mg "tuple"=none) (O:mg "divmod"=none)   :Cal P w K mg base 1 "unpacked" yJ (Nk K):=by
 refine F.cal (F.fn.ok Fy (fun vs H Q E h=> ?_) (fun af A outer s H vs Q E hr h=> ?_))
 . obtain⟨d,b,a4,ks,P,rfl,_⟩:=h
   rfl
 obtain⟨d,b,a4,ks,P,rfl,hd,b0,b1,hP,si,k⟩:=h
 have kl:ks.length<16000000:=by
  have:=Vo 15625000 ks si.nd fun x hx=>by
   obtain⟨e,G,rfl⟩:=si.mem x hx
   obtain⟨y,hy,rfl⟩:=aE.mp G
   exact(hP y hy).pkb b1
  omega
 refine Aw ⟨_,(Ac (Am 2 Fy.nd (Bs Ab))
  (Ac (Bt bR rfl (Du (Bf (Tt rfl) rfl J kB (Aa (Ae 0) Ab))) (Aq 3 Fy.nd) (Ag (Bp (Av Qi (Ei (hu1 hr.units) (Ae 0) (Ae 3) (fun _ _=>rfl)) Ad (Bl _)) (Ac (Jf (Bf Tr rfl O boot_divmod (Aa (Ae 3) (Aa (Ae 1) Ab))) (Cg rfl (Al (Aq 4 Fy.nd) (Al (Aq 5 Fy.nd) Bg))))
  (Ag (Dy (Gf dG eK eJ Fv (Ae 2) (Aa (Az (Aa (Az (Aa (Ah G7 (Ae 4) (Ae 1)) (Aa (Ah Hv (Ae 4) (Ae 1)) (Aa (Ae 5) Ab)))) (Aa (Ei (hu1 hr.units) (Ae 0) (Ae 3) (fun _ _=>rfl)) Ab))) Ab))))) Ba)))
  (Ag (Ar (Bu Bm rfl W bJ (Aa (Ae 2) Ab)))))),?_⟩
 done
 refine⟨by decide,fun f hf=> ?_⟩
 have s1:=Same.upd hf (.lst [])
 refine⟨d,a4,ks,rfl,s1 _ _ hd,si.ky,si.nd,kl,fun l ms hl Z a7=> ?_⟩
 have s2:=Same.upd hl (.lst (ms.map V.int))
 have g2:upd (upd H f (.lst [])) l (.lst (ms.map V.int)) l=some (.lst (ms.map V.int)):=Af
 have f2:=s2 _ _ (Af:upd H f (.lst []) f=some (.lst []))
 have nf:l≠f:=cC (Ay (Af:upd H f (.lst []) f=some (.lst [])) hl)
 have a5:=s1.trans s2
 generalize upd (upd H f (.lst [])) l (.lst (ms.map V.int))=H2 at s2 g2 f2 a5
 clear s2 s1 hl
 have rg:∀p∈ms,∃e∈P,pk b e.1=p:=fun p hp=>by
  obtain⟨e,G,ee⟩:=si.mem p (Z.mem_iff.mp hp)
  obtain⟨e',a8,rfl⟩:=aE.mp G
  exact⟨e',a8,ee⟩
 refine⟨⟨_,.of g2⟩,Mr (es:=ms) (inj:=V.int) (fun U a2 H'=>∃(es:List (V × (List Int × Int))) (o3 o4 o5:Option V),a2=[some (.ref d),some (.int b),some (.ref f),o3,o4,o5]/\H' l=some (.lst (ms.map V.int))/\Unp K H H' f es (((U.map (Abw b)).filter fun q=>decide (Bq P q≠0)).map fun q=>(q,Bq P q))) ⟨[],_,_,_,rfl,g2,⟨a5,f2,by simp,rfl⟩⟩ ?_ ?_ ?_⟩
 . rintro U a2 H' ⟨es,o3,o4,o5,rfl,a1,un⟩
   exact Gw (.of a1)
 . rintro U p ae a2 H' hE ⟨es,o3,o4,o5,rfl,a1,un⟩
   have hm:p∈ms:=by rw [hE];simp
   obtain⟨e,G,ep⟩:=rg p hm
   have re:=hP e G
   have eb:Abw b p=e.1:=by rw [<-ep];exact re.back
   have vp:Gi a4 (.inl p)=some (.int (Bq P e.1)):=by
    rcases si.vl p with⟨h,_⟩ | ⟨_,_,h⟩
    . rw [h,<-ep,Vc re hP]
    . exact absurd (Z.mem_iff.mp hm) h
   have dg:∀ {H3},Same H H3->N8 H3 d (.int p) (some (.int (Bq P e.1))):=fun s=>Acl (s _ _ hd) vp
   have ex:((U++ [p]).map (Abw b)).filter (fun q=>decide (Bq P q≠0))=(U.map (Abw b)).filter (fun q=>decide (Bq P q≠0))++(if Bq P e.1=0 then []else [e.1]):=by
    rw [aQ,gA,bC,jG,eb]
    by_cases w0:Bq P e.1=0
    . rw [aI w0,dS (by simp [w0])]
      rfl
    . rw [aF w0,eP (by simp [w0])]
      rfl
   rw [ex,aQ]
   done
   refine⟨d,_,rfl,dg un.sm,?_⟩
   try done
   by_cases w0:Bq P e.1=0
   . rw [aI w0,aI w0]
     exact⟨es,_,_,_,rfl,a1,by rw [jG,bT];exact un⟩
   . rw [aF w0,aF w0]
     refine⟨⟨b0,by omega⟩,fun c hc=>Dd (.of Af) ?_⟩
     have s3:=Same.upd hc (.tup [V.int (p/b),V.int (p%b)])
     generalize upd H' c (.tup [V.int (p/b),V.int (p%b)])=H3 at s3
     done
     refine⟨.inl ⟨rfl,_,.of (s3 _ _ un.it)⟩,⟨b0,Aqd b0 b1⟩,b0,by decide,fun c2 a9=> ?_⟩
     have s4:=Same.upd a9 (.tup [V.int (p/b/b),V.int (p/b%b),V.int (p%b)])
     have g4:upd H3 c2 (.tup [V.int (p/b/b),V.int (p/b%b),V.int (p%b)]) c2=some (.tup ((Abw b p).map V.int)):=Af
     generalize upd H3 c2 (.tup [V.int (p/b/b),V.int (p/b%b),V.int (p%b)])=H4 at s4 g4
     have aa:=(un.sm.trans s3).trans s4
     refine⟨d,_,rfl,dg aa,fun c3 ac=> ?_⟩
     have s5:=Same.upd ac (.tup [V.ref c2,V.int (Bq P e.1)])
     have g5:upd H4 c3 (.tup [V.ref c2,V.int (Bq P e.1)]) c3=some (.tup [V.ref c2,V.int (Bq P e.1)]):=Af
     generalize upd H4 c3 (.tup [V.ref c2,V.int (Bq P e.1)])=H5 at s5 g5
     have a3:=(s3.trans s4).trans s5
     have f5:=a3 _ _ un.it
     rw [eb]at g4
     have tn:Te K H5 (.ref c3) (e.1,Bq P e.1):=⟨⟨c3,c2,rfl,.of g5,s5 _ _ g4⟩,by obtain⟨i,j,m,e3,_⟩:=re;rw [e3];rfl⟩
     refine⟨f,_,_,rfl,rfl,f5,?_,es++ [(.ref c3,(e.1,Bq P e.1))],_,_,_,rfl,?_,⟨?_,?_,fun t ht=> ?_,?_⟩⟩
     . rw [aC]
       have l1:=bE length un.eq
       rw [aC,aC]at l1
       have l2:=dF (fun q=>decide (Bq P q≠0)) (U.map (Abw b))
       rw [aC]at l2
       have l3:=bE length hE
       rw [aH]at l3
       have l4:=Z.length_eq
       exact bB (show es.length<16000000 by omega) (by decide)
     . rw [Ax nf]
       exact a3 _ _ a1
     . exact(un.sm.trans a3).put hf
     . rw [Af,aQ]
       rfl
     . rcases bG.mp ht with ht | ht
       . exact((un.al t ht).mono a3).put f5
       . have e:t=(.ref c3,(e.1,Bq P e.1)):=by simpa using ht
         rw [e]
         exact tn.put f5
     . rw [aQ,un.eq]
       rfl
 rintro a2 H' ⟨es,o3,o4,o5,rfl,a1,un⟩
 done
 refine⟨f,_,rfl,.inl ⟨.of un.it,fun z hz=> ?_⟩⟩
 have sz:=Same.upd hz (.tup (es.map (·.1)))
 have rm:∀p∈ms,Rg b (Abw b p)/\pk b (Abw b p)=p:=fun p hp=>by
  obtain⟨e,G,rfl⟩:=rg p hp
  rw [(hP e G).back]
  exact⟨hP e G,rfl⟩
 have ag:ms.Nodup:=Z.nodup_iff.mpr si.nd
 have ad:ms.Pairwise (· < ·):=a7
 have a6:(ms.map (Abw b)).Pairwise fun x y=>HT.lexLt x y=true:=by
  refine bO.mpr (Pairwise.imp_of_mem (fun {x y} hx hy h=> ?_) ad)
  refine(rm x hx).1.lex (rm y hy).1 ?_
  rw [(rm x hx).2,(rm y hy).2]
  exact h
 refine k z _ es (un.sm.trans sz) ⟨.of Af,fun e G=>(un.al e G).mono sz,?_,fun e G=> ?_⟩ (fun q=> ?_)
 . rw [un.eq]
   exact bO.mpr (a6.sublist List.filter_sublist)
 . have hm:e.2∈es.map (·.2):=aE.mpr ⟨e,G,rfl⟩
   rw [un.eq]at hm
   obtain⟨q,hq,eq⟩:=aE.mp hm
   rw [<-eq]
   simpa using(dJ.mp hq).2
 . rw [un.eq,Abm (Bq P) q _ (a6.imp fun h=>Om h)]
   split
   . rfl
   . rename_i hq
     by_cases rq:Rg b q
     . rcases si.vl (pk b q)with⟨_,h⟩ | ⟨_,h0,_⟩
       . exact absurd (aE.mpr ⟨pk b q,Z.mem_iff.mpr h,rq.back⟩) hq
       . rw [Vc rq hP]at h0
         exact h0.symm
     . exact(Gb fun e G ee=>rq (by rw [<-ee];exact hP e G)).symm
theorem Xy {kvs:List (Key × V)}{k:Key}{w:V} (h:Gi kvs k=some w):(putK kvs k v).map (·.1)=kvs.map (·.1):=by
 unfold putK
 rw [Ez,h,jN,aI rfl,aZ]
 refine dZ fun p _=> ?_
 show(if p.1=k then(p.1,v)else p).1=p.1
 split<;>rfl
theorem SuN.put {kvs:List (Key × V)}{ks:List Int}{ts:List (Int × Int)} (h:SuN kvs ks ts) (k w:Int):∃G,SuN (putK kvs (.inl k) (.int (Nt ts k+w))) G (ts++ [(k,w)]):=by
 have tk:Nt (ts++ [(k,w)]) k=Nt ts k+w:=by
  rw [Wq]
  show Nt ts k+((if k=k then w else 0)+0)=_
  rw [aI rfl,jH]
 have O:∀i,i≠k->Nt (ts++ [(k,w)]) i=Nt ts i:=fun i n=>by
  rw [Wq]
  show Nt ts i+((if k=i then w else 0)+0)=_
  rw [aF (cC n),jH,jH]
 rcases h.vl k with⟨e,m⟩ | ⟨e,z,m⟩
 . refine⟨ks,by rw [Xy e];exact h.ky,h.nd,by rw [aH];exact Nat.le_add_right_of_le h.le,fun i hi=> ?_,fun i=> ?_⟩
   . obtain⟨x,J,rfl⟩:=h.mem i hi
     exact⟨x,bK _ J,rfl⟩
   . rw [Ln]
     by_cases hi:i=k
     . subst hi
       rw [aI rfl,tk]
       exact .inl ⟨rfl,m⟩
     . rw [aF fun z=>hi (Sum.inl.inj z),O i hi]
       exact h.vl i
 . refine⟨ks++ [k],?_,Um h.nd m,by rw [aH,aH];exact gS h.le 1,fun i hi=> ?_,fun i=> ?_⟩
   . rw [Wc _ e,aQ,aQ,h.ky]
     rfl
   . rcases bG.mp hi with hi | hi
     . obtain⟨x,J,rfl⟩:=h.mem i hi
       exact⟨x,bK _ J,rfl⟩
     . have:i=k:=by simpa using hi
       exact⟨(k,w),by simp,this.symm⟩
   . rw [Ln]
     by_cases hi:i=k
     . subst hi
       rw [aI rfl,tk]
       exact .inl ⟨rfl,by simp⟩
     . rw [aF fun z=>hi (Sum.inl.inj z),O i hi]
       rcases h.vl i with⟨a,b⟩ | ⟨a,b,c⟩
       . exact .inl ⟨a,bK _ b⟩
       . refine .inr ⟨a,b,fun z=> ?_⟩
         rcases bG.mp z with z | z
         . exact c z
         . exact hi (by simpa using z)
structure Sud (H H':Hp) (d:Addr) (kvs:List (Key × V)) (ks:List Int) (ts:List (Int × Int)):Prop where
 kp:∀b u,b≠d->H b=some u->H' b=some u
 it:H' d=some (.dK kvs)
 su:SuN kvs ks ts
theorem Sud.put {H H':Hp}{d:Addr}{kvs:List (Key × V)}{ks:List Int}{ts:List (Int × Int)} (h:Sud H H' d kvs ks ts) (k w:Int):∃J G,Sud H (upd H' d (.dK (putK kvs (.inl k) (.int (Nt ts k+w))))) d J G (ts++ [(k,w)]):=by
 obtain⟨G,s⟩:=h.su.put k w
 exact⟨_,G,fun b u n e=>by rw [Ax n];exact h.kp b u n e,Af,s⟩
theorem Pk.kd {d:Addr}{O:List (Key × V)}{e:Int × Int} (h:Pk K H v e) (G:∀b u,b≠d->H b=some u->H' b=some u) (J:H d=some (.dK O)):Pk K H' v e:=by
 obtain⟨a,U,W⟩:=h
 refine⟨a,U,?_⟩
 rcases W with(e | ⟨o,e⟩) | h
 . exact .inl (.inl (G _ _ (G6 e J (fun z=>nomatch z)) e))
 . exact .inl (.inr ⟨o,G _ _ (G6 e J (fun z=>nomatch z)) e⟩)
 . exact .inr h
noncomputable def Adf (x:Int × Int) (g:List (Int × Int)):List (Int × Int):=g.map fun y=>(x.1+y.1,x.2*y.2)
noncomputable def Jo (f g:List (Int × Int)):List (Int × Int):=f.flatMap fun x=>Adf x g
theorem Xx (f g:List (Int × Int)) (x:Int × Int):Jo (f++ [x]) g=Jo f g++Adf x g:=by
 unfold Jo
 rw [List.flatMap_append]
 simp
theorem Ak3 {x y:List Int} (G:x.length=3) (J:y.length=3):pk b (Ab9 x y)=pk b x+pk b y:=by
 match x,G,y,J with
 | [i,j,k],_,[l,m,n],_=>
   show((i+l)*b+(j+m))*b+(k+n)=((i*b+j)*b+k)+((l*b+m)*b+n)
   grind
noncomputable def pkE (b:Int) (e:List Int × Int):Int × Int:=(pk b e.1,e.2)
theorem Aat {b:Int}{G:List (List Int × Int)} (J:∀e∈G,e.1.length=3):∀ {F:List (List Int × Int)},(∀e∈F,e.1.length=3)->(Sg F G).map (fun e=>(pk b e.1,e.2))=Jo (F.map (pkE b)) (G.map (pkE b))
 | [],_=>rfl
 | x::r,hF=>by
   show((G.map fun y=>(Ab9 x.1 y.1,x.2*y.2))++Sg r G).map (fun e=>(pk b e.1,e.2))=Adf (pkE b x) (G.map (pkE b))++Jo (r.map (pkE b)) (G.map (pkE b))
   rw [aQ,Aat J fun e O=>hF e (.tail _ O)]
   congr 1
   unfold Adf
   rw [aZ,aZ]
   refine dZ fun y U=> ?_
   show(pk b (Ab9 x.1 y.1),x.2*y.2)=(pk b x.1+pk b y.1,x.2*y.2)
   rw [Ak3 (hF x (.head _)) (J y U)]
noncomputable def Il (K:Frag):Sp:=fun vs H Q _=>∃(a c:Addr) (fs gs:List (V × (List Int × Int))) (n:Nat),vs=[.ref a,.ref c]/\J4 K H a fs/\J4 K H c gs/\fs.length<16000000/\gs.length<16000000/\n<=60000000/\(∀e∈fs,Sz n e.2.2)/\(∀e∈gs,Sz n e.2.2)/\(∀e∈fs,∀x∈e.2.1,0<=x/\x<=120)/\(∀e∈gs,∀x∈e.2.1,0<=x/\x<=120)/\
 ∀z H' hs,Same H H'->Frm K H' z hs->(∀q,Bq (hs.map (·.2)) q=Bq (Sg (fs.map (·.2)) (gs.map (·.2))) q)->Q (.ref z) H'
theorem Gst.bd {fs:List (V × (List Int × Int))}{M:Int} (h:Gst fs M) (G:∀e∈fs,∀x∈e.2.1,0<=x/\x<=120):0<=M/\M<=120:=by
 by_cases z:fs=[]
 . have:=h.no z
   omega
 . obtain⟨e,J,m⟩:=h.is z
   exact G e J M m
theorem Xj (F:Df K mg "f_times" M4 zT f fd)    (U:Cal P w K mg base 1 "packed" yF (Sv K)) (a7:Cal P w K mg base 1 "unpacked" yJ (Nk K)) (G:Cal P w K mg base 1 "greatest_power" ["f"] (Gv K)):Cal P w K mg base 2 "f_times" zT (Il K):=by
 refine F.cal (F.fn.ok Dz (fun vs H Q E h=> ?_) (fun av A outer s H vs Q E hr h=> ?_))
 . obtain⟨a,c,fs,gs,n,rfl,_⟩:=h
   rfl
 obtain⟨a,c,fs,gs,n,rfl,hf,hg,lf,lg,hn,zf,zg,bf,bg,k⟩:=h
 refine Aw ⟨_,(Ac (Am 2 Dz.nd (Ah Bw (Ah Bw (Aj G hr (Aa (Ae 0) Ab)) (Aj G hr (Aa (Ae 1) Ab))) Ad))
  (Ac (Am 3 Dz.nd (Aj U hr (Aa (Ae 1) (Aa (Ae 2) Ab))))
  (Ac (Am 4 Dz.nd Oa)
  (Ac (Bt bR rfl (Du (Aj U hr (Aa (Ae 0) (Aa (Ae 2) Ab)))) (Cg rfl (Al (Aq 5 Dz.nd) (Al (Aq 6 Dz.nd) Bg))) (Ag (Bt bR rfl (Du (Ae 3)) (Cg rfl (Al (Aq 7 Dz.nd) (Al (Aq 8 Dz.nd) Bg))) (Ag (Ig (hu1 hr.units) (Ae 4) (Ah Bw (Ae 5) (Ae 7)) (Ah Bw (Iv (hu1 hr.units) (Ae 4) (Ah Bw (Ae 5) (Ae 7)) Ad ⟨rfl,rfl,rfl,rfl⟩) (Ah Dm (Ae 6) (Ae 8))) rfl)))))
  (Ag (Ar (Aj a7 hr (Aa (Ae 4) (Aa (Ae 2) Ab))))))))),?_⟩
 done
 refine⟨a,fs,rfl,hf.ts,lf,fun M H1 s1 gM=> ?_⟩
 refine⟨c,gs,rfl,(hg.mono s1).ts,lg,fun N H2 s2 gN=> ?_⟩
 have bM:=gM.bd bf
 have bN:=gN.bd bg
 try done
 have ad:=s1.trans s2
 obtain⟨b,eb⟩:∃b,b=M+N+1:=⟨_,rfl⟩
 rw [<-eb]
 refine⟨c,gs,b,rfl,hg.mono ad,lg,by omega,by omega,bg,fun o H3 go s3 ho ao eo d hd=> ?_⟩
 have s4:=Same.upd hd (.dK [])
 refine⟨a,fs,b,rfl,hf.mono ((ad.trans s3).trans s4),lf,by omega,by omega,bf,fun l H4 gl s5 hl al el=> ?_⟩
 have d4:=s5 _ _ (Af:upd H3 d (.dK []) d=some (.dK []))
 have aa:=s4.trans s5
 have o4:=aa _ _ ho
 have aj:∀e∈go,Pk K H4 e.1 e.2:=fun e he=>(ao e he).mono aa
 have sH:Same H H3:=ad.trans s3
 have nd:H d=none:=by
  cases e:H d with
  | none=>rfl
  | some u=>rw [sH _ _ e]at hd;cases hd
 generalize upd H3 d (.dK [])=HD at s4 s5 aa
 clear s5 s4 ao ho
 have aw:gl.length=fs.length:=by simpa using bE length el
 have ax:go.length=gs.length:=by simpa using bE length eo
 have tF:∀e∈fs.map (·.2),e.1.length=3:=fun x hx=>by
  obtain⟨y,W,rfl⟩:=aE.mp hx
  exact(hf.al y W).ln
 have tG:∀e∈gs.map (·.2),e.1.length=3:=fun x hx=>by
  obtain⟨y,W,rfl⟩:=aE.mp hx
  exact(hg.al y W).ln
 have ep:Jo (gl.map (·.2)) (go.map (·.2))=(Sg (fs.map (·.2)) (gs.map (·.2))).map fun e=>(pk b e.1,e.2):=by
  rw [Aat tG tF,el,eo,aZ,aZ]
  rfl
 have rP:∀e∈Sg (fs.map (·.2)) (gs.map (·.2)),Rg b e.1:=fun e he=>by
  obtain⟨x,hx,he⟩:=iU.mp he
  obtain⟨y,W,rfl⟩:=aE.mp he
  obtain⟨x,ak,rfl⟩:=aE.mp hx
  obtain⟨y,am,rfl⟩:=aE.mp W
  replace hx:=ak
  replace W:=am
  have gx:=gM.le x hx
  have gy:=gN.le y W
  have bx:=bf x hx
  have ac:=bg y W
  have lx:=(hf.al x hx).ln
  have ly:=(hg.al y W).ln
  match h1:x.2.1,h2:y.2.1,lx,ly with
  | [i,j,m],[i2,j2,m2],_,_=>
    rw [h1]at gx bx
    rw [h2]at gy ac
    have a1:=gx i (by simp)
    have a2:=gx j (by simp)
    have a3:=gx m (by simp)
    have a4:=gy i2 (by simp)
    have a5:=gy j2 (by simp)
    have a6:=gy m2 (by simp)
    have c1:=bx i (by simp)
    have c2:=bx j (by simp)
    have c3:=bx m (by simp)
    have c4:=ac i2 (by simp)
    have c5:=ac j2 (by simp)
    have c6:=ac m2 (by simp)
    refine⟨i+i2,j+j2,m+m2,?_,by omega,by omega,by omega⟩
    rfl
 have an:∀x∈Jo (gl.map (·.2)) (go.map (·.2)),0<=x.1/\x.1<((15625000:Nat):Int):=fun x hx=>by
  rw [ep]at hx
  obtain⟨y,W,rfl⟩:=aE.mp hx
  exact(rP y W).pkb (by omega)
 refine⟨l,rfl,⟨_,.of hl⟩,Mr (es:=gl) (inj:=(·.1)) (fun a9 Z H'=>∃(J:List (Key × V)) (ks:List Int) (o5 o6 o7 o8:Option V),Z=[some (.ref a),some (.ref c),some (.int b),some (.ref o),some (.ref d),o5,o6,o7,o8]/\Sud H4 H' d J ks (Jo (a9.map (·.2)) (go.map (·.2)))) ⟨[],[],_,_,_,_,rfl,⟨fun _ _ _ e=>e,d4,⟨rfl,.nil,aL _,by simp,fun _=> .inr ⟨rfl,rfl,by simp⟩⟩⟩⟩ ?_ ?_ ?_⟩
 . rintro a9 Z H' ⟨J,ks,o5,o6,o7,o8,rfl,O⟩
   exact Gw (.of (O.kp _ _ (G6 hl d4 (fun z=>nomatch z)) hl))
 . rintro a9 e au Z H' hE ⟨J,ks,o5,o6,o7,o8,rfl,O⟩
   have hm:e∈gl:=by rw [hE];simp
   obtain⟨p,ep,hp⟩:=(al e hm).kd O.kp d4
   rw [ep]
   refine Dd hp ?_
   done
   refine⟨⟨_,.of (O.kp _ _ (G6 o4 d4 (fun z=>nomatch z)) o4)⟩,Mr (es:=go) (inj:=(·.1)) (fun a8 Z H'=>∃(J:List (Key × V)) (ks:List Int) (o7 o8:Option V),Z=[some (.ref a),some (.ref c),some (.int b),some (.ref o),some (.ref d),some (.int e.2.1),some (.int e.2.2),o7,o8]/\Sud H4 H' d J ks (Jo (a9.map (·.2)) (go.map (·.2))++Adf e.2 (a8.map (·.2)))) ⟨J,ks,_,_,rfl,by
    show Sud _ _ _ _ _ (_++ [])
    rw [bT]
    exact O⟩ ?_ ?_ ?_⟩
   . rintro a8 Z H5 ⟨J,ks,o7,o8,rfl,O⟩
     exact Gw (.of (O.kp _ _ (G6 o4 d4 (fun z=>nomatch z)) o4))
   . rintro a8 x ap Z H5 af ⟨J,ks,o7,o8,rfl,O⟩
     have hx:x∈go:=by rw [af];simp
     obtain⟨q,eq,hq⟩:=(aj x hx).kd O.kp d4
     rw [eq]
     refine Dd hq ?_
     done
     obtain⟨ts,ae⟩:∃ts,Jo (a9.map (·.2)) (go.map (·.2))++Adf e.2 (a8.map (·.2))=ts:=⟨_,rfl⟩
     have ag:Jo (a9.map (·.2)) (go.map (·.2))++Adf e.2 ((a8++ [x]).map (·.2))=ts++ [(e.2.1+x.2.1,e.2.2*x.2.2)]:=by
      rw [<-ae,cK,aQ]
      unfold Adf
      rw [aQ]
      rfl
     rw [ag]
     rw [ae]at O
     have ah:∀z∈ts,z∈Jo (gl.map (·.2)) (go.map (·.2)):=fun z hz=>by
      rw [<-ae]at hz
      rcases bG.mp hz with h | h
      . rw [hE,aQ]
        unfold Jo at h ⊢
        rw [List.flatMap_append]
        exact bK _ h
      . refine iU.mpr ⟨e.2,aE.mpr ⟨e,hm,rfl⟩,?_⟩
        unfold Adf at h ⊢
        obtain⟨y,W,rfl⟩:=aE.mp h
        refine aE.mpr ⟨y,?_,rfl⟩
        rw [af,aQ]
        exact bK _ W
     have ze:Sz n e.2.2:=by
      have:e.2∈fs.map fun e=>(pk b e.2.1,e.2.2):=by rw [<-el];exact aE.mpr ⟨e,hm,rfl⟩
      obtain⟨y,W,ey⟩:=aE.mp this
      rw [<-ey]
      exact zf y W
     have zx:Sz n x.2.2:=by
      have:x.2∈gs.map fun e=>(pk b e.2.1,e.2.2):=by rw [<-eo];exact aE.mpr ⟨x,hx,rfl⟩
      obtain⟨y,W,ey⟩:=aE.mp this
      rw [<-ey]
      exact zg y W
     refine⟨.inl ⟨J,.inl O.it⟩,_,Ajb O.it,?_⟩
     have ev:(Gi J (.inl (e.2.1+x.2.1))).getD (.int 0)= .int (Nt ts (e.2.1+x.2.1)):=by
      rcases O.su.vl (e.2.1+x.2.1)with⟨h,_⟩ | ⟨h,h0,_⟩
      . rw [h]
        rfl
      . rw [h,h0]
        rfl
     rw [ev]
     try done
     obtain⟨ai,aq,ar⟩:=O.put (e.2.1+x.2.1) (e.2.2*x.2.2)
     refine⟨ze.mulOk zx (by omega),d,_,rfl,Ajd O.it ?_,ai,aq,_,_,rfl,ar⟩
     have h1:=bE length O.su.ky
     rw [aC,aC]at h1
     have h2:=Vo 15625000 ks O.su.nd fun x hx=>by
      obtain⟨y,W,rfl⟩:=O.su.mem x hx
      exact an y (ah y W)
     exact cN (show J.length<=15625000 by omega) (by decide)
   . rintro Z H5 ⟨J,ks,o7,o8,rfl,O⟩
     refine⟨J,ks,_,_,_,_,rfl,?_⟩
     rw [aQ]
     show Sud _ _ _ _ _ (Jo (a9.map (·.2)++ [e.2]) _)
     rw [Xx]
     exact O
 rintro Z H' ⟨J,ks,o5,o6,o7,o8,rfl,O⟩
 done
 rw [ep]at O
 refine⟨d,b,J,ks,_,rfl,O.it,by omega,by omega,rP,O.su,fun z H6 hs s6 fr et=>k z H6 hs (Same.trans (fun x u e=> ?_) s6) fr et⟩
 exact O.kp _ _ (Ay e nd) (aa _ _ (sH _ _ e))
noncomputable def c3 (ks:List Int):M3:=((ks.getD 0 0).toNat,(ks.getD 1 0).toNat,(ks.getD 2 0).toNat)
noncomputable def cvl (l:List (List Int × Int)):Tl:=l.map fun e=>(c3 e.1,e.2)
noncomputable def Np (ks:List Int):Prop:=ks.length=3/\∀x∈ks,0<=x
theorem Np.ex {ks:List Int} (h:Np ks):∃i j k:Nat,ks=[(i:Int),(j:Int),(k:Int)]/\c3 ks=(i,j,k):=by
 obtain⟨l,p⟩:=h
 match ks,l,p with
 | [a,b,c],_,p=>
   have G:=p a (by simp)
   have J:=p b (by simp)
   have O:=p c (by simp)
   refine⟨a.toNat,b.toNat,c.toNat,?_,rfl⟩
   rw [eV G,eV J,eV O]
theorem Aeo {a b:List Int} (G:Np a) (J:Np b) (h:c3 a=c3 b):a=b:=by
 obtain⟨i,j,k,rfl,e⟩:=G.ex
 obtain⟨U,W,Z,rfl,O⟩:=J.ex
 rw [e,O]at h
 simp only [kC]at h
 obtain⟨rfl,rfl,rfl⟩:=h
 rfl
theorem Nm:∀ {l:List (List Int × Int)},(∀e∈l,Np e.1)->∀ {q:List Int},Np q->Bq l q=tot (cvl l) (c3 q)
 | [],_,_,_=>rfl
 | e::r,h,q,hq=>by
   show(if e.1=q then e.2 else 0)+Bq r q=(if c3 e.1=c3 q then e.2 else 0)+tot (cvl r) (c3 q)
   rw [Nm (fun x G=>h x (.tail _ G)) hq]
   by_cases c:e.1=q
   . rw [aI c,aI (by rw [c])]
   . rw [aF c,aF fun z=>c (Aeo (h e (.head _)) hq z)]
theorem Ai2 {a b:List Int} (U:Np a) (W:Np b):c3 (Ab9 a b)=m3 (c3 a) (c3 b):=by
 obtain⟨i,j,k,rfl,e⟩:=U.ex
 obtain⟨G,J,O,rfl,Z⟩:=W.ex
 rw [e,Z]
 show(((i:Int)+G).toNat,((j:Int)+J).toNat,((k:Int)+O).toNat)=(i+G,j+J,k+O)
 simp only [kC]
 omega
theorem Np.add {a b:List Int} (G:Np a) (J:Np b):Np (Ab9 a b):=by
 obtain⟨i,j,k,rfl,_⟩:=G.ex
 obtain⟨O,U,W,rfl,_⟩:=J.ex
 refine⟨rfl,fun x Z=> ?_⟩
 have:x=(i:Int)+O\/x=(j:Int)+U\/x=(k:Int)+W:=by simpa [Ab9]using Z
 omega
theorem Aeq (a b:List (List Int × Int)):cvl (a++b)=cvl a++cvl b:=aQ
theorem Yw {b:List (List Int × Int)} (G:∀e∈b,Np e.1):∀ {a:List (List Int × Int)},(∀e∈a,Np e.1)->cvl (Sg a b)=mt (cvl a) (cvl b)
 | [],_=>rfl
 | x::r,ha=>by
   show cvl ((b.map fun y=>(Ab9 x.1 y.1,x.2*y.2))++Sg r b)=mt1 (c3 x.1,x.2) (cvl b)++mt (cvl r) (cvl b)
   rw [Aeq,Yw G fun e J=>ha e (.tail _ J)]
   congr 1
   unfold cvl mt1
   rw [aZ,aZ]
   refine dZ fun y O=> ?_
   show(c3 (Ab9 x.1 y.1),x.2*y.2)=(m3 (c3 x.1) (c3 y.1),x.2*y.2)
   rw [Ai2 (ha x (.head _)) (G y O)]
theorem Agt {a b:List (List Int × Int)} (J:∀e∈a,Np e.1) (O:∀e∈b,Np e.1):∀e∈Sg a b,Np e.1:=fun e G=>by
 obtain⟨x,U,G⟩:=iU.mp G
 obtain⟨y,W,rfl⟩:=aE.mp G
 exact(J x U).add (O y W)
theorem Anj (k:M3):∃q,Np q/\c3 q=k:=⟨[(k.1:Int),(k.2.1:Int),(k.2.2:Int)],⟨rfl,fun x G=>by
 have:x=(k.1:Int)\/x=(k.2.1:Int)\/x=(k.2.2:Int):=by simpa using G
 omega⟩,by
 show(toNat _,toNat _,toNat _)=_
 simp⟩
theorem Ajq {a b:List (List Int × Int)} (J:∀e∈a,Np e.1) (O:∀e∈b,Np e.1) (h:∀q,Bq a q=Bq b q):fq (cvl a)=fq (cvl b):=Hq fun k=>by
 obtain⟨q,G,rfl⟩:=Anj k
 rw [<-Nm J G,<-Nm O G,h]
theorem Alx {a b:List (List Int × Int)} (O:∀e∈a,Np e.1) (U:∀e∈b,Np e.1) (h:fq (cvl a)=fq (cvl b)) (q:List Int):Bq a q=Bq b q:=by
 by_cases G:Np q
 . rw [Nm O G,Nm U G,Agf h]
 . have h1:∀e∈a,e.1≠q:=fun e J z=>G (by rw [<-z];exact O e J)
   have h2:∀e∈b,e.1≠q:=fun e J z=>G (by rw [<-z];exact U e J)
   rw [Gb h1,Gb h2]
theorem Abl {x:List Int × Int}:∀ {G:List (List Int × Int)},UpT G->x∈G->Bq G x.1=x.2
 | [],_,h=>by cases h
 | y::r,up,h=>by
   have J:=cU.mp up
   rcases aS.mp h with rfl | h
   . exact Ga up
   . show(if y.1=x.1 then y.2 else 0)+Bq r x.1=x.2
     rw [aF (Om (J.1 x h)),Abl J.2 h]
     omega
noncomputable abbrev Ft:=List (V × (List Int × Int))
theorem Et {fs:Ft} (h:∀e∈fs,Np e.2.1):∀e∈fs.map (·.2),Np e.1:=fun e G=>by
 obtain⟨x,J,rfl⟩:=aE.mp G
 exact h x J
structure Fo (K:Frag) (H:Hp) (st:Bool) (v:V) (S:Fq) (d n:Nat):Prop where
 ex:∃a,∃fs:Ft,v= .ref a/\J4 K H a fs/\(st=true->Frm K H a fs)/\(∀e∈fs,Np e.2.1)/\fq (cvl (fs.map (·.2)))=S
 bd:Bd S d n
theorem Fo.mono {H H':Hp}{st:Bool}{v:V}{S:Fq}{d n:Nat} (h:Fo K H st v S d n) (s:Same H H'):Fo K H' st v S d n:=by
 obtain⟨⟨a,fs,e,w,t,np,q⟩,b⟩:=h
 exact⟨⟨a,fs,e,w.mono s,fun z=>(t z).mono s,np,q⟩,b⟩
theorem Fo.up {st:Bool}{G:Nat} (h:Fo K H st v S d n) (J:d<=d') (O:n<=G):Fo K H st v S d' G:=⟨h.ex,h.bd.mono J O⟩
theorem Abx {l:List (List Int × Int)} (h:UpT l):(l.map (·.1)).Nodup:=bO.mpr (h.imp fun h=>Om h)
theorem Zm {l:List (List Int × Int)} (up:UpT l) (G:∀e∈l,e.2≠0) (np:∀e∈l,Np e.1):Nz (cvl l):=by
 refine⟨?_,fun e J=> ?_⟩
 . unfold cvl
   rw [aZ]
   have:=bO.mp (Abx up)
   refine bO.mpr ((lG.mp this).imp fun {x y} z e=>z.2.2 (Aeo (np x z.1) (np y z.2.1) e))
 . obtain⟨x,O,rfl⟩:=aE.mp J
   exact G x O
theorem Ai0 {l:List (List Int × Int)} (up:UpT l) (O:∀e∈l,e.2≠0) (np:∀e∈l,Np e.1) (e:fq (cvl l)=S) (b:Bd S d n):∀x∈l,(∀y∈x.1,0<=y/\y<=(d:Int))/\Sz (n+1) x.2:=fun x G=>by
 subst e
 obtain⟨h1,h2⟩:=b.nz (Zm up O np) (c3 x.1,x.2) (aE.mpr ⟨x,G,rfl⟩)
 refine⟨fun y J=>⟨(np x G).2 y J,?_⟩,?_⟩
 . obtain⟨i,j,k,U,W⟩:=(np x G).ex
   rw [U]at J
   have Z:y=(i:Int)\/y=(j:Int)\/y=(k:Int):=by simpa using J
   rw [W]at h1
   unfold le3 at h1
   dsimp only at h1
   omega
 . show x.2.natAbs<2^(n+1)
   have:=Nat.two_pow_pos n
   rw [Nat.pow_succ]
   dsimp only at h2
   omega
theorem Ak4:∀ {x:List Int},x.length=3->(∀y∈x,0<=y/\y<(D:Int))->0<=pk D x/\pk D x<((D*D*D:Nat):Int)
 | [i,j,k],_,h=>by
   have G:=h i (by simp)
   have h1:=h j (by simp)
   have h2:=h k (by simp)
   show 0<=(i*D+j)*D+k/\(i*D+j)*D+k<_
   have U:0<=i*D:=lL G.1 (by omega)
   have J:(i+1)*D<=D*(D:Int):=cX (by omega) (by omega)
   have W:0<=(i*D+j)*D:=lL (by omega) (by omega)
   rw [add_mul,jX]at J
   have O:(i*D+j+1)*D<=D*D*(D:Int):=cX (by omega) (by omega)
   rw [add_mul,jX]at O
   rw [Int.natCast_mul,Int.natCast_mul]
   omega
theorem Z5 {l:List (List Int × Int)} (U:(l.map (·.1)).Nodup) (h:∀x∈l,x.1.length=3/\∀y∈x.1,0<=y/\y<=(d:Int)):l.length<=(d+1)*(d+1)*(d+1):=by
 have J:∀x∈l,Rg ((d+1:Nat):Int) x.1:=fun x G=>by
  obtain⟨W,b⟩:=h x G
  match e:x.1,W with
  | [i,j,k],_=>
    rw [e]at b
    have:=b i (by simp)
    have:=b j (by simp)
    have:=b k (by simp)
    exact⟨i,j,k,rfl,by omega,by omega,by omega⟩
 have:=Vo ((d+1)*(d+1)*(d+1)) (l.map fun x=>pk ((d+1:Nat):Int) x.1) (bO.mpr ((lG.mp (bO.mp U)).imp fun {x y} z e=>z.2.2 ((J x z.1).inj (J y z.2.1) e))) fun x G=>by
  obtain⟨y,O,rfl⟩:=aE.mp G
  exact Ak4 (h y O).1 fun z Z=>by have:=(h y O).2 z Z;omega
 rwa [aC]at this
theorem J4.at {fs:Ft} (h:J4 K H a fs):UpT (fs.map (·.2))/\(∀e∈fs.map (·.2),e.2≠0):=
 ⟨h.up,fun e G=>by obtain⟨x,J,rfl⟩:=aE.mp G;exact h.nn x J⟩
theorem Fo.at {H:Hp}{st:Bool}{v:V}{S:Fq}{d n:Nat} (h:Fo K H st v S d n):∃a,∃fs:Ft,v= .ref a/\J4 K H a fs/\(st=true->Frm K H a fs)/\(∀e∈fs,Np e.2.1)/\fq (cvl (fs.map (·.2)))=S/\
 (∀e∈fs,∀y∈e.2.1,0<=y/\y<=(d:Int))/\(∀e∈fs,Sz (n+1) e.2.2)/\fs.length<=(d+1)*(d+1)*(d+1):=by
 obtain⟨⟨a,fs,e,w,t,np,q⟩,b⟩:=h
 have O:=Ai0 w.at.1 w.at.2 (Et np) q b
 have G:∀e∈fs,∀y∈e.2.1,0<=y/\y<=(d:Int):=fun x J=>(O x.2 (aE.mpr ⟨x,J,rfl⟩)).1
 refine⟨a,fs,e,w,t,np,q,G,fun x J=>(O x.2 (aE.mpr ⟨x,J,rfl⟩)).2,?_⟩
 have:=Z5 (Abx w.at.1) (d:=d) fun x J=>by
  obtain⟨y,U,rfl⟩:=aE.mp J
  exact⟨(np y U).1,G y U⟩
 rwa [aC]at this
theorem cube (h:d<=D):(d+1)*(d+1)*(d+1)<=(D+1)*(D+1)*(D+1):=fD (fD (by omega) (by omega)) (by omega)
theorem Fo.of {fs:Ft}{l:List (List Int × Int)} (h:Frm K H a fs) (np:∀e∈fs,Np e.2.1) (G:∀e∈l,Np e.1) (e:∀q,Bq (fs.map (·.2)) q=Bq l q) (es:fq (cvl l)=S) (b:Bd S d n):Fo K H true (.ref a) S d n:=
 ⟨⟨a,fs,rfl,h.weak,fun _=>h,np,by rw [<-es];exact Ajq (Et np) G e⟩,b⟩
theorem Ags {fs:Ft}{l:List (List Int × Int)} (h:J4 K H a fs) (J:∀e∈l,Np e.1) (e:∀q,Bq (fs.map (·.2)) q=Bq l q):∀x∈fs,Np x.2.1:=fun x G=>by
 have h1:Bq (fs.map (·.2)) x.2.1≠0:=by
  rw [Abl h.at.1 (aE.mpr ⟨x,G,rfl⟩)]
  exact h.nn x G
 rw [e]at h1
 by_cases z:Np x.2.1
 . exact z
 . have h2:∀e∈l,e.1≠x.2.1:=fun y O w=>z (by rw [<-w];exact J y O)
   exact absurd (Gb h2) h1
theorem Mi (h:d<=120) {k:Nat} (l:k<=(d+1)*(d+1)*(d+1)):k<=1771561:=aO l (cube h)
theorem Apu {Q:VK}{E:XK}{s1 s2:Bool}{u:V}{U:Nat} (h:Fo K H s1 v S d n) (g:Fo K H s2 u T d' U) (hd:d<=120) (W:d'<=120) (hn:n<=25000000) (a1:U<=25000000)
 (k:∀z H',Same H H'->Fo K H' true (.ref z) (S*T) (d+d') (n+U)->Q (.ref z) H'):Il K [v,u] H Q E:=by
 obtain⟨a,fs,rfl,w1,_,J,e1,b1,z1,l1⟩:=h.at
 obtain⟨c,gs,rfl,w2,_,O,e2,b2,z2,l2⟩:=g.at
 have a2:=Mi hd l1
 have a3:=Mi W l2
 refine⟨a,c,fs,gs,(n+1)+(U+1),rfl,w1,w2,by omega,by omega,by omega,fun e G=>(z1 e G).mono (by omega),fun e G=>(z2 e G).mono (by omega),fun e G x Z=>by have:=b1 e G x Z;omega,fun e G x Z=>by have:=b2 e G x Z;omega,fun z H' hs s fr et=>k z H' s ?_⟩
 have nl:=Agt (Et J) (Et O)
 exact .of fr (Ags fr.weak nl et) nl et (by rw [Yw (Et O) (Et J),<-Zj,e1,e2]) (h.bd.mul g.bd)
theorem Apt {Q:VK}{E:XK}{u:V} (h:Fo K H true v S d n) (g:Fo K H true u T d n) (Z:d<=120)
 (k:∀z H',Same H H'->Fo K H' true (.ref z) (S+T) d (n+1)->Q (.ref z) H'):Jw K [v,u] H Q E:=by
 obtain⟨a,fs,rfl,w1,t1,O,e1,b1,z1,l1⟩:=h.at
 obtain⟨c,U,rfl,w2,t2,W,e2,b2,z2,l2⟩:=g.at
 have a1:=Mi Z l1
 have a2:=Mi Z l2
 refine⟨a,c,fs,U,rfl,t1 rfl,t2 rfl,by omega,fun z H' hs s fr et _=>k z H' s ?_⟩
 have nl:∀e∈fs.map (·.2)++U.map (·.2),Np e.1:=fun e G=>by
  rcases bG.mp G with G | G
  . exact Et O e G
  . exact Et W e G
 have J:∀q,Bq (hs.map (·.2)) q=Bq (fs.map (·.2)++U.map (·.2)) q:=fun q=>by rw [et,Qz]
 exact .of fr (Ags fr.weak nl J) nl J (by rw [Aeq,<-Zi,e1,e2]) (h.bd.add g.bd)
theorem Afj (G:j<3) {ks:List Int} (h:Np ks):((pw3 j (c3 ks):Nat):Int)=ks.getD j 0:=by
 obtain⟨a,b,c,rfl,e⟩:=h.ex
 rw [e]
 match j,G with
 | 0,_=>rfl
 | 1,_=>rfl
 | 2,_=>rfl
theorem Ua {fs:Ft} (w:J4 K H a fs) (np:∀e∈fs,Np e.2.1):fq (cvl (fs.map (·.2)))=0↔fs=[]:=by
 constructor
 . intro h
   cases hf:fs with
   | nil=>rfl
   | cons x r=>
     exfalso
     have nz:=Zm w.at.1 w.at.2 (Et np)
     have G:(c3 x.2.1,x.2.2)∈cvl (fs.map (·.2)):=aE.mpr ⟨x.2,aE.mpr ⟨x,by rw [hf];exact .head _,rfl⟩,rfl⟩
     have h1:=nz.at _ G
     have h2:=nz.nn _ G
     rw [<-Rt]at h
     have J:=Agf h (c3 x.2.1)
     rw [show tot (cvl (fs.map (·.2))) (c3 x.2.1)=x.2.2 from h1]at J
     exact h2 J
 . intro h
   rw [h]
   exact Rt
theorem Aa1 {H:Hp}:∀fs:Ft,(∀e∈fs,Tw K H e.1 e.2)->Q8 K H (fs.map (·.1)) ((fs.map (·.2)).map fD3)
 | [],_=> .nil
 | t::r,h=>by
   obtain⟨⟨a,b,G,J,O⟩,_⟩:=h t (.head _)
   refine .cons ?_ (Aa1 r fun u U=>h u (.tail _ U))
   show RdD K H t.1 (fD3 t.2)
   rw [G]
   exact .tup J (.cons (RdD.ints O) (.cons (.int _) .nil))
theorem Agd {g:Bool->Bool}{s1 s2:Bool}{u:V}{n':Nat} (h:Fo K H s1 v S d n) (k:Fo K H s2 u T d' n') (q1:S=T->Q (.bl (g true)) H) (q2:S≠T->Q (.bl (g false)) H):Alk K g v u H Q:=by
 obtain⟨⟨a,fs,rfl,G,_,O,Z⟩,_⟩:=h
 obtain⟨⟨b,U,rfl,J,_,W,e2⟩,_⟩:=k
 refine⟨_,_,.tup G.it (Aa1 fs G.al),.tup J.it (Aa1 U J.al),Ik _,Ik _,?_⟩
 rw [PyData.eqv,Pq]
 by_cases c:S=T
 . have:fs.map (·.2)=U.map (·.2):=Qd _ _ G.at.1 J.at.1 G.at.2 J.at.2 (Alx (Et O) (Et W) (by rw [Z,e2,c]))
   rw [cO this]
   exact q1 c
 . have:fs.map (·.2)≠U.map (·.2):=fun z=>c (by rw [<-Z,<-e2,z])
   rw [bY this]
   exact q2 c
theorem Vp (h:SqT K H a []):Fo K H true (.ref a) 0 0 0:=
 ⟨⟨a,[],rfl,⟨h,by simp,.nil,by simp⟩,fun _=>⟨h,by simp,.nil,by simp⟩,by simp,Rt⟩,.zero⟩
theorem Ack (ns:List Int) (lo hi:Option Int):∃ms:List Int,Ih (ns.map V.int) lo hi=ms.map V.int/\ms.length<=ns.length:=by
 unfold Ih
 refine⟨(ns.drop (HT.sIx (ns.map V.int).length 0 lo)).take (HT.sIx (ns.map V.int).length (ns.map V.int).length hi-HT.sIx (ns.map V.int).length 0 lo),by rw [List.map_take,map_drop],?_⟩
 rw [bV,iV]
 omega
noncomputable def K1 (K:Frag):Sp:=fun vs H Q _=>∃(c:Int) (m:Nat),vs=[.int c,.int (m:Nat)]/\m<=60/\∀l H' (ns:List Int),H l=none->Same H H'->H' l=some (.lst (ns.map V.int))->Q (.ref l) H'
theorem Xo (F:Df K mg "_law_draws" M6 zN f fd)  (U:mg "range"=none) (W:mg "len"=none)   :Cal P w K mg base 1 "_law_draws" zN (K1 K):=by
 refine F.cal (F.fn.ok Dk (fun vs H Q E h=> ?_) (fun a1 A outer s H vs Q E hr h=> ?_))
 . obtain⟨c,m,rfl,_⟩:=h
   rfl
 obtain⟨c,J,rfl,a2,k⟩:=h
 refine Aw ⟨_,(Ac (Am 2 Dk.nd (Bs Ab))
  (Ac (Am 3 Dk.nd (Ah G7 (Ae 0) Ad))
  (Ac (Bp (Av Kf (Ah Hv (Ae 0) Ad) Ad (Bl _)) (Ag (Am 3 Dk.nd Ad)) Ba)
  (Ac (Gy bR (Eu (Mf (Av Qi (Ae 3) Ad (Bl _)) (Mf (Av Qi (Ae 3) (O4 Abv Ad) (Bl _)) (Od (Av Ag0 (Bf Cq rfl W fT (Aa (Ae 2) Ab)) (Ae 1) (Bl _)))))) (Ac (Dy (Gf dG eK eJ Fv (Ae 2) (Aa (Ah Hv (Ae 3) (Ah Hw Ad Ad)) Ab)))
  (Ag (Am 3 Dk.nd (Ah G7 (Ae 3) (Ah Hw Ad Ad))))))
  (Ac (Am 4 Dk.nd (Ah Hv (Ah Dm (Ah Bw (Ah Hv (Ae 0) (Ah Bw (Ah Hw Ad Ad) Ad)) Ad) Ad) (Ah Bw (Ah Hw Ad Ad) Ad)))
  (Ac (Am 5 Dk.nd (Bs Ab))
  (Ac (Bt bR rfl (Bv rfl U (Aa (Ah Bw (Ae 1) Ad) Ab)) (Aq 6 Dk.nd) (Ac (Am 4 Dk.nd (Ah Hv (Ah Bw (Ah Bw (Ah Dm (Ae 4) (Ae 4)) (Ah Dm Ad (Ae 4))) (Ae 6)) (Ah Bw (Ah Hw Ad Ad) Ad)))
  (Ag (Dy (Gf dG eK eJ Fv (Ae 5) (Aa (Ah G7 (Ae 4) (Ah Hw Ad Ad)) Ab))))))
  (Ag (Ar (Ah V3 (Ae 2) (Dh U8 (Ae 5) (Dw (Ah Bw Ad (Bf Cq rfl W fT (Aa (Ae 2) Ab)))) Dv))))))))))),?_⟩
 refine Ck (fun G H'=>Same H H'/\∃f,H f=none/\G=[some (.int c),some (.int (J:Nat)),some (.ref f),none,none,none,none]/\H' f=some (.lst [])) (fun M O=> ?_) ?_
 . done
   exact⟨by decide,fun p hp=>O _ _ ⟨Same.upd hp _,p,hp,rfl,Af⟩⟩
 rintro σ H1 ⟨s1,f,nf,rfl,g1⟩
 refine Ck (fun G H'=>H'=H1/\∃r:Int,G=[some (.int c),some (.int (J:Nat)),some (.ref f),some (.int r),none,none,none]) (fun M O=> ?_) ?_
 . done
   exact⟨⟨by decide,by decide⟩,O _ _ ⟨rfl,_,rfl⟩⟩
 rintro σ H2 ⟨e2,r,rfl⟩
 rw [e2]
 clear e2 H2
 refine Ck (fun G H'=>H'=H1/\∃r:Int,G=[some (.int c),some (.int (J:Nat)),some (.ref f),some (.int r),none,none,none]) (fun M O=> ?_) ?_
 . done
   refine⟨by decide,?_⟩
   split
   . exact O _ _ ⟨rfl,_,rfl⟩
   . exact O _ _ ⟨rfl,_,rfl⟩
 rintro σ H2 ⟨e2,r,rfl⟩
 rw [e2]
 clear e2 H2
 refine Ck (fun G H'=>Same H H'/\∃(r:Int) (ns:List Int),G=[some (.int c),some (.int (J:Nat)),some (.ref f),some (.int r),none,none,none]/\H' f=some (.lst (ns.map V.int))/\ns.length<=J) (fun M O=> ?_) ?_
 . done
   refine Q6 (fun σ H'=>Same H H'/\∃(r:Int) (ns:List Int),σ=[some (.int c),some (.int (J:Nat)),some (.ref f),some (.int r),none,none,none]/\H' f=some (.lst (ns.map V.int))/\ns.length<=J) (fun σ H'=>match H' f with | some (.lst xs)=>J-xs.length | _=>0) ⟨s1,r,[],rfl,g1,cH _⟩ ?_
   rintro σ H' ⟨s2,r,ns,rfl,Z,ln⟩
   have ex:=O _ _ ⟨s2,r,ns,rfl,Z,ln⟩
   done
   by_cases r0:r=0
   . rw [aI r0]
     exact ex
   rw [aF r0]
   by_cases r1:r= -1
   . rw [aI r1]
     exact ex
   rw [aF r1]
   refine⟨f,_,rfl,.inl (.of Z),?_⟩
   rw [aC]
   by_cases l6:((ns.length:Nat):Int)<(J:Nat)
   . rw [aI l6]
     refine Aid ?_
     done
     refine⟨.inl ⟨rfl,_,.of Z⟩,⟨by decide,by decide,by decide⟩,by decide,f,_,_,rfl,rfl,Z,?_,⟨by decide,by decide,by decide⟩,⟨by decide,by decide⟩,⟨s2.put nf,_,ns++ [r%10^toNat 24],rfl,?_,?_⟩,?_⟩
     . rw [aC]
       exact bB (show ns.length<61 by omega) (by decide)
     . rw [Af,aQ]
       rfl
     . rw [aH]
       show ns.length+1<=J
       omega
     . rw [Af,Z]
       show J-(ns.map V.int++ [_]).length<J-(ns.map V.int).length
       rw [aH,aC]
       show J-(ns.length+1)<_
       omega
   . rw [aF l6]
     exact ex
 rintro σ H2 ⟨s2,r,ns,rfl,Z,ln⟩
 refine Ck (fun G H'=>H'=H2/\∃x:Int,0<=x/\x<10^toNat 40+121/\G=[some (.int c),some (.int (J:Nat)),some (.ref f),some (.int r),some (.int x),none,none]) (fun M O=> ?_) ?_
 . done
   exact⟨⟨by decide,by decide,by decide⟩,by decide,.of_right (W2 (by decide)),⟨by decide,by decide,by decide⟩,by decide,O _ _ ⟨rfl,_,Int.emod_nonneg _ (by decide),Int.emod_lt_of_pos _ (by decide),rfl⟩⟩
 rintro σ H3 ⟨e3,x,x0,x1,rfl⟩
 rw [e3]
 clear e3 H3
 refine Ck (fun G H'=>Same H2 H'/\∃m,H2 m=none/\G=[some (.int c),some (.int (J:Nat)),some (.ref f),some (.int r),some (.int x),some (.ref m),none]/\H' m=some (.lst [])) (fun M O=> ?_) ?_
 . done
   exact⟨by decide,fun p hp=>O _ _ ⟨Same.upd hp _,p,hp,rfl,Af⟩⟩
 rintro σ H3 ⟨s3,m,nm,rfl,g3⟩
 refine Ck (fun G H'=>Same H2 H'/\∃(y:Int) (o:Option V) (ms:List Int),G=[some (.int c),some (.int (J:Nat)),some (.ref f),some (.int r),some (.int y),some (.ref m),o]/\H' m=some (.lst (ms.map V.int))/\ms.length=((J:Int)+4).toNat) (fun M O=> ?_) ?_
 . done
   refine⟨by omega,by omega,?_⟩
   refine Am9 ((J:Int)+4).toNat (fun i=> .int (0+(i:Nat))) (fun i G H'=>Same H2 H'/\∃(y:Int) (o:Option V) (ms:List Int),0<=y/\y<10^toNat 40+121/\G=[some (.int c),some (.int (J:Nat)),some (.ref f),some (.int r),some (.int y),some (.ref m),o]/\H' m=some (.lst (ms.map V.int))/\ms.length=i) ⟨s3,x,_,[],x0,x1,rfl,g3,rfl⟩ ?_ ?_ ?_
   . rintro i G H' _
     exact Gx
   . rintro i G H' hi ⟨s4,y,o,ms,y0,y1,rfl,g4,lm⟩
     have sy:Sz 140 y:=by
      have:(10:Int)^toNat 40+121<2^140:=by decide
      unfold Sz
      omega
     done
     refine⟨sy.mulOk sy (by decide),.of_left (W2 (by decide)),⟨by decide,by decide,by decide⟩,by decide,.inl ⟨rfl,_,.of g4⟩,⟨by decide,by decide,by decide⟩,⟨by decide,by decide⟩,m,_,_,rfl,rfl,g4,?_,s4.put nm,_,_,ms++ [(y*y+48271*y+(0+(i:Nat)))%(10^toNat 40+121)/10^toNat 8],Int.emod_nonneg _ (by decide),Int.emod_lt_of_pos _ (by decide),rfl,?_,?_⟩
     . rw [aC]
       exact bB (show ms.length<65 by omega) (by decide)
     . rw [Af,aQ]
       rfl
     . rw [aH,lm]
       rfl
   . rintro G H' ⟨s4,y,o,ms,y0,y1,rfl,g4,lm⟩
     exact O _ _ ⟨s4,y,o,ms,rfl,g4,lm⟩
 rintro σ H4 ⟨s4,y,o,ms,rfl,g4,lm⟩
 done
 refine⟨f,_,rfl,.inl (.of (s4 _ _ Z)),m,_,rfl,.of g4,fun p hp=> ?_⟩
 obtain⟨qs,eq,lq⟩:=Ack ms (some (4+((ns.map V.int).length:Nat))) none
 rw [eq]
 have sp:=Same.upd hp (.lst (qs.map V.int))
 refine⟨f,p,_,_,rfl,rfl,sp _ _ (s4 _ _ Z),Af,?_,fun l hl=> ?_⟩
 . rw [aC,aC]
   exact aO (show ns.length+qs.length<=124 by omega) (by decide)
 . rw [<-aQ]
   refine k l _ (ns++qs) ?_ (((s2.trans s4).trans sp).trans (Same.upd hl _)) Af
   cases e:H l with
   | none=>rfl
   | some u=>
     rw [((s2.trans s4).trans sp) _ _ e]at hl
     cases hl
theorem Ae4:kitOne K (.type "str") (.type "str")=some true:=Px (by decide+kernel)
noncomputable def nmS:Nat->Str
 | 0=>"x"
 | 1=>"y"
 | _=>"z"
noncomputable def Ael (H:Hp) (v:V):Prop:=(∃s:Str,v= .str s/\PyData.strOk s=true/\∀j,s≠nmS j)\/v= .non\/v= .int 0\/∃a,v= .ref a/\H a=some (.lst [.str "x"])
theorem Ael.mono (h:Ael H v) (s:Same H H'):Ael H' v:=by
 rcases h with h | h | h | ⟨a,h,z⟩
 . exact .inl h
 . exact .inr (.inl h)
 . exact .inr (.inr (.inl h))
 . exact .inr (.inr (.inr ⟨a,h,s _ _ z⟩))
noncomputable def Ref (K:Frag) (H:Hp) (v:V) (E:XK):Prop:=Ael H v/\∀dx H',Same H H'->H' dx=some (.xd [("name",v)])->E (.ref (cA K "NoName")) (some dx) H'
theorem Ref.of (h:Ref K H v E) (s:Same H H'):Ref K H' v E:=⟨h.1.mono s,fun dx H2 G z=>h.2 dx H2 (s.trans G) z⟩
noncomputable def Ep (K:Frag):Sp:=fun vs H Q E=>(∃j:Nat,j<3/\vs=[.str (nmS j)]/\∀H',Same H H'->Q (.int (j:Nat)) H')\/∃v,vs=[v]/\Ref K H v E
theorem Ur (F:Df K mg "place_of" Km yM f fd) (J:mg "isinstance"=none) (Z:mg "str"=none) (O:mg "NAMES"=some (.ref (cA K "NAMES"))) (G:Aiq K (cA K "NAMES") [.str "x",.str "y",.str "z"]) (U:mg "NoName"=some (.ref (cA K "NoName"))) (W:NmK P w K mg base 1 (cA K "NoName") "name")  :Lf P w K mg base 3 "place_of" yM (Ep K):=by
 refine F.calN (F.fn.okN U7 (fun vs H Q E h=> ?_) (fun a1 A outer s H vs Q E hr h=> ?_))
 . rcases h with⟨j,_,rfl,_⟩ | ⟨v,rfl,_⟩<;>rfl
 refine Aw ⟨_,(Ac (Bp (Eu (Ew (En (Eb (Bf Jh rfl J cM (Aa (Ae 0) (Aa (Ef (v:= .ty "str") rfl Z boot_str rfl) Ab))))) (Fg (Av R7 (Ae 0) (Gp (v:= .ref (cA K "NAMES")) rfl O rfl) rfl)))) (Ag (S.Mw W (hr.mono (by decide)) U (Aa (Ae 0) Ab))) Ba)
  (Ag (Ar (Gf PySem.F.plainAttrs_tuple PySem.F.slot_tuple_index PySem.F.type_tuple_index Aad (Gp (v:= .ref (cA K "NAMES")) rfl O rfl) (Aa (Ae 0) Ab))))),?_⟩
 rcases h with⟨j,hj,rfl,k⟩ | ⟨v,rfl,k⟩
 . done
   refine⟨_,_,_,true,rfl,.str _,Ae4,?_⟩
   try done
   refine⟨_,_,rfl,.inr G.sq,rfl,rfl,?_⟩
   have k0:=k H (Same.refl _)
   rcases(by omega:j=0\/j=1\/j=2)with rfl | rfl | rfl
   . try done
     exact⟨G.ty,_,_,_,0,rfl,rfl,G.sq,rfl,rfl,⟨_,rfl,by decide+kernel⟩,fun i z hi=>by omega,k0⟩
   . try done
     exact⟨G.ty,_,_,_,1,rfl,rfl,G.sq,rfl,rfl,⟨_,rfl,by decide+kernel⟩,fun i z hi e=>by
      have:i=0:=by omega
      subst this
      cases e
      decide+kernel,k0⟩
   . try done
     exact⟨G.ty,_,_,_,2,rfl,rfl,G.sq,rfl,rfl,⟨_,rfl,by decide+kernel⟩,fun i z hi e=>by
      have:i=0\/i=1:=by omega
      rcases this with rfl | rfl<;>(cases e;decide+kernel),k0⟩
 obtain⟨nn,k⟩:=k
 rcases nn with⟨s,rfl,_,hs⟩ | rfl | rfl | ⟨a,rfl,ha⟩
 . done
   refine⟨_,_,_,true,rfl,.str _,Ae4,?_⟩
   try done
   refine⟨_,_,rfl,.inr G.sq,rfl,rfl,?_⟩
   have e:inV (.str s) [.str "x",.str "y",.str "z"]=false:=by
    have h0:=hs 0
    have h1:=hs 1
    have h2:=hs 2
    unfold inV
    simp only [iA,List.any_nil,Bool.or_false,Bool.or_eq_false_iff]
    exact⟨eS.mpr (cC h0),eS.mpr (cC h1),eS.mpr (cC h2)⟩
   rw [e]
   try done
   exact⟨_,rfl,k⟩
 . done
   refine⟨_,_,_,false,rfl,.non,Px (by decide+kernel),?_⟩
   try done
   exact⟨_,rfl,k⟩
 . done
   refine⟨_,_,_,false,rfl,.int _,Px (by decide+kernel),?_⟩
   try done
   exact⟨_,rfl,k⟩
 . done
   refine⟨_,_,_,false,rfl,.lst ha,Px (by decide+kernel),?_⟩
   try done
   exact⟨_,rfl,k⟩
noncomputable def pwI (j m:Nat):List Int:=match j with | 0=>[(m:Int),0,0] | 1=>[0,(m:Int),0] | _=>[0,0,(m:Int)]
theorem Wd (m:Nat):∀j,Np (pwI j m)
 | 0=>⟨rfl,fun x G=>by simp [pwI]at G;omega⟩
 | 1=>⟨rfl,fun x G=>by simp [pwI]at G;omega⟩
 | _+2=>⟨rfl,fun x G=>by simp [pwI]at G;omega⟩
theorem Alf (m:Nat):∀j,c3 (pwI j m)=ej j m
 | 0=>rfl
 | 1=>rfl
 | _+2=>rfl
noncomputable def Jx (K:Frag):Sp:=fun vs H Q _=>∃j m:Nat,j<3/\vs=[.int (j:Nat),.int (m:Nat)]/\∀z H',Same H H'->H z=none->H' z=some (.tup ((pwI j m).map V.int))->Q (.ref z) H'
theorem Qf (F:Df K mg "name_power" Gg zS f fd)  (G:mg "tuple"=none) (J:mg "range"=none)   :Cal P w K mg base 1 "name_power" zS (Jx K):=by
 refine F.cal (F.fn.ok Qu (fun W H Q E h=> ?_) (fun Z A outer s H W Q E hr h=> ?_))
 . obtain⟨j,m,_,rfl,_⟩:=h
   rfl
 obtain⟨j,m,hj,rfl,k⟩:=h
 refine Aw ⟨_,(Ag (Ar (Bu Bm rfl G bJ (Aa (Bk (ts:=["other"]) (fs:=[(1,"many"),(0,"place")]) rfl (Dg.of (sc:=Ak Gg) (N:=zS) rfl rfl (by decide+kernel)) (Bv rfl J (Aa Ad Ab)) (fun _ _ _=>(Aq 0 (show Nodup (["other","many","place"]:List Str)by decide+kernel))) (fun _ _ _=>Bo) (fun _ _ _=>(Tg (Av Kf (Ae 2) (Ae 0) (Bl _)) (Ae 1) Ad))) Ab)))),?_⟩
 done
 refine⟨by decide,by decide,fun p hp=>Fj (es:=List.range 3) (inj:=fun i=> .int (0+(i:Nat))) (fun i=>if j=i then .int (m:Nat)else .int 0) (by decide) hp Io ?_ ?_⟩
 . intro i H2 R hi O hR
   done
   have:=hR H2 (Same.refl _)
   by_cases c:j=i
   . rw [aI (by omega)]
     rwa [aI c]at this
   . rw [aF (by omega)]
     rwa [aF c]at this
 intro H2 O h2
 refine⟨p,_,rfl,.inl ⟨.of h2,fun z U=> ?_⟩⟩
 have e:(List.range 3).map (fun i=>if j=i then V.int (m:Nat)else V.int 0)=(pwI j m).map V.int:=by
  match j,hj with
  | 0,_=>rfl
  | 1,_=>rfl
  | 2,_=>rfl
 rw [e]
 refine k z _ (O.trans (Same.upd U _)) ?_ Af
 cases e:H z with
 | none=>rfl
 | some u=>rw [O _ _ e]at U;cases U
theorem Ai6:∀ {j:Nat},j<3->∀G x1 J:Int,(Ih ([G,x1,J].map V.int) none (some (j:Int))).length<=3/\(Ih ([G,x1,J].map V.int) (some ((j:Int)+1)) none).length<=3/\Ih ([G,x1,J].map V.int) none (some (j:Int))++ [V.int 0]++Ih ([G,x1,J].map V.int) (some ((j:Int)+1)) none=([G,x1,J].set j 0).map V.int
 | 0,_,_,_,_=>⟨bL rfl,bL rfl,rfl⟩
 | 1,_,_,_,_=>⟨bL rfl,bL rfl,rfl⟩
 | 2,_,_,_,_=>⟨bL rfl,bL rfl,rfl⟩
noncomputable def Oz (K:Frag):Sp:=fun vs H Q _=>∃(a:Addr) (ks:List Int) (j:Nat),j<3/\ks.length=3/\vs=[.ref a,.int (j:Nat)]/\SqT K H a (ks.map V.int)/\∀z H',Same H H'->H' z=some (.tup ((ks.set j 0).map V.int))->Q (.ref z) H'
theorem Xq (F:Df K mg "without" M8 zU f fd)     :Cal P w K mg base 1 "without" zU (Oz K):=by
 refine F.cal (F.fn.ok X6 (fun vs H Q E h=> ?_) (fun a2 A outer s H vs Q E hr h=> ?_))
 . obtain⟨a,ks,j,_,_,rfl,_⟩:=h
   rfl
 obtain⟨a,ks,j,hj,hl,rfl,ha,k⟩:=h
 by_cases h2:j=2
 . subst h2
   refine Aw ⟨_,(Ag (Ar (Ah Qh (Ah Qh (Dh Nf (Ae 0) Dv (Dw (Ae 1))) (Az (Aa Ad Ab))) (Dh Nf (Ae 0) (Dw (Ah Bw (Ae 1) Ad)) Dv)))),?_⟩
   done
   refine⟨a,_,rfl,ha,fun z1 H1 s1 h1 p hp=> ?_⟩
   have sp:=Same.upd hp (.tup [V.int 0])
   have gp:upd H1 p (.tup [V.int 0]) p=some (.tup [V.int 0]):=Af
   generalize upd H1 p (.tup [V.int 0])=U at sp gp
   obtain⟨G,x1,J,rfl⟩:∃G x1 J,ks=[G,x1,J]:=by
    match ks,hl with
    | [G,x1,J],_=>exact⟨G,x1,J,rfl⟩
   have c1:Ih ([G,x1,J].map V.int) none (some ((2:Nat):Int))=[.int G,.int x1]:=rfl
   have c2:Ih ([G,x1,J].map V.int) (some (((2:Nat):Int)+1)) none=[]:=rfl
   rw [c1]at h1
   refine⟨z1,p,_,_,rfl,rfl,sp.tup h1,.of gp,(fun z=>nomatch z),bL rfl,(fun z=>nomatch z),fun _ W a1=> ?_⟩
   have s2:=Same.upd a1 (.tup ([V.int G,V.int x1]++ [V.int 0]))
   have g2:upd U W (.tup ([V.int G,V.int x1]++ [V.int 0])) W=some (.tup ([V.int G,V.int x1]++ [V.int 0])):=Af
   generalize upd U W (.tup ([V.int G,V.int x1]++ [V.int 0]))=H2 at s2 g2
   have O:=(s1.trans sp).trans s2
   refine⟨a,_,rfl,O.tup ha,fun z3 H3 Z h3=> ?_⟩
   rw [c2]at h3
   exact⟨W,z3,_,_,rfl,rfl,Z.tup (.of g2),h3,(fun z=>nomatch z),bL rfl,fun _=>k W H3 (O.trans Z) (Z _ _ g2),fun z=>absurd rfl z⟩
 . refine Aw ⟨_,(Ag (Ar (Ah Qh (Ah Aal (Dh Nf (Ae 0) Dv (Dw (Ae 1))) (Az (Aa Ad Ab))) (Dh Nf (Ae 0) (Dw (Ah Bw (Ae 1) Ad)) Dv)))),?_⟩
   done
   refine⟨a,_,rfl,ha,fun z1 H1 s1 h1 p hp=> ?_⟩
   have sp:=Same.upd hp (.tup [V.int 0])
   have gp:upd H1 p (.tup [V.int 0]) p=some (.tup [V.int 0]):=Af
   generalize upd H1 p (.tup [V.int 0])=U at sp gp
   obtain⟨G,x1,J,rfl⟩:∃G x1 J,ks=[G,x1,J]:=by
    match ks,hl with
    | [G,x1,J],_=>exact⟨G,x1,J,rfl⟩
   obtain⟨l1,l2,l3⟩:=Ai6 hj G x1 J
   refine⟨z1,p,_,_,rfl,rfl,sp.tup h1,.of gp,aO (show _+1<=4 from gS l1 1) (by decide),fun W H2 s2 h2=> ?_⟩
   have O:=(s1.trans sp).trans s2
   refine⟨a,_,rfl,O.tup ha,fun z3 H3 Z h3=> ?_⟩
   have ny:Ih ([G,x1,J].map V.int) (some ((j:Int)+1)) none≠ []:=by
    rcases(by omega:j=0\/j=1)with rfl | rfl<;>exact fun z=>nomatch z
   refine⟨W,z3,_,_,rfl,rfl,Z.tup h2,h3,by simp,aO (show _<=7 by rw [aH];exact Nat.add_le_add (gS l1 1) l2) (by decide),fun z=>absurd z ny,fun _ z4 h4=> ?_⟩
   refine k z4 _ ((O.trans Z).trans (Same.upd h4 _)) ?_
   rw [Af,l3]
theorem Af6 {a:Addr}{H1:Hp}{p:Addr}{cσ:St}{g:TG}{te:TE}{Q:VK}{α:Type}{es:List α}{inj:α->V} (U:Nat->α->V->Hp->Prop)
 (mono:∀i e v H H',U i e v H->Same H H'->U i e v H') (put:∀i e v H ys zs,U i e v H->H p=some (.lst ys)->U i e v (upd H p (.lst zs))) (hz:es.length<=sizeLine) (hp:H1 p=none) (ha:SqT K H1 a (es.map inj))
 (step:∀i e b H' R,es[i]? =some e->Same H1 H'->H' b=none->(∀v O,Same H' O->U i e v O->R v O)->g (.ref b) cσ (upd H' b (.tup [.int (i:Nat),inj e])) fun J W=>Kp cσ J/\te J W R)
 (Z:∀H' (vs:List V),Same H1 H'->H' p=some (.lst vs)->vs.length=es.length->(∀i v e,vs[i]? =some v->es[i]? =some e->U i e v H')->Q (.ref p) H'):cIn (Ite K a) cσ g J2 te Q H1 p:=by
 have su:∀ {H':Hp}{o:HO},Same H1 H'->Same H1 (upd H' p o):=fun {H' o} s b u e=>by
  rw [Ax (Ay e hp)]
  exact s b u e
 refine⟨fun i m G H'=>m=es.length-i/\i<=es.length/\G.length=i/\H' p=some (.lst G)/\Same H1 H'/\∀j v e,G[j]? =some v->es[j]? =some e->U j e v H',⟨es.length,by simp,cH _,rfl,Af,su (Same.refl _),fun j v e z=>by simp at z⟩,?_⟩
 rintro i m G H' ⟨rfl,hi,al,ap,s,hr⟩
 have w:=s.tup ha
 cases he:es[i]? with
 | none=>
   have e:i=es.length:=fJ hi (bS.mp he)
   exact .inl ⟨⟨_,w,by rw [aC];omega⟩,Z H' G s ap (al.trans e) hr⟩
 | some e=>
   refine .inr ⟨⟨_,inj e,w,by rw [aN,he];rfl⟩,fun x H3 y=> ?_⟩
   obtain⟨b,v,y1,y2,rfl,rfl⟩:=y
   have y3:=y1 _ w
   rw [aN,he]at y3
   obtain rfl:inj e=v:=aY y3
   have a1:=(aW.mp he).1
   have q:=step i e b H' (fun y O=>O p=some (.lst G)/\G.length<sizeLine/\∃m',m'<es.length-i/\m'=es.length-(i+1)/\i+1<=es.length/\(G++ [y]).length=i+1/\upd O p (.lst (G++ [y])) p=some (.lst (G++ [y]))/\Same H1 (upd O p (.lst (G++ [y])))/\∀j v e,(G++ [y])[j]? =some v->es[j]? =some e->U j e v (upd O p (.lst (G++ [y])))) he s y2 fun v O s6 r6=>⟨s6 _ _ ap,by omega,_,by omega,rfl,a1,by rw [aH,al];rfl,Af,su (s.trans s6),fun j v2 e2 h1 h2=>put _ _ _ _ G _ ?_ (s6 _ _ ap)⟩
   have eq:∀(R:VK) (B:Hp->Prop),(fun J W=>Kp cσ J/\J2 J W fun b H5=>if b=true then te J H5 R else B H5)=(fun J W=>Kp cσ J/\te J W R):=fun R B=>by
    funext J W
    simp only [J2,aI]
   . rw [eq]
     exact q
   . by_cases hj:j<G.length
     . rw [jS hj]at h1
       exact mono _ _ _ _ _ (hr j v2 e2 h1 h2) s6
     . have hl:=(aW.mp h1).1
       rw [aH,eG]at hl
       obtain rfl:j=i:=by omega
       rw [fE (by omega),al,sub_self]at h1
       cases h1
       cases he.symm.trans h2
       exact r6
noncomputable def trm (j:Nat) (ws:List Int):List (List Int × Int):=ws.mapIdx fun m w=>(pwI j m,w)
noncomputable def Qw (K:Frag):Sp:=fun vs H Q E=>(∃(a:Addr) (j:Nat) (ws:List Int),j<3/\vs=[.ref a,.str (nmS j)]/\SqT K H a (ws.map V.int)/\ws.length<=100/\∀z H' fs,Same H H'->Frm K H' z fs->(∀k,Bq (fs.map (·.2)) k=Bq (trm j ws) k)->Q (.ref z) H')\/∃x v,vs=[x,v]/\Ref K H v E
theorem Agw (F:Df K mg "f_of" Wf yK f fd) (J:mg "enumerate"=none)  (O:Lf P w K mg base 3 "place_of" yM (Ep K)) (Z:Cal P w K mg base 1 "form" yL (U9 K)) (G:Cal P w K mg base 1 "name_power" zS (Jx K)):Lf P w K mg base 4 "f_of" yK (Qw K):=by
 refine F.calN (F.fn.okN Aa9 (fun W H Q E h=> ?_) (fun a2 A outer s H W Q E hr h=> ?_))
 . rcases h with⟨a,j,U,_,rfl,_⟩ | ⟨x,v,rfl,_⟩<;>rfl
 refine Aw ⟨_,(Ac (Am 2 Aa9.nd (S.G8 O (hr.mono (by decide)) (Aa (Ae 1) Ab)))
  (Ag (Ar (Aj Z hr (Aa (Bk (ts:=["many","weight"]) (fs:=[(2,"place")]) rfl (Dg.of (sc:=Ak Wf) (N:=["p","name","place"]) rfl rfl (by decide+kernel)) (O5 rfl J (Aa (Ae 0) Ab)) (fun _ _ _=>(Ej K 2 rfl rfl (Al (Aq 0 (show Nodup (["many","weight","place"]:List Str)by decide+kernel)) (Al (Aq 1 (show Nodup (["many","weight","place"]:List Str)by decide+kernel)) Bg)))) (fun _ _ _=>Bo) (fun _ _ _=>(Az (Aa (Aj G hr (Aa (Ae 2) (Aa (Ae 0) Ab))) (Aa (Ae 1) Ab))))) Ab))))),?_⟩
 rcases h with⟨a,j,U,hj,rfl,ha,hl,k⟩ | ⟨x,v,rfl,k⟩
 . done
   refine .inl ⟨j,hj,rfl,fun H1 s1=> ?_⟩
   try done
   refine⟨⟨_,s1.tup ha⟩,fun p hp=>Af6 (es:=U) (inj:=V.int) (fun i e v H=>Te K H v (pwI j i,e)) (fun _ _ _ _ _ h s=>h.mono s) (fun _ _ _ _ _ _ h z=>h.put z) (aO hl (by decide)) hp (s1.tup ha) ?_ ?_⟩
   . intro i e b H2 R he s2 hb hR
     have sb:=Same.upd hb (.tup [V.int (i:Nat),V.int e])
     refine Dd (.of Af) ?_
     done
     refine⟨j,i,hj,rfl,fun z H3 s3 _ gz q hq=> ?_⟩
     have sq:=Same.upd hq (.tup [V.ref z,V.int e])
     exact hR _ _ ((sb.trans s3).trans sq) ⟨⟨q,z,rfl,.of Af,sq _ _ gz⟩,(Wd i j).1⟩
   intro H2 W s2 h2 hv a1
   have l2:W.length=(trm j U).length:=by rw [hv];unfold trm;rw [length_mapIdx]
   have m1:(W.zip (trm j U)).map (·.1)=W:=List.map_fst_zip (by omega)
   have m2:(W.zip (trm j U)).map (·.2)=trm j U:=List.map_snd_zip (by omega)
   refine⟨p,W.zip (trm j U),rfl,.inl (by rw [m1];exact .of h2),fun e he=> ?_,?_,fun z H3 fs s3 fr et _=>k z H3 fs ((s1.trans s2).trans s3) fr (fun q=>by rw [et,m2])⟩
   . obtain⟨i,hi,ee⟩:=List.mem_iff_getElem.mp he
     rw [List.getElem_zip]at ee
     have i1:i<W.length:=by rw [List.length_zip]at hi;omega
     have i2:i<U.length:=by omega
     have:=a1 i W[i] U[i] (aG i1) (aG i2)
     have e2:(trm j U)[i]'(by omega)=(pwI j i,U[i]):=List.getElem_mapIdx ..
     rw [<-ee]
     show Te K H2 W[i] _
     rw [e2]
     exact this
   . rw [List.length_zip]
     omega
 . done
   refine .inr ⟨v,rfl,k⟩
theorem Yr {cσ:St}{g:TG}{te:TE}{Q:VK}{α:Type}{es:List α}{inj:α->V}{J:It} (U:Nat->List V->Hp->Prop) (hz:es.length<=sizeLine) (h0:U 0 [] (upd H1 p (.lst []))) (hl:∀i G H',U i G H'->G.length=i/\H' p=some (.lst G)) (hJ:∀i G H',U i G H'->Aen J H' es inj)
 (step:∀i e G H' R,es[i]? =some e->U i G H'->(∀v W,W p=some (.lst G)->U (i+1) (G++ [v]) (upd W p (.lst (G++ [v])))->R v W)->g (inj e) cσ H' fun O Z=>Kp cσ O/\te O Z R)
 (a1:∀G H',U es.length G H'->Q (.ref p) H'):cIn J cσ g J2 te Q H1 p:=by
 refine⟨fun i m G H'=>m=es.length-i/\i<=es.length/\U i G H',⟨es.length,by simp,cH _,h0⟩,?_⟩
 rintro i m G H' ⟨rfl,hi,pv⟩
 obtain⟨al,ap⟩:=hl _ _ _ pv
 cases he:es[i]? with
 | none=>
   have e:i=es.length:=fJ hi (bS.mp he)
   exact .inl ⟨(hJ _ _ _ pv i).1 he,a1 G _ (e▸pv)⟩
 | some e=>
   obtain⟨go,yl⟩:=(hJ _ _ _ pv i).2 e he
   refine .inr ⟨go,fun x H3 y=> ?_⟩
   obtain⟨rfl,rfl⟩:=yl x H3 y
   have a2:=(aW.mp he).1
   have q:=step i e G H3 (fun y W=>W p=some (.lst G)/\G.length<sizeLine/\∃m',m'<es.length-i/\m'=es.length-(i+1)/\i+1<=es.length/\U (i+1) (G++ [y]) (upd W p (.lst (G++ [y])))) he pv fun v W h6 a3=>⟨h6,by omega,_,by omega,rfl,a2,a3⟩
   have eq:∀(R:VK) (B:Hp->Prop),(fun O Z=>Kp cσ O/\J2 O Z fun b H5=>if b=true then te O H5 R else B H5)=(fun O Z=>Kp cσ O/\te O Z R):=fun R B=>by
    funext O Z
    simp only [J2,aI]
   rw [eq]
   exact q
noncomputable def Ld (j m:Nat) (L:List (List Int × Int)):List (List Int × Int):=(L.filter fun e=>decide (e.1.getD j 0=(m:Int))).map fun e=>(e.1.set j 0,e.2)
theorem Aa5 (j m:Nat) (L:List (List Int × Int)) (e:List Int × Int):Ld j m (L++ [e])=Ld j m L++(if e.1.getD j 0=(m:Int)then [(e.1.set j 0,e.2)]else []):=by
 unfold Ld
 rw [gA,aQ]
 congr 1
 by_cases h:e.1.getD j 0=(m:Int)
 . rw [eP (by simpa using h),aI h]
   rfl
 . rw [dS (by simpa using h),aF h]
   rfl
theorem Afo {ks:List Int} (h:Np ks) (j:Nat):Np (ks.set j 0):=by
 obtain⟨a,b,c,rfl,_⟩:=h.ex
 rcases(by omega:j=0\/j=1\/j=2\/3<=j)with rfl | rfl | rfl | g
 . exact⟨rfl,fun x G=>by simp at G;omega⟩
 . exact⟨rfl,fun x G=>by simp at G;omega⟩
 . exact⟨rfl,fun x G=>by simp at G;omega⟩
 . rw [List.set_eq_of_length_le (by simpa using g)]
   exact h
theorem Aa4 (h:∀e∈L,Np e.1):∀e∈Ld j m L,Np e.1:=fun e G=>by
 obtain⟨x,J,rfl⟩:=aE.mp G
 exact Afo (h x (dJ.mp J).1) j
theorem Ahu (hj:j<3) {a b:List Int} (W:Np a) (Z:Np b) (e:a.getD j 0=b.getD j 0) (h:HT.lexLt a b=true):HT.lexLt (a.set j 0) (b.set j 0)=true:=by
 obtain⟨a0,G,J,rfl,_⟩:=W.ex
 obtain⟨b0,O,U,rfl,_⟩:=Z.ex
 rw [HT.Bh,HT.Bh,HT.Bh]at h
 rcases(by omega:j=0\/j=1\/j=2)with rfl | rfl | rfl
 . have e:(a0:Int)=b0:=e
   rw [aI e]at h
   show HT.lexLt [0,(G:Int),(J:Int)] [0,(O:Int),(U:Int)]=true
   rw [HT.Bh,aI rfl,HT.Bh,HT.Bh]
   exact h
 . have e:(G:Int)=O:=e
   show HT.lexLt [(a0:Int),0,(J:Int)] [(b0:Int),0,(U:Int)]=true
   rw [HT.Bh,HT.Bh,HT.Bh]
   rw [aI e]at h
   rw [aI (rfl:(0:Int)=0)]
   exact h
 . have e:(J:Int)=U:=e
   show HT.lexLt [(a0:Int),(G:Int),0] [(b0:Int),(O:Int),0]=true
   rw [HT.Bh,HT.Bh,HT.Bh]
   rw [aI e]at h
   rw [aI (rfl:(0:Int)=0)]
   exact h
theorem Aho (O:j<3)  (h:∀e∈L,Np e.1) (up:UpT L):UpT (Ld j m L):=by
 unfold Ld
 refine bO.mpr ((lG.mp (up.filter _)).imp fun {x y} z=> ?_)
 have G:=dJ.mp z.1
 have J:=dJ.mp z.2.1
 exact Ahu O (h x G.1) (h y J.1) ((dY G.2).trans (dY J.2).symm) z.2.2
theorem Ahn (h:∀e∈L,e.2≠0):∀e∈Ld j m L,e.2≠0:=fun e G=>by
 obtain⟨x,J,rfl⟩:=aE.mp G
 exact h x (dJ.mp J).1
noncomputable def Wm (j:Nat) (L:List (List Int × Int)) (m:Nat):Fq:=fq (cvl (Ld j m L))
theorem Afz (j:Nat):∀m:Nat,(Yj j 1)^m=Yj j m
 | 0=>(Aph j).symm
 | m+1=>by
   rw [Lean.Grind.Semiring.pow_succ,Afz j m,<-Aiy]
theorem Yk (G:j<3) {ks:List Int} (h:Np ks):c3 (ks.set j 0)=zj j (c3 ks):=by
 obtain⟨a,b,c,rfl,e⟩:=h.ex
 rw [e]
 match j,G with
 | 0,_=>rfl
 | 1,_=>rfl
 | 2,_=>rfl
theorem U3 {j n:Nat} (J:j<3):∀L:List (List Int × Int),(∀e∈L,Np e.1)->(∀e∈L,e.1.getD j 0<(n:Int))->fq (cvl L)=ho (Wm j L) (Yj j 1) 0 n
 | [],_,_=>by
   rw [show Wm j []=fun _=>(0:Fq)from funext fun m=>Rt,Apm]
   exact Rt
 | e::r,np,b=>by
   have h:=np e (.head _)
   have Z:=b e (.head _)
   obtain⟨p,U⟩:∃p:Nat,pw3 j (c3 e.1)=p:=⟨_,rfl⟩
   have G:e.1.getD j 0=(p:Int):=by rw [<-Afj J h,U]
   have W:Wm j (e::r)=fun m=>(if p=m then fq [(zj j (c3 e.1),e.2)]else 0)+Wm j r m:=funext fun m=>by
    unfold Wm Ld
    by_cases c:p=m
    . rw [aI c,eP (by rw [G,c];simp),<-Yk J h]
      rfl
    . rw [aF c,dS (by rw [G];simp;omega),Lean.Grind.Semiring.add_comm,Lean.Grind.Semiring.add_zero]
   rw [W,Aex,Aey,aI (by omega),<-U3 J r (fun x O=>np x (.tail _ O)) fun x O=>b x (.tail _ O),Afz,<-U,<-Aqb]
   rfl
theorem Akf {B:Nat}:∀ {l:Tl},(∀e∈l,e.2.natAbs<=B)->n1 l<=l.length*B
 | [],_=>cH _
 | e::r,h=>by
   have h1:=h e (.head _)
   have h2:=Akf (l:=r) fun x G=>h x (.tail _ G)
   show e.2.natAbs+n1 r<=(r.length+1)*B
   rw [Nat.add_mul]
   omega
theorem Zk {fs:Ft} (w:J4 K H a fs) (np:∀e∈fs,Np e.2.1) (b:Bd (fq (cvl (fs.map (·.2)))) d n):(∀e∈fs,∀y∈e.2.1,0<=y/\y<=(d:Int))/\(∀e∈fs,Sz (n+1) e.2.2)/\fs.length<=(d+1)*(d+1)*(d+1):=by
 have O:=Ai0 w.at.1 w.at.2 (Et np) rfl b
 have G:∀e∈fs,∀y∈e.2.1,0<=y/\y<=(d:Int):=fun x J=>(O x.2 (aE.mpr ⟨x,J,rfl⟩)).1
 refine⟨G,fun x J=>(O x.2 (aE.mpr ⟨x,J,rfl⟩)).2,?_⟩
 have:=Z5 (Abx w.at.1) (d:=d) fun x J=>by
  obtain⟨y,U,rfl⟩:=aE.mp J
  exact⟨(np y U).1,G y U⟩
 rwa [aC]at this
theorem gd3 (G:j<3) {ks:List Int} (h:Np ks) (b:∀y∈ks,0<=y/\y<=(d:Int)):0<=ks.getD j 0/\ks.getD j 0<=(d:Int):=by
 have l:=h.1
 rw [aU,aG (by omega)]
 exact b _ (cS _)
structure Nl (H H':Hp) (p:Addr) (ls:List Addr):Prop where
 sm:Same H H'
 nd:ls.Nodup
 al:∀l∈ls,H l=none/\l≠p/\H' l=some (.lst [])
 it:H' p=some (.lst (ls.map V.ref))
theorem Nl.put {H H':Hp}{p x:Addr}{O:List Addr} (h:Nl H H' p O) (Z:H p=none) (J:H' x=none):Nl H (upd (upd H' x (.lst [])) p (.lst ((O++ [x]).map V.ref))) p (O++ [x]):=by
 have U:=Same.upd J (.lst [])
 have W:x≠p:=cC (Ay h.it J)
 refine⟨(h.sm.trans U).put Z,jV.mpr ⟨h.nd,by simp,fun a ha b hb=> ?_⟩,fun l G=> ?_,Af⟩
 . rw [bA.mp hb]
   exact Ay (h.al a ha).2.2 J
 . rcases bG.mp G with G | G
   . have:=h.al l G
     exact⟨this.1,this.2.1,by rw [Ax this.2.1];exact U _ _ this.2.2⟩
   . rw [bA.mp G]
     exact⟨Same.free h.sm J,W,by rw [Ax W];exact Af⟩
structure Rw (K:Frag) (H H':Hp) (p:Addr) (ls:List Addr) (j:Nat) (L:List (List Int × Int)):Prop where
 sm:Same H H'
 it:H' p=some (.lst (ls.map V.ref))
 nd:ls.Nodup
 nw:∀l∈ls,H l=none/\l≠p
 vl:∀m l,ls[m]? =some l->∃ts:Ft,H' l=some (.lst (ts.map (·.1)))/\(∀t∈ts,Te K H' t.1 t.2)/\ts.map (·.2)=Ld j m L
theorem Rw.mono {H H' H2:Hp}{p:Addr}{G:List Addr}{j:Nat}{L:List (List Int × Int)} (r:Rw K H H' p G j L) (s:Same H' H2):Rw K H H2 p G j L:=
 ⟨r.sm.trans s,s _ _ r.it,r.nd,r.nw,fun m l J=>by
  obtain⟨ts,a,b,c⟩:=r.vl m l J
  exact⟨ts,s _ _ a,fun t O=>(b t O).mono s,c⟩⟩
theorem Anl {G:List Addr} (h:G.Nodup) {i:Nat} (hi:G[i]? =some l) (U:G[j]? =some l):i=j:=by
 obtain⟨a,J⟩:=aW.mp hi
 obtain⟨b,O⟩:=aW.mp U
 have p:=bI.mp h
 rcases Nat.lt_trichotomy i j with c | c | c
 . exact absurd (J.trans O.symm) (p i j a b c)
 . exact c
 . exact absurd (O.trans J.symm) (p j i b a c)
theorem Rw.put {H H':Hp}{p:Addr}{O:List Addr}{j m:Nat}{L:List (List Int × Int)}{l:Addr}{xs:List V}{v:V}{e:List Int × Int} (r:Rw K H H' p O j L) (U:O[m]? =some l) (W:H' l=some (.lst xs)) (he:Te K H' v (e.1.set j 0,e.2)) (Z:e.1.getD j 0=(m:Int)):Rw K H (upd H' l (.lst (xs++ [v]))) p O j (L++ [e]):=by
 have ml:=dR U
 have hn:=r.nw l ml
 refine⟨r.sm.put hn.1,by rw [Ax (cC hn.2)];exact r.it,r.nd,r.nw,fun m' l' G=> ?_⟩
 obtain⟨ts,a,b,c⟩:=r.vl m' l' G
 rw [Aa5]
 by_cases q:m=m'
 . subst q
   cases U.symm.trans G
   cases W.symm.trans a
   rw [aI Z]
   refine⟨ts++ [(v,(e.1.set j 0,e.2))],by rw [Af,aQ];rfl,fun t J=> ?_,by rw [aQ,c];rfl⟩
   rcases bG.mp J with J | J
   . exact(b t J).put a
   . rw [bA.mp J]
     exact he.put a
 . rw [aF (by rw [Z];omega),bT]
   have ne:l'≠l:=fun z=>by
    subst z
    exact q (Anl r.nd U G)
   exact⟨ts,by rw [Ax ne];exact a,fun t J=>(b t J).put W,c⟩
structure Rf (K:Frag) (H:Hp) (j m:Nat) (L:List (List Int × Int)) (v:V):Prop where
 at_:∃a,∃ts:Ft,v= .ref a/\Frm K H a ts/\ts.map (·.2)=Ld j m L
theorem Rf.mono {H H':Hp}{j m:Nat}{L:List (List Int × Int)}{v:V} (h:Rf K H j m L v) (s:Same H H'):Rf K H' j m L v:=by
 obtain⟨a,ts,e,f,g⟩:=h
 exact⟨a,ts,e,⟨s.tup f.it,fun x G=>(f.al x G).mono s,f.up,f.nn⟩,g⟩
theorem Rf.put {f:Addr}{H:Hp}{j m:Nat}{L:List (List Int × Int)}{zs ys:List V}{v:V} (h:Rf K H j m L v) (G:H f=some (.lst zs)):Rf K (upd H f (.lst ys)) j m L v:=by
 obtain⟨a,ts,e,g,q⟩:=h
 refine⟨a,ts,e,⟨?_,fun x J=>(g.al x J).put G,g.up,g.nn⟩,q⟩
 rcases g.it with(e | ⟨o,e⟩) | h
 . exact .inl (.inl (by rw [Ax (G6 e G (fun z=>nomatch z))];exact e))
 . exact .inl (.inr ⟨o,by rw [Ax (G6 e G (fun z=>nomatch z))];exact e⟩)
 . exact .inr h
noncomputable def Ad3 (j:Nat) (L:List (List Int × Int)):Nat->Prop:=fun n=>(L=[]->n=0)/\(L≠ []->∃M:Nat,n=M+1/\(∀e∈L,e.1.getD j 0<=(M:Int))/\∃e∈L,e.1.getD j 0=(M:Int))
structure Rws (K:Frag) (H:Hp) (z:Addr) (rs:List V) (j d:Nat) (L:List (List Int × Int)):Prop where
 it:H z=some (.lst rs)
 nn:Ad3 j L rs.length
 le:rs.length<=d+1
 rf:∀m v,rs[m]? =some v->Rf K H j m L v
noncomputable def Ey (K:Frag):Sp:=fun vs H Q E=>(∃(a:Addr) (fs:Ft) (j d n:Nat),j<3/\vs=[.ref a,.str (nmS j)]/\J4 K H a fs/\(∀e∈fs,Np e.2.1)/\Bd (fq (cvl (fs.map (·.2)))) d n/\d<=20/\
 ∀z H' rs,H z=none->Same H H'->Rws K H' z rs j d (fs.map (·.2))->Q (.ref z) H')\/∃x v,vs=[x,v]/\Ref K H v E
theorem T3 (K:Frag) (h:X.K=K:=by rfl):Er X (.type "tuple") (fun xs H Q=>∃p ys,xs=[.ref p]/\((SqL K H p ys/\∀l,H l=none->Q (.ref l) (upd H l (.tup ys)))\/(SqT K H p ys/\Q (.ref p) H))):=by
 subst h
 exact Bm
theorem R4 (F:Df K mg "f_weights" Fw zY f fd) (W:mg "tuple"=none) (Z:mg "range"=none)  (J:Lf P w K mg base 3 "place_of" yM (Ep K)) (O:Cal P w K mg base 1 "without" zU (Oz K)) (a3:Cal P w K mg base 1 "most" zP (Qx K)):Lf P w K mg base 4 "f_weights" zY (Ey K):=by
 refine F.calN (F.fn.okN Eo (fun vs H Q E h=> ?_) (fun ag A outer s H vs Q E hr h=> ?_))
 . rcases h with⟨a,fs,j,d,n,_,rfl,_⟩ | ⟨x,v,rfl,_⟩<;>rfl
 refine Aw ⟨_,(Ac (Am 2 Eo.nd (S.G8 J (hr.mono (by decide)) (Aa (Ae 1) Ab)))
  (Ac (Bp (Av (Oq hr.units) (Ae 0) (Az Ab) (Bl _)) (Ag (Ar (Bs Ab))) Ba)
  (Ac (Lz (ts:=["many"]) (fs:=[]) rfl (Dg.of (sc:=Ak Fw) (N:=zQ) rfl rfl (by decide+kernel)) (Bv rfl Z (Aa (Ah Bw (Aj a3 hr (Aa (Ae 0) (Aa (Ae 2) Ab))) Ad) Ab)) (fun _ _ _=>(Aq 0 (show Nodup (["many"]:List Str)by decide+kernel))) (fun _ _ _=>Bo) (fun _ _ _=>(Bs Ab)) (Aq 3 Eo.nd))
  (Ac (Ra (Bt bR rfl (Ea (Ae 0)) (Cg rfl (Al (Aq 4 Eo.nd) (Al (Aq 5 Eo.nd) Bg))) (Ag (Dy (Gf dG eK eJ Fv (Bj Fp (Ae 3) (Bj Jl (Ae 4) (Ae 2) (fun _ _=>rfl)) (fun _ _=>rfl)) (Aa (Az (Aa (Aj O hr (Aa (Ae 4) (Aa (Ae 2) Ab))) (Aa (Ae 5) Ab))) Ab))))))
  (Ag (Ar (Bk (ts:=yL) (fs:=[]) rfl (Dg.of (sc:=Ak Fw) (N:=zQ) rfl rfl (by decide+kernel)) (Du (Ae 3)) (fun _ _ _=>(Aq 0 (show Nodup (yL:List Str)by decide+kernel))) (fun _ _ _=>Bo) (fun _ _ _=>(Bu (T3 K) rfl W bJ (Aa (Ae 0) Ab)))))))))),?_⟩
 rcases h with⟨a,fs,j,d,n,hj,rfl,hf,np,bd,hd,k⟩ | ⟨x,v,rfl,k⟩
 . have hF:Fo K H false (.ref a) (fq (cvl (fs.map (·.2)))) d n:=⟨⟨a,fs,rfl,hf,fun z=>absurd z (by decide),np,rfl⟩,bd⟩
   done
   refine .inl ⟨j,hj,rfl,fun H1 s1=> ?_⟩
   try done
   refine⟨by decide,fun p0 a8=> ?_⟩
   have s2:=s1.trans (Same.upd a8 (.tup []))
   have n2:∀ {z},(upd H1 p0 (.tup [])) z=none->H z=none:=fun h=>Same.free s2 h
   refine Agd (hF.mono s2) (Vp (.of Af)) (fun e0=> ?_) (fun e0=> ?_)
   . have f0:=(Ua hf np).mp e0
     subst f0
     refine⟨_,rfl,?_⟩
     rw [aI rfl]
     refine⟨by decide,fun z hz=>k z _ [] (n2 hz) (s2.trans (Same.upd hz _)) ⟨Af,⟨fun _=>rfl,fun z=>absurd rfl z⟩,by simp,fun m v h=>by simp at h⟩⟩
   refine⟨_,rfl,?_⟩
   rw [aF (by decide)]
   have f0:fs≠ []:=fun z=>e0 ((Ua hf np).mpr z)
   obtain⟨pw,sz,ln⟩:=Zk hf np bd
   have ah:fs.length<=9261:=aO ln (cube hd)
   generalize upd H1 p0 (.tup [])=H2 at s2 n2
   refine⟨a,fs,j,rfl,hf.mono s2,by omega,hj,fun M H3 s3 hM=> ?_⟩
   obtain⟨x,hx,ex⟩:=hM.is f0
   obtain⟨M0,Md⟩:=gd3 hj (np x hx) (pw x hx)
   rw [ex]at M0 Md
   obtain⟨M',rfl⟩:∃M':Nat,M=M':=⟨M.toNat,by omega⟩
   have ai:M'<=d:=by omega
   try done
   refine⟨by omega,by omega,fun p hp=> ?_⟩
   have aj:H p=none:=Same.free (s2.trans s3) hp
   refine Yr (es:=List.range (M'+1)) (inj:=fun i=> .int (0+(i:Nat))) (fun i a1 H'=>∃G:List Addr,a1=G.map V.ref/\G.length=i/\Nl H3 H' p G) ?_ ⟨[],rfl,rfl,Same.upd hp _,by simp,by simp,Af⟩ ?_ ?_ ?_ ?_
   . rw [cJ]
     exact aO (show _<=21 by omega) (by decide)
   . rintro i a1 H' ⟨G,rfl,rfl,U⟩
     exact⟨aC ..,U.it⟩
   . rintro i a1 H' ⟨G,rfl,rfl,U⟩
     exact Gx
   . rintro i e a1 H' R he ⟨G,rfl,rfl,U⟩ hR
     done
     refine⟨by decide,fun x hx=>hR _ _ (Same.upd hx _ _ _ U.it) ⟨G++ [x],by rw [aQ];rfl,by simp,?_⟩⟩
     have:=U.put hp hx
     rwa [aQ]at this
   rintro a1 H4 ⟨G,rfl,a6,U⟩
   rw [cJ]at a6
   have s4:=(s2.trans s3).trans U.sm
   have r0:Rw K H H4 p G j []:=⟨s4,U.it,U.nd,fun l hl=>⟨Same.free (s2.trans s3) (U.al l hl).1,(U.al l hl).2.1⟩,fun m l hl=>⟨[],(U.al l (dR hl)).2.2,by simp,rfl⟩⟩
   clear U
   refine⟨⟨_,s4.tup hf.it⟩,Mr (es:=fs) (inj:=(·.1)) (fun a2 a4 H'=>∃o4 o5:Option V,a4=[some (.ref a),some (.str (nmS j)),some (.int (j:Nat)),some (.ref p),o4,o5]/\Rw K H H' p G j (a2.map (·.2))) ⟨_,_,rfl,r0⟩ ?_ ?_ ?_⟩
   . rintro a2 a4 H' ⟨o4,o5,rfl,r⟩
     exact Lp (r.sm.tup hf.it)
   . rintro a2 e af a4 H' hE ⟨o4,o5,rfl,r⟩
     have hm:e∈fs:=by rw [hE];simp
     have hn:=np e hm
     have a9:=hM.le e hm
     obtain⟨⟨b,c,eb,hb,hc⟩,aa⟩:=(hf.al e hm).mono r.sm
     obtain⟨g0,g1⟩:=gd3 hj hn (pw e hm)
     obtain⟨m,em⟩:∃m:Nat,e.2.1.getD j 0=m:=⟨(e.2.1.getD j 0).toNat,by omega⟩
     rw [em]at a9
     obtain⟨l,el⟩:∃l,G[m]? =some l:=⟨_,aG (by omega)⟩
     obtain⟨ts,a5,_,ac⟩:=r.vl m l el
     have ad:ts.length<=9261:=by
      have h1:=bE length ac
      have h2:=bE length hE
      have h3:(Ld j m (a2.map (·.2))).length<=a2.length:=by
       unfold Ld
       rw [aC]
       exact aO (dF _ _) (by rw [aC];omega)
      rw [aC]at h1
      rw [aH]at h2
      omega
     rw [eb]
     refine Dd hb ?_
     done
     refine Ip hc (v:= .int (m:Nat)) (Es ?_) ?_
     . rw [aN,<-em,aU,aG (by omega)]
       rfl
     try done
     refine Nr (.of r.it) (v:= .ref l) (Es (by rw [aN,el];rfl)) ?_
     try done
     refine⟨.inl ⟨rfl,_,.of a5⟩,c,_,j,hj,aa,rfl,hc,fun z H5 s5 hz q hq=> ?_⟩
     have sq:=Same.upd hq (.tup [V.ref z,V.int e.2.2])
     have r6:=(r.mono s5).mono sq
     refine⟨l,_,_,rfl,rfl,sq _ _ (s5 _ _ a5),by rw [aC];exact cN ad (by decide),_,_,rfl,?_⟩
     rw [aQ]
     exact r6.put el (sq _ _ (s5 _ _ a5)) ⟨⟨q,z,rfl,.of Af,sq _ _ hz⟩,(Afo hn j).1⟩ em
   . rintro a4 H' ⟨o4,o5,rfl,r⟩
     try done
     have el:G.map V.ref=(List.range G.length).map fun m=>V.ref (G.getD m 0):=by
      refine List.ext_getElem? fun m=> ?_
      rw [aN,aN]
      by_cases c:m<G.length
      . rw [fR c,aG c]
        show some (V.ref G[m])=some (V.ref (G.getD m 0))
        rw [aU,aG c]
        rfl
      . rw [gI (by omega),gI (by rw [cJ];omega)]
        rfl
     have it:=r.it
     rw [el]at it
     refine⟨⟨_,.of r.it⟩,fun p2 a7=>O8 (es:=List.range G.length) (inj:=fun m=>V.ref (G.getD m 0)) (fun m v H=>Rf K H j m (fs.map Prod.snd) v) (fun _ _ _ _ h s=>h.mono s) (fun _ _ _ _ _ h z=>h.put z) ?_ a7 (Q7 (.of it)) ?_ ?_⟩
     . rw [cJ,a6]
       exact aO (show _<=21 by omega) (by decide)
     . intro m H5 R hm s5 hR
       have hm:=cW.mp hm
       obtain⟨ts,h1,h2,h3⟩:=(r.mono s5).vl m (G.getD m 0) (by rw [aU,aG hm];rfl)
       done
       refine⟨_,_,rfl,.inl ⟨.of h1,fun z hz=> ?_⟩⟩
       have sz:=Same.upd hz (.tup (ts.map (·.1)))
       refine hR _ _ sz ⟨z,ts,rfl,⟨.of Af,fun t ht=>(h2 t ht).mono sz,?_,fun t ht=> ?_⟩,h3⟩
       . rw [h3]
         exact Aho hj (Et np) hf.up
       . have:t.2∈Ld j m (fs.map (·.2)):=by rw [<-h3];exact aE.mpr ⟨t,ht,rfl⟩
         refine Ahn (fun e he=> ?_) _ this
         obtain⟨x,hx,rfl⟩:=aE.mp he
         exact hf.nn x hx
     intro H5 vs s5 h5 hv ae
     have lv:vs.length=M'+1:=by
      have:=bE length hv
      rw [aC,cJ]at this
      omega
     refine k p2 H5 (vs.map (·.1)) (Same.free r.sm a7) (r.sm.trans s5) ⟨h5,⟨fun z=>absurd (eU.mp z) f0,fun _=>⟨M',by rw [aC,lv],fun e he=> ?_,x.2,aE.mpr ⟨x,hx,rfl⟩,ex⟩⟩,by rw [aC];omega,fun m v hm=> ?_⟩
     . obtain⟨y,hy,rfl⟩:=aE.mp he
       exact hM.le y hy
     . obtain⟨u,hu,rfl⟩:∃u,vs[m]? =some u/\u.1=v:=by
        rw [aN]at hm
        exact iL.mp hm
       have:=ae u (dR hu)
       have e2:u.2=m:=by
        have:=bE (fun l=>l[m]?) hv
        simp only [aN,hu]at this
        rw [fR (by have:=(aW.mp hu).1;omega)]at this
        exact aY this
       rwa [e2]at this
 . done
   refine .inr ⟨v,rfl,k⟩
noncomputable def Ib (K:Frag):Sp:=fun vs H Q _=>∃(a:Addr) (fs:Ft) (j d n:Nat),j<3/\vs=[.ref a,.str (nmS j)]/\J4 K H a fs/\(∀e∈fs,Np e.2.1)/\Bd (fq (cvl (fs.map (·.2)))) d n/\d<=20/\
 ∀z H' rs,H z=none->Same H H'->Rws K H' z rs j d (fs.map (·.2))->Q (.ref z) H'
theorem Ny (K:Frag):∀G H Q E,Ib K G H Q E->Ey K G H Q E0:=fun _ _ _ _ h=> .inl h
theorem Ai1 (hj:j<3) {fs:Ft} (w:J4 K H a fs) (np:∀e∈fs,Np e.2.1) (b:Bd (fq (cvl (fs.map (·.2)))) d n) (hd:d<=3):Bd (Wm j (fs.map (·.2)) m) d (n+6):=by
 have W:=b.nz (Zm w.at.1 w.at.2 (Et np))
 have ln:=(Zk w np b).2.2
 have O:fs.length<=64:=aO ln (cube hd)
 have Z:∀e∈Ld j m (fs.map (·.2)),∃x∈fs.map (·.2),e=(x.1.set j 0,x.2):=fun e J=>by
  obtain⟨x,G,rfl⟩:=aE.mp J
  exact⟨x,(dJ.mp G).1,rfl⟩
 refine⟨_,rfl,fun e J=> ?_,?_⟩
 . obtain⟨y,U,rfl⟩:=aE.mp J
   obtain⟨x,G,rfl⟩:=Z y U
   show le3 (c3 (x.1.set j 0)) d
   rw [Yk hj (Et np x G)]
   exact Apa (W (c3 x.1,x.2) (aE.mpr ⟨x,G,rfl⟩)).1
 . refine aO (Akf (B:=2^n) fun e J=> ?_) ?_
   . obtain⟨y,U,rfl⟩:=aE.mp J
     obtain⟨x,G,rfl⟩:=Z y U
     exact(W (c3 x.1,x.2) (aE.mpr ⟨x,G,rfl⟩)).2
   . have l1:(cvl (Ld j m (fs.map (·.2)))).length<=64:=by
      unfold cvl Ld
      rw [aC,aC]
      exact aO (dF _ _) (by rw [aC];exact O)
     have e6:2^(n+6)=2^n*64:=by rw [pow_add]
     rw [e6,Nat.mul_comm]
     exact fO _ l1
theorem Rf.fo (G:j<3) {fs:Ft} (w:J4 K H1 a fs) (np:∀e∈fs,Np e.2.1) (b:Bd (fq (cvl (fs.map (·.2)))) d n) (J:d<=3) (h:Rf K H j m (fs.map (·.2)) v):Fo K H true v (Wm j (fs.map (·.2)) m) d (n+6):=by
 obtain⟨z,ts,e,fr,q⟩:=h
 refine⟨⟨z,ts,e,fr.weak,fun _=>fr,fun x O=> ?_,by unfold Wm;rw [q]⟩,Ai1 G w np b J⟩
 exact Aa4 (Et np) x.2 (by rw [<-q];exact aE.mpr ⟨x,O,rfl⟩)
noncomputable def Ng (K:Frag):Sp:=fun vs H Q E=>(∃(a:Addr) (u:V) (fs:Ft) (j d n d' n':Nat) (st:Bool) (T:Fq),j<3/\vs=[.ref a,.str (nmS j),u]/\J4 K H a fs/\(∀e∈fs,Np e.2.1)/\Bd (fq (cvl (fs.map (·.2)))) d n/\d<=3/\n<=1000/\Fo K H st u T d' n'/\d'<=2/\n'<=1000/\
 ∀z H' N,Same H H'->Ad3 j (fs.map (·.2)) N->N<=d+1->Fo K H' true (.ref z) (ho (Wm j (fs.map (·.2))) T 0 N) (d+d'*N) (n+6+N*(n'+1))->Q (.ref z) H')\/∃x v y,vs=[x,v,y]/\Ref K H v E
theorem Adi (F:Df K mg "f_put" U4 zZ f fd) (G:mg "reversed"=none)  (O:Cal P w K mg base 4 "f_weights" zY (Ib K)) (Z:Cal P w K mg base 2 "f_plus" zT (Jw K)) (U:Cal P w K mg base 2 "f_times" zT (Il K)) (J:Lf P w K mg base 4 "f_weights" zY (Ey K)):Lf P w K mg base 5 "f_put" zZ (Ng K):=by
 refine F.calN (F.fn.okN Jt (fun vs H Q E h=> ?_) (fun a5 A outer s H vs Q E hr h=> ?_))
 . rcases h with⟨a,u,fs,j,d,n,d',n',st,T,_,rfl,_⟩ | ⟨x,v,y,rfl,_⟩<;>rfl
 rcases h with⟨a,u,fs,j,d,n,d',n',st,T,hj,rfl,hf,np,bd,hd,hn,hu,a3,a6,k⟩ | ⟨x,v,y,rfl,k⟩
 . refine Aw ⟨_,(Ac (Am 3 Jt.nd (Az Ab))
    (Ac (Ra (Bt bR rfl (S.Aha rfl G (Aa (Aj O hr (Aa (Ae 0) (Aa (Ae 1) Ab))) Ab)) (Aq 4 Jt.nd) (Ag (Am 3 Jt.nd (Aj Z hr (Aa (Aj U hr (Aa (Ae 3) (Aa (Ae 2) Ab))) (Aa (Ae 4) Ab)))))))
    (Ag (Ar (Ae 3))))),?_⟩
   done
   refine⟨by decide,fun p hp=> ?_⟩
   have s1:=Same.upd hp (.tup [])
   have f0:Fo K (upd H p (.tup [])) true (.ref p) 0 0 0:=Vp (.of Af)
   generalize upd H p (.tup [])=H1 at s1 f0
   refine⟨a,fs,j,d,n,hj,rfl,hf.mono s1,np,bd,by omega,fun z H2 rs hz s2 a1=>⟨z,rfl,rs,.of a1.it,?_⟩⟩
   have rl:=a1.le
   refine Mr (es:=rs.reverse) (inj:=id) (fun W a2 H'=>∃(v:V) (o4:Option V),a2=[some (.ref a),some (.str (nmS j)),some u,some v,o4]/\Same H2 H'/\Fo K H' true v (ho (Wm j (fs.map (·.2))) T (rs.length-W.length) W.length) (d+d'*W.length) (n+6+W.length*(n'+1))/\∃c,v= .ref c) ⟨_,_,rfl,Same.refl _,((f0.mono s2).up (cH _) (cH _)),_,rfl⟩ ?_ ?_ ?_
   . rintro W a2 H' ⟨v,o4,rfl,s,_⟩
     exact Aie (by rw [jW];exact .of (s _ _ a1.it))
   . rintro W e a4 a2 H' hE ⟨v,o4,rfl,s,hv,_⟩
     have le:=bE length hE
     rw [eA,aH,bH]at le
     obtain⟨i,hi⟩:∃i,W.length=i:=⟨_,rfl⟩
     have he:rs[rs.length-1-i]? =some e:=by
      rw [<-lF (by omega),hE,<-hi]
      simp
     have hr:=((a1.rf _ _ he).fo hj hf np bd hd).mono s
     rw [aH,eG,hi]
     rw [hi]at hv
     have m1:d'*i<=2*3:=fD a3 (by omega)
     have m2:i*(n'+1)<=3*1001:=fD (by omega) (by omega)
     have m3:d'*(i+1)=d'*i+d':=mul_succ _ _
     have m4:(i+1)*(n'+1)=i*(n'+1)+(n'+1):=succ_mul _ _
     done
     refine Apu hv ((hu.mono ((s1.trans s2).trans s))) (by omega) (by omega) (by omega) (by omega) fun z3 H3 s3 f3=> ?_
     refine Apt (d:=d+d'*(i+1)) (n:=n+6+i*(n'+1)+n') (f3.up (by omega) (by omega)) ((hr.mono s3).up (by omega) (by omega)) (by omega) fun z4 H4 s4 f4=> ?_
     refine⟨_,_,rfl,(s.trans s3).trans s4,?_,_,rfl⟩
     have e1:rs.length-i=rs.length-(i+1)+1:=by omega
     have e2:rs.length-1-i=rs.length-(i+1):=by omega
     rw [e1,e2]at f4
     exact f4.up (aL _) (by omega)
   . rintro a2 H' ⟨v,o4,rfl,s,hv,c,rfl⟩
     try done
     rw [eA,sub_self]at hv
     exact k c H' _ ((s1.trans s2).trans s) a1.nn rl hv
 . refine Aw ⟨_,(Ac (Am 3 Jt.nd (Az Ab))
    (Ac (S.Uz (Bu Af4 rfl G PyProof.Rows.boot_reversed (Aa (S.G8 J (hr.mono (by decide)) (Aa (Ae 0) (Aa (Ae 1) Ab))) Ab)))
    (Ag (Ar (Ae 3))))),?_⟩
   done
   exact⟨by decide,fun p hp=> .inr ⟨x,v,rfl,k.of (Same.upd hp _)⟩⟩
noncomputable def Jv (K:Frag):Sp:=fun vs H _ E=>∃x y v,vs=[x,y,v]/\Ref K H v E
theorem R6 (F:Df K mg "taken_out" Iz yI f fd)  (J:mg "ONE"=some (.ref (cA K "ONE"))) (O:Apf K (cA K "ONE")) (G:Lf P w K mg base 3 "place_of" yM (Ep K)):Lf P w K mg base 4 "taken_out" yI (Jv K):=by
 refine F.calN (F.fn.okN K6 (fun U H Q E h=> ?_) (fun W A outer s H U Q E Z h=> ?_))
 . obtain⟨x,y,v,rfl,_⟩:=h
   rfl
 obtain⟨x,y,v,rfl,k⟩:=h
 refine Aw ⟨_,(Ac (Am 3 K6.nd (S.G8 G (Z.mono (by decide)) (Aa (Ae 2) Ab)))
  (Ac Cu
  (Ac Cu
  (Ac Cu
  (Ac Cu
  (Ag Cu)))))),?_⟩
 done
 exact .inr ⟨v,rfl,k⟩
noncomputable def Ia (K:Frag):Sp:=fun vs H _ E=>∃x y v p,vs=[x,y,v,p]/\Ref K H v E
theorem N5 (F:Df K mg "taken_right" Hf zR f fd) (J:mg "isinstance"=none) (O:mg "tuple"=none) (U:mg "len"=none) (W:mg "all"=none)  (G:Lf P w K mg base 3 "place_of" yM (Ep K)):Lf P w K mg base 4 "taken_right" zR (Ia K):=by
 refine F.calN (F.fn.okN Iu (fun Z H Q E h=> ?_) (fun a1 A outer s H Z Q E hr h=> ?_))
 . obtain⟨x,y,v,p,rfl,_⟩:=h
   rfl
 obtain⟨x,y,v,p,rfl,k⟩:=h
 refine Aw ⟨_,(Ac (Am 4 Iu.nd (S.G8 G (hr.mono (by decide)) (Aa (Ae 2) Ab)))
  (Ac Cu
  (Ac Cu
  (Ag Cu)))),?_⟩
 done
 exact .inr ⟨v,rfl,k⟩
noncomputable def Ox (K:Frag):Sp:=fun vs H Q _=>∃(x y:Addr) (a b:Int) (n m:Nat),vs=[.ref x,.ref y]/\SqT K H x [.int a]/\SqT K H y [.int b]/\Sz n a/\Sz m b/\n+m<=100000000/\∀z H',Same H H'->SqT K H' z [.int (a*b)]->Q (.ref z) H'
theorem Afa {a e:Int}{G J:List Int} (h:[a]=G++e::J):G=[]/\e=a:=by
 cases G with
 | nil=>
   rw [jB]at h
   cases h
   exact⟨rfl,rfl⟩
 | cons x r=>
   have:=bE length h
   simp at this
theorem Xn (F:Df K mg "p_times" M5 zH f fd)  (G:mg "enumerate"=none) (J:mg "tuple"=none) (O:mg "len"=none)   :Cal P w K mg base 1 "p_times" zH (Ox K):=by
 refine F.cal (F.fn.ok Fb (fun vs H Q E h=> ?_) (fun af A outer s H vs Q E hr h=> ?_))
 . obtain⟨x,y,_,_,_,_,rfl,_⟩:=h
   rfl
 obtain⟨x,y,a,b,n,m,rfl,ha,hb,za,zb,hn,k⟩:=h
 refine Aw ⟨_,(Ac (Bp (Eu (Ew (Av (Afb hr.units) (Ae 0) (Az Ab) (Bl _)) (Fg (Av (Afb hr.units) (Ae 1) (Az Ab) (Bl _))))) (Ag (Ar (Az Ab))) Ba)
  (Ac (Am 2 Fb.nd (Ah Akm (Bs (Aa Ad Ab)) (Ah Ot (Ah Bw (Bf Cq rfl O fT (Aa (Ae 0) Ab)) (Bf Cq rfl O fT (Aa (Ae 1) Ab))) Ad)))
  (Ac (Bt bR rfl (O5 rfl G (Aa (Ae 0) Ab)) (Cg rfl (Al (Aq 3 Fb.nd) (Al (Aq 4 Fb.nd) Bg))) (Ag (Bp (Av Qi (Ae 4) Ad (Bl _)) (Ag (Bt bR rfl (O5 rfl G (Aa (Ae 1) Ab)) (Cg rfl (Al (Aq 5 Fb.nd) (Al (Aq 6 Fb.nd) Bg))) (Ag (Jf (Ah Bw (Bj Fp (Ae 2) (Ah Bw (Ae 3) (Ae 5)) (fun _ _=>rfl)) (Ah Dm (Ae 4) (Ae 6))) (Yg (Ae 2) (Ah Bw (Ae 3) (Ae 5)) set_list))))) Ba)))
  (Ag (Ar (Bu Bm rfl J bJ (Aa (Ae 2) Ab))))))),?_⟩
 done
 refine⟨by decide,fun p1 a6=> ?_⟩
 have s1:=Same.upd a6 (.tup [])
 refine Pj (ns:=[a]) (ms:=[]) (s1.tup ha) (.of Af) ?_
 try done
 rw [aF (by simp)]
 refine⟨by decide,fun p2 a7=> ?_⟩
 have s2:=s1.trans (Same.upd a7 (.tup []))
 refine Pj (ns:=[b]) (ms:=[]) (s2.tup hb) (.of Af) ?_
 try done
 rw [aF (by simp)]
 intro p3 a8
 have s3:=s2.trans (Same.upd a8 (.lst [V.int 0]))
 refine⟨x,_,rfl,.inr (s3.tup ha),y,_,rfl,.inr (s3.tup hb),?_⟩
 simp only [bH,eD]
 refine⟨p3,_,[V.int 0],rfl,rfl,Af,by decide,by decide,by decide,fun l0 a3=> ?_⟩
 have a9:H l0=none:=Same.free s3 a3
 have s4:=s3.trans (Same.upd a3 (.lst [V.int 0]))
 refine⟨⟨_,s4.tup ha⟩,Ajk (es:=[a]) (inj:=V.int) (fun a1 σ H'=>∃(o1 o2 Z o4:Option V),σ=[some (.ref x),some (.ref y),some (.ref l0),o1,o2,Z,o4]/\Same H H'/\H' l0=some (.lst [.int (if a1=[]then 0 else a*b)])) ⟨_,_,_,_,rfl,s4,Af⟩ ?_ ?_ ?_⟩
 . rintro a1 σ H' ⟨o1,o2,Z,o4,rfl,s5,_⟩
   exact s5.tup ha
 . rintro a1 e ae σ H' p4 he ⟨o1,o2,Z,o4,rfl,s5,hm⟩ a4
   obtain⟨rfl,rfl⟩:=Afa he
   rw [aI rfl]at hm
   rw [aF (by simp)]
   refine Dd (.of Af) ?_
   have s6:=s5.trans (Same.upd a4 (.tup [V.int (([]:List Int).length:Nat),V.int e]))
   have a2:=Same.upd a4 (.tup [V.int (([]:List Int).length:Nat),V.int e]) _ _ hm
   try done
   by_cases hz:e=0
   . rw [aI hz]
     exact⟨_,_,_,_,rfl,s6,by rw [hz,Int.zero_mul];rw [hz]at a2;exact a2⟩
   . rw [aF hz]
     refine⟨⟨_,s6.tup hb⟩,Ajk (es:=[b]) (inj:=V.int) (fun U σ H2=>∃(Z o4:Option V),σ=[some (.ref x),some (.ref y),some (.ref l0),some (.int 0),some (.int e),Z,o4]/\Same H H2/\H2 l0=some (.lst [.int (if U=[]then 0 else e*b)])) ⟨_,_,rfl,s6,a2⟩ ?_ ?_ ?_⟩
     . rintro U σ H2 ⟨Z,o4,rfl,s7,_⟩
       exact s7.tup hb
     . rintro U f aa σ H2 p5 ac ⟨Z,o4,rfl,s7,W⟩ ad
       obtain⟨rfl,rfl⟩:=Afa ac
       rw [aI rfl]at W
       rw [aF (by simp)]
       refine Dd (.of Af) ?_
       have s8:=Same.upd ad (.tup [V.int (([]:List Int).length:Nat),V.int f])
       have a5:=s8 _ _ W
       done
       refine Nr (.of a5) (v:= .int 0) rfl ?_
       try done
       refine⟨za.mulOk zb (by omega),?_⟩
       refine Ane (j:=0) a5 (by decide) ?_
       try done
       refine⟨_,_,rfl,?_,?_⟩
       . intro c o hc
         rw [Ax (Ay hc a9)]
         exact s8 _ _ (s7 _ _ hc)
       . rw [Af,gW]
     . rintro σ H2 ⟨Z,o4,rfl,s7,W⟩
       try done
       exact⟨_,_,_,_,rfl,s7,by rw [aF (by simp)]at W;exact W⟩
 . rintro σ H' ⟨o1,o2,Z,o4,rfl,s5,hm⟩
   try done
   rw [aF (by simp)]at hm
   exact⟨l0,_,rfl,.inl ⟨.of hm,fun z hz=>k z _ (s5.trans (Same.upd hz _)) (.of Af)⟩⟩
theorem Gs {n:Nat}{b:Int} (h:Sz n b):∀m:Nat,Sz (n*m+1) (b^m)
 | 0=>by
   rw [Int.pow_zero,Nat.mul_zero]
   unfold Sz
   decide
 | m+1=>by
   rw [Int.pow_succ,mul_succ]
   exact((Gs h m).mul h).mono (by omega)
noncomputable def Nj (K:Frag):Sp:=fun vs H Q _=>∃(x0 x:Addr) (c:Int) (m n:Nat),vs=[.ref x0,.ref x,.int (m:Nat),.ref (cA K "p_times")]/\SqT K H x0 [.int 1]/\SqT K H x [.int c]/\Sz n c/\n<=20000/\m<=40/\∀z H',Same H H'->SqT K H' z [.int (c^m)]->Q (.ref z) H'
structure Rpt (K:Frag) (H H':Hp) (zp zs:Addr) (c:Int) (m a b t:Nat):Prop where
 sm:Same H H'
 ip:SqT K H' zp [.int (c^a)]
 iq:SqT K H' zs [.int (c^b)]
 ab:a+b*t=m
 lb:b<=40
theorem Ut (F:Df K mg "repeated" Kq zJ f fd)   (G:mg "p_times"=some (.ref (cA K "p_times"))) (J:Cal P w K mg base 1 "p_times" zH (Ox K)):Cal P w K mg base 2 "repeated" zJ (Nj K):=by
 refine F.cal (F.fn.ok Dt (fun vs H Q E h=> ?_) (fun a3 A outer s H vs Q E hr h=> ?_))
 . obtain⟨x0,x,c,m,n,rfl,_⟩:=h
   rfl
 obtain⟨x0,x,c,m,n,rfl,h0,hx,W,hn,hm,k⟩:=h
 refine Aw ⟨_,(Ac (Am 4 Dt.nd (Ae 0))
  (Ac (Am 5 Dt.nd (Ae 1))
  (Ac (Am 6 Dt.nd (Ae 2))
  (Ac (Gy bR (Av Adm (Ae 6) Ad (Bl _)) (Ac (Bp (Av Kf (Ah Hv (Ae 6) Ad) Ad (Bl _)) (Ag (Am 4 Dt.nd (Vh J G (hr.mono (by decide)) (Ae 3) (Aa (Ae 4) (Aa (Ae 5) Ab))))) Ba)
  (Ac (Am 6 Dt.nd (Ah G7 (Ae 6) Ad))
  (Ag (Bp (Av Adm (Ae 6) Ad (Bl _)) (Ag (Am 5 Dt.nd (Vh J G (hr.mono (by decide)) (Ae 3) (Aa (Ae 5) (Aa (Ae 5) Ab))))) Ba)))))
  (Ag (Ar (Ae 4))))))),?_⟩
 done
 have U:∀a b:Nat,a<=40->b<=40->(n*a+1)+(n*b+1)<=100000000:=fun a b ha hb=>by
  have h1:n*a<=20000*40:=fD hn ha
  have h2:n*b<=20000*40:=fD hn hb
  omega
 refine Q6 (fun σ H'=>∃(zp zs:Addr) (a b t:Nat),σ=[some (.ref x0),some (.ref x),some (.int (m:Nat)),some (.ref (cA K "p_times")),some (.ref zp),some (.ref zs),some (.int (t:Nat))]/\Rpt K H H' zp zs c m a b t)
  (fun σ _=>match σ with | [_,_,_,_,_,_,some (.int t)]=>t.toNat | _=>0) ⟨_,_,0,1,m,rfl,⟨Same.refl _,by rw [Int.pow_zero];exact h0,by rw [Int.pow_one];exact hx,by omega,by omega⟩⟩ ?_
 rintro σ H' ⟨yp,ys,a,b,t,rfl,r⟩
 have a1:=r.ab
 have rlb:=r.lb
 have ha:a<=40:=by omega
 done
 by_cases ht:(0:Int)<(t:Nat)
 . rw [aI ht]
   refine Aid ?_
   done
   refine⟨by decide,?_⟩
   have d2:((t:Nat):Int)/2=((t/2:Nat):Int):=by omega
   have e3:b*t=2*b*(t/2)+b*(t%2):=by
    have e:=Nat.div_add_mod t 2
    calc b*t=b*(2*(t/2)+t%2):=by rw [e]
     _=2*b*(t/2)+b*(t%2):=by rw [mul_add,<-Nat.mul_assoc,Nat.mul_comm b 2]
   by_cases ho:((t:Nat):Int)%2=1
   . rw [aI ho]
     have o1:t%2=1:=by omega
     rw [o1,Nat.mul_one]at e3
     refine⟨yp,ys,_,_,_,_,rfl,r.ip,r.iq,Gs W a,Gs W b,U a b ha rlb,fun w H2 Z iw=> ?_⟩
     rw [<-Int.pow_add]at iw
     rw [d2]
     refine⟨⟨by decide,by decide⟩,?_⟩
     by_cases h2:(0:Int)<((t/2:Nat):Int)
     . rw [aI h2]
       have a2:2*b<=2*b*(t/2):=Nat.le_mul_of_pos_right _ (by omega)
       refine⟨ys,ys,_,_,_,_,rfl,Z.tup r.iq,Z.tup r.iq,Gs W b,Gs W b,U b b rlb rlb,fun w2 H3 s3 O=> ?_⟩
       rw [<-Int.pow_add]at O
       refine⟨⟨w,w2,a+b,b+b,t/2,rfl,⟨(r.sm.trans Z).trans s3,s3.tup iw,O,?_,by omega⟩⟩,by omega⟩
       rw [<-Nat.two_mul]
       omega
     . rw [aF h2]
       have t0:t/2=0:=by omega
       refine⟨⟨w,ys,a+b,b,t/2,rfl,⟨r.sm.trans Z,iw,Z.tup r.iq,?_,rlb⟩⟩,by omega⟩
       rw [t0]at e3 ⊢
       simp at e3 ⊢
       omega
   . rw [aF ho]
     have o1:t%2=0:=by omega
     rw [o1,Nat.mul_zero]at e3
     rw [d2]
     refine⟨⟨by decide,by decide⟩,?_⟩
     have h2:(0:Int)<((t/2:Nat):Int):=by omega
     rw [aI h2]
     have a2:2*b<=2*b*(t/2):=Nat.le_mul_of_pos_right _ (by omega)
     refine⟨ys,ys,_,_,_,_,rfl,r.iq,r.iq,Gs W b,Gs W b,U b b rlb rlb,fun w2 H3 s3 O=> ?_⟩
     rw [<-Int.pow_add]at O
     refine⟨⟨yp,w2,a,b+b,t/2,rfl,⟨r.sm.trans s3,s3.tup r.ip,O,?_,by omega⟩⟩,by omega⟩
     rw [<-Nat.two_mul]
     omega
 . rw [aF ht]
   have t0:t=0:=by omega
   subst t0
   have e:a=m:=by simpa using a1
   subst e
   exact k _ _ r.sm r.ip
noncomputable def Wn (K:Frag):Sp:=fun vs H Q _=>∃(x:Addr) (c:Int) (m n:Nat),vs=[.ref x,.int (m:Nat)]/\SqT K H x [.int c]/\Sz n c/\n<=20000/\m<=40/\∀z H',Same H H'->SqT K H' z [.int (c^m)]->Q (.ref z) H'
theorem Adj (F:Df K mg "power" U5 yE f fd)   (G:mg "p_times"=some (.ref (cA K "p_times"))) (J:Cal P w K mg base 2 "repeated" zJ (Nj K)):Cal P w K mg base 3 "power" yE (Wn K):=by
 refine F.cal (F.fn.ok Ad5 (fun U H Q E h=> ?_) (fun W A outer s H U Q E Z h=> ?_))
 . obtain⟨x,c,m,n,rfl,_⟩:=h
   rfl
 obtain⟨x,c,m,n,rfl,hx,zc,hn,hm,k⟩:=h
 refine Aw ⟨_,(Ag (Ar (Aj J Z (Aa (Az (Aa Ad Ab)) (Aa (Ae 0) (Aa (Ae 1) (Aa (Gp (v:= .ref (cA K "p_times")) rfl G rfl) Ab))))))),?_⟩
 done
 intro p0 O
 have s0:=Same.upd O (.tup [V.int 1])
 exact⟨p0,x,c,m,n,rfl,.of Af,s0.tup hx,zc,hn,hm,fun z H' s1 i1=>k _ _ (s0.trans s1) i1⟩
noncomputable def Gk (K:Frag):Sp:=fun vs H Q _=>∃(b:Int) (m n:Nat),vs=[.int b,.int (m:Nat)]/\Sz n b/\n<=20000/\m<=40/\∀H',Same H H'->Q (.int (b^m)) H'
theorem N6 (F:Df K mg "whole_power" Hg zO f fd)    (G:Cal P w K mg base 3 "power" yE (Wn K)):Cal P w K mg base 4 "whole_power" zO (Gk K):=by
 refine F.cal (F.fn.ok N7 (fun O H Q E h=> ?_) (fun U A outer s H O Q E W h=> ?_))
 . obtain⟨b,m,n,rfl,_⟩:=h
   rfl
 obtain⟨b,m,n,rfl,Z,hn,hm,k⟩:=h
 refine Aw ⟨_,(Ag (Ar (Bj Jl (Aj G W (Aa (Az (Aa (Ae 0) Ab)) (Aa (Ae 1) Ab))) Ad (fun _ _=>rfl)))),?_⟩
 done
 intro p0 J
 exact⟨p0,b,m,n,rfl,.of Af,Z,hn,hm,fun z H' s' i=>Ip i (v:= .int (b^m)) rfl (k _ ((Same.upd J _).trans s'))⟩
noncomputable def mo (fs:List (V × (List Int × Int))) (j:Nat):Int:=mx (fs.map fun e=>e.2.1.getD j 0)
theorem Mst.is_mo {fs:List (V × (List Int × Int))}{M:Int} (h:Mst fs j M):M=mo fs j:=by
 by_cases z:fs=[]
 . rw [h.no z,z]
   rfl
 . have O:(fs.map fun e=>e.2.1.getD j 0)≠ []:=fun y=>z (eU.mp y)
   obtain⟨U,W⟩:=Ul _ O
   obtain⟨e,Z,ee⟩:=h.is z
   obtain⟨e',G,J⟩:=aE.mp U
   refine Int.le_antisymm ?_ ?_
   . rw [<-ee]
     exact W _ (aE.mpr ⟨e,Z,rfl⟩)
   . unfold mo
     rw [<-J]
     exact h.le e' G
theorem Aab {fs:List (V × (List Int × Int))}{e:V × (List Int × Int)} (G:e∈fs):e.2.1.getD j 0<=mo fs j:=
 (Ul _ (fun y=>by rw [eU.mp y]at G;cases G)).2 _ (aE.mpr ⟨e,G,rfl⟩)
theorem Ago {fs:List (V × (List Int × Int))}{B:Int} (O:0<=B) (h:∀e∈fs,0<=e.2.1.getD j 0/\e.2.1.getD j 0<=B):0<=mo fs j/\mo fs j<=B:=by
 unfold mo
 by_cases z:fs=[]
 . rw [z]
   exact⟨Int.le_refl 0,O⟩
 . have U:(fs.map fun e=>e.2.1.getD j 0)≠ []:=fun y=>z (eU.mp y)
   obtain⟨W,G,J⟩:=aE.mp (Ul _ U).1
   rw [<-J]
   exact h W G
noncomputable def sc (t b M k:Int):Int:=t^k.toNat*b^(M-k).toNat
noncomputable def Ho (K:Frag):Sp:=fun vs H Q _=>∃(a p:Addr) (fs:List (V × (List Int × Int))) (j n:Nat) (t b:Int),vs=[.ref a,.int (j:Nat),.ref p]/\J4 K H a fs/\fs.length<16000000/\j<3/\SqT K H p [.int t,.int b]/\Sz n t/\Sz n b/\n<=10000/\(∀e∈fs,0<=e.2.1.getD j 0/\e.2.1.getD j 0<=40)/\
 ∀d H' kvs,H d=none->Same H H'->H' d=some (.dK kvs)->(∀e∈fs,Gi kvs (.inl (e.2.1.getD j 0))=some (.int (sc t b (mo fs j) (e.2.1.getD j 0))))->Q (.ref d) H'
structure Scp (H H':Hp) (d:Addr) (kvs:List (Key × V)) (g:Int->Int) (ks:List Int):Prop where
 sm:Same H H'
 it:H' d=some (.dK kvs)
 le:kvs.length<=ks.length
 vl:∀k,Gi kvs (.inl k)=if k∈ks then some (.int (g k))else none
theorem Lb (F:Df K mg "scaled_powers" Fx zW f fd)    (Z:Cal P w K mg base 1 "most" zP (Qx K)) (G:Cal P w K mg base 4 "whole_power" zO (Gk K)):Cal P w K mg base 5 "scaled_powers" zW (Ho K):=by
 refine F.cal (F.fn.ok Br (fun vs H Q E h=> ?_) (fun a4 A outer s H vs Q E hr h=> ?_))
 . obtain⟨a,p,fs,j,n,t,b,rfl,_⟩:=h
   rfl
 obtain⟨a,p,fs,j,n,t,b,rfl,hf,hl,hj,hp,zt,zb,hn,hb,k⟩:=h
 refine Aw ⟨_,(Ac (Jf (Ae 2) (Cg rfl (Al (Aq 5 Br.nd) (Al (Aq 6 Br.nd) Bg))))
  (Ac (Am 3 Br.nd (Aj Z hr (Aa (Ae 0) (Aa (Ae 1) Ab))))
  (Ac (Am 4 Br.nd Oa)
  (Ac (Bt bR rfl (Ea (Ae 0)) (Cg rfl (Al (Aq 7 Br.nd) (Al (Aq 8 Br.nd) Bg))) (Ac (Am 9 Br.nd (Bj Jl (Ae 7) (Ae 1) (fun _ _=>rfl)))
  (Ag (Bp (Av (Aam (hu1 hr.units)) (Ae 9) (Ae 4) rfl) (Ag (Ig (hu1 hr.units) (Ae 4) (Ae 9) (Ah Dm (Aj G hr (Aa (Ae 5) (Aa (Ae 9) Ab))) (Aj G hr (Aa (Ae 6) (Aa (Ah Ot (Ae 3) (Ae 9)) Ab)))) rfl)) Ba))))
  (Ag (Ar (Ae 4))))))),?_⟩
 done
 refine Dd hp ?_
 done
 refine⟨a,fs,j,rfl,hf,hl,hj,fun M H1 s1 hM d hd=> ?_⟩
 rw [hM.is_mo]
 have s2:=s1.trans (Same.upd hd (.dK []))
 have nd:=Same.free s1 hd
 refine⟨⟨_,s2.tup hf.it⟩,Mr (es:=fs) (inj:=(·.1)) (fun O a1 H'=>∃(U:List (Key × V)) (o7 o8 o9:Option V),a1=[some (.ref a),some (.int (j:Nat)),some (.ref p),some (.int (mo fs j)),some (.ref d),some (.int t),some (.int b),o7,o8,o9]/\Scp H H' d U (sc t b (mo fs j)) (O.map fun e=>e.2.1.getD j 0)) ⟨[],_,_,_,rfl,⟨s2,Af,aL _,fun _=>rfl⟩⟩ ?_ ?_ ?_⟩
 . rintro O a1 H' ⟨U,o7,o8,o9,rfl,J⟩
   exact Lp (J.sm.tup hf.it)
 . rintro O e a3 a1 H' hE ⟨U,o7,o8,o9,rfl,J⟩
   have hm:e∈fs:=by rw [hE];simp
   obtain⟨⟨c,q,ec,hc,W⟩,ln⟩:=(hf.al e hm).mono J.sm
   rw [ec]
   refine Dd hc ?_
   done
   refine Ip W (v:= .int (e.2.1.getD j 0)) (Es ?_) ?_
   . rw [aN,aU,aG (by omega)]
     rfl
   try done
   refine⟨d,_,rfl,Ajb J.it,?_⟩
   try done
   have lk:(O.map fun e=>e.2.1.getD j 0).length<16000000:=by
    have h1:=bE length hE
    rw [aH]at h1
    rw [aC]
    omega
   have be:=hb e hm
   have le:=Aab (j:=j) hm
   have bm:=Ago (j:=j) (by decide) hb
   rw [show(O++ [e]).map (fun e=>e.2.1.getD j 0)=O.map (fun e=>e.2.1.getD j 0)++ [e.2.1.getD j 0]by rw [aQ];rfl]
   generalize O.map (fun e=>e.2.1.getD j 0)=ks at J lk ⊢
   generalize e.2.1.getD j 0=x at be le ⊢
   generalize mo fs j=M at le bm J ⊢
   rw [J.vl x]
   by_cases hx:x∈ks
   . rw [aI hx,aF (by simp)]
     refine⟨U,_,_,_,rfl,⟨J.sm,J.it,by have:=J.le;rw [aH];omega,fun q=> ?_⟩⟩
     rw [J.vl q]
     by_cases W:q∈ks
     . rw [aI W,aI (bK _ W)]
     . rw [aF W,aF fun z=> ?_]
       rcases bG.mp z with z | z
       . exact W z
       . exact W ((show q=x by simpa using z)▸hx)
   . rw [aF hx,aI (by rfl)]
     refine⟨t,x.toNat,n,by rw [eV be.1],zt,by omega,by omega,fun H2 s3=> ?_⟩
     refine⟨b,(M-x).toNat,n,by rw [eV (by omega)],zb,by omega,by omega,fun H3 s4=> ?_⟩
     have n1:n*x.toNat<=10000*40:=fD hn (by omega)
     have n2:n*(M-x).toNat<=10000*40:=fD hn (by omega)
     try done
     have a2:=s3.trans s4
     have d3:=a2 _ _ J.it
     refine⟨(Gs zt _).mulOk (Gs zb _) (by omega),d,_,rfl,Ajd d3 ?_,_,_,_,_,rfl,⟨(J.sm.trans a2).put nd,Af,?_,fun q=> ?_⟩⟩
     . have:=J.le
       exact cN (show U.length<=16000000 by omega) (by decide)
     . rw [aH]
       exact aO (G4 _ _ _) (gS J.le 1)
     . rw [Ln]
       by_cases W:q=x
       . subst W
         rw [aI rfl,aI (by simp)]
         rfl
       . rw [aF fun z=>W (Sum.inl.inj z),J.vl q]
         have:(q∈ks++ [x])=(q∈ks):=by simp [W]
         simp only [this]
 rintro a1 H' ⟨U,o7,o8,o9,rfl,J⟩
 done
 refine k d H' U nd J.sm J.it fun e he=> ?_
 rw [J.vl,aI (aE.mpr ⟨e,he,rfl⟩)]
noncomputable def mI (i:Nat) (σ:St) (_:Hp):Nat:=match σ[i]? with | some (some (.int t))=>t.toNat | _=>0
noncomputable def IsQ (K:Frag) (H:Hp) (v:V) (q:Rat):Prop:=∃a,v= .ref a/\SqT K H a [.int q.num,.int (q.den:Int)]
noncomputable def An4:Sp:=fun vs H Q _=>∃a b:Int,vs=[.int a,.int b]/\Q (.int (Int.gcd a b:Int)) H
noncomputable def Ov (_:Frag):Sp:=An4
noncomputable def Nh (K:Frag):Sp:=fun vs H Q _=>∃a b:Int,vs=[.int a,.int b]/\b≠0/\Sz 8000 b/\∀z H',Same H H'->IsQ K H' z (divInt a b)->Q z H'
theorem Xi (F:Df K mg "divisor" Mz zH f fd)  (G:mg "abs"=none)   :Cal P w K mg base 1 "divisor" zH (Ov K):=by
 refine F.cal (F.fn.ok Ii (fun W H Q E h=> ?_) (fun Z A outer s H W Q E hr h=> ?_))
 . obtain⟨a,b,rfl,_⟩:=h
   rfl
 obtain⟨a,b,rfl,q⟩:=h
 refine Aw ⟨_,(Ac (Am 2 Ii.nd (Bf O6 rfl G lE (Aa (Ae 0) Ab)))
  (Ac (Am 3 Ii.nd (Bf O6 rfl G lE (Aa (Ae 1) Ab)))
  (Ac (Gy bR (Av Qi (Ae 3) Ad (Bl _)) (Ag (Ma (i:=2) (j:=3) rfl Ii.nd rfl rfl (by decide) rfl rfl (Aa (Ae 3) (Aa (Ah Hv (Ae 2) (Ae 3)) Ab)) rfl)))
  (Ag (Ar (Ae 2)))))),?_⟩
 repeat (first | done | simp only [abs_eq])
 refine Aee (fun σ H'=>H'=H/\∃x y:Nat,σ=[some (.int a),some (.int b),some (.int x),some (.int y)]/\Nat.gcd x y=Nat.gcd a.natAbs b.natAbs)
  (mI 3) ⟨rfl,_,_,rfl,rfl⟩ ?_ ?_
 . rintro σ H' ⟨rfl,x,y,rfl,e⟩
   done
   by_cases U:(y:Int)=0
   . rw [aI U]
     have J:y=0:=by omega
     subst J
     rw [Nat.gcd_zero_right]at e
     subst e
     exact q
   . rw [aF U]
     refine⟨by omega,⟨y,x%y,by rw [kN],by rw [Vs];exact e⟩,?_⟩
     show((x:Int)%(y:Int)).toNat<(y:Int).toNat
     rw [<-kN,cT,cT]
     exact mod_lt _ (by omega)
 . intro σ H' Q1 Q2 O
   simp only [Afv,Apw]
   rintro⟨v,e1,hs⟩
   exact⟨v,e1,by
    obtain⟨s1,k,e2,h3⟩:=hs
    exact⟨s1,k,e2,O _ _ h3⟩⟩
theorem Uo (F:Df K mg "fraction" Kg yH f fd)    (G:Cal P w K mg base 1 "divisor" zH (Ov K)):Cal P w K mg base 2 "fraction" yH (Nh K):=by
 refine F.cal (F.fn.ok Ja (fun vs H Q E h=> ?_) (fun a1 A outer s H vs Q E hr h=> ?_))
 . obtain⟨a,b,rfl,_⟩:=h
   rfl
 obtain⟨a,b,rfl,hb,hz,q⟩:=h
 refine Aw ⟨_,(Ac (Bp (Av Kf (Ae 1) Ad (Bl _)) (Ag Cu) Ba)
  (Ac (Am 2 Ja.nd (Aj G hr (Aa (Ae 0) (Aa (Ae 1) Ab))))
  (Ac (Bp (Av Ag0 (Ae 1) Ad (Bl _)) (Ag (Am 2 Ja.nd (O4 Abv (Ae 2)))) Ba)
  (Ag (Ar (Az (Aa (Ah V4 (Ae 0) (Ae 2)) (Aa (Ah V4 (Ae 1) (Ae 2)) Ab)))))))),?_⟩
 done
 rw [aF hb]
 refine⟨a,b,rfl,?_⟩
 done
 have O:((Int.gcd a b:Nat):Int)≠0:=by
  have:=Int.gcd_pos_of_ne_zero_right a hb
  omega
 have U:Sz 8000 ((Int.gcd a b:Nat):Int):=hz.of_abs (by
  have:=Nat.le_of_dvd (by omega) (Int.gcd_dvd_natAbs_right a b)
  omega)
 split
 . rename_i J
   have W:Afx a (-((Int.gcd a b:Nat):Int)):=⟨by omega,U.neg.log2 (by omega) (by decide)⟩
   refine⟨W,W,fun p Z=> ?_⟩
   rw [(Vq J).1,(Vq J).2]
   exact q _ _ (Same.upd Z _) ⟨p,rfl,.of Af⟩
 . rename_i J
   have W:Afx a ((Int.gcd a b:Nat):Int):=⟨O,U.log2 O (by decide)⟩
   have hpos:0<b:=by omega
   refine⟨W,W,fun p Z=> ?_⟩
   rw [(Pr hpos).1,(Pr hpos).2]
   exact q _ _ (Same.upd Z _) ⟨p,rfl,.of Af⟩
structure At3 (K:Frag) (H:Hp) (a:Addr) (q:Nat->Addr) (t b:Nat->Int) (n:Nat):Prop where
 it:SqT K H a ((List.range 3).map fun j=> .ref (q j))
 pt:∀j,j<3->SqT K H (q j) [.int (t j),.int (b j)]
 bp:∀j,j<3->0<b j
 zt:∀j,j<3->Sz n (t j)
 zb:∀j,j<3->Sz n (b j)
theorem At3.mono {t b:Nat->Int} (h:At3 K H a q t b n) (s:Same H H'):At3 K H' a q t b n:=
 ⟨s.tup h.it,fun j G=>s.tup (h.pt j G),h.bp,h.zt,h.zb⟩
noncomputable def vt (t b M:Nat->Int) (e:List Int × Int):Int:=e.2*sc (t 0) (b 0) (M 0) (e.1.getD 0 0)*sc (t 1) (b 1) (M 1) (e.1.getD 1 0)*sc (t 2) (b 2) (M 2) (e.1.getD 2 0)
noncomputable def S9 (t b M:Nat->Int):List (List Int × Int)->Int
 | []=>0
 | e::r=>vt t b M e+S9 t b M r
theorem S7 (t b M:Nat->Int) (e:List Int × Int):∀r,S9 t b M (r++ [e])=S9 t b M r+vt t b M e
 | []=>by
   show vt t b M e+0=0+vt t b M e
   omega
 | x::r=>by
   show vt t b M x+S9 t b M (r++ [e])=vt t b M x+S9 t b M r+vt t b M e
   rw [S7 t b M e r]
   omega
noncomputable def vb (b M:Nat->Int):Nat->Int
 | 0=>1
 | i+1=>vb b M i*b i^(M i).toNat
noncomputable def Ab6 (b M:Nat->Int):Int:=vb b M 3
theorem Wx {b M:Nat->Int} (h:∀j,j<3->0<b j):∀i,i<=3->0<vb b M i
 | 0,_=>by
   show(0:Int)<1
   decide
 | i+1,hi=>Int.mul_pos (Wx h i (by omega)) (Int.pow_pos (h i (by omega)))
theorem Aed {b M:Nat->Int}{n D:Nat} (h:∀j,j<3->Sz n (b j)) (G:∀j,j<3->M j<=(D:Int)):∀i,i<=3->Sz ((n*D+1)*i+1) (vb b M i)
 | 0,_=>by
   show Sz _ 1
   unfold Sz
   rw [Nat.mul_zero]
   decide
 | i+1,hi=>by
   have h1:=Aed h G i (by omega)
   have J:=G i (by omega)
   have h2:n*(M i).toNat<=n*D:=fO _ (by omega)
   refine(h1.mul (Gs (h i (by omega)) (M i).toNat)).mono ?_
   have:(n*D+1)*(i+1)=(n*D+1)*i+(n*D+1):=mul_succ _ _
   omega
theorem Ad6 {t M k:Int} (G:Sz n t) (J:Sz n b) (k0:0<=k) (k3:k<=M) (m3:M<=(D:Int)):Sz (n*D+2) (sc t b M k):=by
 have h1:n*k.toNat+n*(M-k).toNat<=n*D:=by
  rw [<-mul_add]
  exact fO _ (by omega)
 exact((Gs G k.toNat).mul (Gs J (M-k).toNat)).mono (by omega)
theorem Aea {vs:List (V × Nat)} (h:vs.map (·.2)=List.range 3):∃x y z,vs=[(x,0),(y,1),(z,2)]:=by
 match vs,h with
 | [(x,i),(y,j),(z,k)],h=>
   have e:[i,j,k]=[0,1,2]:=h
   cases e
   exact⟨x,y,z,rfl⟩
noncomputable def Tb (H:Hp) (v:V) (g:Int->Int) (ks:List Int):Prop:=∃d kvs,v= .ref d/\H d=some (.dK kvs)/\∀k∈ks,Gi kvs (.inl k)=some (.int (g k))
theorem Tb.mono {g:Int->Int}{ks:List Int} (h:Tb H v g ks) (s:Same H H'):Tb H' v g ks:=by
 obtain⟨d,G,J,O,U⟩:=h
 exact⟨d,G,J,s _ _ O,U⟩
theorem Tb.put {g:Int->Int}{ks:List Int} (h:Tb H v g ks) (O:H f=some (.lst xs)):Tb (upd H f (.lst ys)) v g ks:=by
 obtain⟨d,G,U,J,W⟩:=h
 exact⟨d,G,U,by rw [Ax (G6 J O (fun z=>nomatch z))];exact J,W⟩
noncomputable def Kv (K:Frag):Sp:=fun vs H Q _=>∃(a c:Addr) (fs:List (V × (List Int × Int))) (q:Nat->Addr) (t b:Nat->Int) (n D W:Nat),vs=[.ref a,.ref c]/\J4 K H a fs/\fs.length<16000000/\At3 K H c q t b n/\n<=1000/\D<=12/\(n*D+1)*3+1<=8000/\W<=20000/\(∀e∈fs,Sz W e.2.2)/\(∀e∈fs,∀x∈e.2.1,0<=x/\x<=(D:Int))/\
 ∀z H',Same H H'->IsQ K H' z (divInt (S9 t b (mo fs) (fs.map (·.2))) (Ab6 b (mo fs)))->Q z H'
theorem Agg {ks:List Int} (G:ks.length=3) {B:Int} (h:∀x∈ks,0<=x/\x<=B)  (J:j<3):0<=ks.getD j 0/\ks.getD j 0<=B:=by
 rw [aU,aG (by omega)]
 exact h _ (cS _)
theorem Xk (F:Df K mg "f_value" Jr ["f","at"] f fd)  (U:mg "range"=none)  (Z:Cal P w K mg base 2 "fraction" yH (Nh K)) (G:Cal P w K mg base 5 "scaled_powers" zW (Ho K)) (J:Cal P w K mg base 4 "whole_power" zO (Gk K)) (a3:Cal P w K mg base 1 "most" zP (Qx K)):Cal P w K mg base 6 "f_value" ["f","at"] (Kv K):=by
 refine F.cal (F.fn.ok Dj (fun vs H Q E h=> ?_) (fun aa A outer s H vs Q E hr h=> ?_))
 . obtain⟨a,c,fs,q,t,b,n,D,W,rfl,_⟩:=h
   rfl
 obtain⟨a,c,fs,q,t,b,n,D,W,rfl,hf,hl,hc,hn,hD,nD,hW,hw,hb,k⟩:=h
 refine Aw ⟨_,(Ac (Lz (ts:=["place"]) (fs:=[(0,"f"),(1,"at")]) rfl (Dg.of (sc:=Ak Jr) (N:=yG) rfl rfl (by decide+kernel)) (Bv rfl U (Aa Ad Ab)) (fun _ _ _=>(Aq 0 (show Nodup (["place","f","at"]:List Str)by decide+kernel))) (fun _ _ _=>Bo) (fun _ _ _=>(Aj G hr (Aa (Ae 1) (Aa (Ae 0) (Aa (Bj (Hu K) (Ae 2) (Ae 0) (fun _ _=>rfl)) Ab))))) (Aq 2 Dj.nd))
  (Ac (Am 3 Dj.nd Ad)
  (Ac (Bt bR rfl (Ea (Ae 0)) (Cg rfl (Al (Aq 6 Dj.nd) (Al (Aq 7 Dj.nd) Bg))) (Ag (Am 3 Dj.nd (Ah Bw (Ae 3) (Ah Dm (Ah Dm (Ah Dm (Ae 7) (Ei (hu1 hr.units) (Bj Fp (Ae 2) Ad (fun _ _=>rfl)) (Bj Jl (Ae 6) Ad (fun _ _=>rfl)) (fun _ _=>rfl))) (Ei (hu1 hr.units) (Bj Fp (Ae 2) Ad (fun _ _=>rfl)) (Bj Jl (Ae 6) Ad (fun _ _=>rfl)) (fun _ _=>rfl))) (Ei (hu1 hr.units) (Bj Fp (Ae 2) Ad (fun _ _=>rfl)) (Bj Jl (Ae 6) Ad (fun _ _=>rfl)) (fun _ _=>rfl)))))))
  (Ac (Am 4 Dj.nd Ad)
  (Ac (Bt bR rfl (Bv rfl U (Aa Ad Ab)) (Aq 5 Dj.nd) (Ag (Am 4 Dj.nd (Ah Dm (Ae 4) (Aj J hr (Aa (Bj Jl (Bj Jl (Ae 1) (Ae 5) (fun _ _=>rfl)) Ad (fun _ _=>rfl)) (Aa (Aj a3 hr (Aa (Ae 0) (Aa (Ae 5) Ab))) Ab)))))))
  (Ag (Ar (Aj Z hr (Aa (Ae 3) (Aa (Ae 4) Ab)))))))))),?_⟩
 done
 have b3:∀e∈fs,∀j,j<3->0<=e.2.1.getD j 0/\e.2.1.getD j 0<=(D:Int):=fun e he j hj=>Agg (hf.al e he).ln (hb e he) hj
 have m3:∀j,j<3->0<=mo fs j/\mo fs j<=(D:Int):=fun j hj=>Ago (by omega) fun e he=>b3 e he j hj
 refine⟨by decide,by decide,fun p hp=>O8 (es:=List.range 3) (inj:=fun i=> .int (0+(i:Nat))) (fun(j:Nat) v H=>Tb H v (sc (t j) (b j) (mo fs j)) (fs.map fun(e:V × (List Int × Int))=>e.2.1.getD j 0)) (fun j v H H' h s=>h.mono s) (fun j v H ys zs h hp=>h.put hp) (by decide) hp Io ?_ ?_⟩
 . intro j H2 R hj s2 hR
   have a1:j<3:=cW.mp hj
   rw [gW]
   done
   refine Ip (s2.tup hc.it) (v:= .ref (q j)) (Es (by rw [aN,fR a1];rfl)) ?_
   try done
   refine⟨a,q j,fs,j,n,t j,b j,rfl,hf.mono s2,hl,a1,s2.tup (hc.pt j a1),hc.zt j a1,hc.zb j a1,by omega,fun e he=> ?_,fun d H' a7 _ s' hd hv=>hR _ _ s' ⟨d,a7,rfl,hd,fun k hk=> ?_⟩⟩
   . have:=b3 e he j a1
     omega
   . obtain⟨e,he,rfl⟩:=aE.mp hk
     exact hv e he
 intro H2 vs s2 h2 hv a4
 obtain⟨x0,x1,x2,rfl⟩:=Aea hv
 obtain⟨d0,k0,e0,g0,v0⟩:=a4 (x0,0) (by simp)
 obtain⟨d1,k1,e1,g1,v1⟩:=a4 (x1,1) (by simp)
 obtain⟨d2,k2,e2,g2,v2⟩:=a4 (x2,2) (by simp)
 have a5:H2 p=some (.lst [.ref d0,.ref d1,.ref d2]):=by rw [<-show x0= .ref d0 from e0,<-show x1= .ref d1 from e1,<-show x2= .ref d2 from e2];exact h2
 clear a4 hv h2 e0 e1 e2
 refine⟨⟨_,s2.tup hf.it⟩,Mr (es:=fs) (inj:=(·.1)) (fun a2 O H'=>∃(o4 o5 o6 o7:Option V),H'=H2/\O=[some (.ref a),some (.ref c),some (.ref p),some (.int (S9 t b (mo fs) (a2.map (·.2)))),o4,o5,o6,o7]) ⟨_,_,_,_,rfl,rfl⟩ ?_ ?_ ?_⟩
 . rintro a2 O H' ⟨o4,o5,o6,o7,rfl,rfl⟩
   exact Lp (s2.tup hf.it)
 . rintro a2 e a9 O H' hE ⟨o4,o5,o6,o7,rfl,rfl⟩
   have hm:e∈fs:=by rw [hE];simp
   obtain⟨⟨c1,c2,ec,a8,a6⟩,ln⟩:=(hf.al e hm).mono s2
   have be:=b3 e hm
   have w0:=v0 _ (aE.mpr ⟨e,hm,rfl⟩)
   have w1:=v1 _ (aE.mpr ⟨e,hm,rfl⟩)
   have w2:=v2 _ (aE.mpr ⟨e,hm,rfl⟩)
   have z0:=Ad6 (M:=mo fs 0) (hc.zt 0 (by decide)) (hc.zb 0 (by decide)) (be 0 (by decide)).1 (Aab hm) (m3 0 (by decide)).2
   have z1:=Ad6 (M:=mo fs 1) (hc.zt 1 (by decide)) (hc.zb 1 (by decide)) (be 1 (by decide)).1 (Aab hm) (m3 1 (by decide)).2
   have z2:=Ad6 (M:=mo fs 2) (hc.zt 2 (by decide)) (hc.zb 2 (by decide)) (be 2 (by decide)).1 (Aab hm) (m3 2 (by decide)).2
   have zw:=hw e hm
   have ix:∀j:Nat,j<3->(e.2.1.map V.int)[j]? =some (.int (e.2.1.getD j 0)):=fun j hj=>by
    rw [aN,aU,aG (by omega)]
    rfl
   rw [ec]
   refine Dd a8 ?_
   done
   refine Nr (.of a5) (v:= .ref d0) rfl ?_
   try done
   refine Ip a6 (Es (j:=0) (ix 0 (by decide))) ?_
   try done
   refine⟨d0,_,rfl,Acl g0 w0,?_⟩
   try done
   refine⟨zw.mulOk z0 (by omega),Nr (.of a5) (v:= .ref d1) rfl ?_⟩
   try done
   refine Ip a6 (Es (j:=1) (ix 1 (by decide))) ?_
   try done
   refine⟨d1,_,rfl,Acl g1 w1,?_⟩
   try done
   refine⟨(zw.mul z0).mulOk z1 (by omega),Nr (.of a5) (v:= .ref d2) rfl ?_⟩
   try done
   refine Ip a6 (Es (j:=2) (ix 2 (by decide))) ?_
   try done
   refine⟨d2,_,rfl,Acl g2 w2,?_⟩
   try done
   refine⟨((zw.mul z0).mul z1).mulOk z2 (by omega),o4,o5,some (.ref c2),some (.int e.2.2),?_⟩
   have ev:S9 t b (mo fs) ((a2++ [e]).map (·.2))=S9 t b (mo fs) (a2.map (·.2))+vt t b (mo fs) e.2:=by
    rw [aQ]
    exact S7 _ _ _ _ _
   rw [ev]
   rfl
 rintro O H' ⟨o4,o5,o6,o7,rfl,rfl⟩
 done
 refine⟨by decide,by decide,Am9 3 (fun i=> .int (0+(i:Nat))) (fun i O H3=>∃o5,O=[some (.ref a),some (.ref c),some (.ref p),some (.int (S9 t b (mo fs) (fs.map (·.2)))),some (.int (vb b (mo fs) i)),o5,o6,o7]/\Same H H3) ⟨_,rfl,s2⟩ ?_ ?_ ?_⟩
 . rintro i O H3 _
   exact Gx
 . rintro i O H3 hi ⟨o5,rfl,s3⟩
   rw [gW]
   done
   refine Ip (s3.tup hc.it) (v:= .ref (q i)) (Es (by rw [aN,fR hi];rfl)) ?_
   try done
   refine Ip (s3.tup (hc.pt i hi)) (v:= .int (b i)) rfl ?_
   try done
   refine⟨a,fs,i,rfl,hf.mono s3,hl,hi,fun M H4 s4 hM=> ?_⟩
   rw [hM.is_mo]
   have mi:=m3 i hi
   refine⟨b i,(mo fs i).toNat,n,by rw [eV mi.1],hc.zb i hi,by omega,by omega,fun H5 s5=> ?_⟩
   try done
   refine⟨(Aed hc.zb (fun j hj=>(m3 j hj).2) i (by omega)).mulOk (Gs (hc.zb i hi) _) ?_,_,rfl,(s3.trans s4).trans s5⟩
   have h1:n*(mo fs i).toNat<=n*D:=fO _ (by omega)
   have h2:(n*D+1)*i<=(n*D+1)*3:=fO _ (by omega)
   omega
 . rintro O H3 ⟨o5,rfl,s3⟩
   done
   have vp:=Wx (M:=mo fs) hc.bp 3 (by decide)
   exact⟨_,_,rfl,by omega,(Aed hc.zb (fun j hj=>(m3 j hj).2) 3 (by decide)).mono nD,fun z H4 s4 hq=>k z H4 (s3.trans s4) hq⟩
noncomputable def cR (t b:Nat->Int) (j:Nat):Rat:=(t j:Rat)/(b j:Rat)
theorem An3 {t M:Int} (G:0<b) {k:Nat} (h:(k:Int)<=M):((sc t b M k:Int):Rat)=((t:Rat)/(b:Rat))^k*(b:Rat)^M.toNat:=by
 have:=scR (t:=t) (b:=b) (by omega) (k:=k) (M:=M.toNat) (by omega)
 rw [<-this]
 unfold sc
 rw [cT,show(M-(k:Int)).toNat=M.toNat-k by omega]
theorem Aqq {t b:Nat->Int} (J:∀j,j<3->0<b j)  (h:Np e.1) (O:∀j,j<3->e.1.getD j 0<=M j):((vt t b M e:Int):Rat)=(e.2:Rat)*mo3 (cR t b) (c3 e.1)*(Ab6 b M:Int):=by
 obtain⟨i,j,k,U,W⟩:=h.ex
 have G:=O 0 (by decide)
 have h1:=O 1 (by decide)
 have h2:=O 2 (by decide)
 rw [U]at G h1 h2
 have G:(i:Int)<=M 0:=G
 have h1:(j:Int)<=M 1:=h1
 have h2:(k:Int)<=M 2:=h2
 rw [W]
 unfold vt
 rw [U]
 show((e.2*sc (t 0) (b 0) (M 0) (i:Int)*sc (t 1) (b 1) (M 1) (j:Int)*sc (t 2) (b 2) (M 2) (k:Int):Int):Rat)=(e.2:Rat)*((cR t b 0)^i*(cR t b 1)^j*(cR t b 2)^k)*((1*b 0^(M 0).toNat*b 1^(M 1).toNat*b 2^(M 2).toNat:Int):Rat)
 rw [jX,fH,fH,fH,fH,fH,An3 (J 0 (by decide)) G,An3 (J 1 (by decide)) h1,An3 (J 2 (by decide)) h2,Ol,Ol,Ol]
 unfold cR
 grind
theorem Afu {t b M:Nat->Int} (J:∀j,j<3->0<b j):∀L:List (List Int × Int),(∀e∈L,Np e.1)->(∀e∈L,∀j,j<3->e.1.getD j 0<=M j)->((S9 t b M L:Int):Rat)=eR (cR t b) (cvl L)*(Ab6 b M:Int)
 | [],_,_=>by
   show((0:Int):Rat)=0*_
   grind
 | e::r,np,hM=>by
   show((vt t b M e+S9 t b M r:Int):Rat)=((e.2:Rat)*mo3 (cR t b) (c3 e.1)+eR (cR t b) (cvl r))*_
   rw [Rat.intCast_add,Aqq J (np e (.head _)) (hM e (.head _)),Afu J r (fun x G=>np x (.tail _ G)) fun x G=>hM x (.tail _ G)]
   grind
theorem val_eq {t b:Nat->Int} (G:∀j,j<3->0<b j)  (np:∀e∈L,Np e.1) (J:∀e∈L,∀j,j<3->e.1.getD j 0<=M j):divInt (S9 t b M L) (Ab6 b M)=eR (cR t b) (cvl L):=by
 have O:(0:Int)<Ab6 b M:=Wx G 3 (by decide)
 have U:((Ab6 b M:Int):Rat)≠0:=fun z=>by
  have:=Rat.intCast_eq_zero_iff.mp z
  omega
 rw [Rat.divInt_eq_div,Afu G L np J]
 grind
noncomputable def Szq (n:Nat) (q:Rat):Prop:=Sz n q.num/\Sz n (q.den:Int)
theorem Al1 {t b M:Nat->Int}{n D W:Nat} (U:∀j,j<3->Sz n (t j)) (Z:∀j,j<3->Sz n (b j)) (hM:∀j,j<3->M j<=(D:Int)):∀L:List (List Int × Int),(∀e∈L,Np e.1)->(∀e∈L,∀j,j<3->e.1.getD j 0<=M j)->(∀e∈L,Sz W e.2)->Sz (W+3*(n*D+2)+L.length) (S9 t b M L)
 | [],_,_,_=>by
   show Sz _ 0
   unfold Sz
   exact Nat.two_pow_pos _
 | e::r,np,hm,hw=>by
   have ih:=Al1 U Z hM r (fun x G=>np x (.tail _ G)) (fun x G=>hm x (.tail _ G)) fun x G=>hw x (.tail _ G)
   have O:∀j,j<3->Sz (n*D+2) (sc (t j) (b j) (M j) (e.1.getD j 0)):=fun j J=>by
    refine Ad6 (U j J) (Z j J) ?_ (hm e (.head _) j J) (hM j J)
    rw [<-Afj J (np e (.head _))]
    omega
   have z:=(((hw e (.head _)).mul (O 0 (by decide))).mul (O 1 (by decide))).mul (O 2 (by decide))
   have l:(e::r).length=r.length+1:=rfl
   rw [l]
   exact((z.mono (show _<=W+3*(n*D+2)+r.length by omega)).add ih).mono (by omega)
theorem Aic {Q:VK}{E:XK}{st:Bool}{c:Addr}{t b:Nat->Int} (h:Fo K H st v S d m) (J:At3 K H c q t b n) (Z:d<=12) (hn:n<=1000) (hm:m<=19000) (nd:(n*d+1)*3+1<=8000)
 (k:∀z H',Same H H'->IsQ K H' z (eF (cR t b) S)->Szq (m+1+3*(n*d+2)+(d+1)*(d+1)*(d+1)) (eF (cR t b) S)->Q z H'):Kv K [v,.ref c] H Q E:=by
 obtain⟨a,fs,rfl,w,_,np,e,bw,z,l⟩:=h.at
 have l':fs.length<=2197:=aO l (cube Z)
 have b3:∀e∈fs,∀j,j<3->0<=e.2.1.getD j 0/\e.2.1.getD j 0<=(d:Int):=fun x O j G=>gd3 G (np x O) (bw x O)
 have m3:∀j,j<3->0<=mo fs j/\mo fs j<=(d:Int):=fun j G=>Ago (by omega) fun e U=>b3 e U j G
 have ml:∀e∈fs.map (·.2),∀j,j<3->e.1.getD j 0<=mo fs j:=fun e U j _=>by
  obtain⟨x,O,rfl⟩:=aE.mp U
  exact Aab O
 refine⟨a,c,fs,q,t,b,n,d,m+1,rfl,w,by omega,J,hn,Z,nd,by omega,z,bw,fun z' H' s hq=> ?_⟩
 have hp:(0:Int)<Ab6 b (mo fs):=Wx J.bp 3 (by decide)
 have ht:=Al1 J.zt J.zb (fun j G=>(m3 j G).2) (fs.map (·.2)) (Et np) ml (fun e U=>by
  obtain⟨x,O,rfl⟩:=aE.mp U
  exact z x O)
 have W:=Aed J.zb (fun j G=>(m3 j G).2) 3 (by decide)
 have hz:Szq (m+1+3*(n*d+2)+(d+1)*(d+1)*(d+1)) (divInt (S9 t b (mo fs) (fs.map (·.2))) (Ab6 b (mo fs))):=by
  rw [aC]at ht
  refine⟨(ht.mono (by omega)).of_abs (Akj _ _),(W.mono (show _<=_ by omega)).of_abs ?_⟩
  have:=Aja (a:=S9 t b (mo fs) (fs.map (·.2))) (show Ab6 b (mo fs)≠0 by omega)
  show((divInt _ _).den:Int).natAbs<=(Ab6 b (mo fs)).natAbs
  omega
 rw [val_eq J.bp (Et np) ml,show eR (cR t b) (cvl (fs.map (·.2)))=eF (cR t b) S by rw [<-e];rfl]at hq hz
 exact k z' H' s hq hz
theorem Aki {n:Nat}:∀l:List (List Int × Int),(∀e∈l,Sz n e.2)->n1 (cvl l)<=l.length*2^n
 | [],_=>cH _
 | e::r,h=>by
   have J:=Aki r fun x G=>h x (.tail _ G)
   have h1:e.2.natAbs<2^n:=h e (.head _)
   show e.2.natAbs+n1 (cvl r)<=(r.length+1)*2^n
   rw [succ_mul]
   omega
theorem Am3 {l:List (List Int × Int)}{k:Nat} (np:∀e∈l,Np e.1) (b:∀e∈l,∀x∈e.1,x<=(d:Int)) (z:∀e∈l,Sz n e.2) (J:l.length<=2^k):Bd (fq (cvl l)) d (n+k):=by
 refine⟨_,rfl,fun e O=> ?_,?_⟩
 . obtain⟨x,G,rfl⟩:=aE.mp O
   obtain⟨i,j,m,U,W⟩:=(np x G).ex
   have h:=b x G
   rw [U]at h
   have h1:=h i (by simp)
   have h2:=h j (by simp)
   have Z:=h m (by simp)
   show le3 (c3 x.1) d
   rw [W]
   exact⟨by simpa using h1,by simpa using h2,by simpa using Z⟩
 . refine aO (Aki l z) ?_
   rw [Nat.add_comm,pow_add]
   exact lJ _ J
theorem Aqo {Q:VK}{E:XK}{es:Ft} (h:H a=some (.lst (es.map (·.1)))) (J:∀e∈es,Te K H e.1 e.2) (np:∀e∈es,Np e.2.1) (O:es.length<16000000) (e:fq (cvl (es.map (·.2)))=S) (b:Bd S d n)
 (k:∀z H',Same H H'->Fo K H' true (.ref z) S d n->Q (.ref z) H'):Jz K [.ref a] H Q E:=
 ⟨a,es,rfl,.of h,J,O,fun z H' fs s fr G=>k z H' s (.of fr (Ags fr.weak (Et np) G) (Et np) G e b)⟩
theorem TmJ.np {q:Nat}{es:Ft} (h:TmJ K q H H' l f ms es):(∀e∈es,Np e.2.1):=fun e G=>⟨(h.al e G).ln,fun x J=>((h.lo e G).1 x J).1⟩
theorem TmJ.bd {q:Nat}{es:Ft} (h:TmJ K q H H' l f ms es) (O:es.length<=6):Bd (fq (cvl (es.map (·.2)))) q 70:=by
 refine Am3 (n:=67) (k:=3) (Et h.np) (fun e G x U=> ?_) (fun e G=> ?_) (by rw [aC];exact aO O (by decide))
 . obtain⟨y,J,rfl⟩:=aE.mp G
   exact((h.lo y J).1 x U).2
 . obtain⟨y,J,rfl⟩:=aE.mp G
   exact cN (h.lo y J).2 (by decide)
theorem Tw.dr (h:Tw K H v e) (d:Dr l H H' ms) (G:H l=some (.lst zs)):Tw K H' v e:=by
 obtain⟨⟨a,b,J,O,U⟩,n⟩:=h
 exact⟨⟨a,b,J,d.sqT G O,d.sqT G U⟩,n⟩
theorem Fo.dr {l:Addr}{H H':Hp}{ms:List Int}{zs:List V}{st:Bool}{v:V}{S:Fq}{d n:Nat} (h:Fo K H st v S d n) (r:Dr l H H' ms) (G:H l=some (.lst zs)):Fo K H' st v S d n:=by
 obtain⟨⟨a,fs,e,w,t,np,q⟩,b⟩:=h
 exact⟨⟨a,fs,e,⟨r.sqT G w.it,fun e J=>(w.al e J).dr r G,w.up,w.nn⟩,fun z=>⟨r.sqT G (t z).it,fun e J=>((t z).al e J).dr r G,(t z).up,(t z).nn⟩,np,q⟩,b⟩
theorem Aqp {E J:XK}{q:Nat} (h:H l=some (.lst (ns.map V.int))) (Z:m<=6) (O:q<=20) (k:∀z H' ms S,Dr l H H' ms->Fo K H' true (.ref z) S q 70->Q (.ref z) H'):
 Im K [.ref l,.int (m:Nat),.int (q:Nat)] H (fun x H1=>Jz K [x] H1 Q E) J:=
 ⟨l,ns,m,q,rfl,h,by omega,O,fun f H1 ms es _ G le=>Aqo G.it G.al G.np (by omega) rfl (G.bd (by omega)) fun z H2 U W=>k z H2 ms _ (G.dr.same U) W⟩
noncomputable def Jy (K:Frag):Sp:=fun vs H Q _=>∃(l:Addr) (ns:List Int),vs=[.ref l]/\H l=some (.lst (ns.map V.int))/\∀(p:Addr) (t b:Int) H' ms,Dr l H H' ms->H' p=some (.tup [.int t,.int b])->0<b->Sz 60 t->Sz 60 b->Q (.ref p) H'
theorem Abh (h:x.natAbs<2^60) (G:60<=n):Sz n x:=(show Sz 60 x from h).mono G
theorem ix3 {y z:Int} (G:0<=r) (J:r<3):∃v,atI [V.int x,V.int y,V.int z] r=some (.int v)/\(v=x\/v=y\/v=z):=by
 have:r=0\/r=1\/r=2:=by omega
 rcases this with rfl | rfl | rfl
 . exact⟨x,rfl,.inl rfl⟩
 . exact⟨y,rfl,.inr (.inl rfl)⟩
 . exact⟨z,rfl,.inr (.inr rfl)⟩
theorem ix2 {y:Int} (G:0<=r) (h2:r<2):∃v,atI [V.int x,V.int y] r=some (.int v)/\(v=x\/v=y):=by
 have:r=0\/r=1:=by omega
 rcases this with rfl | rfl
 . exact⟨x,rfl,.inl rfl⟩
 . exact⟨y,rfl,.inr rfl⟩
theorem Dr.new {c:Addr}{o:HO} (d:Dr l (upd H c o) H' ms) (J:H l=some (.lst zs)) (G:H c=none):Dr l H H' ms/\H' c=some o:=
 ⟨⟨fun b u n e=>d.sm b u n (Same.upd G _ _ _ e),d.it⟩,d.sm _ _ (cC (Ay J G)) Af⟩
theorem Qg (F:Df K mg "_law_fraction" Hz zF f fd)  (O:mg "abs"=none)  (G:Cal P w K mg base 1 "_law_next" zD (Fz K)):Cal P w K mg base 2 "_law_fraction" zF (Jy K):=by
 refine F.cal (F.fn.ok Ed (fun vs H Q E h=> ?_) (fun a8 A outer s H vs Q E U h=> ?_))
 . obtain⟨l,ns,rfl,_⟩:=h
   rfl
 obtain⟨l,ns,rfl,hS,k⟩:=h
 refine Aw ⟨_,(Ac (Am 1 Ed.nd (Ah Bw Ad (Bj Fp (Bs (Aa Ad (Aa (Aj G U (Aa (Ae 0) (Aa Ad Ab))) (Aa (Aj G U (Aa (Ae 0) (Aa (Ah Hw Ad Ad) Ab))) Ab)))) (Aj G U (Aa (Ae 0) (Aa Ad Ab))) (fun _ _=>rfl))))
  (Ac (Am 2 Ed.nd (Bj Fp (Bs (Aa (Ah Ot (Aj G U (Aa (Ae 0) (Aa Ad Ab))) Ad) (Aa (Ah Ot (Aj G U (Aa (Ae 0) (Aa (Ah Dm Ad (Ah Hw Ad Ad)) Ab))) (Ah Hw Ad Ad)) Ab))) (Aj G U (Aa (Ae 0) (Aa Ad Ab))) (fun _ _=>rfl)))
  (Ac (Ma (i:=3) (j:=4) rfl Ed.nd rfl rfl (by decide) rfl rfl (Aa (Bf O6 rfl O lE (Aa (Ae 2) Ab)) (Aa (Ae 1) Ab)) rfl)
  (Ac (Gy bR (Av Adm (Ae 4) Ad (Bl _)) (Ag (Ma (i:=3) (j:=4) rfl Ed.nd rfl rfl (by decide) rfl rfl (Aa (Ae 4) (Aa (Ah Hv (Ae 3) (Ae 4)) Ab)) rfl)))
  (Ag (Ar (Az (Aa (Ah G7 (Ae 2) (Ae 3)) (Aa (Ah G7 (Ae 1) (Ae 3)) Ab))))))))),?_⟩
 done
 refine Gh hS (by decide) fun r1 H1 m1 a9 aa d1=> ?_
 try done
 refine⟨⟨by decide,by decide,by decide⟩,Gh d1.it (by decide) fun r2 H2 m2 ac a3 d2=> ?_⟩
 try done
 refine⟨by decide,fun c W=> ?_⟩
 have s3:=Same.upd W (.lst [V.int 0,V.int r1,V.int r2])
 refine Gh (s3 _ _ d2.it) (by decide) fun i H3 m3 i0 i3 d3=> ?_
 obtain⟨d3,c3⟩:=d3.new d2.it W
 obtain⟨v,ev,hv⟩:=ix3 (x:=0) (y:=r1) (z:=r2) i0 i3
 have Z:(10:Int)^toNat 12=1000000000000:=by decide
 rw [Z]at a3
 refine Nr (.of c3) ev ?_
 have vb:0<=v/\v<=1000000000000:=by omega
 have J:=(d1.trans d2).trans d3
 clear s3 d1 d2 d3 c3 ev hv
 try done
 refine Gh J.it (by decide) fun r3 H4 m4 ad ae d4=> ?_
 try done
 refine⟨⟨by decide,by decide,by decide⟩,.of_left (W2 (by decide)),Gh d4.it (by decide) fun r5 H5 m5 af a4 d5=> ?_⟩
 try done
 refine⟨⟨by decide,by decide,by decide⟩,fun c5 a1=> ?_⟩
 rw [Z]at a4 ⊢
 have s6:=Same.upd a1 (.lst [V.int (r3-4),V.int (r5-1000000000000)])
 refine Gh (s6 _ _ d5.it) (by decide) fun i2 H6 m6 a5 a6 d6=> ?_
 obtain⟨d6,c6⟩:=d6.new d5.it a1
 obtain⟨T,eT,hT⟩:=ix2 (x:=r3-4) (y:=r5-1000000000000) a5 a6
 refine Nr (.of c6) eT ?_
 have tb:T.natAbs<=1000000000000:=by omega
 have a7:=J.trans ((d4.trans d5).trans d6)
 clear s6 d4 d5 d6 c6 eT hT J
 try done
 obtain⟨B,eB⟩:∃B,B=1+v:=⟨_,rfl⟩
 rw [<-eB]
 have hB:0<B/\B<=1000000000001:=by omega
 refine Q6 (fun σ H'=>∃x y:Nat,H'=H6/\σ=[some (.ref l),some (.int B),some (.int T),some (.int (x:Nat)),some (.int (y:Nat))]/\Nat.gcd x y=Nat.gcd T.natAbs B.natAbs) (fun σ _=>match σ with | [_,_,_,_,some (.int y)]=>y.toNat | _=>0) ⟨T.natAbs,B.natAbs,rfl,?_,rfl⟩ ?_
 . have e1:(if T<0 then-T else T)=((T.natAbs:Nat):Int):=by split<;>omega
   have e2:B=((B.natAbs:Nat):Int):=by omega
   rw [e1,<-e2]
 rintro σ H' ⟨x,y,rfl,rfl,e⟩
 done
 by_cases hy:(0:Int)<(y:Nat)
 . rw [aI hy]
   refine Aid ?_
   done
   refine⟨by omega,⟨y,x%y,by rw [kN],by rw [Vs];exact e⟩,?_⟩
   show((x:Int)%(y:Int)).toNat<(y:Int).toNat
   rw [<-kN,cT,cT]
   exact mod_lt _ (by omega)
 . rw [aF hy]
   have y0:y=0:=by omega
   subst y0
   rw [Nat.gcd_zero_right]at e
   have g0:0<x:=by
    rw [e]
    exact Nat.gcd_pos_of_pos_right _ (by omega)
   have dv:x∣B.natAbs:=by
    rw [e]
    exact Nat.gcd_dvd_right _ _
   have lx:x<=B.natAbs:=Nat.le_of_dvd (by omega) dv
   have W:Ais T x:=⟨by omega,(Abh (n:=60) (x:=(x:Int)) (by omega) (by decide)).log2 (by omega) (by decide)⟩
   refine⟨W,W,fun p hp=> ?_⟩
   have q1:T.natAbs/x<=T.natAbs:=Nat.div_le_self _ _
   have a2:0<B/(x:Int):=Int.ediv_pos_of_pos_of_dvd hB.1 (by omega) (by
    have:=Int.natCast_dvd_natCast.mpr dv
    rwa [show((B.natAbs:Nat):Int)=B by omega]at this)
   have ag:B/(x:Int)<=B:=Int.ediv_le_self _ (by omega)
   have tl:(T/(x:Int)).natAbs<=1000000000001:=by
    have h1:T/(x:Int)<=1000000000001:=le_trans (Int.ediv_le_ediv (b:=1000000000001) (by omega) (by omega)) (Int.ediv_le_self _ (by decide))
    have h2: -1000000000001<=T/(x:Int):=by
     refine(Int.le_ediv_iff_mul_le (by omega)).mpr ?_
     have:(1:Int)*1000000000001<=(x:Int)*1000000000001:=cX (by omega) (by decide)
     omega
    omega
   exact k p _ _ _ m6 (a7.same (Same.upd hp _)) Af a2 (Abh (by omega) (by decide)) (Abh (by omega) (by decide))
theorem Ael.rd (h:Ael H v):∃d,RdD K H v d/\SeqAt.shaped d=true/\PyData.eqv d d=true:=by
 rcases h with⟨s,rfl,ok,_⟩ | rfl | rfl | ⟨a,rfl,G⟩
 . exact⟨_,.str s,by simp [SeqAt.shaped,PyData.canLay0,PyData.depth,ok],by simp [PyData.eqv]⟩
 . exact⟨_,.non,by decide+kernel,by decide+kernel⟩
 . exact⟨_,.int 0,by decide+kernel,by decide+kernel⟩
 . exact⟨_,.lst (.of G) (.cons (.str _) .nil),by decide+kernel,by decide+kernel⟩
noncomputable def Sx (K:Frag):Sp:=fun vs H Q _=>∃(w:Nat) (a:Addr) (y v:V) (xs:List V),w<5/\vs=[.int (w:Nat),.ref a,y,v]/\SqT K H a xs/\Ael H v/\∀H',Same H H'->Q (.bl true) H'
theorem Aak (F:Df K mg "_law_word" Qs zE f fd)  (J:mg "isinstance"=none) (ac:mg "len"=none) (a2:Afy K (cA K "CourtError")) (a3:mg "CourtError"=some (.ref (cA K "CourtError"))) (G:PySem.W.mroIn K (cA K "NoName") (.ref (cA K "CourtError"))=some true) (a6:mg "NoName"=some (.ref (cA K "NoName"))) (O:Tc K (cA K "NoName")) (U:kitOne K (.ref (cA K "NoName")) (.ref (cA K "NoName"))=some true) (a7:Yc K (cA K "NoName") "name") (a8:mg "NoPart"=some (.ref (cA K "NoPart"))) (Z:kitOne K (.ref (cA K "NoName")) (.ref (cA K "NoPart"))=some false) (aa:Lf P w K mg base 4 "f_of" yK (Qw K)) (a9:Lf P w K mg base 5 "f_put" zZ (Ng K)) (a4:Lf P w K mg base 4 "f_weights" zY (Ey K)) (a5:Lf P w K mg base 4 "taken_out" yI (Jv K)) (a1:Lf P w K mg base 4 "taken_right" zR (Ia K)):Cal P w K mg base 6 "_law_word" zE (Sx K):=by
 refine F.cal (F.fn.ok Ju (fun vs H Q E h=> ?_) (fun ad A outer s H vs Q E hr h=> ?_))
 . obtain⟨w,a,y,v,xs,_,rfl,_⟩:=h
   rfl
 obtain⟨w,a,y,v,xs,hw,rfl,ha,nn,k⟩:=h
 refine Aw ⟨_,(Ac (Am 4 Ju.nd Lx)
  (Ac (S.Qn (i:=5) (Cs:=[cA K "NoName"]) (S.Oe (Av Kf (Ae 0) Ad (Bl _)) (S.Gz aa (hr.mono (by decide)) (Aa (Az (Aa Ad (Aa Ad Ab))) (Aa (Ae 3) Ab)) Em) (S.Oe (Av Kf (Ae 0) Ad (Bl _)) (S.Gz a9 (hr.mono (by decide)) (Aa (Ae 1) (Aa (Ae 3) (Aa (Ae 2) Ab))) Em) (S.Oe (Av Kf (Ae 0) Ad (Bl _)) (S.Gz a4 (hr.mono (by decide)) (Aa (Ae 1) (Aa (Ae 3) Ab)) Em) (S.Oe (Av Kf (Ae 0) Ad (Bl _)) (S.Gz a5 (hr.mono (by decide)) (Aa (Ae 1) (Aa (Ae 2) (Aa (Ae 3) Ab))) Em) (S.Gz a1 (hr.mono (by decide)) (Aa (Ae 1) (Aa (Ae 2) (Aa (Ae 3) (Aa (Bj Fp (Bs (Aa (Az Ab) (Aa Lx (Aa (Az (Aa (Az Ab) (Aa (Az Ab) (Aa (Az Ab) Ab)))) Ab)))) (Ah Hv (by exact Bf Cq rfl ac fT (Aa (Ae 1) Ab)) Ad) (fun _ _=>rfl)) Ab)))) Em))))) a2 a3 (Ap4 G Ap5) (fun x=>(Ag (Am 4 Ju.nd (Ae 5)))) Ju.nd rfl)
  (Ag (Ar (Je (Bf Rp rfl J cM (Aa (Ae 4) (Aa (Gp (v:= .ref (cA K "NoName")) rfl a6 rfl) Ab))) (Je (Rb (Bf Rp rfl J cM (Aa (Ae 4) (Aa (Gp (v:= .ref (cA K "NoPart")) rfl a8 rfl) Ab)))) (Ly (Eh (Oq hr.units) (S.Qk (Ae 4)) (Ae 3) (Bl _))))))))),?_⟩
 done
 rcases(by omega:w=0\/w=1\/w=2\/w=3\/w=4)with rfl | rfl | rfl | rfl | rfl
 rw [aI (by rfl)]
 refine fun p hp=> .inr ⟨_,v,rfl,nn.mono (Same.upd hp _),fun dx H' s0 hd=> ?_⟩
 have s:Same H H':=(Same.upd hp _).trans s0
 rotate_left
 rw [aF (by decide),aI (by rfl)]
 refine .inr ⟨_,v,_,rfl,nn,fun dx H' s hd=> ?_⟩
 rotate_left
 rw [aF (by decide),aF (by decide),aI (by rfl)]
 refine .inr ⟨_,v,rfl,nn,fun dx H' s hd=> ?_⟩
 rotate_left
 rw [aF (by decide),aF (by decide),aF (by decide),aI (by rfl)]
 refine⟨_,_,v,rfl,nn,fun dx H' s hd=> ?_⟩
 rotate_left
 rw [aF (by decide),aF (by decide),aF (by decide),aF (by decide)]
 refine⟨by decide,fun p0 h0=>⟨by decide,fun p1 h1=>⟨by decide,fun p2 h2=>⟨by decide,fun p3 h3=>⟨by decide,fun p4 h4=>⟨by decide,fun p5 h5=> ?_⟩⟩⟩⟩⟩⟩
 have s5:=((((Same.upd h0 (.tup [])).trans (Same.upd h1 (.tup []))).trans (Same.upd h2 (.tup []))).trans (Same.upd h3 (.tup []))).trans (Same.upd h4 (.tup [V.ref p1,V.ref p2,V.ref p3]))
 have s6:=s5.trans (Same.upd h5 (.lst [V.ref p0,V.non,V.ref p4]))
 refine⟨a,xs,rfl,.inr (s6.tup ha),by decide,?_⟩
 obtain⟨u,eu⟩:∃u,atI [V.ref p0,V.non,V.ref p4] ((xs.length:Int)%3)=some u:=by
  rcases(by omega:(xs.length:Int)%3=0\/(xs.length:Int)%3=1\/(xs.length:Int)%3=2)with e | e | e<;>rw [e]<;>exact⟨_,rfl⟩
 refine Nr (.of Af) eu ?_
 refine⟨_,_,v,_,rfl,nn.mono s6,fun dx H' s0 hd=> ?_⟩
 have s:=s6.trans s0
 clear s5 s6 s0
 all_goals
  refine⟨_,rfl,cY ..,fun x oe ae c1 c2 c3 c4 c5=> ?_⟩
  cases c3
  have sx:=Same.upd c5 (XO x oe)
  refine⟨x,oe,_,true,Af,c1,O,.inl ⟨_,rfl,U⟩,?_⟩
  rw [aI rfl]
  refine⟨x,oe,_,false,Af,c1,O,.inl ⟨_,rfl,Z⟩,?_⟩
  rw [aI rfl]
  refine⟨x,oe,_,dx,_,v,rfl,Af,c1,c2,c4,sx _ _ hd,rfl,O,a7,?_⟩
  obtain⟨d,d1,d2,d3⟩:=(nn.mono (s.trans sx)).rd (K:=K)
  exact⟨d,d,d1,d1,d2,d2,by rw [d3];exact k _ (s.trans sx)⟩
theorem Afk (i:Nat):∀ {j:Nat},j<3->(List.range 3).map (fun k=>if j=k then V.int (i:Nat)else V.int 0)=(pwI j i).map V.int
 | 0,_=>rfl
 | 1,_=>rfl
 | 2,_=>rfl
theorem Ak7 {q J:Addr} (O:SqT K H q [.ref J]) (h1:H J=some (.tup [.ref p,.int 1])) (U:H p=some (.tup ((pwI j m).map V.int))):Fo K H true (.ref q) (Yj j m) m 0:=by
 have te:Te K H (.ref J) (pwI j m,1):=⟨⟨J,p,rfl,.of h1,U⟩,(Wd m j).1⟩
 have fr:Frm K H q [(.ref J,(pwI j m,1))]:=⟨O,fun e G=>by rw [bA.mp G];exact te,kJ _ _,fun e G=>by
  rw [bA.mp G]
  show(1:Int)≠0
  decide⟩
 have np:∀e∈ [((.ref J:V),((pwI j m,1):List Int × Int))],Np e.2.1:=fun e G=>by
  rw [bA.mp G]
  exact Wd m j
 refine⟨⟨q,_,rfl,fr.weak,fun _=>fr,np,?_⟩,⟨[(ej j m,1)],rfl,fun e G=> ?_,aL 1⟩⟩
 . show fq [(c3 (pwI j m),1)]=fq [(ej j m,1)]
   rw [Alf]
 . rw [bA.mp G]
   show le3 (ej j m) m
   unfold ej le3
   split<;>simp
noncomputable def Sw (K:Frag):Sp:=fun vs H Q _=>∃(z:Addr) (rs:List V) (j d n:Nat) (W:Nat->Fq),j<3/\vs=[.ref z,.int (j:Nat)]/\H z=some (.lst rs)/\rs.length<=10/\d<=20/\n<=1000/\(∀m v,rs[m]? =some v->Fo K H true v (W m) d n)/\
 ∀y H',Same H H'->Fo K H' true (.ref y) (ho W (Yj j 1) 0 rs.length) (d+10) (n+rs.length)->Q (.ref y) H'
theorem Aai (F:Df K mg "_law_back" Li zM f fd)  (G:mg "enumerate"=none) (Z:mg "tuple"=none) (a3:mg "int"=none) (a1:mg "range"=none)  (U:Cal P w K mg base 2 "f_plus" zT (Jw K)) (J:Cal P w K mg base 2 "f_times" zT (Il K)):Cal P w K mg base 3 "_law_back" zM (Sw K):=by
 refine F.cal (F.fn.ok Gu (fun vs H Q E h=> ?_) (fun a9 A outer s H vs Q E hr h=> ?_))
 . obtain⟨z,rs,j,d,n,W,_,rfl,_⟩:=h
   rfl
 obtain⟨z,rs,j,d,n,W,hj,rfl,hz,hl,hd,hn,a6,k⟩:=h
 refine Aw ⟨_,(Ac (Am 2 Gu.nd (Az Ab))
  (Ac (Bt bR rfl (Rh rfl G (Aa (Ae 0) Ab)) (Cg rfl (Al (Aq 3 Gu.nd) (Al (Aq 4 Gu.nd) Bg))) (Ac (Am 5 Gu.nd (Bu Bm rfl Z bJ (Aa (Bk (ts:=["_law_k"]) (fs:=[(3,"_law_height"),(1,"_law_here")]) rfl (Dg.of (sc:=Ak Li) (N:=zX) rfl rfl (by decide+kernel)) (Bv rfl a1 (Aa Ad Ab)) (fun _ _ _=>(Aq 0 (show Nodup (["_law_k","_law_height","_law_here"]:List Str)by decide+kernel))) (fun _ _ _=>Bo) (fun _ _ _=>(Ah Dm (Ae 1) (Bu Ro rfl a3 lD (Aa (Eh Kf (Ae 0) (Ae 2) (Bl _)) Ab))))) Ab)))
  (Ag (Am 2 Gu.nd (Aj U hr (Aa (Ae 2) (Aa (Aj J hr (Aa (Ae 4) (Aa (Az (Aa (Az (Aa (Ae 5) (Aa Ad Ab))) Ab)) Ab))) Ab)))))))
  (Ag (Ar (Ae 2))))),?_⟩
 done
 refine⟨by decide,fun p hp=> ?_⟩
 have s1:=Same.upd hp (.tup [])
 have f0:Fo K (upd H p (.tup [])) true (.ref p) 0 0 0:=Vp (.of Af)
 generalize upd H p (.tup [])=H1 at s1 f0
 have z1:=s1 _ _ hz
 refine⟨⟨_,.of z1⟩,Aev (es:=rs) (inj:=id) (fun O a2 H'=>∃(v:Addr) (o3 o4 o5:Option V),a2=[some (.ref z),some (.int (j:Nat)),some (.ref v),o3,o4,o5]/\Same H1 H'/\Fo K H' true (.ref v) (ho W (Yj j 1) 0 O.length) (d+10) (n+O.length)) ⟨_,_,_,_,rfl,Same.refl _,f0.up (cH _) (cH _)⟩ ?_ ?_ ?_⟩
 . rintro O a2 H' ⟨v,o3,o4,o5,rfl,s,_⟩
   rw [jW]
   exact .of (s _ _ z1)
 . rintro O e a8 a2 H' q hE ⟨v,o3,o4,o5,rfl,s,fv⟩ hq
   have le:=bE length hE
   rw [aH,bH]at le
   obtain⟨i,hi⟩:∃i,O.length=i:=⟨_,rfl⟩
   have he:rs[i]? =some e:=by rw [hE,<-hi];simp
   have fe:=(a6 i e he).mono ((s1.trans s).trans (Same.upd hq (.tup [V.int (O.length:Nat),id e])))
   have sq:=Same.upd hq (.tup [V.int (O.length:Nat),id e])
   refine Dd (.of Af) ?_
   rw [aH,eG]
   rw [hi]at fe sq fv ⊢
   generalize upd H' q (.tup [V.int (i:Nat),id e])=H2 at fe sq
   done
   refine⟨by decide,by decide,fun p3 a7=>Fj (es:=List.range 3) (inj:=fun k=> .int (0+(k:Nat))) (fun k=>if j=k then .int (i:Nat)else .int 0) (by decide) a7 Io ?_ ?_⟩
   . intro k H3 R hk s3 hR
     done
     have:=hR H3 (Same.refl _)
     by_cases c:j=k
     . rw [aI c]at this
       rw [aI (by omega),Int.mul_one]
       exact⟨(Sz.mulOk (m:=64) (n:=1) (cN (show(i:Int).natAbs<=10 by omega) (by decide)) (show(1:Int).natAbs<2^1 by decide) (by decide)),this⟩
     . rw [aF c]at this
       rw [aF (by omega),Int.mul_zero]
       exact⟨(Sz.mulOk (m:=64) (n:=1) (cN (show(i:Int).natAbs<=10 by omega) (by decide)) (show(0:Int).natAbs<2^1 by decide) (by decide)),this⟩
   intro H3 s3 h3
   rw [Afk i hj]at h3
   try done
   refine⟨p3,_,rfl,.inl ⟨.of h3,fun l hl p4 h4 p5 h5=> ?_⟩⟩
   have sl:=Same.upd hl (.tup ((pwI j i).map V.int))
   have s4:=Same.upd h4 (.tup [V.ref l,V.int 1])
   have s5:=Same.upd h5 (.tup [V.ref p4])
   have fy:=Ak7 (K:=K) (m:=i) (j:=j) (.of Af) (s5 _ _ (Af (H:=upd H3 l (.tup ((pwI j i).map V.int))) (a:=p4))) (s5 _ _ (s4 _ _ (Af (H:=H3) (a:=l))))
   have a5:=(sl.trans s4).trans s5
   generalize upd (upd (upd H3 l (.tup ((pwI j i).map V.int))) p4 (.tup [V.ref l,V.int 1])) p5 (.tup [V.ref p4])=H5 at fy a5
   have a4:=s3.trans a5
   refine Apu (fe.mono a4) fy (by omega) (by omega) (by omega) (by omega) fun y H6 s6 f6=> ?_
   refine Apt (d:=d+10) (n:=n+i) (((fv.mono sq).mono a4).mono s6) (f6.up (by omega) (by omega)) (by omega) fun y2 H7 s7 f7=> ?_
   refine⟨y2,_,_,_,rfl,(((s.trans sq).trans a4).trans s6).trans s7,?_⟩
   rw [Zo,kQ,Afz]
   exact f7
 . rintro a2 H' ⟨v,o3,o4,o5,rfl,s,fv⟩
   try done
   exact k v H' (s1.trans s) fv
theorem Akd (J:j<3) (h:∀k,k≠j->c k=c' k) {x:M3} (G:pw3 j x=0):mo3 c x=mo3 c' x:=by
 unfold mo3
 rcases(by omega:j=0\/j=1\/j=2)with rfl | rfl | rfl
 . have G:x.1=0:=G
   rw [G,h 1 (by decide),h 2 (by decide),cP,cP]
 . have G:x.2.1=0:=G
   rw [G,h 0 (by decide),h 2 (by decide),cP,cP]
 . have G:x.2.2=0:=G
   rw [G,h 0 (by decide),h 1 (by decide),cP,cP]
theorem Ajf {c c':Nat->Rat}{j:Nat} (G:j<3) (h:∀k,k≠j->c k=c' k):∀l:Tl,(∀e∈l,pw3 j e.1=0)->eR c l=eR c' l
 | [],_=>rfl
 | e::r,z=>by
   show _*mo3 c e.1+eR c r=_*mo3 c' e.1+eR c' r
   rw [Akd G h (z e (.head _)),Ajf G h r fun x J=>z x (.tail _ J)]
theorem Aa3 (G:j<3)  (np:∀e∈L,Np e.1):∀e∈cvl (Ld j m L),pw3 j e.1=0:=fun e J=>by
 obtain⟨y,O,rfl⟩:=aE.mp J
 obtain⟨x,U,rfl⟩:=aE.mp O
 show pw3 j (c3 (x.1.set j 0))=0
 rw [Yk G (np x (dJ.mp U).1),Ale]
theorem Ap8 (c:Nat->Rat)  (G:j<3):eF c (Yj j 1)=c j:=by
 show((1:Int):Rat)*mo3 c (ej j 1)+0=c j
 unfold mo3
 rcases(by omega:j=0\/j=1\/j=2)with rfl | rfl | rfl
 . show((1:Int):Rat)*(c 0^1*c 1^0*c 2^0)+0=c 0
   rw [cP,cP,Jq,cP]
   grind
 . show((1:Int):Rat)*(c 0^0*c 1^1*c 2^0)+0=c 1
   rw [cP,cP,Jq,cP]
   grind
 . show((1:Int):Rat)*(c 0^0*c 1^0*c 2^1)+0=c 2
   rw [cP,cP,Jq,cP]
   grind
theorem Aa6 {N:Nat} (h:Ad3 j L N):∀e∈L,e.1.getD j 0<(N:Int):=fun e G=>by
 obtain⟨M,rfl,b,_⟩:=h.2 (fun z=>by rw [z]at G;cases G)
 have:=b e G
 omega
theorem Alb {N:Nat} (G:j<3)  (np:∀e∈L,Np e.1) (J:Ad3 j L N)  (h:∀k,k≠j->c k=c' k) (O:c' j=eF c T):eF c (ho (Wm j L) T 0 N)=eF c' (fq (cvl L)):=by
 rw [U3 G L np (Aa6 J),Agc,Agc,Ap8 c' G,O]
 exact Ajs _ _ _ fun m _ _=>Ajf G h _ (Aa3 G np)
theorem Frm.dr {fs:Ft} (h:Frm K H a fs) (r:Dr l H H' ms) (G:H l=some (.lst zs)):Frm K H' a fs:=by
 refine⟨r.sqT G h.it,fun e J=> ?_,h.up,h.nn⟩
 obtain⟨⟨b,c,O,U,W⟩,n⟩:=h.al e J
 exact⟨⟨b,c,O,r.sqT G U,r.tup G W⟩,n⟩
theorem Te.tmin (h:Te K H v e) (U:e.2≠0) (W:∀x∈e.1,0<=x):∃t:Prt,v= .ref t.1/\t.ks=e.1/\Aip K H t:=by
 obtain⟨⟨a,b,rfl,J,O⟩,Z⟩:=h
 refine⟨(a,b,e.1,.int e.2),rfl,rfl,⟨J,.of O⟩,?_⟩
 have em:(e.1.map fun i=>((.int i,decide (0<=i)):V × Bool)).map (·.1)=e.1.map V.int:=by rw [aZ];rfl
 have g:=Tm.gen (K:=K) (es:=e.1.map fun i=>((.int i,decide (0<=i)):V × Bool)) J (by rw [em];exact .of O) (by rw [aC];exact Z) fun x G=>by
  obtain⟨i,_,rfl⟩:=aE.mp G
  exact .int i
 have e1:((e.1.map fun i=>((.int i,decide (0<=i)):V × Bool)).map (·.2)).all id=true:=by
  rw [gU]
  intro c hc
  obtain⟨x,G,rfl⟩:=aE.mp hc
  obtain⟨i,hi,rfl⟩:=aE.mp G
  exact cO (W i hi)
 rw [e1,cO U]at g
 exact g
theorem Ak1 {H:Hp}:∀fs:List (V × (List Int × Int)),(∀e∈fs,Te K H e.1 e.2)->(∀e∈fs,e.2.2≠0)->(∀e∈fs,∀x∈e.2.1,0<=x)->∃ts:List Prt,ts.map (fun t=>V.ref t.1)=fs.map (·.1)/\ts.map Prt.ks=(fs.map (·.2)).map (·.1)/\∀t∈ts,Aip K H t
 | [],_,_,_=>⟨[],rfl,rfl,by simp⟩
 | e::r,h,w,n=>by
   obtain⟨t,a,b,c⟩:=(h e (.head _)).tmin (w e (.head _)) (n e (.head _))
   obtain⟨ts,O,U,W⟩:=Ak1 r (fun x G=>h x (.tail _ G)) (fun x G=>w x (.tail _ G)) (fun x G=>n x (.tail _ G))
   refine⟨t::ts,by rw [bC,bC,O,a],by rw [bC,bC,bC,U,b],fun u J=> ?_⟩
   rcases aS.mp J with rfl | J
   . exact c
   . exact W u J
theorem Al0 {us:List (List Int)} (h:us.Pairwise fun x y=>HT.lexLt x y=true):upT us=true:=by
 unfold upT
 rw [gU]
 intro i hi
 have J:=cW.mp hi
 have e:∀j (G:j<us.length),us.getD j []=us[j]:=fun j G=>by
  rw [aU,aG G]
  rfl
 rw [e i (by omega),e (i+1) (by omega)]
 exact bI.mp h i (i+1) (by omega) (by omega) (by omega)
theorem Frm.fm {fs:List (V × (List Int × Int))} (h:Frm K H a fs) (W:fs.length<=16000000) (J:∀e∈fs,∀x∈e.2.1,0<=x):Fm K H (.ref a) true:=by
 obtain⟨ts,G,O,U⟩:=Ak1 fs h.al h.nn J
 have it:=h.it
 rw [<-G]at it
 have lt:ts.length=fs.length:=by
  have:=bE length G
  simpa using this
 have g:=Fm.good it (by omega) U
 rw [O,Al0 (bO.mpr h.up)]at g
 exact g
theorem Alz (h:Fo K H true v S d n) (G:d<=120) (k:∀H',Same H H'->Q (.bl true) H'):Kz K [v] H Q E:=by
 obtain⟨a,fs,rfl,_,t,np,_,_,_,l⟩:=h.at
 exact⟨_,true,rfl,(t rfl).fm (aO (Mi G l) (by decide)) (fun e J x O=>(np e J).2 x O),k⟩
theorem Afm {H:Hp}:∀(xs:List V) (ds:List PyData),xs.length=ds.length->(∀(i:Nat) x d,xs[i]? =some x->ds[i]? =some d->RdD K H x d)->Q8 K H xs ds
 | [],[],_,_=> .nil
 | [],_::_,h,_=>by simp at h
 | _::_,[],h,_=>by simp at h
 | x::r,d::t,h,k=> .cons (k 0 x d rfl rfl) (Afm r t (by simpa using h) fun i y e G J=>k (i+1) y e (by simpa using G) (by simpa using J))
noncomputable def rwF (j:Nat) (L:List (List Int × Int)) (m:Nat):PyData:= .tuple ((Ld j m L).map fD3)
noncomputable def rwD (j:Nat) (L:List (List Int × Int)) (ms:List Nat):List PyData:=ms.map (rwF j L)
theorem Ae6 (j:Nat) (L:List (List Int × Int)):∀ms:List Nat,PyData.canLayAll0 (rwD j L ms)=true
 | []=>by simp [rwD,PyData.canLayAll0]
 | m::r=>by
   have G:=Ae6 j L r
   unfold rwD at G ⊢
   simp [rwF,PyData.canLayAll0,PyData.canLay0,G,Ue]
theorem Aes (j:Nat) (L:List (List Int × Int)):∀ms:List Nat,PyData.depthAll (rwD j L ms)<=16
 | []=>by simp [rwD,PyData.depthAll]
 | m::r=>by
   have G:=Aes j L r
   have h:=T8 (Ld j m L)
   unfold rwD at G ⊢
   simp only [bC,PyData.depthAll,PyData.depth,rwF]at G ⊢
   omega
theorem Nb (j:Nat) (L:List (List Int × Int)) (ms:List Nat):SeqAt.shaped (.list (rwD j L ms))=true:=by
 have h1:=Ae6 j L ms
 have h2:=Aes j L ms
 simp [SeqAt.shaped,PyData.canLay0,PyData.depth,h1]
 omega
theorem Aeu (j:Nat) (L:List (List Int × Int)):∀ms:List Nat,PyData.eqvAll (rwD j L ms) (rwD j L ms)=true
 | []=>by simp [rwD,PyData.eqvAll]
 | m::r=>by
   have G:=Aeu j L r
   unfold rwD at G ⊢
   simp only [bC,PyData.eqvAll,PyData.eqv,rwF,Pq]
   simp only [G,decide_true,Bool.and_true]
theorem Aa7 {G:List V} (h:∀m v,G[m]? =some v->Rf K H j m L v):Q8 K H G (rwD j L (List.range G.length)):=by
 refine Afm _ _ (by unfold rwD;simp) fun i x e O J=> ?_
 have hi:=(aW.mp O).1
 unfold rwD at J
 rw [aN,fR hi]at J
 cases J
 obtain⟨a,ts,rfl,fr,q⟩:=h i x O
 show RdD K H _ (.tuple ((Ld j i L).map fD3))
 rw [<-q]
 exact .tup fr.it (Aa0 ts fr.al)
theorem Ahp {J:Nat} (h:Ad3 j L n) (g:Ad3 j L J):n=J:=by
 by_cases z:L=[]
 . rw [h.1 z,g.1 z]
 . obtain⟨M,rfl,b,x,O,ex⟩:=h.2 z
   obtain⟨Z,rfl,U,W,G,ex'⟩:=g.2 z
   have h1:=b W G
   have h2:=U x O
   omega
theorem Anm {b:Addr}{fs G:Ft} (J:J4 K H a fs) (O:J4 K H b G) (e:∀q,Bq (fs.map (·.2)) q=Bq (G.map (·.2)) q) (q:Q (.bl false) H):Alk K (fun b=> !b) (.ref a) (.ref b) H Q:=by
 have U:fs.map (·.2)=G.map (·.2):=Qd _ _ J.at.1 O.at.1 J.at.2 O.at.2 e
 refine⟨_,_,.tup J.it (Aa1 fs J.al),.tup O.it (Aa1 G O.al),Ik _,Ik _,?_⟩
 rw [PyData.eqv,Pq,cO U]
 exact q
theorem Rws.mono {H H':Hp}{z:Addr}{G:List V}{j d:Nat}{L:List (List Int × Int)} (h:Rws K H z G j d L) (s:Same H H'):Rws K H' z G j d L:=⟨s _ _ h.it,h.nn,h.le,fun m v J=>(h.rf m v J).mono s⟩
theorem Alr {n:Nat} (h:Ad3 j L (m+1)):Ld j m L≠ []:=by
 have z:L≠ []:=fun z=>by
  have:=h.1 z
  omega
 obtain⟨M,e,b,x,G,ex⟩:=h.2 z
 obtain rfl:m=M:=by omega
 unfold Ld
 intro c
 exact List.filter_eq_nil_iff.mp (eU.mp c) x G (cO ex)
theorem Agn:kitOne K (.type "list") (.type "list")=some true:=Px (by decide+kernel)
noncomputable def Abf (K:Frag):Sp:=fun vs H Q _=>∃(a:Addr) (j:Nat) (ws:List Int),j<3/\vs=[.ref a,.str (nmS j)]/\SqT K H a (ws.map V.int)/\ws.length<=100/\∀z H' fs,Same H H'->Frm K H' z fs->(∀k,Bq (fs.map (·.2)) k=Bq (trm j ws) k)->Q (.ref z) H'
theorem Z6 (K:Frag):∀G H Q E,Abf K G H Q E->Qw K G H Q E0:=fun _ _ _ _ h=> .inl h
noncomputable def Wj (K:Frag):Sp:=fun vs H Q _=>∃(a:Addr) (u:V) (fs:Ft) (j d n d' n':Nat) (st:Bool) (T:Fq),j<3/\vs=[.ref a,.str (nmS j),u]/\J4 K H a fs/\(∀e∈fs,Np e.2.1)/\Bd (fq (cvl (fs.map (·.2)))) d n/\d<=3/\n<=1000/\Fo K H st u T d' n'/\d'<=2/\n'<=1000/\
 ∀z H' N,Same H H'->Ad3 j (fs.map (·.2)) N->N<=d+1->Fo K H' true (.ref z) (ho (Wm j (fs.map (·.2))) T 0 N) (d+d'*N) (n+6+N*(n'+1))->Q (.ref z) H'
theorem Xd (K:Frag):∀G H Q E,Wj K G H Q E->Ng K G H Q E0:=fun _ _ _ _ h=> .inl h
theorem Abu {j:Int} (G:SqL K H1 a (ns.map V.int)) (J:Same H1 H) (O:0<=j) (h:Q (.int (cell ns j)) H):Ie K [.ref a,.int j] H Q E:=⟨a,ns,j,rfl,J.seq G,O,h⟩
theorem Al2 (G:j<3) (q:Q (.str (nmS j)) H):Apq (.str "xyz") (.int (j:Nat)) H Q:=by
 have e:j=0\/j=1\/j=2:=by omega
 rcases e with e | e | e
 . subst e
   exact⟨_,0,120,rfl,rfl,by decide,by decide+kernel,q⟩
 . subst e
   exact⟨_,1,121,rfl,rfl,by decide,by decide+kernel,q⟩
 . subst e
   exact⟨_,2,122,rfl,rfl,by decide,by decide+kernel,q⟩
structure Lw (K:Frag) (H:Hp) (l v u:Addr) (fs:Ft) (T:Fq):Prop where
 dr:∃ds:List Int,H l=some (.lst (ds.map V.int))
 fv:Frm K H v fs
 fu:Fo K H true (.ref u) T 2 70
theorem Lw.mono {H H':Hp}{l v u:Addr}{fs:Ft}{T:Fq} (h:Lw K H l v u fs T) (s:Same H H'):Lw K H' l v u fs T:=by
 obtain⟨⟨ds,e⟩,a,b⟩:=h
 exact⟨⟨ds,s _ _ e⟩,a.mono s,b.mono s⟩
theorem Lw.dw {v:Addr}{fs:Ft} (h:Lw K H l v u fs T) (d:Dr l H H' ms):Lw K H' l v u fs T:=by
 obtain⟨⟨ds,e⟩,a,b⟩:=h
 exact⟨⟨ms,d.it⟩,a.dr d e,b.dr d e⟩
theorem Lw.next {v:Addr}{fs:Ft}{m:Int} (h:Lw K H l v u fs T) (G:0<m) (k:∀r H' ms,0<=r->r<m->Dr l H H' ms->Lw K H' l v u fs T->Q (.int r) H'):Fz K [.ref l,.int m] H Q E:=by
 obtain⟨ds,e⟩:=h.dr
 exact Gh e G fun r H' ms J O d=>k r H' ms J O d (h.dw d)
theorem Apv {G J:XK}{c:Int}{q:Nat} (O:q<=20) (k:∀z H' S,Same H H'->Fo K H' true (.ref z) S q 70->Q (.ref z) H'):K1 K [.int c,.int 60] H (fun x H1=>Im K [x,.int 6,.int (q:Nat)] H1 (fun y H2=>Jz K [y] H2 Q E) G) J:=
 ⟨c,60,rfl,by decide,fun l H1 ns U W Z=>Aqp (m:=6) (q:=q) Z (by decide) O fun z H2 ms S d2 f2=>k z H2 S (d2.back U W) f2⟩
theorem Adg {s:Str} (G:s≠"x") (h1:s≠"y") (h2:s≠"z"):∀j,s≠nmS j
 | 0=>G
 | 1=>h1
 | _+2=>h2
theorem nm7 (h:H p=some (.lst [.str "x"]))  (G:0<=r) (J:r<7):∃v,atI [V.str "",V.str "w",V.str "xy",V.str "X",V.non,V.int 0,V.ref p] r=some v/\Ael H v:=by
 rcases(by omega:r=0\/r=1\/r=2\/r=3\/r=4\/r=5\/r=6)with rfl | rfl | rfl | rfl | rfl | rfl | rfl
 . exact⟨_,rfl,.inl ⟨_,rfl,by decide+kernel,Adg (by decide+kernel) (by decide+kernel) (by decide+kernel)⟩⟩
 . exact⟨_,rfl,.inl ⟨_,rfl,by decide+kernel,Adg (by decide+kernel) (by decide+kernel) (by decide+kernel)⟩⟩
 . exact⟨_,rfl,.inl ⟨_,rfl,by decide+kernel,Adg (by decide+kernel) (by decide+kernel) (by decide+kernel)⟩⟩
 . exact⟨_,rfl,.inl ⟨_,rfl,by decide+kernel,Adg (by decide+kernel) (by decide+kernel) (by decide+kernel)⟩⟩
 . exact⟨_,rfl,.inr (.inl rfl)⟩
 . exact⟨_,rfl,.inr (.inr (.inl rfl))⟩
 . exact⟨_,rfl,.inr (.inr (.inr ⟨p,rfl,h⟩))⟩
structure Ps (K:Frag) (H:Hp) (q:Nat->Addr) (t b:Nat->Int) (n:Nat):Prop where
 pt:∀j,j<3->SqT K H (q j) [.int (t j),.int (b j)]
 bp:∀j,j<3->0<b j
 zt:∀j,j<3->Sz n (t j)
 zb:∀j,j<3->Sz n (b j)
theorem Ps.mono {t b:Nat->Int} (h:Ps K H q t b n) (s:Same H H'):Ps K H' q t b n:=⟨fun j G=>s.tup (h.pt j G),h.bp,h.zt,h.zb⟩
theorem Ps.dw {t b:Nat->Int} (h:Ps K H q t b n) (r:Dr l H H' ms) (G:H l=some (.lst zs)):Ps K H' q t b n:=⟨fun j J=>r.sqT G (h.pt j J),h.bp,h.zt,h.zb⟩
structure Kw (K:Frag) (H:Hp) (v u p w:Addr) (fs:Ft) (T:Fq) (q:Nat->Addr) (t b:Nat->Int) (ws:List Int):Prop where
 fv:Frm K H v fs
 fu:Fo K H true (.ref u) T 2 70
 gp:H p=some (.lst [.ref (q 0),.ref (q 1),.ref (q 2)])
 ps:Ps K H q t b 60
 gw:H w=some (.lst (ws.map V.int))
theorem Kw.mono {H H':Hp}{v u p w:Addr}{fs:Ft}{T:Fq}{q:Nat->Addr}{t b:Nat->Int}{G:List Int} (h:Kw K H v u p w fs T q t b G) (s:Same H H'):Kw K H' v u p w fs T q t b G:=⟨h.fv.mono s,h.fu.mono s,s _ _ h.gp,h.ps.mono s,s _ _ h.gw⟩
theorem Ps.at3 {t b:Nat->Int}{z:Addr} (h:Ps K H q t b n) (G:SqT K H z [.ref (q 0),.ref (q 1),.ref (q 2)]):At3 K H z q t b n:=⟨G,h.pt,h.bp,h.zt,h.zb⟩
noncomputable def ptL (y q0 q1 q2:V):Nat->List V
 | 0=>[y,q1,q2]
 | 1=>[q0,y,q2]
 | _=>[q0,q1,y]
theorem Af8 (y:V)  (U:j<3) (G J O:V):(Ih [G,J,O] none (some (j:Int))).length<=2/\(Ih [G,J,O] (some ((j:Int)+1)) none).length<=2/\Ih [G,J,O] none (some (j:Int))++ [y]++Ih [G,J,O] (some ((j:Int)+1)) none=ptL y G J O j:=by
 rcases(by omega:j=0\/j=1\/j=2)with rfl | rfl | rfl
 . exact⟨bL rfl,bL rfl,rfl⟩
 . exact⟨bL rfl,bL rfl,rfl⟩
 . exact⟨bL rfl,bL rfl,rfl⟩
theorem Ak9 (y:Addr) (q:Nat->Addr)  (G:j<3):ptL (.ref y) (.ref (q 0)) (.ref (q 1)) (.ref (q 2)) j=[.ref (if j=0 then y else q 0),.ref (if j=1 then y else q 1),.ref (if j=2 then y else q 2)]:=by
 rcases(by omega:j=0\/j=1\/j=2)with rfl | rfl | rfl
 . rw [aI rfl,aF (by decide),aF (by decide)]
   rfl
 . rw [aF (by decide),aI rfl,aF (by decide)]
   rfl
 . rw [aF (by decide),aF (by decide),aI rfl]
   rfl
theorem Alo (r:Rat):((r.num:Int):Rat)/(((r.den:Nat):Int):Rat)=r:=by rw [<-Rat.divInt_eq_div,Rat.num_divInt_den]
theorem Ps.put {t b:Nat->Int}{y:Addr}{r:Rat} (h:Ps K H q t b 60) (j:Nat) (G:SqT K H y [.int r.num,.int r.den]) (z:Szq 464 r):Ps K H (fun i=>if j=i then y else q i) (fun i=>if j=i then r.num else t i) (fun i=>if j=i then(r.den:Int)else b i) 464:=by
 have J:=r.den_pos
 refine⟨fun i hi=> ?_,fun i hi=> ?_,fun i hi=> ?_,fun i hi=> ?_⟩<;>by_cases c:j=i
 . simp only [aI c]
   exact G
 . simp only [aF c]
   exact h.pt i hi
 . simp only [aI c]
   omega
 . simp only [aF c]
   exact h.bp i hi
 . simp only [aI c]
   exact z.1
 . simp only [aF c]
   exact(h.zt i hi).mono (by decide)
 . simp only [aI c]
   exact z.2
 . simp only [aF c]
   exact(h.zb i hi).mono (by decide)
theorem lt3 {P:Nat->Prop} (G:P 0) (h1:P 1) (h2:P 2):∀j,j<3->P j
 | 0,_=>G
 | 1,_=>h1
 | 2,_=>h2
theorem Ajl (F:Df K mg "law" Kl zV f fd) (ai:mg "enumerate"=none) (aw:mg "list"=none) (b8:mg "all"=none) (a1:mg "tuple"=none) (Ab0:mg "any"=none) (af:mg "isinstance"=none) (a8:mg "range"=none) (cb:mg "int"=none)  (a9:Cal P w K mg base 1 "_law_sum" yB (Jz K)) (a2:Cal P w K mg base 1 "_law_draws" zN (K1 K)) (U:Cal P w K mg base 1 "_law_next" zD (Fz K)) (b9:Cal P w K mg base 5 "f_put" zZ (Wj K)) (a3:Cal P w K mg base 6 "f_value" ["f","at"] (Kv K)) (bo:Cal P w K mg base 4 "f_of" yK (Abf K)) (a6:Cal P w K mg base 4 "f_weights" zY (Ib K)) (aa:Cal P w K mg base 3 "_law_terms" zG (Im K)) (W:Cal P w K mg base 1 "_law_cell_at" zK (Ie K)) (J:Cal P w K mg base 2 "_law_fraction" zF (Jy K)) (b4:Cal P w K mg base 3 "_law_back" zM (Sw K)) (an:Cal P w K mg base 2 "_law_weight" zF (Jb K)) (ac:Cal P w K mg base 3 "is_form" zI (Kz K)) (b5:Cal P w K mg base 6 "_law_word" zE (Sx K)):Lq P w K mg base CX0 7 f fd zV (Ad7 K):=by
 refine F.fn.ok Ec (fun vs H Q E h=> ?_) (fun ew A outer s H vs Q E Z h=> ?_)
 . obtain⟨a,ns,rfl,_⟩:=h
   rfl
 obtain⟨a,ns,rfl,hS,ey,k⟩:=h
 refine Aw ⟨_,(Ac (Am 1 Ec.nd (Aj a9 Z (Aa (Aj aa Z (Aa (Aj a2 Z (Aa (Aj W Z (Aa (Ae 0) (Aa Ad Ab))) (Aa Ad Ab))) (Aa Ad (Aa Ad Ab)))) Ab)))
  (Ac (Am 2 Ec.nd (Aj a9 Z (Aa (Aj aa Z (Aa (Aj a2 Z (Aa (Aj W Z (Aa (Ae 0) (Aa Ad Ab))) (Aa Ad Ab))) (Aa Ad (Aa Ad Ab)))) Ab)))
  (Ac (Am 3 Ec.nd (Aj a2 Z (Aa (Aj W Z (Aa (Ae 0) (Aa Ad Ab))) (Aa Ad Ab))))
  (Ac (Am 4 Ec.nd (Aj U Z (Aa (Ae 3) (Aa Ad Ab))))
  (Ac (Am 5 Ec.nd (Bj Ajv Fe (Ae 4) (fun _ _=>rfl)))
  (Ac (Bp (Av Kf (Aj U Z (Aa (Ae 3) (Aa Ad Ab))) Ad (Bl _)) (Ac (Am 15 Ec.nd (Bj Fp (Bs (Aa Fe (Aa Fe (Aa Fe (Aa Fe (Aa Lx (Aa Ad (Aa (Bs (Aa Fe Ab)) Ab)))))))) (Aj U Z (Aa (Ae 3) (Aa Ad Ab))) (fun _ _=>rfl)))
  (Ag (Ar (Bf (Jg rfl) rfl b8 gG (Aa (Bk (ts:=["_law_way"]) (fs:=[(1,"_law_one"),(2,"_law_two"),(15,"_law_other")]) rfl (Dg.of (sc:=Ak Kl) (N:=zC) rfl rfl (by decide+kernel)) (Bv rfl a8 (Aa Ad Ab)) (fun _ _ _=>(Aq 0 (show Nodup (["_law_way","_law_one","_law_two","_law_other"]:List Str)by decide+kernel))) (fun _ _ _=>Bo) (fun _ _ _=>(Aj b5 Z (Aa (Ae 0) (Aa (Ae 1) (Aa (Ae 2) (Aa (Ae 3) Ab))))))) Ab))))) Ba)
  (Ac (Am 6 Ec.nd (Bs (Aa (Aj J Z (Aa (Ae 3) Ab)) (Aa (Aj J Z (Aa (Ae 3) Ab)) (Aa (Aj J Z (Aa (Ae 3) Ab)) Ab)))))
  (Ac (Am 7 Ec.nd (Ah V3 (Bk (ts:=["_law_k"]) (fs:=[(3,"_law_draws_here")]) rfl (Dg.of (sc:=Ak Kl) (N:=zC) rfl rfl (by decide+kernel)) (Bv rfl a8 (Aa (Aj U Z (Aa (Ae 3) (Aa Ad Ab))) Ab)) (fun _ _ _=>(Aq 0 (show Nodup (["_law_k","_law_draws_here"]:List Str)by decide+kernel))) (fun _ _ _=>Bo) (fun _ _ _=>(Aj an Z (Aa (Ae 1) Ab)))) (Bs (Aa (Ah Bw Ad (Aj U Z (Aa (Ae 3) (Aa Ad Ab)))) Ab))))
  (Ac (Am 8 Ec.nd (Aj b9 Z (Aa (Ae 1) (Aa (Ae 5) (Aa (Ae 2) Ab)))))
  (Ac (Am 9 Ec.nd (Aj a3 Z (Aa (Ae 2) (Aa (Bu Bm rfl a1 bJ (Aa (Ae 6) Ab)) Ab))))
  (Ac (Am 10 Ec.nd (Aj a3 Z (Aa (Ae 1) (Aa (Bu Bm rfl a1 bJ (Aa (Ah V3 (Ah V3 (Dh U8 (Ae 6) Dv (Dw (Ae 4))) (Bs (Aa (Ae 9) Ab))) (Dh U8 (Ae 6) (Dw (Ah Bw (Ae 4) Ad)) Dv)) Ab)) Ab))))
  (Ac (Bp (Eu (Ew (Av Agz (Aj ac Z (Aa (Ae 8) Ab)) El (Bl _)) (Fg (Av (Akl Z.units) (Aj a3 Z (Aa (Ae 8) (Aa (Bu Bm rfl a1 bJ (Aa (Ae 6) Ab)) Ab))) (Ae 10) (Bl _))))) (Ag (Ar El)) Ba)
  (Ac (Am 11 Ec.nd (Aj bo Z (Aa (Bu Bm rfl a1 bJ (Aa (Ae 7) Ab)) (Aa (Ae 5) Ab))))
  (Ac (Am 10 Ec.nd (Bs Ab))
  (Ac (Bt bR rfl (Rh rfl ai (Aa (Ae 7) Ab)) (Cg rfl (Al (Aq 16 Ec.nd) (Al (Aq 17 Ec.nd) Bg))) (Ag (Dy (Gf dG eK eJ Fv (Ae 10) (Aa (Az (Aa (Bu Bm rfl a1 bJ (Aa (Bk (ts:=["_law_k"]) (fs:=[(16,"_law_height"),(4,"_law_here")]) rfl (Dg.of (sc:=Ak Kl) (N:=zC) rfl rfl (by decide+kernel)) (Bv rfl a8 (Aa Ad Ab)) (fun _ _ _=>(Aq 0 (show Nodup (["_law_k","_law_height","_law_here"]:List Str)by decide+kernel))) (fun _ _ _=>Bo) (fun _ _ _=>(Ah Dm (Ae 1) (Bu Ro rfl cb lD (Aa (Eh Kf (Ae 0) (Ae 2) (Bl _)) Ab))))) Ab)) (Aa (Ae 17) Ab))) Ab)))))
  (Ac (Bp (Av (V5 Z.units) (Ae 11) (Aj a9 Z (Aa (Ae 10) Ab)) (Bl _)) (Ag (Ar El)) Ba)
  (Ac (Am 12 Ec.nd (Aj a6 Z (Aa (Ae 1) (Aa (Ae 5) Ab))))
  (Ac (Bp (Eu (Ew (En (Eb (Bf Jh rfl af cM (Aa (Ae 12) (Aa (Ef (v:= .ty "list") rfl aw boot_list rfl) Ab))))) (Fg (En (Eb (Bf (Jg rfl) rfl b8 gG (Aa (Bk (ts:=["_law_part"]) (fs:=[]) rfl (Dg.of (sc:=Ak Kl) (N:=zC) rfl rfl (by decide+kernel)) (Du (Ae 12)) (fun _ _ _=>(Aq 0 (show Nodup (["_law_part"]:List Str)by decide+kernel))) (fun _ _ _=>Bo) (fun _ _ _=>(Aj ac Z (Aa (Ae 0) Ab)))) Ab))))))) (Ag (Ar El)) Ba)
  (Ac (Bp (Eu (Mf (Av (V5 Z.units) (Ae 12) (Bs Ab) (Bl _)) (Od (Av (Oq Z.units) (Bj Fp (Ae 12) (O4 Abv Ad) (fun _ _=>rfl)) (Az Ab) (Bl _))))) (Ag (Ar El)) Ba)
  (Ac (Bt bR rfl (Du (Ae 12)) (Aq 13 Ec.nd) (Ag (Bp (Eb (Bf (Acd rfl) rfl Ab0 boot_any (Aa (Bk (ts:=["_law_one_powers","_law_weight_here"]) (fs:=[(4,"_law_here")]) rfl (Dg.of (sc:=Ak Kl) (N:=zC) rfl rfl (by decide+kernel)) (Ea (Ae 13)) (fun _ _ _=>(Ej K 2 rfl rfl (Al (Aq 0 (show Nodup (yN:List Str)by decide+kernel)) (Al (Aq 1 (show Nodup (yN:List Str)by decide+kernel)) Bg)))) (fun _ _ _=>Bo) (fun _ _ _=>(Eh Adm (Bj (Hu K) (Ae 0) (Ae 2) (fun _ _=>rfl)) Ad (Bl _)))) Ab))) (Ag (Ar El)) Ba)))
  (Ac (Bp (Av (V5 Z.units) (Aj b4 Z (Aa (Ae 12) (Aa (Ae 4) Ab))) (Ae 1) (Bl _)) (Ag (Ar El)) Ba)
  (Ac (Am 14 Ec.nd (Bu Rq rfl aw boot_list (Aa (Ae 12) Ab)))
  (Ac (Dy (Ye dG PySem.F.slot_list_clear PySem.F.type_list_clear Adc (Ae 12)))
  (Ag (Ar (Eh (Oq Z.units) (Aj a6 Z (Aa (Ae 1) (Aa (Ae 5) Ab))) (Ae 14) (Bl _))))))))))))))))))))))))))),?_⟩
 refine Ck (fun G H'=>Same H H'/\∃(v:Addr) (F:Fq),G=[some (.ref a),some (.ref v),none,none,none,none,none,none,none,none,none,none,none,none,none,none,none,none]/\Fo K H' true (.ref v) F 3 70) (fun N O=> ?_) ?_
 . done
   refine Abu hS (Same.refl _) (by decide) ?_
   exact Apv (q:=3) (by decide) fun z H1 S s1 f1=>O _ _ ⟨s1,z,S,rfl,f1⟩
 rintro _ H1 ⟨s1,v,F,rfl,fv⟩
 refine Ck (fun G H'=>Same H H'/\∃(u:Addr) (T:Fq),G=[some (.ref a),some (.ref v),some (.ref u),none,none,none,none,none,none,none,none,none,none,none,none,none,none,none]/\Fo K H' true (.ref v) F 3 70/\Fo K H' true (.ref u) T 2 70) (fun N O=> ?_) ?_
 . done
   refine Abu hS s1 (by decide) ?_
   exact Apv (q:=2) (by decide) fun z H2 S s2 f2=>O _ _ ⟨s1.trans s2,z,S,rfl,fv.mono s2,f2⟩
 rintro _ H2 ⟨s2,u,T,rfl,fv,fu⟩
 clear s1
 obtain⟨⟨_,fs,e,_,bp,np,rfl⟩,bd⟩:=fv
 obtain rfl:=V.ref.inj e
 have bp:=bp rfl
 refine Ck (fun G H'=>∃(l:Addr),G=[some (.ref a),some (.ref v),some (.ref u),some (.ref l),none,none,none,none,none,none,none,none,none,none,none,none,none,none]/\Lw K H' l v u fs T) (fun N O=> ?_) ?_
 . done
   refine Abu hS s2 (by decide) ?_
   try done
   exact⟨_,60,rfl,by decide,fun l H3 ds nl s3 g3=>O _ _ ⟨l,rfl,⟨ds,g3⟩,bp.mono s3,fu.mono s3⟩⟩
 rintro _ H3 ⟨l,rfl,cn⟩
 clear bp fu s2
 refine Ck (fun G H'=>∃(j:Nat),j<3/\G=[some (.ref a),some (.ref v),some (.ref u),some (.ref l),some (.int (j:Nat)),none,none,none,none,none,none,none,none,none,none,none,none,none]/\Lw K H' l v u fs T) (fun N O=> ?_) ?_
 . done
   refine cn.next (by decide) fun r H4 ms r0 r1 d4 bq=> ?_
   obtain⟨j,rfl⟩:∃j:Nat,r=j:=⟨r.toNat,by omega⟩
   exact O _ _ ⟨j,by omega,rfl,bq⟩
 rintro _ H4 ⟨j,hj,rfl,bq⟩
 clear cn
 refine Ck (fun G H'=>H'=H4/\G=[some (.ref a),some (.ref v),some (.ref u),some (.ref l),some (.int (j:Nat)),some (.str (nmS j)),none,none,none,none,none,none,none,none,none,none,none,none]) (fun N O=> ?_) ?_
 . done
   exact Al2 hj (O _ _ ⟨rfl,rfl⟩)
 rintro _ H5 ⟨rfl,rfl⟩
 refine Ck (fun G H'=>G=[some (.ref a),some (.ref v),some (.ref u),some (.ref l),some (.int (j:Nat)),some (.str (nmS j)),none,none,none,none,none,none,none,none,none,none,none,none]/\Lw K H' l v u fs T) (fun N O=> ?_) ?_
 . done
   refine bq.next (by decide) fun r H6 ms r0 r1 d6 ao=> ?_
   try done
   by_cases c:r=1
   . rw [aI c]
     refine fun p hp=>⟨by decide,fun p1 b6=> ?_⟩
     obtain⟨ds,el⟩:=ao.dr
     have s1:=Same.upd hp (.lst [V.str "x"])
     have s2:=Same.upd b6 (.lst [V.str "",V.str "w",V.str "xy",V.str "X",V.non,V.int 0,V.ref p])
     have lp:=Ay el hp
     have df:=Ay (s1 _ _ el) b6
     have gp:=s2 _ _ (Af (H:=H6) (a:=p) (o:= .lst [V.str "x"]))
     refine((ao.mono s1).mono s2).next (by decide) fun r2 H7 ez co dh d7 ba=> ?_
     obtain⟨x,ex,nx⟩:=nm7 (p:=p) (H:=H7) (d7.sm p _ (cC lp) gp) co dh
     refine Nr (.of (d7.sm p1 _ (cC df) Af)) ex ?_
     refine⟨by decide,by decide,fun p9 di=>Fj (es:=List.range 5) (inj:=fun i=> .int (0+(i:Nat))) (fun _=> .bl true) (by decide) di Io ?_ ?_⟩
     . intro i H9 R hi s9 hR
       rw [gW]
       done
       exact⟨i,v,_,x,_,cW.mp hi,rfl,s9.tup ba.fv.it,nx.mono s9,fun ap aj=>hR _ aj⟩
     intro H9 s9 h9
     exact⟨p9,[true,true,true,true,true],rfl,.of h9,k _⟩
   . rw [aF c]
     exact O _ _ ⟨rfl,ao⟩
 rintro _ H6 ⟨rfl,ao⟩
 clear bq
 refine Ck (fun G H'=>∃(p:Addr) (q:Nat->Addr) (t b:Nat->Int),G=[some (.ref a),some (.ref v),some (.ref u),some (.ref l),some (.int (j:Nat)),some (.str (nmS j)),some (.ref p),none,none,none,none,none,none,none,none,none,none,none]/\Lw K H' l v u fs T/\H' p=some (.lst [.ref (q 0),.ref (q 1),.ref (q 2)])/\p≠l/\Ps K H' q t b 60) (fun N O=> ?_) ?_
 . done
   obtain⟨ds,el⟩:=ao.dr
   refine⟨l,ds,rfl,el,fun q0 t0 b0 HA mA dA hA dj dk dm=> ?_⟩
   refine⟨l,mA,rfl,dA.it,fun q1 t1 b1 HB mB dB hB dn dp dq=> ?_⟩
   refine⟨l,mB,rfl,dB.it,fun q2 t2 b2 HC mC dC hC dt du dv=> ?_⟩
   refine⟨by decide,fun p hp=> ?_⟩
   have sp:=Same.upd hp (.lst [V.ref q0,V.ref q1,V.ref q2])
   exact O _ _ ⟨p,fun i=>[q0,q1,q2].getD i 0,fun i=>[t0,t1,t2].getD i 0,fun i=>[b0,b1,b2].getD i 0,rfl,(((ao.dw dA).dw dB).dw dC).mono sp,Af,cC (Ay dC.it hp),
    ⟨lt3 (.of (sp _ _ (dC.tup dB.it (dB.tup dA.it hA)))) (.of (sp _ _ (dC.tup dB.it hB))) (.of (sp _ _ hC)),lt3 dj dn dt,lt3 dk dp du,lt3 dm dq dv⟩⟩
 rintro _ H7 ⟨p,q,t,b,rfl,ba,g7,pl,cp⟩
 clear ao
 refine Ck (fun G H'=>∃(w:Addr) (ws:List Int),G=[some (.ref a),some (.ref v),some (.ref u),some (.ref l),some (.int (j:Nat)),some (.str (nmS j)),some (.ref p),some (.ref w),none,none,none,none,none,none,none,none,none,none]/\Kw K H' v u p w fs T q t b ws/\ws.length<=5) (fun N O=> ?_) ?_
 . done
   refine ba.next (by decide) fun r H8 ms r0 r5 d8 cq=> ?_
   have g8:=d8.sm p _ pl g7
   obtain⟨f0,dy⟩:=ba.dr
   have dz:=cp.dw d8 dy
   refine⟨_,rfl,by omega,by omega,fun pw cc=> ?_⟩
   obtain⟨e3,ce⟩:=cq.dr
   have br:=Ay ce cc
   refine Yr (es:=List.range r.toNat) (inj:=fun i=> .int (0+(i:Nat))) (fun i b7 H'=>∃(ws ms:List Int),b7=ws.map V.int/\ws.length=i/\H' pw=some (.lst b7)/\Dr l H8 H' ms) ?_ ⟨[],e3,rfl,rfl,Af,fun b u _ e=>by rw [Ax (Ay e cc)];exact e,by rw [Ax br];exact ce⟩ ?_ ?_ ?_ ?_
   . rw [cJ]
     exact aO (show _<=5 by omega) (by decide)
   . rintro i b7 H' ⟨ws,ms,rfl,rfl,g,_⟩
     exact⟨aC ..,g⟩
   . rintro i b7 H' _
     exact Gx
   . rintro i e b7 H' R he ⟨ws,ms,rfl,rfl,g,d⟩ hR
     done
     refine⟨l,ms,rfl,d.it,fun x H9 cr _ d9=> ?_⟩
     have g9:=d9.sm pw _ (cC br) g
     have cs:=d.trans d9
     refine hR _ _ g9 ⟨ws++ [x],cr,by rw [aQ];rfl,by simp,Af,fun b u n e=> ?_,by rw [Ax br];exact cs.it⟩
     rw [Ax (Ay e cc)]
     exact cs.sm b u n e
   rintro b7 H9 ⟨ws,cr,rfl,wl,g9,d9⟩
   rw [cJ]at wl
   have e4:=cq.dw d9
   have h9:=d9.sm p _ pl g8
   have e5:=dz.dw d9 ce
   refine e4.next (by decide) fun r2 ap eu co f3 cf bx=> ?_
   have e6:=cf.sm p _ pl h9
   have ct:=e5.dw cf d9.it
   have e7:=cf.sm pw _ (cC br) g9
   try done
   intro p1 b6
   have ak:=Same.upd b6 (.lst [V.int (1+r2)])
   refine⟨pw,p1,_,_,rfl,rfl,ak _ _ e7,Af,?_,fun p2 e8=> ?_⟩
   . rw [aC]
     exact aO (show _<=6 by simp;omega) (by decide)
   have ad:=ak.trans (Same.upd e8 (.lst (ws.map V.int++ [V.int (1+r2)])))
   exact O _ _ ⟨p2,ws++ [1+r2],rfl,⟨bx.fv.mono ad,bx.fu.mono ad,ad _ _ e6,ct.mono ad,by rw [Af,aQ];rfl⟩,by rw [aH,wl];simp;omega⟩
 rintro _ H8 ⟨w,ws,rfl,bt,wl⟩
 clear ba g7 cp pl
 obtain⟨L,hL⟩:∃L,fs.map (·.2)=L:=⟨_,rfl⟩
 refine Ck (fun G H'=>∃(x:Addr) (n:Nat),G=[some (.ref a),some (.ref v),some (.ref u),some (.ref l),some (.int (j:Nat)),some (.str (nmS j)),some (.ref p),some (.ref w),some (.ref x),none,none,none,none,none,none,none,none,none]/\Kw K H' v u p w fs T q t b ws/\Ad3 j (fs.map (·.2)) n/\Fo K H' true (.ref x) (ho (Wm j (fs.map (·.2))) T 0 n) 11 400) (fun N O=> ?_) ?_
 . done
   refine⟨v,.ref u,fs,j,3,70,2,70,true,T,hj,rfl,bt.fv.weak,np,bd,by decide,by decide,bt.fu,by decide,by decide,fun x H9 n s9 rn n4 f9=> ?_⟩
   have e1:2*n<=2*4:=fO _ n4
   have e2:n*71<=4*71:=lJ _ n4
   exact O _ _ ⟨x,n,rfl,bt.mono s9,rn,f9.up (by omega) (by omega)⟩
 rintro _ H9 ⟨x,n,rfl,aq,rn,f9⟩
 clear bt
 refine Ck (fun G H'=>∃(y:Addr),G=[some (.ref a),some (.ref v),some (.ref u),some (.ref l),some (.int (j:Nat)),some (.str (nmS j)),some (.ref p),some (.ref w),some (.ref x),some (.ref y),none,none,none,none,none,none,none,none]/\Same H9 H'/\SqT K H' y [.int (eF (cR t b) T).num,.int (eF (cR t b) T).den]/\Szq 464 (eF (cR t b) T)) (fun N O=> ?_) ?_
 . done
   refine⟨p,_,rfl,.inl ⟨.of aq.gp,fun z hz=> ?_⟩⟩
   have sz:=Same.upd hz (.tup [V.ref (q 0),V.ref (q 1),V.ref (q 2)])
   refine Aic (aq.fu.mono sz) ((aq.ps.mono sz).at3 (.of Af)) (by decide) (by decide) (by decide) (by decide) fun y0 ap aj hq e9=> ?_
   obtain⟨y,rfl,hy⟩:=hq
   exact O _ _ ⟨y,rfl,sz.trans aj,hy,e9⟩
 rintro _ ap ⟨y,rfl,aj,hy,yz⟩
 refine Ck (fun G H'=>∃(d:Addr),G=[some (.ref a),some (.ref v),some (.ref u),some (.ref l),some (.int (j:Nat)),some (.str (nmS j)),some (.ref p),some (.ref w),some (.ref x),some (.ref y),some (.ref d),none,none,none,none,none,none,none]/\Same ap H'/\SqT K H' d [.int (eF (cR t b) (ho (Wm j (fs.map (·.2))) T 0 n)).num,.int (eF (cR t b) (ho (Wm j (fs.map (·.2))) T 0 n)).den]) (fun N O=> ?_) ?_
 . done
   have bb:=aq.mono aj
   obtain⟨c1,c2,c3⟩:=Af8 (.ref y) hj (.ref (q 0)) (.ref (q 1)) (.ref (q 2))
   refine⟨p,_,rfl,.of bb.gp,fun p1 h1 p2 h2=> ?_⟩
   have t1:=Same.upd h1 (.lst (Ih [V.ref (q 0),V.ref (q 1),V.ref (q 2)] none (some (j:Int))))
   have t2:=Same.upd h2 (.lst [V.ref y])
   have cu:=t1.trans t2
   have g1:=t2 _ _ (Af (H:=ap) (a:=p1) (o:= .lst (Ih [V.ref (q 0),V.ref (q 1),V.ref (q 2)] none (some (j:Int)))))
   have g2:=Af (H:=upd ap p1 (.lst (Ih [V.ref (q 0),V.ref (q 1),V.ref (q 2)] none (some (j:Int))))) (a:=p2) (o:= .lst [V.ref y])
   generalize upd (upd ap p1 (.lst (Ih [V.ref (q 0),V.ref (q 1),V.ref (q 2)] none (some (j:Int))))) p2 (.lst [V.ref y])=HA at cu g1 g2
   refine⟨p1,p2,_,_,rfl,rfl,g1,g2,aO (show _+1<=3 by omega) (by decide),fun p3 h3=> ?_⟩
   have t3:=Same.upd h3 (.lst (Ih [V.ref (q 0),V.ref (q 1),V.ref (q 2)] none (some (j:Int))++ [V.ref y]))
   have cv:=cu.trans t3
   refine⟨p,_,rfl,.of (cv _ _ bb.gp),fun p4 h4=> ?_⟩
   have t4:=Same.upd h4 (.lst (Ih [V.ref (q 0),V.ref (q 1),V.ref (q 2)] (some ((j:Int)+1)) none))
   refine⟨p3,p4,_,_,rfl,rfl,t4 _ _ Af,Af,aO (show _<=5 by rw [aH];exact Nat.add_le_add (show _+1<=3 by omega) c2) (by decide),fun p5 h5=> ?_⟩
   rw [c3,Ak9 y q hj]
   have t5:=Same.upd h5 (.lst [V.ref (if j=0 then y else q 0),V.ref (if j=1 then y else q 1),V.ref (if j=2 then y else q 2)])
   refine⟨p5,_,rfl,.inl ⟨.of Af,fun z hz=> ?_⟩⟩
   have t6:=Same.upd hz (.tup [V.ref (if j=0 then y else q 0),V.ref (if j=1 then y else q 1),V.ref (if j=2 then y else q 2)])
   have bu:=((cv.trans t4).trans t5).trans t6
   have gz:=Af (H:=upd (upd (upd HA p3 (.lst (Ih [V.ref (q 0),V.ref (q 1),V.ref (q 2)] none (some (j:Int))++ [V.ref y]))) p4 (.lst (Ih [V.ref (q 0),V.ref (q 1),V.ref (q 2)] (some ((j:Int)+1)) none))) p5 (.lst [V.ref (if j=0 then y else q 0),V.ref (if j=1 then y else q 1),V.ref (if j=2 then y else q 2)])) (a:=z) (o:= .tup [V.ref (if j=0 then y else q 0),V.ref (if j=1 then y else q 1),V.ref (if j=2 then y else q 2)])
   generalize upd (upd (upd (upd HA p3 (.lst (Ih [V.ref (q 0),V.ref (q 1),V.ref (q 2)] none (some (j:Int))++ [V.ref y]))) p4 (.lst (Ih [V.ref (q 0),V.ref (q 1),V.ref (q 2)] (some ((j:Int)+1)) none))) p5 (.lst [V.ref (if j=0 then y else q 0),V.ref (if j=1 then y else q 1),V.ref (if j=2 then y else q 2)])) z (.tup [V.ref (if j=0 then y else q 0),V.ref (if j=1 then y else q 1),V.ref (if j=2 then y else q 2)])=HB at bu gz ⊢
   have cg:=bb.mono bu
   have fB:Fo K HB true (.ref v) (fq (cvl (fs.map (·.2)))) 3 70:=⟨⟨v,fs,rfl,cg.fv.weak,fun _=>cg.fv,np,rfl⟩,bd⟩
   refine Aic fB ((cg.ps.put j (bu.tup hy) yz).at3 (.of gz)) (by decide) (by decide) (by decide) (by decide) fun d0 cw ak hq _=> ?_
   obtain⟨d,rfl,hd⟩:=hq
   have e:=Alb (c:=cR t b) (c':=cR (fun i=>if j=i then(eF (cR t b) T).num else t i) (fun i=>if j=i then((eF (cR t b) T).den:Int)else b i)) hj (Et np) rn (T:=T) (fun i hi=>by
    unfold cR
    simp only [aF (cC hi)]) (by
    unfold cR
    simp only [aI]
    exact Alo _)
   rw [<-e]at hd
   exact O _ _ ⟨d,rfl,bu.trans ak,hd⟩
 rintro _ cw ⟨d,rfl,ak,hd⟩
 refine Ck (fun G H'=>G=[some (.ref a),some (.ref v),some (.ref u),some (.ref l),some (.int (j:Nat)),some (.str (nmS j)),some (.ref p),some (.ref w),some (.ref x),some (.ref y),some (.ref d),none,none,none,none,none,none,none]/\Same cw H') (fun N O=> ?_) ?_
 . done
   refine Alz (f9.mono (aj.trans ak)) (by decide) fun cy ad=> ?_
   refine⟨true,true,rfl,rfl,?_⟩
   rw [aF (by decide)]
   have bz:=(aj.trans ak).trans ad
   have ag:=aq.mono bz
   refine⟨p,_,rfl,.inl ⟨.of ag.gp,fun z hz=> ?_⟩⟩
   have sz:=Same.upd hz (.tup [V.ref (q 0),V.ref (q 1),V.ref (q 2)])
   refine Aic ((f9.mono bz).mono sz) ((ag.ps.mono sz).at3 (.of Af)) (by decide) (by decide) (by decide) (by decide) fun y0 ar au hq _=> ?_
   obtain⟨y2,rfl,ea⟩:=hq
   refine Pj (ns:=[_,_]) (ms:=[_,_]) ea (((ad.trans sz).trans au).tup hd) ?_
   refine⟨_,rfl,?_⟩
   rw [aF (by simp)]
   exact O _ _ ⟨rfl,(ad.trans sz).trans au⟩
 rintro _ cy ⟨rfl,ad⟩
 have ag:=((aq.mono aj).mono ak).mono ad
 clear aj ak ad hy hd f9 aq yz rn
 refine Ck (fun G H'=>∃(o:Addr) (gs:Ft),G=[some (.ref a),some (.ref v),some (.ref u),some (.ref l),some (.int (j:Nat)),some (.str (nmS j)),some (.ref p),some (.ref w),some (.ref x),some (.ref y),some (.ref d),some (.ref o),none,none,none,none,none,none]/\Same cy H'/\Frm K H' o gs/\∀k,Bq (gs.map (·.2)) k=Bq (trm j ws) k) (fun N O=> ?_) ?_
 . done
   refine⟨w,_,rfl,.inl ⟨.of ag.gw,fun z hz=> ?_⟩⟩
   have sz:=Same.upd hz (.tup (ws.map V.int))
   exact⟨z,j,ws,hj,rfl,.of Af,by omega,fun o ar gs au fo eo=>O _ _ ⟨o,gs,rfl,sz.trans au,fo,eo⟩⟩
 rintro _ ar ⟨o,gs,rfl,au,fo,eo⟩
 have ax:=ag.mono au
 clear au ag
 refine Ck (fun G H'=>∃(e:Addr),G=[some (.ref a),some (.ref v),some (.ref u),some (.ref l),some (.int (j:Nat)),some (.str (nmS j)),some (.ref p),some (.ref w),some (.ref x),some (.ref y),some (.ref e),some (.ref o),none,none,none,none,none,none]/\Same ar H'/\ar e=none/\H' e=some (.lst [])) (fun N O=> ?_) ?_
 . done
   exact⟨by decide,fun e he=>O _ _ ⟨e,rfl,Same.upd he _,he,Af⟩⟩
 rintro _ f4 ⟨e,rfl,ch,ne,ge⟩
 refine Ck (fun G H'=>∃(es:Ft) (a4 a5:Option V),G=[some (.ref a),some (.ref v),some (.ref u),some (.ref l),some (.int (j:Nat)),some (.str (nmS j)),some (.ref p),some (.ref w),some (.ref x),some (.ref y),some (.ref e),some (.ref o),none,none,none,none,a4,a5]/\Same ar H'/\H' e=some (.lst (es.map (·.1)))/\(∀z∈es,Te K H' z.1 z.2)/\es.map (·.2)=trm j ws) (fun N O=> ?_) ?_
 . done
   have cz:=ch _ _ ax.gw
   refine⟨⟨_,.of cz⟩,Aev (es:=ws) (inj:=V.int) (fun ae G H'=>∃(es:Ft) (a4 a5:Option V),G=[some (.ref a),some (.ref v),some (.ref u),some (.ref l),some (.int (j:Nat)),some (.str (nmS j)),some (.ref p),some (.ref w),some (.ref x),some (.ref y),some (.ref e),some (.ref o),none,none,none,none,a4,a5]/\Same ar H'/\H' e=some (.lst (es.map (·.1)))/\(∀z∈es,Te K H' z.1 z.2)/\es.map (·.2)=trm j ae) ⟨[],_,_,rfl,ch,ge,by simp,rfl⟩ ?_ ?_ ?_⟩
   . rintro ae G H' ⟨es,a4,a5,rfl,s,_⟩
     exact .of (s _ _ ax.gw)
   . rintro ae c d1 G H' g hE ⟨es,a4,a5,rfl,s,gE,te,ee⟩ hg
     have le:=bE length hE
     rw [aH,bH]at le
     obtain⟨i,hi⟩:∃i,ae.length=i:=⟨_,rfl⟩
     have ei:es.length=i:=by
      have:=bE length ee
      unfold trm at this
      rw [aC,length_mapIdx]at this
      omega
     have sg:=Same.upd hg (.tup [V.int (ae.length:Nat),V.int c])
     refine Dd (.of Af) ?_
     rw [hi]at sg ⊢
     generalize upd H' g (.tup [V.int (i:Nat),V.int c])=HA at sg
     done
     refine⟨.inl ⟨rfl,_,.of (sg _ _ gE)⟩,by decide,by decide,fun p3 ec=>Fj (es:=List.range 3) (inj:=fun k=> .int (0+(k:Nat))) (fun k=>if j=k then .int (i:Nat)else .int 0) (by decide) ec Io ?_ ?_⟩
     . intro k H3 R hk s3 hR
       done
       have:=hR H3 (Same.refl _)
       by_cases c:j=k
       . rw [aI c]at this
         rw [aI (by omega),Int.mul_one]
         exact⟨(Sz.mulOk (m:=64) (n:=1) (cN (show(i:Int).natAbs<=10 by omega) (by decide)) (show(1:Int).natAbs<2^1 by decide) (by decide)),this⟩
       . rw [aF c]at this
         rw [aF (by omega),Int.mul_zero]
         exact⟨(Sz.mulOk (m:=64) (n:=1) (cN (show(i:Int).natAbs<=10 by omega) (by decide)) (show(0:Int).natAbs<2^1 by decide) (by decide)),this⟩
     intro H3 s3 h3
     rw [Afk i hj]at h3
     try done
     refine⟨p3,_,rfl,.inl ⟨.of h3,fun z1 h1 z2 h2=> ?_⟩⟩
     have t1:=Same.upd h1 (.tup ((pwI j i).map V.int))
     have t2:=Same.upd h2 (.tup [V.ref z1,V.int c])
     have st:=(s3.trans t1).trans t2
     have d2:Te K (upd (upd H3 z1 (.tup ((pwI j i).map V.int))) z2 (.tup [V.ref z1,V.int c])) (.ref z2) (pwI j i,c):=⟨⟨z2,z1,rfl,.of Af,t2 _ _ Af⟩,(Wd i j).1⟩
     generalize upd (upd H3 z1 (.tup ((pwI j i).map V.int))) z2 (.tup [V.ref z1,V.int c])=HB at st d2
     have sB:=sg.trans st
     have gB:=sB _ _ gE
     refine⟨e,_,_,rfl,rfl,gB,cN (show _<=10 by rw [aC];omega) (by decide),es++ [(.ref z2,(pwI j i,c))],_,_,rfl,(s.trans sB).put ne,by rw [Af,aQ];rfl,fun z hz=> ?_,?_⟩
     . rcases bG.mp hz with hz | hz
       . exact((te z hz).mono sB).put gB
       . rw [bA.mp hz]
         exact d2.put gB
     . rw [aQ,ee]
       unfold trm
       rw [List.mapIdx_concat,hi]
       rfl
   . rintro G H' ⟨es,a4,a5,rfl,s,gE,te,ee⟩
     exact O _ _ ⟨es,a4,a5,rfl,s,gE,te,ee⟩
 rintro _ f5 ⟨es,a4,a5,rfl,ci,c0,c4,bc⟩
 clear ch ge
 refine Ck (fun G H'=>G=[some (.ref a),some (.ref v),some (.ref u),some (.ref l),some (.int (j:Nat)),some (.str (nmS j)),some (.ref p),some (.ref w),some (.ref x),some (.ref y),some (.ref e),some (.ref o),none,none,none,none,a4,a5]/\Same ar H') (fun N O=> ?_) ?_
 . done
   have le:es.length<=10:=by
    have:=bE length bc
    unfold trm at this
    rw [aC,length_mapIdx]at this
    omega
   refine⟨e,es,rfl,.of c0,c4,by omega,fun z be hs bf fr eh=> ?_⟩
   refine Anm ((fo.mono ci).mono bf).weak fr.weak (fun q=>by rw [eo,eh,bc]) ⟨_,rfl,?_⟩
   rw [aF (by decide)]
   exact O _ _ ⟨rfl,ci.trans bf⟩
 rintro _ be ⟨rfl,bf⟩
 have bg:=ax.mono bf
 clear ci bf c0 c4 bc fo eo ax
 refine Ck (fun G H'=>∃(r:Addr) (rs:List V),G=[some (.ref a),some (.ref v),some (.ref u),some (.ref l),some (.int (j:Nat)),some (.str (nmS j)),some (.ref p),some (.ref w),some (.ref x),some (.ref y),some (.ref e),some (.ref o),some (.ref r),none,none,none,a4,a5]/\Same be H'/\Rws K H' r rs j 3 (fs.map (·.2))/\be r=none) (fun N O=> ?_) ?_
 . done
   exact⟨v,fs,j,3,70,hj,rfl,bg.fv.weak,np,bd,by decide,fun r d3 rs nr bv a7=>O _ _ ⟨r,rs,rfl,bv,a7,nr⟩⟩
 rintro _ d3 ⟨r,rs,rfl,bv,a7,nr⟩
 have c5:=bg.mono bv
 have l4:=a7.le
 refine Ck (fun G H'=>G=[some (.ref a),some (.ref v),some (.ref u),some (.ref l),some (.int (j:Nat)),some (.str (nmS j)),some (.ref p),some (.ref w),some (.ref x),some (.ref y),some (.ref e),some (.ref o),some (.ref r),none,none,none,a4,a5]/\Same d3 H') (fun N O=> ?_) ?_
 . done
   refine⟨_,_,_,true,rfl,.lst a7.it,Agn,?_⟩
   rw [aF (by decide)]
   refine⟨⟨_,.of a7.it⟩,fun p1 b6=>Fj (es:=rs) (inj:=id) (fun _=> .bl true) (aO l4 (by decide)) b6 (Q7 (by rw [jW];exact .of a7.it)) ?_ ?_⟩
   . intro z H' R hz s' hR
     obtain⟨m,hm⟩:=List.getElem?_of_mem hz
     done
     exact Alz (((a7.rf m z hm).fo hj c5.fv.weak np bd (by decide)).mono s') (by decide) fun H6 s6=>hR _ s6
   intro H' s' h'
   refine⟨p1,rs.map fun _=>true,rfl,by rw [aZ];exact .of h',?_⟩
   rw [aF (by simp)]
   exact O _ _ ⟨rfl,s'⟩
 rintro _ d5 ⟨rfl,cj⟩
 have ah:=a7.mono cj
 have c6:=c5.mono cj
 refine Ck (fun G H'=>G=[some (.ref a),some (.ref v),some (.ref u),some (.ref l),some (.int (j:Nat)),some (.str (nmS j)),some (.ref p),some (.ref w),some (.ref x),some (.ref y),some (.ref e),some (.ref o),some (.ref r),none,none,none,a4,a5]/\Same d5 H') (fun N O=> ?_) ?_
 . done
   refine⟨by decide,fun p1 h1=> ?_⟩
   have t1:=Same.upd h1 (.lst [])
   refine⟨_,_,.lst (.of (t1 _ _ ah.it)) (Aa7 fun m z hm=>(ah.rf m z hm).mono t1),.lst (.of Af) .nil,Nb _ _ _,by decide+kernel,_,rfl,?_⟩
   obtain⟨m,hm⟩:∃m,m=rs.length:=⟨_,rfl⟩
   rcases m with _ | m
   . rw [<-hm]
     exact O _ _ ⟨rfl,t1⟩
   . have e1:(!PyData.eqv (.list (rwD j (fs.map (·.2)) (List.range rs.length))) (.list []))=true:=by
      rw [<-hm]
      unfold rwD
      rw [List.range_succ_eq_map]
      simp [PyData.eqv,PyData.eqvAll]
     rw [aI e1]
     obtain⟨ck,z,hz⟩:∃ck z,rs=ck++ [z]:=⟨rs.dropLast,rs.getLast (fun c=>by rw [c]at hm;cases hm),(List.dropLast_concat_getLast _).symm⟩
     have lz:ck.length=m:=by
      rw [hz,aH,eG]at hm
      omega
     have gz:rs[m]? =some z:=by rw [hz,<-lz];simp
     refine Nr (.of (t1 _ _ ah.it)) (v:=z) (by rw [hz];exact Aca _ _) ?_
     obtain⟨ra,ts,rfl,fr,q9⟩:=ah.rf m z gz
     have f8:Fo K d5 true (.ref ra) (Wm j (fs.map (·.2)) m) 3 76:=Rf.fo hj c6.fv.weak np bd (by decide) ⟨ra,ts,rfl,fr,q9⟩
     have ed:∀e∈ts,Np e.2.1:=fun e he=>Aa4 (Et np) e.2 (by rw [<-q9];exact aE.mpr ⟨e,he,rfl⟩)
     have nz:Wm j (fs.map (·.2)) m≠0:=fun c=>by
      have rn:=ah.nn
      rw [<-hm]at rn
      unfold Wm at c
      rw [<-q9]at c
      have:=(Ua fr.weak ed).mp c
      rw [this]at q9
      exact Alr (n:=m) rn q9.symm
     refine⟨by decide,fun p2 h2=> ?_⟩
     have t2:=Same.upd h2 (.tup [])
     refine Agd ((f8.mono t1).mono t2) (Vp (.of Af)) (fun c=>absurd c nz) (fun _=>⟨_,rfl,?_⟩)
     rw [aF (by decide)]
     exact O _ _ ⟨rfl,t1.trans t2⟩
 rintro _ da ⟨rfl,cl⟩
 have ay:=ah.mono cl
 have c7:=c6.mono cl
 refine Ck (fun G H'=>∃am,G=[some (.ref a),some (.ref v),some (.ref u),some (.ref l),some (.int (j:Nat)),some (.str (nmS j)),some (.ref p),some (.ref w),some (.ref x),some (.ref y),some (.ref e),some (.ref o),some (.ref r),am,none,none,a4,a5]/\Same da H') (fun N O=> ?_) ?_
 . done
   refine⟨⟨_,.of ay.it⟩,Mr (es:=rs) (inj:=id) (fun ae G H'=>∃am,G=[some (.ref a),some (.ref v),some (.ref u),some (.ref l),some (.int (j:Nat)),some (.str (nmS j)),some (.ref p),some (.ref w),some (.ref x),some (.ref y),some (.ref e),some (.ref o),some (.ref r),am,none,none,a4,a5]/\Same da H') ⟨_,rfl,Same.refl _⟩ ?_ ?_ ?_⟩
   . rintro ae G H' ⟨am,rfl,s⟩
     exact Gw (by rw [jW];exact .of (s _ _ ay.it))
   . rintro ae z d1 G H' hE ⟨am,rfl,s⟩
     have gz:rs[ae.length]? =some z:=by rw [hE];simp
     obtain⟨ra,ts,rfl,fr,q9⟩:=(ay.mono s).rf _ z gz
     done
     have lt:ts.length<=64:=by
      have h1:=bE length q9
      have h2:=(Zk c7.fv.weak np bd).2.2
      unfold Ld at h1
      rw [aC,aC]at h1
      have h3:=dF (fun e:List Int × Int=>decide (e.1.getD j 0=(ae.length:Int))) (fs.map (·.2))
      rw [aC]at h3
      omega
     refine⟨ra,rfl,⟨_,fr.it⟩,fun p1 h1=>Fj (es:=ts) (inj:=(·.1)) (fun _=> .bl false) (aO lt (by decide)) h1 (K8 fr.it) ?_ ?_⟩
     . intro tm H2 R ht s2 hR
       obtain⟨⟨b1,c1,eb,ef,eg⟩,ln⟩:=(fr.al tm ht).mono s2
       have z0:tm.2.1[j]? =some 0:=by
        have:tm.2∈Ld j ae.length (fs.map (·.2)):=by rw [<-q9];exact aE.mpr ⟨tm,ht,rfl⟩
        obtain⟨x0,ek,e0⟩:=aE.mp this
        rw [<-e0]
        have l3:=(Et np x0 (dJ.mp ek).1).1
        show(x0.1.set j 0)[j]? =some 0
        rw [kT (by omega)]
       rw [eb]
       refine Dd ef ?_
       done
       refine Ip (.of eg) (v:= .int 0) (Es (by rw [aN,z0];rfl)) ?_
       try done
       exact hR _ (Same.refl _)
     intro H2 s2 h2
     refine⟨p1,ts.map fun _=>false,rfl,by rw [aZ];exact .of h2,?_⟩
     rw [aF (by simp)]
     exact⟨_,rfl,s.trans s2⟩
   . rintro G H' ⟨am,rfl,s⟩
     exact O _ _ ⟨am,rfl,s⟩
 rintro _ em ⟨am,rfl,cm⟩
 have az:=ay.mono cm
 have b3:=c7.mono cm
 refine Ck (fun G H'=>G=[some (.ref a),some (.ref v),some (.ref u),some (.ref l),some (.int (j:Nat)),some (.str (nmS j)),some (.ref p),some (.ref w),some (.ref x),some (.ref y),some (.ref e),some (.ref o),some (.ref r),am,none,none,a4,a5]/\Same em H') (fun N O=> ?_) ?_
 . done
   refine⟨r,rs,j,3,76,Wm j (fs.map (·.2)),hj,rfl,az.it,by omega,by decide,by decide,fun m z hm=>(az.rf m z hm).fo hj b3.fv.weak np bd (by decide),fun y2 bh av fy=> ?_⟩
   have er:Fo K bh true (.ref v) (fq (cvl (fs.map (·.2)))) 3 70:=⟨⟨v,fs,rfl,(b3.mono av).fv.weak,fun _=>(b3.mono av).fv,np,rfl⟩,bd⟩
   refine Agd fy er (fun _=>⟨_,rfl,?_⟩) (fun c=>absurd (U3 hj _ (Et np) (Aa6 az.nn)).symm c)
   rw [aF (by decide)]
   exact O _ _ ⟨rfl,av⟩
 rintro _ bh ⟨rfl,av⟩
 have bi:=az.mono av
 have ev:=b3.mono av
 have db:Same be bh:=(((bv.trans cj).trans cl).trans cm).trans av
 try done
 refine⟨r,rs,rfl,.inl (.of bi.it),fun kx hk=> ?_⟩
 have sk:=Same.upd hk (.lst rs)
 have et:=Ay bi.it hk
 have gk:=Af (H:=bh) (a:=kx) (o:= .lst rs)
 have bj:=bi.mono sk
 generalize upd bh kx (.lst rs)=bw at sk gk bj
 refine⟨.inl ⟨rfl,_,.of bj.it⟩,r,rs,rfl,rfl,bj.it,?_⟩
 have dc:Same be (upd bw r (.lst [])):=(db.trans sk).put nr
 have c8:=bg.mono dc
 have c9:upd bw r (.lst []) kx=some (.lst rs):=by rw [Ax (cC et)];exact gk
 have ca:∀m z,rs[m]? =some z->Rf K (upd bw r (.lst [])) j m (fs.map (·.2)) z:=fun m z hm=>(bj.rf m z hm).put bj.it
 generalize upd bw r (.lst [])=f6 at dc c8 c9 ca
 refine⟨v,fs,j,3,70,hj,rfl,c8.fv.weak,np,bd,by decide,fun r2 f7 fa _ de bn=> ?_⟩
 have en:=Ahp bn.nn a7.nn
 refine⟨_,_,.lst (.of bn.it) (Aa7 bn.rf),.lst (.of (de _ _ c9)) (Aa7 fun m z hm=>(ca m z hm).mono de),Nb _ _ _,Nb _ _ _,?_⟩
 rw [PyData.eqv,en,Aeu]
 exact k _
end
noncomputable abbrev Fd (K:Frag) (x:Str) (st:Stmt):Prop:=∃(f:Addr) (od an:Option Addr) (sl:Array (Option Value)) (oc kV dc pm cd ct:Value),PySem.W.nsIn K mainGlobals x=some (some (.ref f))/\K.lookup f=some ⟨oc,od,.func (PySem.W.fnOf x x (Hs st) (Gj st) (Ak st) .none kV dc pm an cd ct),sl⟩/\PySem.W.codeIn K cd x=true/\keepIn K (.ref f)=true
theorem us0 {P:List Value->Prop} (h:P []) (us:List Value) (G:us.length=0):P us:=by
 rw [List.length_eq_zero_iff.mp G]
 exact h
theorem usS {P:List Value->Prop}{k:Nat} (h:∀a,∀us:List Value,us.length=k->P (a::us)) (us:List Value) (G:us.length=k+1):P us:=by
 cases us with
 | nil=>cases G
 | cons a l=>exact h a l (Nat.succ.inj G)
theorem us1 {P:List Value->Prop} (h:∀a,P [a]):∀us:List Value,us.length=1->P us:=usS fun a=>us0 (h a)
theorem us2 {P:List Value->Prop} (h:∀a b,P [a,b]):∀us:List Value,us.length=2->P us:=usS fun a=>usS fun b=>us0 (h a b)
theorem us3 {P:List Value->Prop} (h:∀a b c,P [a,b,c]):∀us:List Value,us.length=3->P us:=usS fun a=>usS fun b=>usS fun c=>us0 (h a b c)
theorem us4 {P:List Value->Prop} (h:∀a b c d,P [a,b,c,d]):∀us:List Value,us.length=4->P us:=usS fun a=>usS fun b=>usS fun c=>usS fun d=>us0 (h a b c d)
theorem Di {K:Frag}{h:Heap}{mg:Str->Option Value}{x:Str}{st:Stmt} (X:K.In h) (G:h.Ns mainGlobals mg) (d:Fd K x st) (ps:List Str) (U:∀(kV J Z:Value) (an:Option Addr) (O ct:Value) (us:List Value),us.length=ps.length->bindArgs (PySem.W.fnOf x x (Hs st) (Gj st) (Ak st) .none kV J Z an O ct) ⟨us,[]⟩=pure (ps.zip us):=by first | exact(fun _ _ _ _ _ _=>us1 fun _=>rfl) | exact(fun _ _ _ _ _ _=>us2 fun _ _=>rfl) | exact(fun _ _ _ _ _ _=>us3 fun _ _ _=>rfl) | exact(fun _ _ _ _ _ _=>us4 fun _ _ _ _=>rfl)):∃f fd,Df K mg x st ps f fd:=by
 obtain⟨f,_,_,_,_,_,_,_,_,_,a,l,c,k⟩:=d
 have F:=Vr (st:=st) l c k
 exact⟨_,_,F,F.binds U,dW X G a⟩
theorem all_mk {l:PySem.W.OpenLaw}{w:World}{K:Frag}{h:Heap}{mg:Str->Option Value}{fa:Addr} (X:K.In h) (G:h.Ns mainGlobals mg) (fw:mg "law"=some (.ref fa))
 (d1:Fd K "_law_sum" Qq) (d2:Fd K "_law_draws" M6) (d3:Fd K "_law_next" Qp) (d4:Fd K "place_of" Km) (d5:Fd K "without" M8) (d6:Fd K "most" Wi) (d7:Fd K "f_weights" Fw) (d8:Fd K "form" Wg) (d9:Fd K "f_plus" Qo) (fy:Fd K "packed" Lh) (fz:Fd K "unpacked" Kr) (g0:Fd K "greatest_power" Dn) (g1:Fd K "f_times" M4) (g2:Fd K "f_put" U4) (g3:Fd K "divisor" Mz) (g4:Fd K "fraction" Kg) (fb:Fd K "p_times" M5) (g5:Fd K "repeated" Kq) (fc:Fd K "power" U5) (g6:Fd K "whole_power" Hg) (g7:Fd K "scaled_powers" Fx) (g8:Fd K "f_value" Jr) (g9:Fd K "name_power" Gg) (ga:Fd K "f_of" Wf) (gb:Fd K "_law_weight" Ko) (gc:Fd K "_law_terms" M7) (gd:Fd K "_law_cell_at" Iw) (ge:Fd K "_law_fraction" Hz) (gf:Fd K "_law_back" Li) (gg:Fd K "is_whole" Kh) (gh:Fd K "is_term" Js) (gi:Fd K "is_form" Hy) (gj:Fd K "taken_out" Iz) (gk:Fd K "taken_right" Hf) (gl:Fd K "_law_word" Qs) (gm:Fd K "law" Kl)
 {ce:Addr} (cf:PySem.W.nsIn K mainGlobals "NAMES"=some (some (.ref ce)))
 {J:Addr} (bj:PySem.W.nsIn K mainGlobals "NoName"=some (some (.ref J)))
 {eo:Addr} (er:PySem.W.nsIn K mainGlobals "ONE"=some (some (.ref eo)))
 {Z:Addr} (a7:PySem.W.nsIn K mainGlobals "CourtError"=some (some (.ref Z)))
 {bl:Addr} (bn:PySem.W.nsIn K mainGlobals "NoPart"=some (some (.ref bl)))
 {e6:Nat}{e7:Array (Option Value)}{dp dq dt:Tok}
 {du dv:Addr}
 {eu:Option Addr}{ev:Nat}{ew:Array (Option Value)}
 {ey:Option Addr}{ez:Nat}{f0:Array (Option Value)}{f1:Tok}
 {f2:Option Addr}{f3:Nat}{f4:Array (Option Value)}{e8 e9 ea:Tok}
 {a6:Addr}{ci cj:Option Addr}{ck:Array (Option Value)}{cl cm cn co b7 cp:Value}
 (dy:K.lookup ce=some ⟨.type "tuple",none,.seq #[.str "x" dp,.str "y" dq,.str "z" dt] e6,e7⟩)
 (eb:K.lookup eo=some ⟨.type "tuple",eu,.seq #[.ref du] ev,ew⟩)
 (ec:K.lookup du=some ⟨.type "tuple",ey,.seq #[.ref dv,.int 1 f1] ez,f0⟩)
 (ed:K.lookup dv=some ⟨.type "tuple",f2,.seq #[.int 0 e8,.int 0 e9,.int 0 ea] f3,f4⟩)
 (b3:excIn K Z [.type "ValueError",.type "Exception",.type "BaseException",.type "object"] "ValueError.__new__"=true)
 (af:PySem.W.mroIn K J (.ref Z)=some true)
 (aa:PySem.W.findIn K (.ref J) "__getattribute__"=some (some (.builtin "BaseException.__getattribute__")))
 (ak:PySem.W.findIn K (.ref J) "__getattr__"=some none)
 (ax:PySem.W.findIn K (.ref J) "__class__"=some (some (.builtin "object.__class__")))
 (ar:PySem.W.mroIn K J (.type "object")=some true)
 (a8:PySem.W.mroIn K J (.type "BaseException")=some true)
 (au:kitOne K (.ref J) (.ref J)=some true)
 (av:kitOne K (.ref J) (.ref bl)=some false)
 (f9:PySem.W.findIn K (.ref J) "__init__"=some (some (.ref a6)))
 (b8:K.lookup a6=some ⟨cl,ci,.func (PySem.W.fnOf "__init__" "NoName.__init__" (Hs G9) (Gj G9) (Ak G9) .none cm cn co cj b7 cp),ck⟩)
 (b9:PySem.W.codeIn K b7 "NoName.__init__"=true)
 (ba:keepIn K (.ref a6)=true)
 (cq:typeIn K (.ref a6)=some (.type "function"))
 (cr:keepIn K (.ref J)=true)
 (cs:Zd K J a6 [.type "ValueError",.type "Exception",.type "BaseException",.type "object"] "ValueError.__new__"=true)
 (cu:PySem.W.specialIn K (.ref Z) "__getattribute__"=some (some (.builtin "type.__getattribute__")))
 (cv:PySem.W.readsIn K Z (.type "type")=true)
 (cw:PySem.W.findCls K (.ref Z) (.type "type") "__init__"=some (.val (.builtin "ValueError.__init__")))
 (cy:(PySem.W.clsIn K J).any (fun cd=>Ad2 cd.mro)=true)
 (cz:hasDictIn K J=true)
 (d0:PySem.W.mroIn K J (.type "object")=some true)
 (da:PySem.W.findIn K (.ref J) "__setattr__"=some (some (.builtin "object.__setattr__")))
 (db:PySem.W.findIn K (.ref J) "name"=some none)
 (ee:PySem.W.nsIn K mainGlobals "tuple"=some none) (dz:PySem.W.nsIn K mainGlobals "sorted"=some none) (ef:PySem.W.nsIn K mainGlobals "range"=some none) (fe:PySem.W.nsIn K mainGlobals "len"=some none) (bf:PySem.W.nsIn K mainGlobals "isinstance"=some none) (ff:PySem.W.nsIn K mainGlobals "str"=some none) (fg:PySem.W.nsIn K mainGlobals "max"=some none) (e0:PySem.W.nsIn K mainGlobals "divmod"=some none) (bx:PySem.W.nsIn K mainGlobals "reversed"=some none) (fh:PySem.W.nsIn K mainGlobals "abs"=some none) (bo:PySem.W.nsIn K mainGlobals "enumerate"=some none) (fi:PySem.W.nsIn K mainGlobals "int"=some none) (f5:PySem.W.nsIn K mainGlobals "bool"=some none) (fj:PySem.W.nsIn K mainGlobals "all"=some none) (fk:PySem.W.nsIn K mainGlobals "zip"=some none) (f6:PySem.W.nsIn K mainGlobals "list"=some none) (fl:PySem.W.nsIn K mainGlobals "any"=some none):
 ∃fd:FuncData,(∀(s:Shared) (v:Value),BindsTo s fd ⟨[v],[]⟩ [("_law_script",v)])/\∀base:Heap,K.In base->base.Ns mainGlobals mg->Lq l.prog w K mg base CX0 7 fa fd zV (Ad7 K):=by
 obtain⟨hk,_,an,sl,oc,kV,dc,pm,cd,ct,fn,gn,go,gp⟩:=gm
 obtain⟨hm,_,_,_,_,_,_,_,_,_,ft,_⟩:=id fb
 obtain⟨hn,_,_,_,_,_,_,_,_,_,fu,_⟩:=id fc
 have e:=fw.symm.trans (dW X G fn)
 cases e
 have U:=bQ X G ee
 have al:=bQ X G dz
 have a3:=bQ X G ef
 have am:=bQ X G fe
 have O:=bQ X G bf
 have f7:=bQ X G ff
 have e1:=bQ X G fg
 have de:=bQ X G e0
 have bp:=bQ X G bx
 have e2:=bQ X G fh
 have a1:=bQ X G bo
 have bz:=bQ X G fi
 have eg:=bQ X G f5
 have bg:=bQ X G fj
 have f8:=bQ X G fk
 have eh:=bQ X G f6
 have Ab0:=bQ X G fl
 have cg:=Tq cf
 have a4:=Tq bj
 have et:=Tq er
 have a9:=Tq a7
 have bq:=Tq bn
 have df:=Tq ft
 have ei:=Tq fu
 have bb:Yc K J "name":=⟨cy,cz,d0,da,db⟩
 have dh:mg "NAMES"=some (.ref (cA K "NAMES")):=by rw [cg];exact dW X G cf
 have di:Aiq K (cA K "NAMES") [.str "x",.str "y",.str "z"]:=by rw [cg];exact⟨_,_,_,dy,rfl,rfl,show 3<=sizeLine by decide,.cons ⟨_,rfl⟩ (.cons ⟨_,rfl⟩ (.cons ⟨_,rfl⟩ (.nil))),rfl⟩
 have ay:mg "NoName"=some (.ref (cA K "NoName")):=by rw [a4];exact dW X G bj
 have ap:mg "p_times"=some (.ref (cA K "p_times")):=by rw [df];exact dW X G ft
 have dj:mg "power"=some (.ref (cA K "power")):=by rw [ei];exact dW X G fu
 have ek:mg "ONE"=some (.ref (cA K "ONE")):=by rw [et];exact dW X G er
 have em:Apf K (cA K "ONE"):=by rw [et];exact⟨_,_,⟨_,_,_,eb,rfl,rfl,show 1<=sizeLine by decide,.cons rfl .nil⟩,⟨_,_,_,ec,rfl,rfl,show 2<=sizeLine by decide,.cons rfl (.cons ⟨_,rfl⟩ .nil)⟩,⟨_,_,_,ed,rfl,rfl,show 3<=sizeLine by decide,.cons ⟨_,rfl⟩ (.cons ⟨_,rfl⟩ (.cons ⟨_,rfl⟩ .nil))⟩⟩
 have az:Afy K (cA K "CourtError"):=by rw [a9];exact b3
 have b1:mg "CourtError"=some (.ref (cA K "CourtError")):=by rw [a9];exact dW X G a7
 have ac:PySem.W.mroIn K (cA K "NoName") (.ref (cA K "CourtError"))=some true:=by rw [a4];rw [a9];exact af
 have c0:Tc K (cA K "NoName"):=by rw [a4];exact⟨aa,ak,ax,ar,a8⟩
 have ag:kitOne K (.ref (cA K "NoName")) (.ref (cA K "NoName"))=some true:=by rw [a4];exact au
 have c1:Yc K (cA K "NoName") "name":=by rw [a4];exact bb
 have c2:mg "NoPart"=some (.ref (cA K "NoPart")):=by rw [bq];exact dW X G bn
 have ah:kitOne K (.ref (cA K "NoName")) (.ref (cA K "NoPart"))=some false:=by rw [a4];rw [bq];exact av
 obtain⟨_,_,D1⟩:=Di X G d1 yB
 obtain⟨_,_,D2⟩:=Di X G d2 zN
 obtain⟨_,_,D3⟩:=Di X G d3 zD
 obtain⟨_,_,D4⟩:=Di X G d4 yM
 obtain⟨_,_,D5⟩:=Di X G d5 zU
 obtain⟨_,_,D6⟩:=Di X G d6 zP
 obtain⟨_,_,D7⟩:=Di X G d7 zY
 obtain⟨_,_,D8⟩:=Di X G d8 yL
 obtain⟨_,_,D9⟩:=Di X G d9 zT
 obtain⟨_,_,gq⟩:=Di X G fy yF
 obtain⟨_,_,gr⟩:=Di X G fz yJ
 obtain⟨_,_,gs⟩:=Di X G g0 ["f"]
 obtain⟨_,_,gt⟩:=Di X G g1 zT
 obtain⟨_,_,gu⟩:=Di X G g2 zZ
 obtain⟨_,_,gv⟩:=Di X G g3 zH
 obtain⟨_,_,gw⟩:=Di X G g4 yH
 obtain⟨_,_,gx⟩:=Di X G fb zH
 obtain⟨_,_,gy⟩:=Di X G g5 zJ
 obtain⟨_,_,gz⟩:=Di X G fc yE
 obtain⟨_,_,h0⟩:=Di X G g6 zO
 obtain⟨_,_,h3⟩:=Di X G g7 zW
 obtain⟨_,_,h4⟩:=Di X G g8 ["f","at"]
 obtain⟨_,_,h5⟩:=Di X G g9 zS
 obtain⟨_,_,h6⟩:=Di X G ga yK
 obtain⟨_,_,h7⟩:=Di X G gb zF
 obtain⟨_,_,h8⟩:=Di X G gc zG
 obtain⟨_,_,h9⟩:=Di X G gd zK
 obtain⟨_,_,ha⟩:=Di X G ge zF
 obtain⟨_,_,hb⟩:=Di X G gf zM
 obtain⟨_,_,hc⟩:=Di X G gg zI
 obtain⟨_,_,hd⟩:=Di X G gh zI
 obtain⟨_,_,he⟩:=Di X G gi zI
 obtain⟨_,_,hf⟩:=Di X G gj yI
 obtain⟨_,_,hg⟩:=Di X G gk zR
 obtain⟨_,_,hh⟩:=Di X G gl zE
 have fv:=Vr (st:=Kl) gn go gp
 have hj:Df K mg "law" Kl zV _ _:=⟨fv,fv.binds (ps:=zV) fun _ _ _ _ _ _ us hl=>match us,hl with | [_],_=>rfl,dW X G fn⟩
 refine⟨PySem.W.fnOf "law" "law" (Hs Kl) (Gj Kl) (Ak Kl) .none kV dc pm an cd ct,fun s v=> .of_eq rfl,fun base _ _=> ?_⟩
 have c4:NmK l.prog w K mg base 1 (cA K "NoName") "name":=by rw [a4];exact Aae (Vr (st:=G9) b8 b9 ba) (Fun.binds (ps:=yO) (Vr (st:=G9) b8 b9 ba) fun _ _ _ _ _ _=>us2 fun _ _=>rfl) cs cq cr bb ⟨cu,cv,cw⟩ (dW X G a7)
 have e3:= @Adk l.prog w K mg base _ _ D1 U al
 have c5:= @Xo l.prog w K mg base _ _ D2 a3 am
 have ae:= @Aaj l.prog w K mg base _ _ D3
 have a2:=Ur D4 O f7 dh di ay c4
 have c6:= @Xq l.prog w K mg base _ _ D5
 have bh:= @Agy l.prog w K mg base _ _ D6 e1
 have a5:=R4 D7 U a3 a2 c6 bh
 have ai:=a5.calm (Ny K)
 have ch:= @Agx l.prog w K mg base _ _ D8 U al
 have bc:=Aag D9 ch
 have dk:= @Aah l.prog w K mg base _ _ gq
 have br:= @Uu l.prog w K mg base _ _ gr al U de
 have aj:= @Ke l.prog w K mg base _ _ gs e1
 have b2:=Xj gt dk br aj
 have be:=Adi gu bp ai bc b2 a5
 have e4:=be.calm (Xd K)
 have c7:= @Xi l.prog w K mg base _ _ gv e2
 have bt:=Uo gw c7
 have c8:= @Xn l.prog w K mg base _ _ gx a1 U am
 have bu:=Ut gy ap c8
 have e5:=Adj gz ap bu
 have ad:=N6 h0 e5
 have ao:=Lb h3 bh ad
 have c9:=Xk h4 a3 bt ao ad bh
 have b4:= @Qf l.prog w K mg base _ _ h5 U a3
 have bv:=Agw h6 a1 a2 ch b4
 have en:=bv.calm (Z6 K)
 have aq:=Us h7 ae
 have ca:=Xp h8 a3 ae aq
 have bi:= @R5 l.prog w K mg base _ _ h9 am
 have b5:=Qg ha e2 ae
 have dm:=Aai hb a1 U bz a3 bc b2
 have bw:= @Uq l.prog w K mg base _ _ hc O bz eg
 have cb:=Xm hd bg O U am dj bw
 have cc:=Xl he bg O U f8 cb
 have b6:=R6 hf ek em a2
 have aw:=N5 hg O U am bg a2
 have dn:=Aak hh O am az b1 ac ay c0 ag c1 c2 ah bv be a5 b6 aw
 exact @Ajl l.prog w K mg base _ _ hj a1 eh bg U Ab0 O a3 bz e3 c5 ae e4 c9 en ai ca bi b5 dm aq cc dn
theorem walk {l:PySem.W.OpenLaw}{q:Program}{G:List Str}{Z:(Str->Option Value)->Heap->Prop}{O:World->Heap->Prop}{d:DefRec}{K:Params->Frag} (hn:l.most=some 63) (J:d.params.defaults=[])
 (hY:∀(w:World) (h:Heap),O w h->(K w.params).In h)
 (F:∀(w:World) (mg:Str->Option Value) (U:Addr) (h:Heap),(K w.params).In h->h.Ns mainGlobals mg->mg d.name=some (.ref U)->
   ∃fd:FuncData,(∀(s:Shared) (u:Value),BindsTo s fd ⟨[u],[]⟩ [("_law_script",u)])/\∀base:Heap,(K w.params).In base->base.Ns mainGlobals mg->Lq l.prog w (K w.params) mg base CX0 7 U fd zV (Ad7 (K w.params))):
 PySem.W.WalkO q G Z O l.row.toRowW d [] (fun f vs=>PySem.call f vs):=
 L2.Aby (n:=63) (k:=7) (x:="_law_script") (CX:=fun _=>CX0) (sp:=fun w=>Ad7 (K w.params)) hn (by decide) J ⟨rfl,by decide,by decide⟩ hY F (fun _ _ a ns hl _ hS=>⟨a,ns,rfl,hS,hl,fun _=>rfl⟩) fun _ _ _ _ _ z=>z
end Z
namespace PySem.W.Fast
def tw1004861627363782430:=()
def tw10075699671094466758:=()
def tw10147766223910532677:=()
def tw10182012600795682176:=()
def tw10212816668558322736:=()
def tw10419640294408987206:=()
def tw10633221628053607293:=()
def tw10723234741345865426:=()
def tw10756958919696302375:=()
def tw10811933079269637758:=()
def tw10812424152623005633:=()
def tw110713240206473536:=()
def tw11168614481901321443:=()
def tw1127171821242634040:=()
def tw11272478697721908931:=()
def tw11281677759765638361:=()
def tw11288881163563917292:=()
def tw11334772466153076153:=()
def tw11449546799742682248:=()
def tw11530704913355038171:=()
def tw11605488910576946118:=()
def tw117539747700281486:=()
def tw11860050509480939176:=()
def tw11868044172078065065:=()
def tw11938638190036865046:=()
def tw11959681176292643779:=()
def tw12011825338334582972:=()
def tw12059012340869707665:=()
def tw12103002835305524783:=()
def tw1211169548137441678:=()
def tw12153612212209484109:=()
def tw12161145048810771054:=()
def tw12182942668927114397:=()
def tw12228220936281924771:=()
def tw12269957954106903357:=()
def tw12402601684557987692:=()
def tw1243501797206875678:=()
def tw12510112478087494988:=()
def tw12559702862546766153:=()
def tw12648126793121753047:=()
def tw12678698743901144355:=()
def tw12720273889923417246:=()
def tw12799730034375604456:=()
def tw12838615927964612904:=()
def tw12928545281853464070:=()
def tw12949274431904757897:=()
def tw1304244849342431119:=()
def tw13056523150296265120:=()
def tw13092804452738133885:=()
def tw13126727726023529122:=()
def tw13155582451869831220:=()
def tw13199343387425415113:=()
def tw13236958535888905311:=()
def tw13305773746446739335:=()
def tw13336122335763708809:=()
def tw13345876839856516303:=()
def tw13524366188175187922:=()
def tw13627054567829407891:=()
def tw13636690952885295230:=()
def tw13638569098339193686:=()
def tw13651541636941508122:=()
def tw13704970376530478741:=()
def tw13719633639527473039:=()
def tw13859627651919726359:=()
def tw13860609445415741454:=()
def tw1389295231441750849:=()
def tw13913945330464143818:=()
def tw13977248018923248276:=()
def tw14002191044237835570:=()
def tw14076256809919598920:=()
def tw14102807602160329023:=()
def tw14195162611095777511:=()
def tw14198279179422501093:=()
def tw14199397251173894720:=()
def tw14232073114309637551:=()
def tw14239035779271172323:=()
def tw14252009263176450090:=()
def tw14297207162344163639:=()
def tw1433267806998355679:=()
def tw1436334891958099050:=()
def tw14383964415897246685:=()
def tw14409439265210768418:=()
def tw14464121332894263747:=()
def tw14629764713377661684:=()
def tw14646114079028234447:=()
def tw14667332960279698324:=()
def tw14713373420794046415:=()
def tw14816042654436026258:=()
def tw14897382869300213654:=()
def tw14941017517232747017:=()
def tw15029820943005770372:=()
def tw15046759829777578782:=()
def tw15058781964579360737:=()
def tw15079203811734813226:=()
def tw15106038965827056168:=()
def tw15187739212969646293:=()
def tw15339526335239270158:=()
def tw15355133809844831093:=()
def tw15358678683863176506:=()
def tw15401453159145446087:=()
def tw15431691232610191386:=()
def tw15453603944935895745:=()
def tw15555660610946839151:=()
def tw15567730643896575319:=()
def tw15606553351757643264:=()
def tw15611933413790755064:=()
def tw15804138952697267997:=()
def tw15909593421752527025:=()
def tw15921447120440319142:=()
def tw15969378267781909453:=()
def tw15973062265902014137:=()
def tw16070188258719308468:=()
def tw16094769006713710252:=()
def tw16107153241213947594:=()
def tw16147699097032634275:=()
def tw16240650886620327324:=()
def tw16298606338473610629:=()
def tw16389331187554136215:=()
def tw16464088238369634733:=()
def tw16497486997353910014:=()
def tw16501705548088233386:=()
def tw16526262129056718496:=()
def tw16588853583339894360:=()
def tw165899615975689589:=()
def tw16591491706200551630:=()
def tw16722745521653603581:=()
def tw16746934708258288905:=()
def tw16761751370087289718:=()
def tw16844945032239864686:=()
def tw16892130959709153849:=()
def tw16899569068689244680:=()
def tw16929705038505103144:=()
def tw16981797065077104473:=()
def tw17013054170448220190:=()
def tw17018381373546059664:=()
def tw170796897807226540:=()
def tw17138668790969489737:=()
def tw17208807092220998400:=()
def tw17237225994326252285:=()
def tw17317672909877725830:=()
def tw17318011538013370382:=()
def tw1743462903234434609:=()
def tw17471612948629662392:=()
def tw1747278777080895140:=()
def tw1747370473657167235:=()
def tw17480874437410533326:=()
def tw17614780369232234463:=()
def tw17665847978639996430:=()
def tw1767526373307444964:=()
def tw17692178404127264255:=()
def tw17695849679794807556:=()
def tw17699713072108070207:=()
def tw17718013463958331663:=()
def tw17791891029954629892:=()
def tw17795726376224992298:=()
def tw17818728754349617871:=()
def tw17904491584368267277:=()
def tw1792746234386394695:=()
def tw17928333953532392000:=()
def tw17935953536639981129:=()
def tw18009632259575304495:=()
def tw18062048241718992702:=()
def tw18088911517289950365:=()
def tw18127233635189789992:=()
def tw18154288183974732967:=()
def tw18224317286192424914:=()
def tw18265978458773877217:=()
def tw18268117568254997055:=()
def tw18295854081389078281:=()
def tw18329543831747108384:=()
def tw18363627240185740423:=()
def tw18422707154941741806:=()
def tw1931854637731493607:=()
def tw1940018604824567382:=()
def tw201741798530943547:=()
def tw2019984082856359183:=()
def tw2060086369942293269:=()
def tw2145251959217717280:=()
def tw2262563414235095967:=()
def tw2364513830520853610:=()
def tw2365667634783962941:=()
def tw2389903992803921574:=()
def tw2401138012783579282:=()
def tw258148516221595849:=()
def tw2658591216806975346:=()
def tw2671548214867750525:=()
def tw2757406664568001930:=()
def tw2830660686891943158:=()
def tw283212793575702110:=()
def tw2917879973181450225:=()
def tw2943944312505376218:=()
def tw2967187088221138390:=()
def tw3043196237150984871:=()
def tw313363350652255211:=()
def tw3245388082441425573:=()
def tw3363425477891538152:=()
def tw3392410159539910829:=()
def tw3422977115979127180:=()
def tw3502795602114337412:=()
def tw3542302446056058331:=()
def tw3549095300634417062:=()
def tw3615722683014546836:=()
def tw3638080280451297559:=()
def tw3678006346773259293:=()
def tw3707940684985590916:=()
def tw3732129442554971537:=()
def tw3746179831095145122:=()
def tw3814927547504134522:=()
def tw3886744237778464762:=()
def tw3923428519385636196:=()
def tw3950251546154518778:=()
def tw3966210334472744107:=()
def tw3981857798796272835:=()
def tw4096042547353562871:=()
def tw4168188545372491022:=()
def tw4235504791732352921:=()
def tw4379192281200983855:=()
def tw4404266799971494996:=()
def tw4404644644222819370:=()
def tw4463388112236151285:=()
def tw4506575595150443052:=()
def tw4538916380270976294:=()
def tw4851536219149158638:=()
def tw4995183827355877018:=()
def tw5036495240564435536:=()
def tw5054089529806417157:=()
def tw5062436599695260067:=()
def tw5086242270187377713:=()
def tw5089885797670727235:=()
def tw5183282537670239002:=()
def tw5232375402257341724:=()
def tw523921224506258267:=()
def tw5334647369112339714:=()
def tw533624886431374025:=()
def tw5376521869013565348:=()
def tw5382801758003194865:=()
def tw5434895937531519180:=()
def tw5452685301378977449:=()
def tw5454376874337456959:=()
def tw5517677650267758169:=()
def tw5527983509246358709:=()
def tw567610210768324530:=()
def tw5688905089765288625:=()
def tw5700355582337906051:=()
def tw5733434030021803001:=()
def tw5907087077477639683:=()
def tw601239532443221019:=()
def tw6115108451153692715:=()
def tw6140502791931170355:=()
def tw6142761444911466082:=()
def tw6207576822804118240:=()
def tw6218627647322068614:=()
def tw6253456790518789293:=()
def tw6317270682386236018:=()
def tw6345966503200115093:=()
def tw6353679274348571510:=()
def tw6355185028934493220:=()
def tw6367725478637220035:=()
def tw6389408199247121269:=()
def tw6396668189961405127:=()
def tw650983159809113516:=()
def tw6588720420896128579:=()
def tw6613747292833863008:=()
def tw6679970009103824845:=()
def tw6739571497609694430:=()
def tw6759975531181197721:=()
def tw6768084085163519488:=()
def tw6810759650464717479:=()
def tw6904114103958325994:=()
def tw6905889281443392469:=()
def tw7028689818246316449:=()
def tw7077480839196353331:=()
def tw7204462543646502853:=()
def tw7265384353298342445:=()
def tw7272368364844490653:=()
def tw7347146594742285746:=()
def tw7355407282961696124:=()
def tw7450761708604648806:=()
def tw7481126894212272969:=()
def tw7507938446521584047:=()
def tw756191981868662935:=()
def tw7593678946398489156:=()
def tw7642435763785809269:=()
def tw7741978478234674628:=()
def tw7765886048871070758:=()
def tw7781708084276946057:=()
def tw782084423173433517:=()
def tw7828405151820267727:=()
def tw7872140498861287209:=()
def tw7873479860764479231:=()
def tw7891444141389794777:=()
def tw7951061567571468354:=()
def tw8126316954284099006:=()
def tw8239877622803258163:=()
def tw8245827499654946414:=()
def tw8259857455785480535:=()
def tw8304824968839750468:=()
def tw834262559701702914:=()
def tw8358177185719910739:=()
def tw8515735427333567289:=()
def tw8517087296348799421:=()
def tw8530704823055938946:=()
def tw8638103636934983400:=()
def tw8749671240499979721:=()
def tw8806000848055139175:=()
def tw8821499407362971996:=()
def tw8957571356810605242:=()
def tw9117770883793735524:=()
def tw9140939409774622524:=()
def tw9213055038759029333:=()
def tw9350142363796416602:=()
def tw935494734286032984:=()
def tw9385099323970093371:=()
def tw9440182317565530957:=()
def tw9475659912890029628:=()
def tw9499156206829992374:=()
def tw9532722953104917658:=()
def tw9571875170232845252:=()
def tw9638847393879189265:=()
def tw9642709859516470566:=()
def tw9659183952479174742:=()
def tw9665445430622302991:=()
def tw9692120243434370931:=()
def tw9747458982444953641:=()
def tw9800645225344422832:=()
def tw9803447520732294882:=()
def tw9855999121173789841:=()
def tw9863360529416031812:=()
def tw9897319079121607204:=()
def tw9922794424632871352:=()
end PySem.W.Fast
open PySem PySem.W PyProof.Rows
set_option maxRecDepth 100000 in
set_option maxHeartbeats 0 in
theorem PySem.Challenge.cw_rootcourt_k35_forms_put_in_holds : PySem.Challenge.rw_rootcourt_k35_forms_put_in.Holds := by
 w_on;o_law;k_head;(case hw=>w_witness2)
 k_fill
 refine Z.walk (l:=PySem.Challenge.rw_rootcourt_k35_forms_put_in) rfl rfl (fun w h Y=>kIn_of Y) ?F
 case F=>
  intro w mg U h O G J
  refine' Z.all_mk O G J ?d1 ?d2 ?d3 ?d4 ?d5 ?d6 ?d7 ?d8 ?d9 ?d10 ?d11 ?d12 ?d13 ?d14 ?d15 ?d16 ?d17 ?d18 ?d19 ?d20 ?d21 ?d22 ?d23 ?d24 ?d25 ?d26 ?d27 ?d28 ?d29 ?d30 ?d31 ?d32 ?d33 ?d34 ?d35 ?d36 ?aNAMES ?aNoName ?aONE ?aCourtError ?aNoPart ?xtNAMES ?xtONE0 ?xtONE1 ?xtONE2 ?xkCourtError ?xsNoNameCourtError ?xigetattributeNoName ?xigetattrNoName ?xiclassNoName ?xiobjectNoName ?xiBaseExceptionNoName ?kiNoNameNoName ?kiNoNameNoPart ?fiNoName ?liNoName ?ciNoName ?kiNoName ?tiNoName ?kcNoName ?xxNoName ?gaNoName ?rdNoName ?fcNoName ?mrNoName ?hdNoName ?obNoName ?saNoName ?naNoName ?ztuple ?zsorted ?zrange ?zlen ?zisinstance ?zstr ?zmax ?zdivmod ?zreversed ?zabs ?zenumerate ?zint ?zbool ?zall ?zzip ?zlist ?zany
  (case aNAMES=>k_is);(case aNoName=>k_is);(case aONE=>k_is);(case aCourtError=>k_is);(case aNoPart=>k_is);(case xtNAMES=>k_is);(case xtONE0=>k_is);(case xtONE1=>k_is);(case xtONE2=>k_is);(case xkCourtError=>k_exc);(case xsNoNameCourtError=>k_is);(case xigetattributeNoName=>k_is);(case xigetattrNoName=>k_is);(case xiclassNoName=>k_is);(case xiobjectNoName=>k_is);(case xiBaseExceptionNoName=>k_is);(case kiNoNameNoName=>kit_is);(case kiNoNameNoPart=>kit_is);(case fiNoName=>k_is);(case liNoName=>k_is);(case ciNoName=>k_is);(case kiNoName=>k_is);(case tiNoName=>k_is);(case kcNoName=>k_is);(case xxNoName=>kernel_rfl);(case gaNoName=>k_is);(case rdNoName=>k_is);(case fcNoName=>k_is);(case mrNoName=>kernel_rfl);(case hdNoName=>k_is);(case obNoName=>k_is);(case saNoName=>k_is);(case naNoName=>k_is)
  all_goals first | k_is | exact⟨_,_,_,_,_,_,_,_,_,_,by k_is,by k_is,by k_is,by k_is⟩
