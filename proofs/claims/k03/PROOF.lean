import PyProof.Rows.All
import Wide.All
import OpenK.AllK
import Wide.FinOn
import Lean
import PyProof.EqAt
import PyProof.EqKinds
import PyProof.TupleCall
import PyProof.ExcInit
import PyProof.ExcClass3
import PyProof.ExcBaseAll.ValueError
import PyProof.StationsW
import PyProof.FString
import PyProof.Rows.FStr
import PyProof.NsDelKeeps
import PyProof.RulesAs
import PyProof.ExcArgs
import PySem.Str
import PySem.Builtin.Str.Common
import PyProof.ReprReads
import PyProof.Rows.Range3
import PyProof.FitsInt
import PySem.Challenge.RW_broadrow_k03_no_kinds_texts
open PySem.W renaming Frag → a0a, findIn → a0q, kia_one → a0J, kitOne → a0O, mg_of → a0R, hasDictIn → a0V, InstAt → a00, fnOf → a01, nsIn → a08, keepIn → a09, specialIn → a1b, any_some → a1k, kitAny → a1l, clsIn → a1r, takesIn → a1x, mroIn → a1y, emptyDict → a1C, takerIn → a1S, callWith_K → a1Y, codeIn → a11, notCls → a12, methodObj → a14, cellsFrom_some → a2d, instObj → a2i, OpenLaw → a2m, looks_findIn → a2r, lookIn → a2t, looks_clsIn → a2x, Looks → a2A, check_slot → a2B, looks_find → a2C, isNs_of_in → a2E, kitx_none → a2H, kitx_list → a2I, kitx_dict → a2J, handedIn → a2P, plainGet → a2Q, KeysLit → a21, findObj → a24, kia_tup → a25, WalkO → a3b, subIn → a3d
open List renaming length_map → a0b, mem_cons_self → a0c, length_append → a0d, mem_cons_of_mem → a0e, replicate → a0f, length_cons → a0g, size_toArray → a0i, length_singleton → a0j, map_cons → a0k, mem_append → a0s, map_append → a0u, length_take → a0w, mem_singleton → a0x, getElem?_eq_some_iff → a0y, length_drop → a0z, getElem?_map → a0A, map_nil → a0C, replicate_succ → a0E, append_nil → a0F, mem_append_right → a0I, lookup → a0P, getElem?_cons_succ → a0Q, getElem?_set_ne → a0T, filterMap_cons → a0U, mem_cons → a0W, range → a0X, mem_append_left → a0Z, getElem?_set_self → a02, lookup_cons → a04, cons_ne_nil → a05, mem_filterMap → a06, contains_cons → a07, append_assoc → a1c, find?_cons → a1d, map_take → a1i, nodup_cons → a1m, length_replicate → a1n, length_nil → a1o, flatten_cons → a1q, getElem?_eq_getElem → a1w, take_of_length_le → a1B, drop_drop → a1D, not_mem_nil → a1J, all_eq_true → a1K, mem_of_mem_take → a1L, dropLast_concat_getLast → a1N, map_drop → a1O, sum_cons → a1P, length_set → a1T, length_reverse → a1U, getElem?_append_left → a10, getElem?_cons_zero → a2a, of_mem_zip → a2k, nil_append → a2l, take → a2n, drop → a2o, mem_of_getElem? → a2q, drop_zero → a2u, length → a2v, drop_succ_cons → a2y, range' → a2z, map_replicate → a2D, mem_map → a2N, getElem_mem → a2V, reverse_nil → a2W, range'_succ → a2X, mem_filter → a2Z, foldl_cons → a20, head?_drop → a26, foldl → a28, any_cons → a3c, take_nil → a3e, drop_nil → a3f, all_cons → a3j, map_map → a3v, map → a3z
open Bool renaming and_eq_true → a0h, false_ne_true → a0t, and_eq_true_iff → a0v, and_self → a0S, or_true → a1G, true_and → a2F, not_eq_true → a2T, and_false → a27
open Nat renaming lt_of_lt_of_le → a0l, le_refl → a0m, le_trans → a0n, ne_of_lt → a0K, zero_le → a1a, lt_irrefl → a1p, zero_add → a1v, le_of_ble_eq_true → a1H, ne_of_gt → a1W, lt_of_le_of_lt → a1Z, le_of_lt → a2j, pow_le_pow_right → a2s, lt_trans → a2L, pow_succ → a2O, min_le_right → a2R, succ_le_succ → a2U, le_succ → a22, mul_comm → a3p, le_of_eq → a3q, sub_zero → a3w
open Int renaming reduceLT → a0o, toNat_natCast → a1f, reduceBEq → a1s, natAbs → a3a, reduceNeg → a3k, toNat → a3x
open Array renaming length_toList → a0p, getElem?_eq_some_iff → a0D, getElem?_setIfInBounds_ne → a1e, size_setIfInBounds → a1u, all_eq_true' → a1z, toList_inj → a1I, find?_toList → a1X, toList_append → a2w, size_append → a2K, mk → a3i, toList → a3o
open PySem.Str renaming join → a0r, ofString → a1A, mk → a2M
open PyProof.Rows renaming slot_tuple_getitem → a0B, callWith_builtin1 → a1E, boot_isinstance → a1Q, callWith_type1 → a1R, boot_tuple → a3h, eq_dataH → a3r, ne_dataH → a3s
open PySem.W.Looks renaming here → a0G
open Or renaming inr → a0H, inl → a0M
open Option.some renaming inj → a0L, injEq → a16
open False renaming elim → a0N
open PySem.Builtin.Str renaming occurrences → a0Y
open True renaming intro → a03
open Ne renaming symm → a1g
open PySem renaming mem_of_lookup → a1h, Str → a1j, reprText → a13, handedOut → a23, call → a29, Within → a3n, PyData → a3t
open String renaming length_toList → a1t
open PySem.F renaming slot_dict_get → a1F, excBase_ValueError → a1V, args_tuple_add_2 → a15, entry_tuple_add → a18, args_dict_get_3 → a19, plainAttrs_list → a2b, slot_tuple_add → a2e, entry_dict_get → a2f, plainAttrs_str → a2g
open List.cons renaming inj → a1M
open Char renaming toNat → a17
open Option renaming bind_some → a2c, getD_none → a2S
open Sum renaming inr → a2h, inl → a2G
open Prod renaming snd → a2p, fst → a3g
open And renaming left → a2Y
open Sum.inr renaming injEq → a3l, inj → a3y
open Prod.mk renaming injEq → a3m
open Classical renaming em → a3u
open List.Pairwise renaming nil → a3A
open PySem.Within renaming cons → a3B
set_option genSizeOf false
set_option genInjectivity false
set_option Elab.async false
set_option linter.all false
set_option maxRecDepth 100000
namespace L2
open PySem PySem.Spec PyProof.Rows
noncomputable abbrev Key:=Sum Int Str
noncomputable def eA:Key->Value->Bool
 | .inl k,v=>Value.isInt k v
 | .inr x,v=>Value.isStrOf x v
noncomputable def zQ (w:World):Key->Int
 | .inl k=>hashInt k
 | .inr x=>hashStr w x
theorem aA:∀ {k:Key} {v:Value},eA k v=true->(∃ i t,k=a2G i/\v=Value.int i t)\/(∃ x t,k=a2h x/\v=Value.str x t)
 | .inl i,v,h=>by
  obtain ⟨t,e⟩:=Value.isInt_shape (k:=i) (v:=v) h
  exact .inl ⟨i,t,rfl,e⟩
 | .inr x,v,h=>by
  obtain ⟨t,e⟩:=Value.isStrOf_shape (x:=x) (v:=v) h
  exact .inr ⟨x,t,rfl,e⟩
theorem jZ (i:Int)(t:Tok):eA (.inl i) (.int i t)=true:=by simp [eA,Value.isInt]
theorem jr (x:Str)(t:Tok):eA (.inr x) (.str x t)=true:=by simp [eA,Value.isStrOf]
theorem vK (a b:Int):decide ((a2G a:Key)=a2G b)=(a==b):=by
 by_cases e:a=b
 ·subst e; simp
 ·have h:¬ (a2G a:Key)=a2G b:=fun q=>e (Sum.inl.inj q)
  rw [decide_eq_false h]
  exact (beq_eq_false_iff_ne.mpr e).symm
theorem sZ (a b:Str):decide ((a2h a:Key)=a2h b)=decide (a=b):=by
 by_cases e:a=b
 ·subst e; simp
 ·have h:¬ (a2h a:Key)=a2h b:=fun q=>e (a3y q)
  rw [decide_eq_false h,decide_eq_false e]
theorem uo (a:Int)(b:Str):decide ((a2G a:Key)=a2h b)=false:=decide_eq_false (fun q=>nomatch q)
theorem sY (a:Str)(b:Int):decide ((a2h a:Key)=a2G b)=false:=decide_eq_false (fun q=>nomatch q)
noncomputable def aB (prog:Program)(w:World):PySem.KeyKind prog w Key where
 is:=eA
 hash:=zQ w
 inj:=fun v a b ha hb=>by
  rcases aA ha with ⟨i,t,rfl,rfl⟩ | ⟨x,t,rfl,rfl⟩
  ·rcases aA hb with ⟨j,u,rfl,e⟩ | ⟨y,u,rfl,e⟩
   ·injection e with e1 _; rw [e1]
   ·exact nomatch e
  ·rcases aA hb with ⟨j,u,rfl,e⟩ | ⟨y,u,rfl,e⟩
   ·exact nomatch e
   ·injection e with e1 _; rw [e1]
 byValue:=fun k v h=>by
  rcases aA h with ⟨i,t,rfl,rfl⟩ | ⟨x,t,rfl,rfl⟩<;>rfl
 pyHash:=fun hv h=>by
  rcases aA hv with ⟨i,t,rfl,rfl⟩ | ⟨x,t,rfl,rfl⟩
  ·exact wpAny_pyHash_int h
  ·exact wpAny_pyHash_str h
 eqBool:=fun hu hv h=>by
  rcases aA hu with ⟨i,t,rfl,rfl⟩ | ⟨x,t,rfl,rfl⟩
  ·rcases aA hv with ⟨j,u,rfl,rfl⟩ | ⟨y,u,rfl,rfl⟩
   ·rw [vK] at h; exact wpAny_eqBool_int h
   ·rw [uo] at h; exact SeqAt.EqAt.int_str i t y u _ _ _ _ h
  ·rcases aA hv with ⟨j,u,rfl,rfl⟩ | ⟨y,u,rfl,rfl⟩
   ·rw [sY] at h; exact SeqAt.EqAt.str_int x t j u _ _ _ _ h
   ·rw [sZ] at h; exact wpAny_eqBool_str h
 «strs»:=fun k x t v h=>by
  rcases aA h with ⟨i,u,rfl,e⟩ | ⟨y,u,rfl,e⟩
  ·exact nomatch e
  ·injection e with e1 _
   subst e1
   cases v<;>rfl
theorem gP (prog:Program)(w:World)(i:Int)(t:Tok):(aB prog w).is (.inl i) (.int i t)=true:=jZ i t
theorem gM (prog:Program)(w:World)(x:Str)(t:Tok):(aB prog w).is (.inr x) (.str x t)=true:=jr x t
end L2
namespace L2
open PySem PySem.Spec PyProof.Rows
set_option genInjectivity true
inductive V where
 | non | bl (b:Bool) | int (i:Int) | str (x:Str) | byt (b:Array UInt8) | flt (b:UInt64) | ref (a:Addr) | ty (n:String)
 deriving DecidableEq
set_option genInjectivity false
noncomputable def RelV:V->Value->Prop
 | .non,u=>u=Value.none
 | .bl b,u=>u=Value.bool b
 | .int i,u=>∃ t,u=Value.int i t
 | .str x,u=>∃ t,u=Value.str x t
 | .byt b,u=>∃ t,u=Value.bytes b t
 | .flt b,u=>∃ t,u=Value.float b t
 | .ref a,u=>u=Value.ref a
 | .ty n,u=>u=Value.type n
noncomputable abbrev Vals:List V->List Value->Prop:=Paired RelV
theorem Vals.length {xs:List V}{us:List Value}(r:Vals xs us):xs.length=us.length:=Paired.length r
theorem Vals.get:∀ {xs:List V} {us:List Value} {i:Nat} {x:V},Vals xs us->xs[i]?=some x->∃ u,us[i]?=some u/\RelV x u
 | _,_,_,_,.nil,e=>by simp at e
 | _,_,0,_,.cons r _,e=>by simp at e; subst e; exact ⟨_,rfl,r⟩
 | _,_,i+1,x,.cons _ t,e=>by
  obtain ⟨u,h1,h2⟩:=Vals.get (i:=i) (x:=x) t (by simpa using e)
  exact ⟨u,by simpa using h1,h2⟩
theorem Vals.append:∀ {xs ys:List V} {us ws:List Value},Vals xs us->Vals ys ws->Vals (xs++ys) (us++ws)
 | _,_,_,_,.nil,s=>s
 | _,_,_,_,.cons r t,s=>.cons r (Vals.append t s)
theorem Vals.take:∀ {xs:List V} {us:List Value} (n:Nat),Vals xs us->Vals (xs.take n) (us.take n)
 | _,_,0,_=>.nil
 | _,_,_+1,.nil=>.nil
 | _,_,n+1,.cons r t=>.cons r (Vals.take n t)
theorem Vals.drop:∀ {xs:List V} {us:List Value} (n:Nat),Vals xs us->Vals (xs.drop n) (us.drop n)
 | _,_,0,r=>r
 | _,_,_+1,.nil=>.nil
 | _,_,n+1,.cons _ t=>Vals.drop n t
noncomputable def RelO:Option V->Option Value->Prop
 | some v,some u=>RelV v u
 | none,none=>True
 | _,_=>False
noncomputable def KV {κ:Type}:List (κ×V)->List (κ×Value)->Prop:=Paired fun (p:κ×V) (q:κ×Value)=>p.1=q.1/\RelV p.2 q.2
noncomputable def kV:Key->V
 | .inl i=>.int i
 | .inr x=>.str x
inductive HO where
 | lst (xs:List V)
 | tup (xs:List V)
 | dK (kvs:List (Key×V)) | dT (kvs:List (List Key×V))
 | set (S:Int->Bool) (n:Nat)
 | ins (C dx:Addr) (fs:List (Str×V))
 | own (x:Addr)
 | xd (fs:List (Str×V))
 | met (f x:Addr)
 | rng (lo hi:Int)
 | frz (o:Obj) (u:HO)
 | tbl (ps:Array Value)
 | ext (φ:Heap->Prop)
noncomputable abbrev Hp:=Addr->Option HO
noncomputable def upd (H:Hp)(a:Addr)(o:HO):Hp:=fun b=>if b=a then some o else H b
theorem ah {H:Hp}{a:Addr}{o:HO}:upd H a o a=some o:=by unfold upd; rw [if_pos rfl]
theorem ag {H:Hp}{a b:Addr}{o:HO}(h:b≠a):upd H a o b=H b:=by unfold upd; rw [if_neg h]
theorem aS {H:Hp}{a b:Addr}{o:HO}(h:H a=some o)(h':H b=none):a≠b:=by
 intro e; subst e; rw [h] at h'; cases h'
section
variable (P:Program)(w:World)
noncomputable def ObjOk (H:Hp)(h:Heap)(a:Addr):HO->Prop
 | .lst xs=>xs.length<=sizeLine/\∃ (its:List Value) (n:Nat),Vals xs its/\h.get? a=some { cls:=.type "list",data:=.seq its.toArray n }
 | .tup xs=>xs.length<=sizeLine/\∃ its:List Value,Vals xs its/\IsTup h a its.toArray
 | .dK kvs=>kvs.length<=sizeLine/\(a==sysModules)=false/\∃ vs,KV kvs vs/\h.DictOf (aB P w) a vs
 | .dT kvs=>kvs.length<=sizeLine/\(a==sysModules)=false/\∃ xs:List (List Key×Addr×Value),
   Paired (fun (p:List Key×V) (q:List Key×Addr×Value)=>p.1=q.1/\H q.2.1=some (.tup (p.1.map kV))/\RelV p.2 q.2.2) kvs xs /\
   ∃ o es ep,h.get? a=some o/\o.ExactDict/\o.data=.dict es ep/\es.toList=xs.map (entryOfKey (tupleKind (aB P w)))/\(xs.map (·.1)).Nodup
 | .set S n=>h.SetOf (intKind P w) a S n
 | .ins C dx fs=>H dx=some (.own a)/\fs.length<=1000/\dx≠a/\h.get? a=some (a2i C dx) /\
   ∃ mA,h.Ns1 dx mA/\(∀ f,RelO (fs.lookup f) (mA f))/\a3n mA (fs.map (·.1))
 | .own _=>∃ o,h.get? a=some o
 | .xd fs=>∃ mA,h.Ns1 a mA/\∀ f,RelO (fs.lookup f) (mA f)
 | .rng lo hi=>∃ t u v,h.get? a=some { cls:=.type "range",data:=.fields #[.int lo t,.int hi u,.int 1 v] }
 | .frz o u=>h.get? a=some o/\ObjOk H h a u
 | .tbl ps=>h.get? a=some { cls:=.none,data:=.fields ps }
 | .met f x=>h.get? a=some (a14 (.ref f) (.ref x))
 | .ext φ=>φ h/\(∃ o,h.get? a=some o)/\∀ h1 h2:Heap,φ h1->(∀ o,h1.get? a=some o->h2.get? a=some o)->φ h2
noncomputable def HOk (H:Hp)(h:Heap):Prop:=∀ a o,H a=some o->ObjOk P w H h a o
end
section
variable {P:Program}{w:World}{H H':Hp}{h h':Heap}{a:Addr}{o:HO}
theorem ObjOk.lt (x:ObjOk P w H h a o):a < h.objs.size:=by
 cases o with
 | lst xs=>obtain ⟨_,_,_,_,e⟩:=x; exact Heap.lt_size e
 | tup xs=>obtain ⟨_,_,_,p⟩:=x; exact p.lt
 | dK kvs=>obtain ⟨_,_,_,_,o,_,_,e,_⟩:=x; exact Heap.lt_size e
 | dT kvs=>obtain ⟨_,_,_,_,o,_,_,e,_⟩:=x; exact Heap.lt_size e
 | set S n=>obtain ⟨o,_,_,_,e,_⟩:=x; exact Heap.lt_size e
 | ins C dx fs=>obtain ⟨_,_,_,e,_⟩:=x; exact Heap.lt_size e
 | own y=>obtain ⟨_,e⟩:=x; exact Heap.lt_size e
 | xd fs=>obtain ⟨_,⟨_,_,_,e,_⟩,_⟩:=x; exact Heap.lt_size e
 | rng lo hi=>obtain ⟨_,_,_,e⟩:=x; exact Heap.lt_size e
 | frz ob u=>obtain ⟨e,_⟩:=x; exact Heap.lt_size e
 | tbl ps=>exact Heap.lt_size (show h.get? a=some _ from x)
 | met f y=>exact Heap.lt_size (show h.get? a=some _ from x)
 | ext φ=>obtain ⟨_,⟨_,e⟩,_⟩:=x; exact Heap.lt_size e
theorem Paired.mapP {α β:Type}{F G:α->β->Prop}:∀ {l₁:List α} {l₂:List β},Paired F l₁ l₂->(∀ a b,F a b->G a b)->Paired G l₁ l₂
 | _,_,.nil,_=>.nil
 | _,_,.cons r t,f=>.cons (f _ _ r) (Paired.mapP t f)
theorem ObjOk.stay (x:ObjOk P w H h a o)(k:∀ b u,(b=a\/H b=some (.own a))->h.get? b=some u->h'.get? b=some u)
  (ho:∀ b,H b=some (.own a)->H' b=some (.own a)) (ht:∀ b xs,H b=some (.tup xs)->H' b=some (.tup xs)):ObjOk P w H' h' a o:=by
 induction o with
 | lst xs=>obtain ⟨z,its,n,r,e⟩:=x; exact ⟨z,its,n,r,k _ _ (.inl rfl) e⟩
 | tup xs=>obtain ⟨z,its,r,ob,e,c⟩:=x; exact ⟨z,its,r,ob,k _ _ (.inl rfl) e,c⟩
 | dK kvs=>obtain ⟨z,y,vs,r,ob,es,ep,e,c⟩:=x; exact ⟨z,y,vs,r,ob,es,ep,k _ _ (.inl rfl) e,c⟩
 | dT kvs =>
  obtain ⟨z,y,xs,r,ob,es,ep,e,c⟩:=x
  exact ⟨z,y,xs,Paired.mapP r fun p q z=>⟨z.1,ht _ _ z.2.1,z.2.2⟩,ob,es,ep,k _ _ (.inl rfl) e,c⟩
 | set S n=>obtain ⟨ob,es,ep,t,e,c⟩:=x; exact ⟨ob,es,ep,t,k _ _ (.inl rfl) e,c⟩
 | ins C dx fs =>
  obtain ⟨d,z,ne,e,mA,⟨od,es,ep,e2,c⟩,r⟩:=x
  exact ⟨ho _ d,z,ne,k _ _ (.inl rfl) e,mA,⟨od,es,ep,k _ _ (.inr d) e2,c⟩,r⟩
 | own y=>obtain ⟨ob,e⟩:=x; exact ⟨ob,k _ _ (.inl rfl) e⟩
 | xd fs=>obtain ⟨mA,⟨od,es,ep,e,c⟩,r⟩:=x; exact ⟨mA,⟨od,es,ep,k _ _ (.inl rfl) e,c⟩,r⟩
 | rng lo hi=>obtain ⟨t,u,v,e⟩:=x; exact ⟨t,u,v,k _ _ (.inl rfl) e⟩
 | frz ob u ih=>obtain ⟨e,q⟩:=x; exact ⟨k _ _ (.inl rfl) e,ih q⟩
 | tbl ps =>
  have e:h.get? a=some { cls:=.none,data:=.fields ps }:=x
  show h'.get? a=some { cls:=.none,data:=.fields ps }
  exact k a _ (.inl rfl) e
 | met f y =>
  have e:h.get? a=some (a14 (.ref f) (.ref y)):=x
  show h'.get? a=some (a14 (.ref f) (.ref y))
  exact k a _ (.inl rfl) e
 | ext φ=>obtain ⟨p,⟨o,e⟩,st⟩:=x; exact ⟨st _ _ p fun o q=>k _ _ (.inl rfl) q,⟨o,k _ _ (.inl rfl) e⟩,st⟩
theorem HOk.lt (x:HOk P w H h)(e:H a=some o):a < h.objs.size:=(x a o e).lt
theorem HOk.fresh (x:HOk P w H h)(e:h.objs.size<=a):H a=none:=by
 cases q:H a with
 | none=>rfl
 | some u=>exact absurd (a0l (x.lt q) e) (a1p _)
theorem HOk.kept (x:HOk P w H h)(k:∀ b u,h.get? b=some u->h'.get? b=some u):HOk P w H h':=fun a o e =>
 (x a o e).stay (fun b u _ q=>k b u q) (fun _ q=>q) fun _ _ q=>q
theorem HOk.laid (x:HOk P w H h)(k:∀ b u,h.get? b=some u->h'.get? b=some u)(hp:h.objs.size<=a)(new:ObjOk P w (upd H a o) h' a o):HOk P w (upd H a o) h':=fun b u e=>by
 have hn:=x.fresh hp
 by_cases hb:b=a
 ·subst hb; rw [ah] at e; cases e; exact new
 ·rw [ag hb] at e
  exact (x b u e).stay (fun c v _ q=>k c v q) (fun c q=>by rw [ag (aS q hn)]; exact q) fun c xs q=>by rw [ag (aS q hn)]; exact q
end
noncomputable def Rd (H:Hp)(a:Addr)(u:HO):Prop:=H a=some u\/∃ o,H a=some (.frz o u)
theorem Rd.ok {P:Program}{w:World}{H:Hp}{h:Heap}{a:Addr}{u:HO}(r:Rd H a u)(x:HOk P w H h):ObjOk P w H h a u:=by
 rcases r with r | ⟨o,r⟩
 ·exact x a u r
 ·obtain ⟨_,q⟩:=x a _ r
  exact q
noncomputable def Mut:Option HO->Prop
 | some (.lst _)=>True
 | some (.dK _)=>True
 | some (.dT _)=>True
 | some (.set _ _)=>True
 | some (.ins _ _ _)=>True
 | some (.ext _)=>True
 | _=>False
section
variable {P:Program}{w:World}{H:Hp}{h h':Heap}{x e:Addr}{o':HO}
theorem HOk.write (ok:HOk P w H h)(mu:Mut (H x))(he:e=x\/H e=some (.own x))(k:∀ b u,b≠e->h.get? b=some u->h'.get? b=some u)(heo:∃ u,h'.get? e=some u)
  (new:ObjOk P w (upd H x o') h' x o'):HOk P w (upd H x o') h':=fun b u q=>by
 have nown:∀ c y,H c=some (.own y)->c≠x:=fun c y r z=>by subst z; rw [r] at mu; exact mu
 have ntup:∀ c xs,H c=some (.tup xs)->c≠x:=fun c xs r z=>by subst z; rw [r] at mu; exact mu
 by_cases hb:b=x
 ·subst hb; rw [ah] at q; cases q; exact new
 ·rw [ag hb] at q
  by_cases hbe:b=e
  ·have q':H b=some (.own x):=by
    rcases he with z | z
    ·exact absurd (hbe.trans z) hb
    ·rw [hbe]; exact z
   rw [q] at q'; cases q'
   obtain ⟨v,hv⟩:=heo
   exact ⟨v,by rw [hbe]; exact hv⟩
  ·refine (ok b u q).stay (fun c v hc r=>k c v ?_ r) (fun c r=>by rw [ag (nown c b r)]; exact r) fun c xs r=>by rw [ag (ntup c xs r)]; exact r
   rcases hc with rfl | hc
   ·exact hbe
   ·rintro rfl
    rcases he with z | z
    ·exact nown c b hc z
    ·rw [hc] at z; cases z; exact hb rfl
end
structure Un (fs ex:List Addr)(H H':Hp)(h h':Heap):Prop where
 keep:∀ b o,h.get? b=some o->H b=none->b ∉ fs->b ∉ ex->h'.get? b=some o
 slot:∀ b o,h.get? b=some o->H b=none->b∈fs->b ∉ ex->∃ sl,h'.get? b=some { o with slots:=sl }
 free:∀ b o,h.get? b=some o->H b=none->b ∉ ex->H' b=none
 there:∀ b o,h.get? b=some o->b ∉ ex->∃ o',h'.get? b=some o'
 tups:∀ b xs,H b=some (.tup xs)->H' b=some (.tup xs)
 frzs:∀ b o u,H b=some (.frz o u)->H' b=some (.frz o u)
 tbls:∀ b ps,H b=some (.tbl ps)->∃ more,H' b=some (.tbl (ps++more))
section
variable {fs fs' ex ex':List Addr}{H H1 H2:Hp}{h h1 h2 h':Heap}{a x e:Addr}{o:HO}
theorem Un.any (u:Un fs ex H H1 h h1){b:Addr}{ob:Obj}(q:h.get? b=some ob)(n:H b=none)(hx:b ∉ ex):∃ sl,h1.get? b=some { ob with slots:=sl }:=by
 by_cases hb:b∈fs
 ·exact u.slot b ob q n hb hx
 ·exact ⟨ob.slots,u.keep b ob q n hb hx⟩
theorem Un.kept (k:∀ b u,h.get? b=some u->h'.get? b=some u):Un fs ex H H h h' :=
 ⟨fun b ob q _ _ _=>k b ob q,fun b ob q _ _ _=>⟨ob.slots,k b ob q⟩,fun _ _ _ n _=>n,fun b ob q _=>⟨ob,k b ob q⟩,fun _ _ q=>q,fun _ _ _ q=>q,fun _ ps q=>⟨#[],by rw [q]; simp⟩⟩
theorem Un.refl:Un fs ex H H h h:=Un.kept fun _ _ q=>q
theorem Un.laid (k:∀ b u,h.get? b=some u->h'.get? b=some u)(hp:h.objs.size<=a)(hn:H a=none):Un fs ex H (upd H a o) h h' where
 keep:=fun b u q _ _ _=>k b u q
 slot:=fun b u q _ _ _=>⟨u.slots,k b u q⟩
 free:=fun b u q n _=>by rw [ag (a0K (a0l (Heap.lt_size q) hp))]; exact n
 there:=fun b u q _=>⟨u,k b u q⟩
 tups:=fun b xs q=>by rw [ag (aS q hn)]; exact q
 frzs:=fun b u xs q=>by rw [ag (aS q hn)]; exact q
 tbls:=fun b ps q=>⟨#[],by rw [ag (aS q hn),q]; simp⟩
theorem Un.write (mu:Mut (H x))(he:e=x\/H e=some (.own x))(k:∀ b u,b≠e->h.get? b=some u->h'.get? b=some u)(heo:∃ u,h'.get? e=some u):Un fs ex H (upd H x o) h h':=by
 have hx:∀ b,H b=none->b≠x:=fun b n z=>by subst z; rw [n] at mu; exact mu
 have hb:∀ b,H b=none->b≠e:=fun b n z=>by
  subst z
  rcases he with r | r
  ·exact hx b n r
  ·rw [n] at r; cases r
 have hm:∀ b u,H b=some u->¬ Mut (some u)->b≠x:=fun b u q nm z=>by subst z; rw [q] at mu; exact nm mu
 refine ⟨fun b u q n _ _=>k b u (hb b n) q,fun b u q n _ _=>⟨u.slots,k b u (hb b n) q⟩,fun b u q n _=>by rw [ag (hx b n)]; exact n,fun b u q _=>?_,
  fun b xs q=>by rw [ag (hm b _ q fun z=>z)]; exact q,fun b u xs q=>by rw [ag (hm b _ q fun z=>z)]; exact q,fun b ps q=>⟨#[],by rw [ag (hm b _ q fun z=>z),q]; simp⟩⟩
 by_cases hbe:b=e
 ·subst hbe; exact heo
 ·exact ⟨u,k b u hbe q⟩
end
noncomputable def trk (h:Heap)(H:Hp):List Addr:=(a0X h.objs.size).filter fun a=>(H a).isSome
noncomputable def fq (h:Heap)(H:Hp):Heap:=PySem.W.hideAll h (trk h H)
theorem jx (h:Heap)(H:Hp):(fq h H).objs.size=h.objs.size:=PySem.W.hideAll_size _ _
theorem kR {h:Heap}{H:Hp}{b:Addr}{o:Obj}(e:h.get? b=some o)(n:H b=none):(fq h H).get? b=some o :=
 PySem.W.hideAll_get _ e fun hm=>by
  have q:(H b).isSome=true:=(a2Z.mp hm).2
  rw [n] at q; simp at q
theorem nU {h:Heap}{H:Hp}{b:Addr}{o:Obj}(e:(fq h H).get? b=some o):h.get? b=some o/\H b=none:=by
 have e':h.get? b=some o:=PySem.W.of_hideAll (trk h H) e
 refine ⟨e',?_⟩
 cases q:H b with
 | none=>rfl
 | some x =>
  have hm:b∈trk h H:=a2Z.mpr ⟨List.mem_range.mpr (Heap.lt_size e'),by simp [q]⟩
  have z:(fq h H).get? b=none:=PySem.W.hideAll_none (trk h H) hm
  rw [z] at e; cases e
noncomputable def qc (g h:Heap)(L:Addr):List (Addr×Obj):=(a0X h.objs.size).filterMap fun a=>if a=L\/(g.get? a).isSome=true then none else (h.get? a).map fun o=>(a,o)
noncomputable def rest (g h:Heap)(L d:Addr):List (Addr×Obj):=(qc g h L).filter fun p=>decide (p.1≠d)
end L2
namespace L2
open PySem PySem.Spec PyProof.Rows
structure Mod (K:a0a)(mg:Str->Option Value)(base:Heap):Prop where
 kin:K.In base
 glob:base.Ns mainGlobals mg
 blt:∃ mb,base.Ns builtinsNs mb/\∀ x:Str,x≠"__name__"->mb x=bootBuiltins x
 nolimit:base.NoLimit
structure Cx where
 prog:Program
 w:World
 K:a0a
 mg:Str->Option Value
 base:Heap
 A:Around
 N:List Str
 s₀:Shared
 H₀:Hp
 env:Env
 outer:List Env
 stack:List Env
 ex:List Addr
 fn:Str->Bool
 calm:Bool
 pn:List (Addr×Obj)
 xe:Value->Shared->Prop
noncomputable def frs (l:List Env):List Addr:=l.filterMap (·.frame)
noncomputable abbrev Cx.fs (X:Cx):List Addr:=frs X.outer
noncomputable def Vis (sc:Scope)(x:Str):Prop:=sc.names.lookup x=some .local\/sc.names.lookup x=some .cell\/sc.names.lookup x=some .free
noncomputable def Loc (sc:Scope)(x:Str):Prop:=sc.names.lookup x=some .local\/sc.names.lookup x=some .cell
noncomputable def zT (env:Env)(h:Heap)(m:Str->Option Value)(x:Str)(u:Value):Prop :=
 (env.kindOf x=some .local/\m x=some u)\/((env.kindOf x=some .cell\/env.kindOf x=some .free)/\∃ c,env.cells.lookup x=some c/\h.IsCell c (some u))
structure Cx.Ok (X:Cx):Prop where
 mod:Mod X.K X.mg X.base
 kind:X.env.scope.kind=.function
 glob:X.env.globals=mainGlobals
 blt:X.env.builtins=builtinsNs
 above:X.s₀.heap.objs.size<=X.env.locals
 inj:∀ x y c,X.env.cells.lookup x=some c->X.env.cells.lookup y=some c->x=y
 has:∀ x,(X.env.kindOf x=some .cell\/X.env.kindOf x=some .free)->∃ c,X.env.cells.lookup x=some c
 cab:∀ x c,X.fn x=true->X.env.cells.lookup x=some c->X.s₀.heap.objs.size<=c
 hd:X.calm=true->X.A.handled=none
 frames:X.A.frames=some X.stack
 stk:X.stack=X.outer\/(X.stack=X.env::X.outer/\X.env.frame=some X.env.locals)
 exf:∀ b∈X.ex,b≠X.env.locals/\∀ x c,X.env.cells.lookup x=some c->c≠b
 bs:∀ b o,X.base.get? b=some o->X.s₀.heap.get? b=some o/\X.H₀ b=none
 bsz:X.base.objs.size<=X.s₀.heap.objs.size
 noex:∀ b o,X.base.get? b=some o->b ∉ X.ex
 exfs:∀ b∈X.ex,b ∉ X.fs
 funs:X.s₀.heap.FunFrames X.base X.outer
 frf:∀ b∈X.fs,X.H₀ b=none
structure Inv (X:Cx)(pins:List (Addr×Obj))(σ:List (Option V))(H:Hp)(s:Shared):Prop where
 ok:X.Ok
 os:s.os=X.s₀.os
 bare:AllBare s.gens
 base:Un X.fs X.ex X.H₀ H X.s₀.heap s.heap
 loc:∃ m,s.heap.Ns X.env.locals m/\∀ (i:Nat) (x:Str) (v:V),X.N[i]?=some x->σ[i]?=some (some v)->Vis X.env.scope x->∃ u,RelV v u/\zT X.env s.heap m x u
 cell:∀ x c,X.env.cells.lookup x=some c->∃ v,s.heap.IsCell c v
 free:H X.env.locals=none
 freeC:∀ x c,X.env.cells.lookup x=some c->H c=none
 pin:∀ p∈X.pn++pins,s.heap.get? p.1=some p.2/\H p.1=none/\p.1≠X.env.locals/\p.1 ∉ X.fs/\∀ v,p.2.data≠.cell v
 hok:HOk X.prog X.w H s.heap
 len:σ.length=X.N.length
section
variable {X:Cx}{pins:List (Addr×Obj)}{σ:List (Option V)}{H H':Hp}{s:Shared}{h':Heap}
theorem Cx.Ok.nofr (ok:X.Ok){b:Addr}{o:Obj}(e:X.base.get? b=some o):b ∉ X.fs:=fun hb=>by
 have:=(ok.funs.mem hb).1
 rw [e] at this; cases this
theorem Inv.bs (I:Inv X pins σ H s):∀ b o,X.base.get? b=some o->s.heap.get? b=some o/\H b=none:=fun b o e =>
 ⟨I.base.keep b o (I.ok.bs b o e).1 (I.ok.bs b o e).2 (I.ok.nofr e) (I.ok.noex b o e),I.base.free b o (I.ok.bs b o e).1 (I.ok.bs b o e).2 (I.ok.noex b o e)⟩
theorem Inv.bk (I:Inv X pins σ H s):∀ b o,X.base.get? b=some o->s.heap.get? b=some o:=fun b o e=>(I.bs b o e).1
theorem Inv.mod (I:Inv X pins σ H s):Mod X.K X.mg X.base:=I.ok.mod
theorem Inv.kIn (I:Inv X pins σ H s):X.K.In s.heap:=I.ok.mod.kin.keeps I.bk
theorem Inv.lt (I:Inv X pins σ H s):X.env.locals < s.heap.objs.size:=let ⟨_,hn,_⟩:=I.loc; hn.lt
theorem Inv.sz (I:Inv X pins σ H s):X.s₀.heap.objs.size<=s.heap.objs.size:=a0n I.ok.above (a2j I.lt)
theorem Inv.nofs (I:Inv X pins σ H s){a:Addr}(h:s.heap.objs.size<=a):a ∉ X.fs:=fun hb=>by
 obtain ⟨_,o,ho,_⟩:=I.ok.funs.mem hb
 exact absurd (a0l (Heap.lt_size ho) (a0n I.sz h)) (a1p _)
theorem Inv.cne (I:Inv X pins σ H s):∀ x c,X.env.cells.lookup x=some c->c≠X.env.locals:=fun x c e z=>by
 obtain ⟨v,o,ho,hd⟩:=I.cell x c e
 obtain ⟨m,⟨o',es,ep,ho',hd',_⟩,_⟩:=I.loc
 rw [z,ho'] at ho; cases ho; rw [hd'] at hd; cases hd
theorem Inv.funs (I:Inv X pins σ H s):s.heap.FunFrames X.base X.outer:=by
 have all:∀ (l:List Env),(∀ b∈frs l,b∈X.fs)->X.s₀.heap.FunFrames X.base l->s.heap.FunFrames X.base l:=by
  intro l
  induction l with
  | nil=>intro _ _; trivial
  | cons env r ih =>
   intro hs hl
   obtain ⟨hk,⟨L,o,hf,hn,ho,hd⟩,hr⟩:=hl
   have hL:L∈X.fs:=hs L (by unfold frs; rw [a0U,hf]; exact a0c)
   obtain ⟨sl,e⟩:=I.base.slot L o ho (I.ok.frf L hL) hL fun z=>I.ok.exfs L z hL
   exact ⟨hk,⟨L,_,hf,hn,e,hd⟩,ih (fun b hb=>hs b (by unfold frs; rw [a0U,hf]; exact a0e _ hb)) hr⟩
 exact all X.outer (fun _ hb=>hb) I.ok.funs
theorem Inv.stack (I:Inv X pins σ H s):s.heap.FunFrames X.base X.stack:=by
 rcases I.ok.stk with e | ⟨e,hf⟩
 ·rw [e]; exact I.funs
 ·rw [e]
  obtain ⟨m,hn,_⟩:=I.loc
  refine .cons (by rw [I.ok.kind]; decide) hf hn ?_ I.funs
  exact Heap.get?_none_of_le (a0n I.ok.bsz I.ok.above)
theorem Inv.stkSub (I:Inv X pins σ H s):∀ b∈frs X.stack,b∈X.env.locals::X.fs:=fun b hb=>by
 rcases I.ok.stk with e | ⟨e,hf⟩
 ·rw [e] at hb; exact a0e _ hb
 ·rw [e] at hb
  unfold frs at hb
  rw [a0U,hf] at hb
  exact hb
theorem Inv.stkFree (I:Inv X pins σ H s):∀ b∈frs X.stack,H b=none:=fun b hb=>by
 rcases a0W.mp (I.stkSub b hb) with e | hb
 ·rw [e]; exact I.free
 ·obtain ⟨_,o,ho,_⟩:=I.ok.funs.mem hb
  exact I.base.free b o ho (I.ok.frf b hb) fun z=>I.ok.exfs b z hb
theorem Inv.step {g':Array GenState}{t':Nat}{d':Drawn}{ch:List Addr}(I:Inv X pins σ H s)
  (hch:∀ b∈ch,(b∈X.ex\/X.s₀.heap.objs.size<=b)/\b≠X.env.locals/\(∀ x c,X.env.cells.lookup x=some c->c≠b)/\∀ p∈X.pn++pins,p.1≠b)
  (keep:∀ b o,b≠X.env.locals->b ∉ X.fs->b ∉ ch->s.heap.get? b=some o->H b=none->h'.get? b=some o)
  (slot:∀ b o,b≠X.env.locals->b∈X.fs->b ∉ ch->s.heap.get? b=some o->H b=none->∃ sl,h'.get? b=some { o with slots:=sl }) (free:∀ b o,b ∉ ch->s.heap.get? b=some o->H b=none->H' b=none)
  (there:∀ b o,b ∉ ch->s.heap.get? b=some o->∃ o',h'.get? b=some o')
  (tups:∀ b xs,H b=some (.tup xs)->H' b=some (.tup xs)) (frzs:∀ b o u,H b=some (.frz o u)->H' b=some (.frz o u)) (tbls:∀ b ps,H b=some (.tbl ps)->∃ more,H' b=some (.tbl (ps++more)))
  (ns:∀ m,s.heap.Ns X.env.locals m->h'.Ns X.env.locals m) (hok:HOk X.prog X.w H' h') (hg:AllBare g') :
  Inv X pins σ H' { s with heap:=h',gens:=g',drawn:=d',toks:=t' }:=by
 have neL:∀ b o,X.s₀.heap.get? b=some o->b≠X.env.locals:=fun b o e=>a0K (a0l (Heap.lt_size e) I.ok.above)
 have neC:∀ b o,X.s₀.heap.get? b=some o->b ∉ X.ex->b ∉ ch:=fun b o e hx hb=>by
  rcases (hch b hb).1 with z | z
  ·exact hx z
  ·exact absurd (a0l (Heap.lt_size e) z) (a1p _)
 have cellK:∀ x c,X.env.cells.lookup x=some c->∀ v,s.heap.IsCell c v->h'.IsCell c v:=fun x c e v ⟨o,ho,hd⟩=>by
  have nch:c ∉ ch:=fun z=>(hch c z).2.2.1 x c e rfl
  by_cases hc:c∈X.fs
  ·obtain ⟨sl,q⟩:=slot c o (I.cne x c e) hc nch ho (I.freeC x c e)
   exact ⟨_,q,hd⟩
  ·exact ⟨o,keep c o (I.cne x c e) hc nch ho (I.freeC x c e),hd⟩
 refine ⟨I.ok,I.os,hg,⟨fun b o e n hb hx=>?_,fun b o e n hb hx=>?_,fun b o e n hx=>?_,fun b o e hx=>?_,fun b xs e=>tups b xs (I.base.tups b xs e),fun b o xs e=>frzs b o xs (I.base.frzs b o xs e),fun b ps e=>?_⟩,?_,fun x c e=>?_,?_,fun x c e=>?_,fun p hp=>?_,hok,I.len⟩
 ·exact keep b o (neL b o e) hb (neC b o e hx) (I.base.keep b o e n hb hx) (I.base.free b o e n hx)
 ·obtain ⟨sl,e1⟩:=I.base.slot b o e n hb hx
  obtain ⟨sl',e2⟩:=slot b _ (neL b o e) hb (neC b o e hx) e1 (I.base.free b o e n hx)
  exact ⟨sl',e2⟩
 ·obtain ⟨o',e1⟩:=I.base.there b o e hx
  exact free b o' (neC b o e hx) e1 (I.base.free b o e n hx)
 ·obtain ⟨o',e1⟩:=I.base.there b o e hx
  exact there b o' (neC b o e hx) e1
 ·obtain ⟨m1,e1⟩:=I.base.tbls b ps e
  obtain ⟨m2,e2⟩:=tbls b _ e1
  exact ⟨m1++m2,by rw [e2,Array.append_assoc]⟩
 ·obtain ⟨m,hn,hl⟩:=I.loc
  refine ⟨m,ns m hn,fun i x v e1 e2 e3=>?_⟩
  obtain ⟨u,r,l⟩:=hl i x v e1 e2 e3
  refine ⟨u,r,?_⟩
  rcases l with l | ⟨k,c,e,z⟩
  ·exact .inl l
  ·exact .inr ⟨k,c,e,cellK x c e _ z⟩
 ·obtain ⟨v,z⟩:=I.cell x c e
  exact ⟨v,cellK x c e v z⟩
 ·obtain ⟨m,⟨o,_,_,ho,_⟩,_⟩:=I.loc
  exact free _ o (fun z=>(hch _ z).2.1 rfl) ho I.free
 ·obtain ⟨v,o,ho,hd⟩:=I.cell x c e
  exact free c o (fun z=>(hch c z).2.2.1 x c e rfl) ho (I.freeC x c e)
 ·obtain ⟨e,n,ne,nf,d⟩:=I.pin p hp
  have nch:p.1 ∉ ch:=fun z=>(hch p.1 z).2.2.2 p hp rfl
  exact ⟨keep p.1 p.2 ne nf nch e n,free p.1 p.2 nch e n,ne,nf,d⟩
theorem Inv.un {t':Nat}(I:Inv X pins σ H s)(u:Un X.fs [] H H' s.heap h')(hok:HOk X.prog X.w H' h'):Inv X pins σ H' { s with heap:=h',toks:=t' }:=by
 obtain ⟨m,⟨o,es,ep,ho,r⟩,_⟩:=id I.loc
 obtain ⟨sl,hL⟩:=u.any ho I.free (by simp)
 exact I.step (g':=s.gens) (d':=s.drawn) (ch:=[]) (fun _ z=>nomatch z) (fun b o _ hb _ e n=>u.keep b o e n hb (by simp)) (fun b o _ hb _ e n=>u.slot b o e n hb (by simp)) (fun b o _ e n=>u.free b o e n (by simp)) (fun b o _ e=>u.there b o e (by simp)) u.tups u.frzs u.tbls (fun m' hm=>by
  obtain ⟨o',es',ep',ho',r'⟩:=hm
  rw [ho] at ho'; cases ho'
  exact ⟨_,es',ep',hL,r'⟩) hok I.bare
theorem Inv.call {g':Array GenState}{t':Nat}{d':Drawn}{ch:List Addr}(I:Inv X pins σ H s)(u:Un (frs X.stack) ch H H' s.heap h')(hok:HOk X.prog X.w H' h')(hg:AllBare g')
  (hch:∀ b∈ch,(b∈X.ex\/X.s₀.heap.objs.size<=b)/\b≠X.env.locals/\(∀ x c,X.env.cells.lookup x=some c->c≠b)/\∀ p∈X.pn++pins,p.1≠b) :
  Inv X pins σ H' { s with heap:=h',gens:=g',drawn:=d',toks:=t' }:=by
 obtain ⟨m,⟨o,es,ep,ho,r⟩,_⟩:=id I.loc
 obtain ⟨sl,hL⟩:=u.any ho I.free fun z=>(hch _ z).2.1 rfl
 exact I.step (ch:=ch) hch (fun b o hL hb hc e n=>u.keep b o e n (fun z=>(a0W.mp (I.stkSub b z)).elim hL hb) hc) (fun b o _ _ hc e n=>u.any e n hc) (fun b o hc e n=>u.free b o e n hc) (fun b o hc e=>u.there b o e hc) u.tups u.frzs u.tbls (fun m' hm=>by
  obtain ⟨o',es',ep',ho',r'⟩:=hm
  rw [ho] at ho'; cases ho'
  exact ⟨_,es',ep',hL,r'⟩) hok hg
theorem Inv.turned {t':Nat}{it:Addr}(I:Inv X pins σ H s)(k:∀ b o,b≠it->s.heap.get? b=some o->h'.get? b=some o)(hn:H it=none)(hL:it≠X.env.locals)
  (h1:it∈X.ex\/X.s₀.heap.objs.size<=it) (h2:∀ x c,X.env.cells.lookup x=some c->c≠it) (h3:∀ p∈X.pn++pins,p.1≠it):Inv X pins σ H { s with heap:=h',toks:=t' }:=by
 have nit:∀ b u,H b=some u->b≠it:=fun b u e z=>by rw [z,hn] at e; cases e
 refine I.step (g':=s.gens) (d':=s.drawn) (ch:=[it]) (fun b hb=>?_) (fun b o _ _ hc e _=>k b o (fun z=>hc (by simp [z])) e) (fun b o _ _ hc e _=>⟨o.slots,k b o (fun z=>hc (by simp [z])) e⟩) (fun _ _ _ _ n=>n)
  (fun b o hc e=>⟨o,k b o (fun z=>hc (by simp [z])) e⟩) (fun _ _ e=>e) (fun _ _ _ e=>e) (fun b ps e=>⟨#[],by rw [e]; simp⟩) (fun m hm=>?_) (fun b u e=>?_) I.bare
 ·have e:b=it:=by simpa using hb
  subst e
  exact ⟨h1,hL,h2,h3⟩
 ·obtain ⟨o,es,ep,ho,r⟩:=hm
  exact ⟨o,es,ep,k _ o (a1g hL) ho,r⟩
 ·refine (I.hok b u e).stay (fun c v hc q=>k c v ?_ q) (fun _ q=>q) fun _ _ q=>q
  rcases hc with z | z
  ·rw [z]; exact nit b u e
  ·exact nit c _ z
theorem Inv.tok (I:Inv X pins σ H s)(t:Nat):Inv X pins σ H { s with toks:=t }:=I.un (h':=s.heap) (t':=t) Un.refl I.hok
theorem Inv.kept {t':Nat}(I:Inv X pins σ H s)(k:∀ b u,s.heap.get? b=some u->h'.get? b=some u):Inv X pins σ H { s with heap:=h',toks:=t' }:=I.un (Un.kept k) (I.hok.kept k)
theorem Inv.laid {a:Addr}{o:HO}{t':Nat}(I:Inv X pins σ H s)(k:∀ b u,s.heap.get? b=some u->h'.get? b=some u)(hp:s.heap.objs.size<=a)(new:ObjOk X.prog X.w (upd H a o) h' a o) :
  Inv X pins σ (upd H a o) { s with heap:=h',toks:=t' }:=I.un (Un.laid k hp (I.hok.fresh hp)) (I.hok.laid k hp new)
theorem Inv.write {x e:Addr}{o:HO}{t':Nat}(I:Inv X pins σ H s)(mu:Mut (H x))(he:e=x\/H e=some (.own x))(k:∀ b u,b≠e->s.heap.get? b=some u->h'.get? b=some u)(heo:∃ u,h'.get? e=some u)
  (new:ObjOk X.prog X.w (upd H x o) h' x o):Inv X pins σ (upd H x o) { s with heap:=h',toks:=t' }:=I.un (Un.write mu he k heo) (I.hok.write mu he k heo new)
theorem Inv.pins_of {pins':List (Addr×Obj)}(I:Inv X pins σ H s)(h:∀ p∈pins',s.heap.get? p.1=some p.2/\H p.1=none/\p.1≠X.env.locals/\p.1 ∉ X.fs/\∀ v,p.2.data≠.cell v):Inv X pins' σ H s :=
 ⟨I.ok,I.os,I.bare,I.base,I.loc,I.cell,I.free,I.freeC,fun p hp=>(a0s.mp hp).elim (fun z=>I.pin p (a0Z _ z)) (h p),I.hok,I.len⟩
theorem dC {N:List Str}(hN:N.Nodup){i j:Nat}{x:Str}(a:N[i]?=some x)(b:N[j]?=some x):i=j:=by
 obtain ⟨h1,e1⟩:=a0y.mp a
 obtain ⟨h2,e2⟩:=a0y.mp b
 exact (List.getElem_inj hN).mp (e1.trans e2.symm)
theorem jy {M:Model}{A:Around}{E:Value->Shared->Prop}{i:Nat}{x:Str}{v:V}{u:Value}{Q:Unit->Shared->Prop}(I:Inv X pins σ H s)(hN:X.N.Nodup)(hi:X.N[i]?=some x)(hx:Loc X.env.scope x)(r:RelV v u)
  (h:∀ s',Inv X pins (σ.set i (some v)) H s'->(∃ a,Heap.SameBut a s.heap s'.heap/\(a=X.env.locals\/X.env.cells.lookup x=some a))->Q () s') (hf:X.fn x=true\/X.env.scope.names.lookup x=some .local:=by first | exact .inl rfl | exact .inr rfl | assumption):wpAny M A (storeName X.env x u) Q E s:=by
 obtain ⟨m,hn,hl⟩:=id I.loc
 have hcls:(X.env.scope.kind==.class || (X.env.scope.kind==.module&&X.env.locals != X.env.globals))=false:=by rw [I.ok.kind]; rfl
 have hiσ:i < σ.length:=by rw [I.len]; exact (a0y.mp hi).1
 have cne:=I.cne
 have tracked:∀ {a:Addr} {h':Heap},(∃ o,s.heap.get? a=some o/\H a=none)->Heap.SameBut a s.heap h'->HOk X.prog X.w H h':=fun {a h'} ha hs b ob e=>by
  obtain ⟨_,_,hfree⟩:=ha
  refine (I.hok b ob e).stay (fun c w' hc q=>(hs.2 c ?_).trans q) (fun _ q=>q) fun _ _ q=>q
  rintro rfl
  rcases hc with rfl | hc
  ·rw [hfree] at e; cases e
  ·rw [hfree] at hc; cases hc
 rcases hx with hk | hk
 ·refine wpAny_storeName_local hk hn (fun h' hn' hs=>?_) hcls
  obtain ⟨oL,_,_,hoL,_⟩:=id hn
  refine h _ ⟨I.ok,I.os,I.bare,⟨fun b o e n hb hx=>?_,fun b o e n hb hx=>?_,I.base.free,fun b o e hx=>?_,I.base.tups,I.base.frzs,I.base.tbls⟩,⟨_,hn',fun j y v' e1 e2 e3=>?_⟩,fun y c e=>?_,I.free,I.freeC,fun p hp=>?_,tracked ⟨oL,hoL,I.free⟩ hs,by simpa using I.len⟩ ⟨_,hs,.inl rfl⟩
  ·exact (hs.2 b (a0K (a0l (Heap.lt_size e) I.ok.above))).trans (I.base.keep b o e n hb hx)
  ·obtain ⟨sl,e1⟩:=I.base.slot b o e n hb hx
   exact ⟨sl,(hs.2 b (a0K (a0l (Heap.lt_size e) I.ok.above))).trans e1⟩
  ·obtain ⟨o',e1⟩:=I.base.there b o e hx
   exact ⟨o',(hs.2 b (a0K (a0l (Heap.lt_size e) I.ok.above))).trans e1⟩
  ·by_cases hj:j=i
   ·subst hj
    rw [hi] at e1; cases e1
    rw [a02 hiσ] at e2
    cases e2
    exact ⟨u,r,.inl ⟨hk,by simp⟩⟩
   ·rw [a0T (a1g hj)] at e2
    obtain ⟨u',r',q⟩:=hl j y v' e1 e2 e3
    refine ⟨u',r',?_⟩
    rcases q with ⟨k,e⟩ | ⟨k,c,e,z⟩
    ·refine .inl ⟨k,?_⟩
     have:y≠x:=fun e=>hj (dC hN e1 (e ▸ hi))
     simp [this,e]
    ·exact .inr ⟨k,c,e,z.sameBut hs (cne y c e)⟩
  ·obtain ⟨w',z⟩:=I.cell y c e
   exact ⟨w',z.sameBut hs (cne y c e)⟩
  ·obtain ⟨e,n,ne,nf,d⟩:=I.pin p hp
   exact ⟨(hs.2 p.1 ne).trans e,n,ne,nf,d⟩
 ·have hfn:X.fn x=true:=by
   rcases hf with z | z
   ·exact z
   ·rw [z] at hk; cases hk
  obtain ⟨c,hc⟩:=I.ok.has x (.inl hk)
  obtain ⟨w',z⟩:=I.cell x c hc
  refine wpAny_storeName_cell I.ok.kind hk hc z (fun h' hc' hs=>?_)
  obtain ⟨oc,hoc,hocd⟩:=id z
  refine h { s with heap:=h' } ⟨I.ok,I.os,I.bare,⟨fun b o e n hb hx=>?_,fun b o e n hb hx=>?_,I.base.free,fun b o e hx=>?_,I.base.tups,I.base.frzs,I.base.tbls⟩,⟨m,hn.sameBut hs (a1g (cne x c hc)),fun j y v' e1 e2 e3=>?_⟩,fun y c' e=>?_,I.free,I.freeC,fun p hp=>?_,tracked ⟨oc,hoc,I.freeC x c hc⟩ hs,by simpa using I.len⟩ ⟨c,hs,.inr hc⟩
  ·exact (hs.2 b (a0K (a0l (Heap.lt_size e) (I.ok.cab x c hfn hc)))).trans (I.base.keep b o e n hb hx)
  ·obtain ⟨sl,e1⟩:=I.base.slot b o e n hb hx
   exact ⟨sl,(hs.2 b (a0K (a0l (Heap.lt_size e) (I.ok.cab x c hfn hc)))).trans e1⟩
  ·obtain ⟨o',e1⟩:=I.base.there b o e hx
   exact ⟨o',(hs.2 b (a0K (a0l (Heap.lt_size e) (I.ok.cab x c hfn hc)))).trans e1⟩
  ·by_cases hj:j=i
   ·subst hj
    rw [hi] at e1; cases e1
    rw [a02 hiσ] at e2
    cases e2
    exact ⟨u,r,.inr ⟨.inl hk,c,hc,hc'⟩⟩
   ·rw [a0T (a1g hj)] at e2
    obtain ⟨u',r',q⟩:=hl j y v' e1 e2 e3
    refine ⟨u',r',?_⟩
    rcases q with q | ⟨k,c',e,z'⟩
    ·exact .inl q
    ·refine .inr ⟨k,c',e,z'.sameBut hs ?_⟩
     rintro rfl
     exact hj (dC hN e1 (I.ok.inj _ _ _ e hc ▸ hi))
  ·by_cases hcc:c'=c
   ·subst hcc; exact ⟨_,hc'⟩
   ·obtain ⟨w2,z2⟩:=I.cell y c' e
    exact ⟨w2,z2.sameBut hs hcc⟩
  ·obtain ⟨e,n,ne,nf,d⟩:=I.pin p hp
   refine ⟨(hs.2 p.1 ?_).trans e,n,ne,nf,d⟩
   intro q
   rw [q,hoc] at e
   have q':oc=p.2:=a0L e
   exact d w' (by rw [<- q']; exact hocd)
theorem cN {M:Model}{A:Around}{E:Value->Shared->Prop}{i:Nat}{x:Str}{v:V}{u:Value}{Q:Unit->Shared->Prop}(I:Inv X pins σ H s)(hN:X.N.Nodup)(hi:X.N[i]?=some x)(hx:Loc X.env.scope x)(r:RelV v u)
  (h:∀ s',Inv X pins (σ.set i (some v)) H s'->Q () s') (hf:X.fn x=true\/X.env.scope.names.lookup x=some .local:=by first | exact .inl rfl | exact .inr rfl | assumption):wpAny M A (storeName X.env x u) Q E s :=
 jy I hN hi hx r (fun s' I' _=>h s' I') hf
theorem Inv.call' {s':Shared}{ch:List Addr}(I:Inv X pins σ H s)(ho:s'.os=s.os)(u:Un (frs X.stack) ch H H' s.heap s'.heap)(hok:HOk X.prog X.w H' s'.heap)(hg:AllBare s'.gens)
  (hch:∀ b∈ch,(b∈X.ex\/X.s₀.heap.objs.size<=b)/\b≠X.env.locals/\(∀ x c,X.env.cells.lookup x=some c->c≠b)/\∀ p∈X.pn++pins,p.1≠b):Inv X pins σ H' s':=by
 obtain ⟨h',g',d',t',o'⟩:=s'
 have e:o'=s.os:=ho
 subst e
 exact I.call (g':=g') (t':=t') (d':=d') u hok hg hch
end
noncomputable abbrev XK:=Value->Option Addr->Hp->Prop
noncomputable abbrev St:=List (Option V)
noncomputable abbrev VK:=V->Hp->Prop
noncomputable abbrev TE:=St->Hp->VK->Prop
noncomputable abbrev TT:=St->Hp->(Bool->Hp->Prop)->Prop
noncomputable abbrev TA:=St->Hp->(List V->Hp->Prop)->Prop
structure bp where
 nx:St->Hp->Prop
 rt:VK
 bk:St->Hp->Prop:=fun _ _=>False
 ct:St->Hp->Prop:=fun _ _=>False
noncomputable abbrev TS:=bp->St->Hp->Prop
noncomputable def EP (X:Cx)(pins:List (Addr×Obj))(σ:St)(Q:VK)(u:Value)(s':Shared):Prop:=∃ v H',Inv X pins σ H' s'/\RelV v u/\Q v H'
noncomputable def TP (X:Cx)(pins:List (Addr×Obj))(σ:St)(Q:Bool->Hp->Prop)(b:Bool)(s':Shared):Prop:=∃ H',Inv X pins σ H' s'/\Q b H'
noncomputable def AP (X:Cx)(pins:List (Addr×Obj))(σ:St)(Q:List V->Hp->Prop)(us:List Value)(s':Shared):Prop:=∃ vs H',Inv X pins σ H' s'/\Vals vs us/\Q vs H'
noncomputable def SP (X:Cx)(pins:List (Addr×Obj))(D:bp)(f:Flow)(s':Shared):Prop :=
 match f with
 | .next=>∃ σ' H',Inv X pins σ' H' s'/\D.nx σ' H'
 | .brk=>∃ σ' H',Inv X pins σ' H' s'/\D.bk σ' H'
 | .cont=>∃ σ' H',Inv X pins σ' H' s'/\D.ct σ' H'
 | .ret u=>∃ v σ' H',Inv X pins σ' H' s'/\RelV v u/\D.rt v H'
noncomputable def PE (X:Cx)(e:Expr)(t:TE):Prop :=
 ∀ (pins:List (Addr×Obj)) (s:Shared) (σ:St) (H:Hp) (Q:VK),Inv X pins σ H s->t σ H Q->wpAny (model X.prog X.w) X.A (eval e X.env) (EP X pins σ Q) X.xe s
noncomputable def PT (X:Cx)(e:Expr)(t:TT):Prop :=
 ∀ (pins:List (Addr×Obj)) (s:Shared) (σ:St) (H:Hp) (Q:Bool->Hp->Prop),Inv X pins σ H s->t σ H Q->wpAny (model X.prog X.w) X.A (isTrue e X.env (eval e X.env)) (TP X pins σ Q) X.xe s
noncomputable def PW (X:Cx)(e:Expr)(t:TT):Prop :=
 ∀ (whole:Sem Value) (pins:List (Addr×Obj)) (s:Shared) (σ:St) (H:Hp) (Q:Bool->Hp->Prop),Inv X pins σ H s->t σ H Q->wpAny (model X.prog X.w) X.A (isTrue e X.env whole) (TP X pins σ Q) X.xe s
theorem PW.pt {X:Cx}{e:Expr}{t:TT}(h:PW X e t):PT X e t:=h _
noncomputable def PA (X:Cx)(es:List Expr)(t:TA):Prop :=
 ∀ (pos:Pos) (pins:List (Addr×Obj)) (s:Shared) (σ:St) (H:Hp) (Q:List V->Hp->Prop),Inv X pins σ H s->t σ H Q->wpAny (model X.prog X.w) X.A (spliced (backTo pos (starEach es X.env))) (AP X pins σ Q) X.xe s
noncomputable def PS (X:Cx)(st:Stmt)(t:TS):Prop :=
 ∀ (pins:List (Addr×Obj)) (s:Shared) (σ:St) (H:Hp) (D:bp),Inv X pins σ H s->t D σ H->wpAny (model X.prog X.w) X.A (exec st X.env) (SP X pins D) X.xe s
noncomputable def PSs (X:Cx)(st:List Stmt)(t:TS):Prop :=
 ∀ (pins:List (Addr×Obj)) (s:Shared) (σ:St) (H:Hp) (D:bp),Inv X pins σ H s->t D σ H->wpAny (model X.prog X.w) X.A (execs st X.env) (SP X pins D) X.xe s
theorem thn {α:Type}{t:Sem α}{Q Q':α->Shared->Prop}{M:Model}{A:Around}{E:Value->Shared->Prop}{s:Shared}(h:wpAny M A t Q E s)(hQ:∀ a s,Q a s->Q' a s):wpAny M A t Q' E s:=wpAny_mono h hQ fun _ _ x=>x
end L2
namespace L2
open PySem PySem.Spec PyProof.Rows
section
variable {X:Cx}
noncomputable def pU (i:Nat):TE:=fun σ H Q=>∃ v,σ[i]?=some (some v)/\Q v H
noncomputable def tC (v:V):TE:=fun _ H Q=>Q v H
theorem bJ {i:Nat}{x:Str}{pos:Pos}(hN:X.N[i]?=some x)(hv:Vis X.env.scope x)(hd:(x==("__debug__":Str))=false:=by decide)(hcd:(x==("__classdict__":Str))=false:=by decide):PE X (.Name x pos) (pU i):=by
 intro pins s σ H Q I h
 obtain ⟨v,e,h⟩:=h
 obtain ⟨m,hn,hl⟩:=I.loc
 obtain ⟨u,r,l⟩:=hl i x v hN e hv
 have fin:EP X pins σ Q u s:=⟨v,H,I,r,h⟩
 rcases l with ⟨hk,hm⟩ | ⟨hk,c,hc,hcell⟩
 ·exact wpAny_Name (wpAny_loadName_local I.ok.kind hk hn hm fin) hd
 ·rcases hk with hk | hk
  ·exact wpAny_Name (wpAny_loadName_cell I.ok.kind hk hc hcell fin) hd
  ·exact wpAny_Name (wpAny_loadName_free I.ok.kind hk hc hcell fin hcd) hd
theorem cU {i j pos}:PE X (.Constant (.int i) j pos) (tC (.int i)):=fun _ _ _ H _ I h=>wpAny_Constant_int ⟨.int i,H,I.tok _,⟨_,rfl⟩,h⟩
theorem yq {b j pos}:PE X (.Constant (.bool b) j pos) (tC (.bl b)):=fun _ _ _ H _ I h=>Constant_bool ⟨.bl b,H,I,rfl,h⟩
theorem vG {j pos}:PE X (.Constant .none j pos) (tC .non):=fun _ _ _ H _ I h=>Constant_none ⟨.non,H,I,rfl,h⟩
theorem dX {x j pos}:PE X (.Constant (.str x) j pos) (tC (.str x)):=fun _ _ _ H _ I h=>Calls.Constant_str ⟨.str x,H,I.tok _,⟨_,rfl⟩,h⟩
noncomputable def Gl (X:Cx)(x:Str):Prop:=X.env.kindOf x=some .globalImplicit
theorem bS {E:Value->Shared->Prop}{pins:List (Addr×Obj)}{s:Shared}{σ:St}{H:Hp}{x:Str}{u:Value}{pos:Pos}{Q:Value->Shared->Prop}(I:Inv X pins σ H s)(hg:Gl X x)(hm:X.mg x=some u)(h:Q u s)
  (hd:(x==("__debug__":Str))=false:=by decide):wpAny (model X.prog X.w) X.A (eval (.Name x pos) X.env) Q E s :=
 Calls.Name_function_global I.ok.kind hg (Calls.loadGlobal_global (by rw [I.ok.glob]; exact I.mod.glob.keeps I.bk) hm h) hd
theorem fM {E:Value->Shared->Prop}{pins:List (Addr×Obj)}{s:Shared}{σ:St}{H:Hp}{x:Str}{u:Value}{pos:Pos}{Q:Value->Shared->Prop}(I:Inv X pins σ H s)(hg:Gl X x)(hm:X.mg x=none)(hv:bootBuiltins x=some u)(h:Q u s)
  (hn:x≠"__name__":=by decide) (hd:(x==("__debug__":Str))=false:=by decide):wpAny (model X.prog X.w) X.A (eval (.Name x pos) X.env) Q E s:=by
 obtain ⟨mb,h1,h2⟩:=I.mod.blt
 exact Calls.Name_function_global I.ok.kind hg (Calls.loadGlobal_builtin (by rw [I.ok.glob]; exact I.mod.glob.keeps I.bk) hm (by rw [I.ok.blt]; exact h1.keeps I.bk) ((h2 x hn).trans hv) h) hd
theorem jg {x:Str}{v:V}{u:Value}{pos:Pos}(hg:Gl X x)(hm:X.mg x=some u)(r:RelV v u)(hd:(x==("__debug__":Str))=false:=by decide):PE X (.Name x pos) (tC v) :=
 fun _ _ _ H _ I h=>bS I hg hm ⟨v,H,I,r,h⟩ hd
theorem oF {x:Str}{v:V}{u:Value}{pos:Pos}(hg:Gl X x)(hm:X.mg x=none)(hv:bootBuiltins x=some u)(r:RelV v u)(hn:x≠"__name__":=by decide)(hd:(x==("__debug__":Str))=false:=by decide):PE X (.Name x pos) (tC v) :=
 fun _ _ _ H _ I h=>fM I hg hm hv ⟨v,H,I,r,h⟩ hn hd
variable {a b:Expr}{ta tb:TE}{pos:Pos}
noncomputable def PC (X:Cx)(op:CmpOp)(a b:Expr)(t:TE):Prop :=
 ∀ (pins:List (Addr×Obj)) (s:Shared) (σ:St) (H:Hp) (Q:VK),Inv X pins σ H s->t σ H Q ->
  wpAny (model X.prog X.w) X.A (eval a X.env) (fun v s₁=>wpAny (model X.prog X.w) X.A (eval b X.env) (fun u s₂=>wpAny (model X.prog X.w) X.A (compareOp op v u) (EP X pins σ Q) X.xe s₂) X.xe s₁) X.xe s
noncomputable def tB (t:TE):TT:=fun σ H Q=>t σ H fun x H1=>∃ c,x=.bl c/\Q c H1
variable {tA tB':TT}{rest:List Expr}
noncomputable def yK (t u:TT):TT:=fun σ H Q=>t σ H fun c H1=>if c=true then u σ H1 Q else Q false H1
noncomputable def tOr (t u:TT):TT:=fun σ H Q=>t σ H fun c H1=>if c=true then Q true H1 else u σ H1 Q
noncomputable def yO (t:TT):TT:=fun σ H Q=>t σ H fun c H1=>Q (!c) H1
theorem qN (ha:PT X a tA):PW X (.BoolOp .And [a] pos) tA:=by
 intro wh pins s σ H Q I h
 refine isTrue_and (thn (ha pins s σ H Q I h) fun c s1 e=>?_)
 cases c with
 | true=>exact isTrue_and_nil e
 | false=>exact e
theorem vM (ha:PT X a tA):PW X (.BoolOp .Or [a] pos) tA:=by
 intro wh pins s σ H Q I h
 refine isTrue_or (thn (ha pins s σ H Q I h) fun c s1 e=>?_)
 cases c with
 | false=>exact isTrue_or_nil e
 | true=>exact e
theorem vI (ha:PT X a tA)(hb:PW X (.BoolOp .And (b::rest) pos) tB'):PW X (.BoolOp .And (a::b::rest) pos) (yK tA tB'):=by
 intro wh pins s σ H Q I h
 refine isTrue_and (thn (ha pins s σ H _ I h) fun c s1 ⟨H1,I1,q1⟩=>?_)
 cases c with
 | true=>exact hb wh pins s1 σ H1 Q I1 q1
 | false=>exact ⟨H1,I1,q1⟩
theorem xQ (ha:PT X a tA)(hb:PW X (.BoolOp .Or (b::rest) pos) tB'):PW X (.BoolOp .Or (a::b::rest) pos) (tOr tA tB'):=by
 intro wh pins s σ H Q I h
 refine isTrue_or (thn (ha pins s σ H _ I h) fun c s1 ⟨H1,I1,q1⟩=>?_)
 cases c with
 | true=>exact ⟨H1,I1,q1⟩
 | false=>exact hb wh pins s1 σ H1 Q I1 q1
theorem uK (ha:PT X a tA):PT X (.UnaryOp .Not a pos) (yO tA):=by
 intro pins s σ H Q I h
 exact isTrue_not (ha pins s σ H (fun c H1=>Q (!c) H1) I h)
noncomputable def tIf (t:TT)(ta tb:TE):TE:=fun σ H Q=>t σ H fun c H1=>if c=true then ta σ H1 Q else tb σ H1 Q
theorem gJ {c:Expr}(hc:PT X c tA)(ha:PE X a ta)(hb:PE X b tb):PE X (.IfExp c a b pos) (tIf tA ta tb):=by
 intro pins s σ H Q I h
 refine wpAny_IfExp (thn (hc pins s σ H _ I h) fun d s1 ⟨H1,I1,q1⟩=>?_)
 cases d with
 | true=>exact ha pins s1 σ H1 Q I1 q1
 | false=>exact hb pins s1 σ H1 Q I1 q1
end
end L2
namespace L2
open PySem PySem.Spec PyProof.Rows
noncomputable def SqL (K:a0a)(H:Hp)(a:Addr)(xs:List V):Prop :=
 Rd H a (.lst xs) \/
  ∃ (o:Obj) (its:Array Value) (n:Nat),K.lookup a=some o/\o.cls=.type "list"/\o.dict=none/\o.data=.seq its n/\its.size<=sizeLine/\Vals xs its.toList
noncomputable def SqT (K:a0a)(H:Hp)(a:Addr)(xs:List V):Prop :=
 Rd H a (.tup xs) \/
  ∃ (o:Obj) (its:Array Value) (n:Nat),K.lookup a=some o/\o.cls=.type "tuple"/\o.data=.seq its n/\its.size<=sizeLine/\Vals xs its.toList
noncomputable def Ar:Value->Option V
 | .none=>some .non
 | .bool b=>some (.bl b)
 | .int i _=>some (.int i)
 | .str x _=>some (.str x)
 | .bytes b _=>some (.byt b)
 | .float b _=>some (.flt b)
 | .ref a=>some (.ref a)
 | .type n=>some (.ty n)
 | _=>none
theorem RelV.abs {x:V}{u:Value}(r:RelV x u):Ar u=some x:=by
 cases x with
 | non=>cases r; rfl
 | bl _=>cases r; rfl
 | int _=>obtain ⟨t,rfl⟩:=r; rfl
 | str _=>obtain ⟨t,rfl⟩:=r; rfl
 | byt _=>obtain ⟨t,rfl⟩:=r; rfl
 | flt _=>obtain ⟨t,rfl⟩:=r; rfl
 | ref _=>cases r; rfl
 | ty _=>cases r; rfl
theorem RelV.inj {x y:V}{u:Value}(r:RelV x u)(q:RelV y u):x=y:=a0L (r.abs.symm.trans q.abs)
theorem Vals.inj:∀ {xs ys:List V} {us:List Value},Vals xs us->Vals ys us->xs=ys
 | _,_,_,.nil,.nil=>rfl
 | _,_,_,.cons r t,.cons r' t'=>by rw [r.inj r',Vals.inj t t']
section
variable {X:Cx}{pins:List (Addr×Obj)}{σ:St}{H:Hp}{s:Shared}{a:Addr}{xs ys:List V}
theorem SqL.of {K:a0a}(h:H a=some (.lst xs)):SqL K H a xs:=.inl (.inl h)
theorem SqT.of {K:a0a}(h:H a=some (.tup xs)):SqT K H a xs:=.inl (.inl h)
theorem Inv.list (I:Inv X pins σ H s)(h:SqL X.K H a xs):∃ its:List Value,Vals xs its/\PlainL s.heap a its.toArray/\xs.length<=sizeLine:=by
 rcases h with h | ⟨o,its,n,hk,hc,hd,hs,hz,r⟩
 ·obtain ⟨z,its,n,r,e⟩:=h.ok I.hok
  exact ⟨its,r,⟨_,n,e,rfl,rfl,rfl⟩,z⟩
 ·refine ⟨its.toList,r,⟨o,n,I.kIn a o hk,hc,hd,by simpa using hs⟩,?_⟩
  have e:=r.length
  simp only [a0p] at e
  omega
theorem Inv.tuple (I:Inv X pins σ H s)(h:SqT X.K H a xs):∃ its:List Value,Vals xs its/\IsTup s.heap a its.toArray/\xs.length<=sizeLine:=by
 rcases h with h | ⟨o,its,n,hk,hc,hs,hz,r⟩
 ·obtain ⟨z,its,r,p⟩:=h.ok I.hok
  exact ⟨its,r,p,z⟩
 ·refine ⟨its.toList,r,⟨o,I.kIn a o hk,hc,n,by simpa using hs⟩,?_⟩
  have e:=r.length
  simp only [a0p] at e
  omega
theorem Inv.list_inj (I:Inv X pins σ H s)(h:SqL X.K H a xs)(h':SqL X.K H a ys):xs=ys:=by
 obtain ⟨its,r,⟨o,n,e,_,_,d⟩,_⟩:=I.list h
 obtain ⟨its',r',⟨o',n',e',_,_,d'⟩,_⟩:=I.list h'
 rw [e] at e'; cases e'
 rw [d] at d'
 injection d' with d1 _
 have:its=its':=by simpa using congrArg a3o d1
 subst this
 exact r.inj r'
theorem Inv.tuple_inj (I:Inv X pins σ H s)(h:SqT X.K H a xs)(h':SqT X.K H a ys):xs=ys:=by
 obtain ⟨its,r,⟨o,e,_,n,d⟩,_⟩:=I.tuple h
 obtain ⟨its',r',⟨o',e',_,n',d'⟩,_⟩:=I.tuple h'
 rw [e] at e'; cases e'
 rw [d] at d'
 injection d' with d1 _
 have:its=its':=by simpa using congrArg a3o d1
 subst this
 exact r.inj r'
end
noncomputable abbrev Cx.wish (X:Cx)(E:Value->Shared->Prop):Cx:={ X with xe:=E }
noncomputable abbrev Cx.nox (X:Cx):Cx:=X.wish fun _ _=>False
theorem Cx.Ok.wish {X:Cx}(ok:X.Ok)(E:Value->Shared->Prop):(X.wish E).Ok :=
 ⟨ok.mod,ok.kind,ok.glob,ok.blt,ok.above,ok.inj,ok.has,ok.cab,ok.hd,ok.frames,ok.stk,ok.exf,ok.bs,ok.bsz,ok.noex,ok.exfs,ok.funs,ok.frf⟩
theorem Cx.Ok.unwish {X:Cx}{E:Value->Shared->Prop}(ok:(X.wish E).Ok):X.Ok :=
 ⟨ok.mod,ok.kind,ok.glob,ok.blt,ok.above,ok.inj,ok.has,ok.cab,ok.hd,ok.frames,ok.stk,ok.exf,ok.bs,ok.bsz,ok.noex,ok.exfs,ok.funs,ok.frf⟩
section
variable {X:Cx}{pins:List (Addr×Obj)}{σ:St}{H:Hp}{s:Shared}{E:Value->Shared->Prop}
theorem Inv.wish (I:Inv X pins σ H s)(E:Value->Shared->Prop):Inv (X.wish E) pins σ H s:=⟨I.ok.wish E,I.os,I.bare,I.base,I.loc,I.cell,I.free,I.freeC,I.pin,I.hok,I.len⟩
theorem Inv.unwish (I:Inv (X.wish E) pins σ H s):Inv X pins σ H s:=⟨I.ok.unwish,I.os,I.bare,I.base,I.loc,I.cell,I.free,I.freeC,I.pin,I.hok,I.len⟩
theorem SP.unwish {D:bp}{f:Flow}{s':Shared}(h:SP (X.wish E) pins D f s'):SP X pins D f s':=by
 cases f with
 | next=>obtain ⟨σ',H',I,q⟩:=h; exact ⟨σ',H',I.unwish,q⟩
 | brk=>obtain ⟨σ',H',I,q⟩:=h; exact ⟨σ',H',I.unwish,q⟩
 | cont=>obtain ⟨σ',H',I,q⟩:=h; exact ⟨σ',H',I.unwish,q⟩
 | ret u=>obtain ⟨v,σ',H',I,r,q⟩:=h; exact ⟨v,σ',H',I.unwish,r,q⟩
theorem PSs.nox {st:List Stmt}{t:TS}(h:PSs X.nox st t):PSs X st t:=fun pins s σ H D I hw =>
 wpAny_mono (h pins s σ H D (I.wish _) hw) (fun _ _ q=>q.unwish) fun _ _ z=>a0N z
end
section
variable {X:Cx}{st:Stmt}{rest:List Stmt}{t u:TS}{e:Expr}{te:TE}{pos:Pos}
noncomputable def qT:TS:=fun D σ H=>D.nx σ H
noncomputable def yV (t u:TS):TS:=fun D σ H=>t { D with nx:=u D } σ H
theorem qb:PSs X [] qT:=fun _ _ σ H _ I h=>wpAny_execs_nil ⟨σ,H,I,h⟩
theorem gp (h1:PS X st t)(h2:PSs X rest u):PSs X (st::rest) (yV t u):=by
 intro pins s σ H D I h
 refine wpAny_execs_cons (thn (h1 pins s σ H { D with nx:=u D } I h) fun f s1 q=>?_)
 cases f with
 | next =>
  obtain ⟨σ',H',I',q⟩:=q
  exact h2 pins s1 σ' H' D I' q
 | ret v=>exact q
 | brk=>exact q
 | cont=>exact q
theorem iT (h1:PS X st t):PSs X [st] t:=by
 intro pins s σ H D I h
 refine wpAny_execs_cons (thn (h1 pins s σ H D I h) fun f s1 q=>?_)
 cases f with
 | next=>exact wpAny_execs_nil q
 | ret v=>exact q
 | brk=>exact q
 | cont=>exact q
theorem Inv.quiet {pins:List (Addr×Obj)}{σ:St}{H:Hp}{s:Shared}(I:Inv X pins σ H s):interactive X.env=false:=by simp [interactive,I.ok.kind]
noncomputable def yI (te:TE):TS:=fun D σ H=>te σ H fun _ H1=>D.nx σ H1
theorem jd (he:PE X e te)(hs:swapsWith e none pos.line X.env=pure false:=by rfl):PS X (.Expr e pos) (yI te):=by
 intro pins s σ H D I h
 exact wpAny_Expr_any (thn (he pins s σ H _ I h) fun v s1 ⟨x,H1,I1,r1,q1⟩=>⟨σ,H1,I1,q1⟩) I.quiet hs
noncomputable def zc (te:TE):TS:=fun D σ H=>te σ H D.rt
theorem mI (he:PE X e te):PS X (.Return (some e) pos) (zc te):=by
 intro pins s σ H D I h
 exact wpAny_Return_some (thn (he pins s σ H _ I h) fun v s1 ⟨x,H1,I1,r1,q1⟩=>⟨x,σ,H1,I1,r1,q1⟩)
noncomputable def xC (c:TT)(t u:TS):TS:=fun D σ H=>c σ H fun b H1=>if b=true then t D σ H1 else u D σ H1
theorem yX {c:Expr}{a b:List Stmt}{tc:TT}(hc:PT X c tc)(ha:PSs X a t)(hb:PSs X b u):PS X (.If c a b pos) (xC tc t u):=by
 intro pins s σ H D I h
 refine wpAny_If (thn (hc pins s σ H _ I h) fun d s1 ⟨H1,I1,q1⟩=>?_)
 cases d with
 | true=>exact ha pins s1 σ H1 D I1 q1
 | false=>exact hb pins s1 σ H1 D I1 q1
end
noncomputable abbrev TG:=V->St->Hp->(St->Hp->Prop)->Prop
noncomputable abbrev TGs:=List V->St->Hp->(St->Hp->Prop)->Prop
noncomputable def PG (X:Cx)(target:Expr)(t:TG):Prop :=
 ∀ (pins:List (Addr×Obj)) (s:Shared) (σ:St) (H:Hp) (v:V) (u:Value) (Q:St->Hp->Prop),Inv X pins σ H s->RelV v u->t v σ H Q ->
  wpAny (model X.prog X.w) X.A (assign target X.env u) (fun _ s'=>∃ σ' H',Inv X pins σ' H' s'/\Q σ' H') X.xe s
noncomputable def PGs (X:Cx)(ts:List Expr)(t:TGs):Prop :=
 ∀ (pins:List (Addr×Obj)) (s:Shared) (σ:St) (H:Hp) (vs:List V) (us:List Value) (Q:St->Hp->Prop),Inv X pins σ H s->Vals vs us->t vs σ H Q ->
  wpAny (model X.prog X.w) X.A (assignInOrder ((assignEach ts X.env).map (·.2)) us) (fun _ s'=>∃ σ' H',Inv X pins σ' H' s'/\Q σ' H') X.xe s
section
variable {X:Cx}{pos:Pos}
noncomputable def cc (i:Nat):TG:=fun v σ H Q=>Q (σ.set i (some v)) H
theorem fh {i:Nat}{x:Str}(hN:X.N.Nodup)(hi:X.N[i]?=some x)(hx:Loc X.env.scope x)(hf:X.fn x=true\/X.env.scope.names.lookup x=some .local:=by first | exact .inl rfl | exact .inr rfl | assumption):PG X (.Name x pos) (cc i):=by
 intro pins s σ H v u Q I r h
 exact wpAny_assign_Name (cN I hN hi hx r (fun s' I'=>⟨_,H,I',h⟩) hf)
noncomputable def vO:TGs:=fun vs σ H Q=>vs=[]/\Q σ H
noncomputable def gW (t:TG)(u:TGs):TGs:=fun vs σ H Q=>∃ v r,vs=v::r/\t v σ H fun σ' H'=>u r σ' H' Q
theorem oO:PGs X [] vO:=by
 intro pins s σ H vs us Q I r h
 obtain ⟨e,h⟩:=h
 subst e
 cases r
 exact assignInOrder_nil ⟨σ,H,I,h⟩
theorem fZ {e:Expr}{es:List Expr}{t:TG}{u:TGs}(h1:PG X e t)(h2:PGs X es u)
  (hs:(assignEach (e::es) X.env).map (·.2)=assign e X.env::(assignEach es X.env).map (·.2):=by rfl):PGs X (e::es) (gW t u):=by
 intro pins s σ H vs us Q I r h
 obtain ⟨v,vr,e1,h⟩:=h
 subst e1
 cases r with
 | cons r rr =>
  rw [hs]
  refine assignInOrder_cons (thn (h1 pins s σ H _ _ _ I r h) fun _ s1 ⟨σ1,H1,I1,q1⟩=>?_)
  exact h2 pins s1 σ1 H1 _ _ Q I1 rr q1
noncomputable def u5 (K:a0a)(n:Nat)(t:TGs):TG:=fun v σ H Q=>∃ a xs,v=.ref a/\SqT K H a xs/\xs.length=n/\t xs σ H Q
theorem vo {es:List Expr}{k:Nat}{t:TGs}{n:Nat}(hc:X.calm=true)(h:PGs X es t)
  (hn:(assignEach es X.env).length=n:=by rfl) (hst:(assignEach es X.env).findIdx? (·.1)=none:=by rfl):PG X (.Tuple es k pos) (u5 X.K n t):=by
 intro pins s σ H v u Q I r hw
 obtain ⟨a,xs,e1,hq,hl,hw⟩:=hw
 subst e1
 cases r
 obtain ⟨its,rv,ht,hz⟩:=I.tuple hq
 refine assign_Tuple_tuple (I.ok.hd hc) ht (by simp [hn,<- hl,rv.length]) hst fun h' hx=>?_
 have I1:Inv X pins σ H { s with heap:=h' }:=I.kept (t':=s.toks) fun b o e=>hx b o (a0K (Heap.lt_size e)) e
 exact h pins _ σ H xs _ Q I1 (by simpa using rv) hw
noncomputable def oP (te:TE)(g:TG):TS:=fun D σ H=>te σ H fun x H1=>g x σ H1 D.nx
theorem sQ {tg e:Expr}{te:TE}{g:TG}(he:PE X e te)(hg:PG X tg g)(hs:swapsWithSole [tg] e pos.line X.env=pure false:=by rfl)(hw:swappedStores [tg] e X.env=pure none:=by rfl)
  (h1:(assignEach [tg] X.env).map (·.2)=[assign tg X.env]:=by rfl):PS X (.Assign [tg] e pos) (oP te g):=by
 intro pins s σ H D I h
 refine wpAny_Assign_stores (thn (he pins s σ H _ I h) fun v s1 ⟨x,H1,I1,r1,q1⟩=>?_) hs hw
 rw [h1]
 exact thn (hg pins s1 σ H1 x v _ I1 r1 q1) fun _ s2 q=>q
theorem iB {i:Nat}{x:Str}{e:Expr}{te:TE}{pos':Pos}(hN:X.N.Nodup)(hi:X.N[i]?=some x)(hx:Loc X.env.scope x)(he:PE X e te)(hs:swapsWith e (some (.Name x pos')) pos.line X.env=pure false:=by rfl)(hf:X.fn x=true\/X.env.scope.names.lookup x=some .local:=by first | exact .inl rfl | exact .inr rfl | assumption) :
  PS X (.Assign [.Name x pos'] e pos) (oP te (cc i)):=by
 intro pins s σ H D I h
 refine wpAny_Assign_Name (thn (he pins s σ H _ I h) fun v s1 ⟨y,H1,I1,r1,q1⟩=>?_) hs
 exact cN I1 hN hi hx r1 (fun s2 I2=>⟨_,H1,I2,q1⟩) hf
end
structure It where
 go:Nat->Hp->Prop
 yld:Nat->Hp->V->Hp->Prop
 stop:Nat->Hp->Prop
noncomputable def j0 (X:Cx)(pins:List (Addr×Obj))(H:Hp)(b:Addr):Prop :=
 H b=none/\b≠X.env.locals/\b ∉ X.fs/\(b∈X.ex\/X.s₀.heap.objs.size<=b)/\(∀ x c,X.env.cells.lookup x=some c->c≠b)/\∀ p∈X.pn++pins,p.1≠b
theorem Inv.fpOk {X:Cx}{pins:List (Addr×Obj)}{σ:St}{H H':Hp}{s:Shared}{b:Addr}(I:Inv X pins σ H s)(hb:s.heap.objs.size<=b)(hn:H' b=none):j0 X pins H' b:=by
 refine ⟨hn,a1W (a0l I.lt hb),I.nofs hb,.inr (a0n I.sz hb),fun x c e z=>?_,fun p hp z=>?_⟩
 ·obtain ⟨v,q⟩:=I.cell x c e
  exact absurd (a0l q.lt (by rw [z]; exact hb)) (a1p _)
 ·exact absurd (a0l (Heap.lt_size (I.pin p hp).1) (by rw [z]; exact hb)) (a1p _)
structure nO (P:Program)(w:World)(K:a0a)(tg:Expr)(J:It)(fp:List Addr)(it:Addr)(tn:Nat->Heap->Prop):Prop where
 mem:it∈fp
 obj:∀ i h,tn i h->∀ b∈fp,∃ o,h.get? b=some o/\∀ v,o.data≠.cell v
 keep:∀ i h h',tn i h->(∀ b∈fp,∀ o,h.get? b=some o->h'.get? b=some o)->tn i h'
 item:∀ (X:Cx),X.prog=P->X.w=w->X.K=K->X.calm=true->∀ (i:Nat) (pins:List (Addr×Obj)) (s:Shared) (σ:St) (H:Hp) (E:Value->Shared->Prop),Inv X pins σ H s->(∀ b∈fp,j0 X pins H b)->tn i s.heap->J.go i H ->
  wpAny (model P w) X.A (pyNext (.ref it)) (fun r s1=>∃ u,r=some u /\
   wpAny (model P w) X.A (letOwnedTupleGo tg (.ref it) u) (fun _ s2=>∃ x H',Inv X pins σ H' s2/\RelV x u/\J.yld i H x H'/\tn (i+1) s2.heap/\∀ b∈fp,H' b=none) E s1) E s
 done:∀ (X:Cx),X.prog=P->X.w=w->X.K=K->X.calm=true->∀ (i:Nat) (pins:List (Addr×Obj)) (s:Shared) (σ:St) (H:Hp) (E:Value->Shared->Prop),Inv X pins σ H s->(∀ b∈fp,j0 X pins H b)->tn i s.heap->J.stop i H ->
  wpAny (model P w) X.A (pyNext (.ref it)) (fun r s1=>r=none/\Inv X pins σ H s1) E s
 self:∀ (A:Around) (i:Nat) (s:Shared) (Q:Value->Shared->Prop) (E:Value->Shared->Prop),tn i s.heap->Q (.ref it) s->wpAny (model P w) A (pyIter (.ref it)) Q E s
noncomputable abbrev TI:=St->Hp->(It->Hp->Prop)->Prop
noncomputable def PIE (X:Cx)(pins:List (Addr×Obj))(σ:St)(tg:Expr)(R:It->Hp->Prop)(itv:Value)(s2:Shared):Prop :=
 ∃ (it:Addr) (fp:List Addr) (tn:Nat->Heap->Prop) (J:It) (H':Hp),itv=.ref it/\Inv X pins σ H' s2/\nO X.prog X.w X.K tg J fp it tn/\tn 0 s2.heap/\(∀ b∈fp,j0 X pins H' b)/\R J H'
noncomputable def PI (X:Cx)(tg iter:Expr)(wi:TI):Prop :=
 ∀ (pins:List (Addr×Obj)) (s:Shared) (σ:St) (H:Hp) (R:It->Hp->Prop),Inv X pins σ H s->wi σ H R ->
  wpAny (model X.prog X.w) X.A (eval iter X.env) (fun v s1=>wpAny (model X.prog X.w) X.A (pyIter v) (PIE X pins σ tg R) X.xe s1) X.xe s
theorem mX {M:Model}{A:Around}{E:Value->Shared->Prop}{s:Shared}{tg:Expr}{it:Addr}{u:Value}{o:Obj}{n:String}{vs:Array Value}{Q:Unit->Shared->Prop}(ho:s.heap.get? it=some o)(hc:o.cls=.type n)(hd:o.data=.fields vs)
  (hn:["enumerate","zip","dict_itemiterator","dict_reverseitemiterator","odict_iterator","itertools.zip_longest","itertools.pairwise"].contains n=false) (hQ:Q () s):wpAny M A (letOwnedTupleGo tg (.ref it) u) Q E s:=by
 unfold letOwnedTupleGo
 cases tg<;>first
  | exact wpAny_pure hQ
  | (cases u<;>first
    | exact wpAny_pure hQ
    | (refine wpAny_bind (wpAny_load ho ?_)
       rw [hc,hd]
       show wpAny M A (if (["enumerate","zip","dict_itemiterator","dict_reverseitemiterator","odict_iterator","itertools.zip_longest","itertools.pairwise"].contains n&&vs[0]?==some (rawInt _))=true then _ else _) Q E s
       rw [if_neg (by intro h; rw [hn,Bool.false_and] at h; cases h)]
       exact wpAny_pure hQ))
noncomputable def Itl (K:a0a)(a:Addr):It :=
 ⟨fun i H=>∃ xs x,SqL K H a xs/\xs[i]?=some x,fun i H x H'=>H'=H/\∀ xs,SqL K H a xs->xs[i]?=some x,fun i H=>∃ xs,SqL K H a xs/\xs.length<=i⟩
noncomputable def Itt (K:a0a)(a:Addr):It :=
 ⟨fun i H=>∃ xs x,SqT K H a xs/\xs[i]?=some x,fun i H x H'=>H'=H/\∀ xs,SqT K H a xs->xs[i]?=some x,fun i H=>∃ xs,SqT K H a xs/\xs.length<=i⟩
noncomputable def Itr (lo:Int)(n:Nat):It:=⟨fun i _=>i < n,fun i H x H'=>H'=H/\x=.int (lo+i),fun i _=>n<=i⟩
theorem j4 {P:Program}{w:World}{K:a0a}{tg:Expr}(a it:Addr):nO P w K tg (Itl K a) [it] it (fun i h=>h.IsListIter it a i) where
 mem:=by simp
 obj:=fun i h st b hb=>by
  have e:b=it:=by simpa using hb
  subst e
  obtain ⟨o,e,c,d⟩:=st
  exact ⟨o,e,fun v z=>by rw [d] at z; cases z⟩
 keep:=fun i h h' st k=>st.at fun o e=>k it (by simp) o e
 item:=by
  intro X hP hw hK hc i pins s σ H E I hf st hg
  subst hP hw hK
  obtain ⟨xs,x,hq,hx⟩:=hg
  obtain ⟨its,rv,p,hz⟩:=I.list hq
  obtain ⟨u,hu,ru⟩:=rv.get hx
  obtain ⟨f0,f1,f2,f3,f4,f5⟩:=hf it (by simp)
  refine wpAny_pyNext_list_item st p.isList (x:=u) (by simpa using hu) fun h' st' sb=>?_
  have I1:Inv X pins σ H { s with heap:=h' }:=I.turned (t':=s.toks) (fun b o hb e=>(sb.2 b hb).trans e) f0 f1 f3 f4 f5
  obtain ⟨o,e,c,d⟩:=id st'
  exact ⟨u,rfl,mX (s:={ s with heap:=h' }) e c d (by decide) ⟨x,H,I1,ru,⟨rfl,fun ys hy=>by rw [I.list_inj hy hq]; exact hx⟩,st',fun b hb=>(hf b hb).1⟩⟩
 done:=by
  intro X hP hw hK hc i pins s σ H E I hf st hg
  subst hP hw hK
  obtain ⟨xs,hq,hx⟩:=hg
  obtain ⟨its,rv,p,hz⟩:=I.list hq
  obtain ⟨f0,f1,f2,f3,f4,f5⟩:=hf it (by simp)
  have hl:=rv.length
  exact wpAny_pyNext_list_end (I.ok.hd hc) st p.isList (by simp; omega) fun h' eb=>⟨rfl,I.turned (t':=s.toks) (fun b o hb e=>eb b o hb e) f0 f1 f3 f4 f5⟩
 self:=fun _ _ _ _ _ st h=>wpAny_pyIter_listiter st h
theorem hW {P:Program}{w:World}{K:a0a}{tg:Expr}(a it:Addr):nO P w K tg (Itt K a) [it] it (fun i h=>h.IsTupleIter it a i) where
 mem:=by simp
 obj:=fun i h st b hb=>by
  have e:b=it:=by simpa using hb
  subst e
  obtain ⟨o,e,c,d⟩:=st
  exact ⟨o,e,fun v z=>by rw [d] at z; cases z⟩
 keep:=fun i h h' st k=>st.at fun o e=>k it (by simp) o e
 item:=by
  intro X hP hw hK hc i pins s σ H E I hf st hg
  subst hP hw hK
  obtain ⟨xs,x,hq,hx⟩:=hg
  obtain ⟨its,rv,p,hz⟩:=I.tuple hq
  obtain ⟨u,hu,ru⟩:=rv.get hx
  obtain ⟨f0,f1,f2,f3,f4,f5⟩:=hf it (by simp)
  refine wpAny_pyNext_tuple_item st (show s.heap.IsTuple a its.toArray from p) (x:=u) (by simpa using hu) fun h' st' sb=>?_
  have I1:Inv X pins σ H { s with heap:=h' }:=I.turned (t':=s.toks) (fun b o hb e=>(sb.2 b hb).trans e) f0 f1 f3 f4 f5
  obtain ⟨o,e,c,d⟩:=id st'
  exact ⟨u,rfl,mX (s:={ s with heap:=h' }) e c d (by decide) ⟨x,H,I1,ru,⟨rfl,fun ys hy=>by rw [I.tuple_inj hy hq]; exact hx⟩,st',fun b hb=>(hf b hb).1⟩⟩
 done:=by
  intro X hP hw hK hc i pins s σ H E I hf st hg
  subst hP hw hK
  obtain ⟨xs,hq,hx⟩:=hg
  obtain ⟨its,rv,p,hz⟩:=I.tuple hq
  obtain ⟨f0,f1,f2,f3,f4,f5⟩:=hf it (by simp)
  have hl:=rv.length
  exact wpAny_pyNext_tuple_end (I.ok.hd hc) st (show s.heap.IsTuple a its.toArray from p) (by simp; omega) fun h' eb=>⟨rfl,I.turned (t':=s.toks) (fun b o hb e=>eb b o hb e) f0 f1 f3 f4 f5⟩
 self:=fun _ _ _ _ _ st h=>wpAny_pyIter_tupleiter st h
theorem iF {P:Program}{w:World}{K:a0a}{tg:Expr}(it:Addr)(lo:Int)(n:Nat):nO P w K tg (Itr lo n) [it] it (fun i h=>IsRangeIter h it (lo+(i:Nat) * 1) ((n:Int)-(i:Nat)) 1) where
 mem:=by simp
 obj:=fun i h st b hb=>by
  have e:b=it:=by simpa using hb
  subst e
  exact ⟨_,st,fun v z=>by
   have z':Data.fields _=Data.cell v:=z
   cases z'⟩
 keep:=fun i h h' st k=>k it (by simp) _ st
 item:=by
  intro X hP hw hK hc i pins s σ H E I hf st hg
  subst hP hw hK
  obtain ⟨f0,f1,f2,f3,f4,f5⟩:=hf it (by simp)
  have W:=Walks.range (prog:=X.prog) (w:=X.w) (I.ok.hd hc) it lo 1 n
  refine W.item i s _ _ hg st fun v h' tk hv st' kk=>?_
  obtain ⟨t,rfl⟩:=hv
  have I1:Inv X pins σ H { s with heap:=h',toks:=tk }:=I.turned (fun b o hb e=>kk b o (by simpa using hb) e) f0 f1 f3 f4 f5
  refine ⟨_,rfl,mX (s:={ s with heap:=h',toks:=tk }) (n:="range_iterator") st' rfl rfl (by decide) ⟨.int (lo+i),H,I1,⟨t,?_⟩,⟨rfl,rfl⟩,st',fun b hb=>(hf b hb).1⟩⟩
  rw [Int.mul_one]
 done:=by
  intro X hP hw hK hc i pins s σ H E I hf st hg
  subst hP hw hK
  obtain ⟨f0,f1,f2,f3,f4,f5⟩:=hf it (by simp)
  exact wpAny_pyNext_range_end (I.ok.hd hc) st (by have:n<=i:=hg; omega) fun h' eb=>⟨rfl,I.turned (t':=s.toks) (fun b o hb e=>eb b o hb e) f0 f1 f3 f4 f5⟩
 self:=fun _ _ _ _ _ st h=>wpAny_pyIter_rangeiter st h
end L2
namespace L2
open PySem PySem.Spec PyProof.Rows
section
variable {X:Cx}{tg:Expr}
noncomputable def rC (K:a0a)(tl:TE):TI:=fun σ H R=>tl σ H fun x H1=>∃ a,x=.ref a/\(∃ xs,SqL K H1 a xs)/\R (Itl K a) H1
noncomputable def yU (K:a0a)(tl:TE):TI:=fun σ H R=>tl σ H fun x H1=>∃ a,x=.ref a/\(∃ xs,SqT K H1 a xs)/\R (Itt K a) H1
theorem pL {l:Expr}{tl:TE}(hl:PE X l tl):PI X tg l (rC X.K tl):=by
 intro pins s σ H R I h
 refine thn (hl pins s σ H _ I h) fun v s1 ⟨x,H1,I1,r1,q1⟩=>?_
 obtain ⟨a,e,⟨xs,hq⟩,q⟩:=q1
 subst e
 cases r1
 obtain ⟨its,rv,p,hz⟩:=I1.list hq
 refine wpAny_pyIter_list p.isList ?_
 refine ⟨s1.heap.objs.size,[s1.heap.objs.size],_,_,H1,rfl,I1.kept (t':=s1.toks) fun b o e=>Heap.get?_push_of_some _ e,j4 a _,⟨_,Heap.get?_push_size _ rfl,rfl,rfl⟩,fun b hb=>?_,q⟩
 have e:b=s1.heap.objs.size:=by simpa using hb
 subst e
 exact I1.fpOk (a0m _) (I1.hok.fresh (a0m _))
theorem rY {l:Expr}{tl:TE}(hl:PE X l tl):PI X tg l (yU X.K tl):=by
 intro pins s σ H R I h
 refine thn (hl pins s σ H _ I h) fun v s1 ⟨x,H1,I1,r1,q1⟩=>?_
 obtain ⟨a,e,⟨xs,hq⟩,q⟩:=q1
 subst e
 cases r1
 obtain ⟨its,rv,p,hz⟩:=I1.tuple hq
 refine wpAny_pyIter_tuple (show s1.heap.IsTuple a its.toArray from p) ?_
 refine ⟨s1.heap.objs.size,[s1.heap.objs.size],_,_,H1,rfl,I1.kept (t':=s1.toks) fun b o e=>Heap.get?_push_of_some _ e,hW a _,⟨_,Heap.get?_push_size _ rfl,rfl,rfl⟩,fun b hb=>?_,q⟩
 have e:b=s1.heap.objs.size:=by simpa using hb
 subst e
 exact I1.fpOk (a0m _) (I1.hok.fresh (a0m _))
theorem kE {pins:List (Addr×Obj)}{σ:St}{H:Hp}{s:Shared}{R:It->Hp->Prop}{E:Value->Shared->Prop}{lo hi:Int}{t u v:Tok}{tk:Nat}(I:Inv X pins σ H s)(h1:-(2 ^ 62)<=lo)(h2:lo < 2 ^ 62)(h3:-(2 ^ 62)<=hi)(h4:hi < 2 ^ 62)
  (q:R (Itr lo (hi-lo).toNat) H):wpAny (model X.prog X.w) X.A (pyIter (.ref s.heap.objs.size)) (PIE X pins σ tg R) E { s with heap:=s.heap.push { cls:=.type "range",data:=.fields #[.int lo t,.int hi u,.int 1 v] },toks:=tk }:=by
 refine wpAny_pyIter_range (IsRange.new ..) (small_one h1 h2 h3 h4) ?_
 have I1:Inv X pins σ H { s with heap:=s.heap.push { cls:=.type "range",data:=.fields #[.int lo t,.int hi u,.int 1 v] },toks:=tk }:=I.kept fun b o e=>Heap.get?_push_of_some _ e
 refine ⟨(s.heap.push { cls:=.type "range",data:=.fields #[.int lo t,.int hi u,.int 1 v] }).objs.size,[(s.heap.push { cls:=.type "range",data:=.fields #[.int lo t,.int hi u,.int 1 v] }).objs.size],_,_,H,rfl,
  I1.kept (t':=tk) fun b o e=>Heap.get?_push_of_some _ e,iF _ lo (hi-lo).toNat,?_,fun b hb=>?_,q⟩
 ·have e1:lo+((0:Nat):Int) * 1=lo:=by simp
  have e2:(((hi-lo).toNat:Nat):Int)-((0:Nat):Int)=Builtin.Range.rangeSize lo hi 1:=by rw [rangeSize_one]; split<;>omega
  show IsRangeIter _ _ (lo+((0:Nat):Int) * 1) ((((hi-lo).toNat:Nat):Int)-((0:Nat):Int)) 1
  rw [e1,e2]
  exact Heap.get?_push_size _ rfl
 ·have e:b=(s.heap.push { cls:=.type "range",data:=.fields #[.int lo t,.int hi u,.int 1 v] }).objs.size:=by simpa using hb
  subst e
  exact I1.fpOk (a0m _) (I1.hok.fresh (a0m _))
noncomputable def rW (ta:TA):TI:=fun σ H R=>ta σ H fun vs H1=>∃ j:Int,vs=[.int j]/\-(2 ^ 62)<=j/\j < 2 ^ 62/\R (Itr 0 j.toNat) H1
theorem jV {a:Expr}{ta:TA}{p pos:Pos}(hg:Gl X "range")(hm:X.mg "range"=none)(ha:PA X [a] ta)(hs:starEach [a] X.env=[(false,eval a X.env)]:=by rfl):PI X tg (.Call (.Name "range" p) [a] [] pos) (rW ta):=by
 intro pins s σ H R I h
 refine Call_ (fM I hg hm boot_range (a1R (thn (ha pos pins s σ H _ I h) fun us s1 ⟨vs,H1,I1,r1,q1⟩=>?_) hs rfl))
 obtain ⟨j,e,q1,q2,q⟩:=q1
 subst e
 cases r1 with
 | cons r rr =>
  cases rr
  obtain ⟨t,rfl⟩:=r
  exact call_range_1 (kE I1 (by omega) (by omega) q1 q2 (by simpa using q))
noncomputable def zd (wi:TI)(g:TG)(tb:TS):TS:=fun D σ H=>wi σ H fun J H1=>∃ W:Nat->Nat->St->Hp->Prop,(∃ m,W 0 m σ H1)/\∀ i m σ H,W i m σ H ->
 (J.stop i H/\D.nx σ H)\/(J.go i H/\∃ N:St->Hp->Prop,(∀ σ' H',N σ' H'->∃ m',m' < m/\W (i+1) m' σ' H')/\∀ x H',J.yld i H x H'->g x σ H' fun σ2 H2=>tb { D with nx:=N,ct:=N,bk:=D.nx } σ2 H2)
noncomputable def fR (fp:List Addr)(h:Heap):List (Addr×Obj):=fp.filterMap fun b=>(h.get? b).map fun o=>(b,o)
theorem d8 {fp:List Addr}{h:Heap}{b:Addr}{o:Obj}(hb:b∈fp)(e:h.get? b=some o):(b,o)∈fR fp h:=a06.mpr ⟨b,hb,by rw [e]; rfl⟩
theorem jW {fp:List Addr}{h:Heap}{p:Addr×Obj}(hp:p∈fR fp h):p.1∈fp/\h.get? p.1=some p.2:=by
 obtain ⟨b,hb,e⟩:=a06.mp hp
 cases q:h.get? b with
 | none=>rw [q] at e; cases e
 | some o =>
  rw [q] at e
  have e':(b,o)=p:=a0L e
  subst e'
  exact ⟨hb,q⟩
theorem Inv.pinned {pins:List (Addr×Obj)}{σ:St}{H:Hp}{s:Shared}{fp:List Addr}(I:Inv X pins σ H s)(hf:∀ b∈fp,j0 X pins H b)(ho:∀ b∈fp,∃ o,s.heap.get? b=some o/\∀ v,o.data≠.cell v):Inv X (pins++fR fp s.heap) σ H s :=
 I.pins_of fun p hp=>(a0s.mp hp).elim (fun z=>I.pin p (a0I _ z)) fun z=>by
  obtain ⟨hb,e⟩:=jW z
  obtain ⟨f0,f1,f2,_⟩:=hf p.1 hb
  obtain ⟨o,e',d⟩:=ho p.1 hb
  rw [e] at e'; cases e'
  exact ⟨e,f0,f1,f2,d⟩
theorem Inv.unpinned {pins pl:List (Addr×Obj)}{σ:St}{H:Hp}{s:Shared}(I:Inv X (pins++pl) σ H s):Inv X pins σ H s:=I.pins_of fun p hp=>I.pin p (a0I _ (a0Z _ hp))
theorem va {iter:Expr}{body:List Stmt}{wi:TI}{g:TG}{tb:TS}{pos:Pos}(hp:PassesOwn (model X.prog X.w) X.A X.env X.xe)(hc:X.calm=true)(hi:PI X tg iter wi)(hg:PG X tg g)(hb:PSs X body tb)
  (hs:∀ x,foldedSetIterable iter X.env x=pure x:=by intro _; rfl):PS X (.For tg iter body [] pos) (zd wi g tb):=by
 intro pins s σ H D I h
 refine wpAny_For (thn (hi pins s σ H _ I h) fun v s1 h1=>thn h1 fun itv s2 h2=>?_) hs
 obtain ⟨it,fp,tn,J,H2,e,I2,T,st2,f2,W,⟨m0,w0⟩,turn⟩:=h2
 subst e
 -- what stays true of the iterator's objects through the loop
 have stat:∀ {H':Hp},(∀ b∈fp,H' b=none)->∀ b∈fp,j0 X pins H' b:=fun hn b hb=>⟨hn b hb,(f2 b hb).2⟩
 refine codeAny_forLoop_any (fun n s'=>∃ i σ' H',Inv X pins σ' H' s'/\tn i s'.heap/\(∀ b∈fp,H' b=none)/\W i n σ' H') ?_ m0 ⟨0,σ,H2,I2,st2,fun b hb=>(f2 b hb).1,w0⟩
 rintro n s3 ⟨i,σ3,H3,I3,st3,fr3,w3⟩
 rcases turn i n σ3 H3 w3 with ⟨stop,qn⟩ | ⟨go,N,hN,step⟩
 ·refine wpAny_passesOwn hp (thn (T.done X rfl rfl rfl hc i pins s3 σ3 H3 X.xe I3 (stat fr3) st3 stop) fun r s4 ⟨hr,I4⟩=>?_)
  subst hr
  exact wpAny_execs_nil ⟨σ3,H3,I4,qn⟩
 ·refine wpAny_passesOwn hp (thn (T.item X rfl rfl rfl hc i pins s3 σ3 H3 X.xe I3 (stat fr3) st3 go) fun r s4 ⟨u,hr,h4⟩=>?_)
  subst hr
  refine wpAny_passesOwn hp (thn h4 fun _ s5 ⟨x,H5,I5,r5,y5,st5,fr5⟩=>?_)
  have I5':=I5.pinned (stat fr5) (T.obj _ _ st5)
  refine wpAny_passesOwn hp (thn (hg _ s5 σ3 H5 x u _ I5' r5 (step x H5 y5)) fun _ s6 ⟨σ6,H6,I6,q6⟩=>?_)
  refine wpAny_passesOwn hp (thn (hb _ s6 σ6 H6 _ I6 q6) fun f s7 q7=>?_)
  have again:∀ {σ7:St} {H7:Hp},Inv X (pins++fR fp s5.heap) σ7 H7 s7->N σ7 H7->∃ m,m < n/\∃ i σ' H',Inv X pins σ' H' s7/\tn i s7.heap/\(∀ b∈fp,H' b=none)/\W i m σ' H':=fun {σ7 H7} I7 n7=>by
   obtain ⟨m',hm,w7⟩:=hN σ7 H7 n7
   refine ⟨m',hm,i+1,σ7,H7,I7.unpinned,T.keep _ _ _ st5 fun b hb o e=>(I7.pin (b,o) (a0I _ (a0I _ (d8 hb e)))).1,fun b hb=>?_,w7⟩
   obtain ⟨o,e,d⟩:=T.obj _ _ st5 b hb
   exact (I7.pin (b,o) (a0I _ (a0I _ (d8 hb e)))).2.1
  cases f with
  | next=>obtain ⟨σ7,H7,I7,n7⟩:=q7; exact again I7 n7
  | cont=>obtain ⟨σ7,H7,I7,n7⟩:=q7; exact again I7 n7
  | brk=>obtain ⟨σ7,H7,I7,q7⟩:=q7; exact ⟨σ7,H7,I7.unpinned,q7⟩
  | ret v=>obtain ⟨x7,σ7,H7,I7,r7,q7⟩:=q7; exact ⟨x7,σ7,H7,I7.unpinned,r7,q7⟩
end
end L2
namespace L2
open PySem PySem.Spec PyProof.Rows
noncomputable abbrev R2:=V->V->Hp->VK->Prop
noncomputable def OpR (X:Cx)(f:Value->Value->Sem Value)(r:R2):Prop :=
 ∀ (pins:List (Addr×Obj)) (s:Shared) (σ:St) (H:Hp) (x y:V) (v u:Value) (Q:VK),Inv X pins σ H s->RelV x v->RelV y u->r x y H Q ->
  wpAny (model X.prog X.w) X.A (f v u) (EP X pins σ Q) X.xe s
noncomputable def UnR (X:Cx)(f:Value->Sem Value)(r:V->Hp->VK->Prop):Prop :=
 ∀ (pins:List (Addr×Obj)) (s:Shared) (σ:St) (H:Hp) (x:V) (v:Value) (Q:VK),Inv X pins σ H s->RelV x v->r x H Q ->
  wpAny (model X.prog X.w) X.A (f v) (EP X pins σ Q) X.xe s
noncomputable def er (X:Cx)(f:Value)(r:List V->Hp->VK->Prop):Prop :=
 ∀ (pins:List (Addr×Obj)) (s:Shared) (σ:St) (H:Hp) (xs:List V) (us:List Value) (Q:VK),Inv X pins σ H s->Vals xs us->r xs H Q ->
  wpAny (model X.prog X.w) X.A (call f us) (EP X pins σ Q) X.xe s
noncomputable def zD (X:Cx)(r:V->Hp->(Bool->Hp->Prop)->Prop):Prop :=
 ∀ (pins:List (Addr×Obj)) (s:Shared) (σ:St) (H:Hp) (x:V) (v:Value) (Q:Bool->Hp->Prop),Inv X pins σ H s->RelV x v->r x H Q ->
  wpAny (model X.prog X.w) X.A (truthy v) (TP X pins σ Q) X.xe s
noncomputable def tOp (r:R2)(ta tb:TE):TE:=fun σ H Q=>ta σ H fun x H1=>tb σ H1 fun y H2=>r x y H2 Q
noncomputable def tUn (r:V->Hp->VK->Prop)(ta:TE):TE:=fun σ H Q=>ta σ H fun x H1=>r x H1 Q
noncomputable def rI (C:Int->Int->Prop)(g:Int->Int->V):R2:=fun x y H Q=>∃ i j,x=.int i/\y=.int j/\C i j/\Q (g i j) H
noncomputable def rI0 (g:Int->Int->V):R2:=fun x y H Q=>∃ i j,x=.int i/\y=.int j/\Q (g i j) H
noncomputable def rU (g:Int->V):V->Hp->VK->Prop:=fun x H Q=>∃ i,x=.int i/\Q (g i) H
section
variable {X:Cx}{a b c:Expr}{ta tb tc:TE}{pos:Pos}
theorem uy (ha:PE X a ta)(hb:PE X b tb){pins:List (Addr×Obj)}{s:Shared}{σ:St}{H:Hp}{R:V->V->Hp->Prop}(I:Inv X pins σ H s)
  (h:ta σ H fun x H1=>tb σ H1 fun y H2=>R x y H2) {Q:Value->Shared->Prop} {f:Value->Value->Sem Value}
  (hf:∀ v u s2 x y H2,Inv X pins σ H2 s2->RelV x v->RelV y u->R x y H2->wpAny (model X.prog X.w) X.A (f v u) Q X.xe s2) :
  wpAny (model X.prog X.w) X.A (eval a X.env) (fun v s₁=>wpAny (model X.prog X.w) X.A (eval b X.env) (fun u s₂=>wpAny (model X.prog X.w) X.A (f v u) Q X.xe s₂) X.xe s₁) X.xe s:=by
 refine thn (ha pins s σ H _ I h) fun v s1 ⟨x,H1,I1,r1,q1⟩=>?_
 refine thn (hb pins s1 σ H1 _ I1 q1) fun u s2 ⟨y,H2,I2,r2,q2⟩=>?_
 exact hf v u s2 x y H2 I2 r1 r2 q2
theorem gU {op:Operator}{r:R2}(ho:OpR X (binaryOp op) r)(ha:PE X a ta)(hb:PE X b tb):PE X (.BinOp a op b pos) (tOp r ta tb):=by
 intro pins s σ H Q I h
 exact wpAny_BinOp (uy ha hb I h fun v u s2 x y H2 I2 rx ry q=>ho pins s2 σ H2 x y v u Q I2 rx ry q)
theorem rP {op:UnaryOp}{r:V->Hp->VK->Prop}(ho:UnR X (unaryOp op) r)(ha:PE X a ta):PE X (.UnaryOp op a pos) (tUn r ta):=by
 intro pins s σ H Q I h
 exact UnaryOp_ (thn (ha pins s σ H _ I h) fun v s1 ⟨x,H1,I1,r1,q1⟩=>ho pins s1 σ H1 x v Q I1 r1 q1)
theorem opI {f:Value->Value->Sem Value}{C:Int->Int->Prop}{g:Int->Int->Int}
  (rule:∀ (i j:Int) (t u:Tok) (s:Shared) (Q:Value->Shared->Prop) (E:Value->Shared->Prop),C i j->Q (.int (g i j) s.toks) { s with toks:=s.toks+1 }->wpAny (model X.prog X.w) X.A (f (.int i t) (.int j u)) Q E s) :
  OpR X f (rI C fun i j=>.int (g i j)):=by
 intro pins s σ H x y v u Q I rx ry h
 obtain ⟨i,j,rfl,rfl,hc,q⟩:=h
 obtain ⟨t,rfl⟩:=rx
 obtain ⟨t',rfl⟩:=ry
 exact rule i j t t' s _ _ hc ⟨.int (g i j),H,I.tok _,⟨_,rfl⟩,q⟩
theorem yu {f:Value->Value->Sem Value}{g:Int->Int->Int}
  (rule:∀ (i j:Int) (t u:Tok) (s:Shared) (Q:Value->Shared->Prop) (E:Value->Shared->Prop),Q (.int (g i j) s.toks) { s with toks:=s.toks+1 }->wpAny (model X.prog X.w) X.A (f (.int i t) (.int j u)) Q E s) :
  OpR X f (rI0 fun i j=>.int (g i j)):=by
 intro pins s σ H x y v u Q I rx ry h
 obtain ⟨i,j,rfl,rfl,q⟩:=h
 obtain ⟨t,rfl⟩:=rx
 obtain ⟨t',rfl⟩:=ry
 exact rule i j t t' s _ _ ⟨.int (g i j),H,I.tok _,⟨_,rfl⟩,q⟩
theorem t6 {f:Value->Value->Sem Value}{g:Int->Int->Bool}
  (rule:∀ (i j:Int) (t u:Tok) (s:Shared) (Q:Value->Shared->Prop) (E:Value->Shared->Prop),Q (.bool (g i j)) s->wpAny (model X.prog X.w) X.A (f (.int i t) (.int j u)) Q E s) :
  OpR X f (rI0 fun i j=>.bl (g i j)):=by
 intro pins s σ H x y v u Q I rx ry h
 obtain ⟨i,j,rfl,rfl,q⟩:=h
 obtain ⟨t,rfl⟩:=rx
 obtain ⟨t',rfl⟩:=ry
 exact rule i j t t' s _ _ ⟨.bl (g i j),H,I,rfl,q⟩
noncomputable def vf (i j:Int):Prop:=0 < j/\j < 1073741824
noncomputable def CMul (i j:Int):Prop:=(-(2 ^ 64) < i/\i < 2 ^ 64)\/(-(2 ^ 64) < j/\j < 2 ^ 64)
theorem CMul.ok {i j:Int}(h:CMul i j):IntMulOk i j:=by
 rcases h with ⟨h1,h2⟩ | ⟨h1,h2⟩
 ·exact .of_left (intBits_le_64 h1 h2)
 ·exact .of_right (intBits_le_64 h1 h2)
theorem op_add:OpR X (binaryOp .Add) (rI0 fun i j=>.int (i+j)):=yu fun _ _ _ _ _ _ _ q=>add_int q
theorem uf:OpR X (binaryOp .Sub) (rI0 fun i j=>.int (i-j)):=yu fun _ _ _ _ _ _ _ q=>sub_int q
theorem op_mul:OpR X (binaryOp .Mult) (rI CMul fun i j=>.int (i * j)):=opI fun _ _ _ _ _ _ _ hc q=>mul_int q hc.ok
theorem oK:OpR X (binaryOp .FloorDiv) (rI vf fun i j=>.int (i / j)):=opI fun i j _ _ _ _ _ hc q=>by
 have h1:(0:Int) < j:=hc.1
 have h2:j < 1073741824:=hc.2
 exact floordiv_int (by omega) (by rw [Int.fdiv_eq_ediv_of_nonneg i (by omega)]; exact q) (.inl (PyProof.noPylong_small (by omega)))
theorem vj:OpR X (binaryOp .Mod) (rI (fun _ j=>0 < j) fun i j=>.int (i % j)):=opI fun i j _ _ _ _ _ hc q=>by
 have h1:(0:Int) < j:=hc
 exact mod_int' (by omega) (by rw [Int.fmod_eq_emod_of_nonneg i (by omega)]; exact q)
theorem unI {f:Value->Sem Value}{g:Int->Int}
  (rule:∀ (i:Int) (t:Tok) (s:Shared) (Q:Value->Shared->Prop) (E:Value->Shared->Prop),Q (.int (g i) s.toks) { s with toks:=s.toks+1 }->wpAny (model X.prog X.w) X.A (f (.int i t)) Q E s) :
  UnR X f (rU fun i=>.int (g i)):=by
 intro pins s σ H x v Q I rx h
 obtain ⟨i,rfl,q⟩:=h
 obtain ⟨t,rfl⟩:=rx
 exact rule i t s _ _ ⟨.int (g i),H,I.tok _,⟨_,rfl⟩,q⟩
theorem lV:UnR X (unaryOp .USub) (rU fun i=>.int (-i)):=unI fun _ _ _ _ _ q=>neg_int q
end
section
variable {X:Cx}{a b c:Expr}{ta tb tc:TE}{pos:Pos}
theorem sy {pins:List (Addr×Obj)}{σ:St}{H:Hp}{s:Shared}{Q:VK}{k k':Bool}(I:Inv X pins σ H s)(q:Q (.bl k) H)(e:k=k'):EP X pins σ Q (.bool k') s:=by
 subst e
 exact ⟨.bl k,H,I,rfl,q⟩
theorem yb:OpR X (compareOp .Lt) (rI0 fun i j=>.bl (decide (i < j))):=t6 fun _ _ _ _ _ _ _ q=>lt_int q
theorem yT:OpR X (compareOp .Gt) (rI0 fun i j=>.bl (decide (j < i))):=t6 fun _ _ _ _ _ _ _ q=>gt_int q
theorem yg:OpR X (compareOp .GtE) (rI0 fun i j=>.bl (decide (j<=i))):=t6 fun _ _ _ _ _ _ _ q=>ge_int q
theorem uJ:OpR X (compareOp .Is) (fun x y H Q=>y=.non/\Q (.bl (decide (x=.non))) H):=by
 intro pins s σ H x y v u Q I rx ry h
 obtain ⟨rfl,q⟩:=h
 cases ry
 refine is_none_gen (sy I q ?_)
 cases x<;>first
  | (cases rx; rfl)
  | (obtain ⟨t,rfl⟩:=rx; rfl)
theorem OpR.or {f:Value->Value->Sem Value}{r r':R2}(h:OpR X f r)(h':OpR X f r'):OpR X f (fun x y H Q=>r x y H Q\/r' x y H Q):=by
 intro pins s σ H x y v u Q I rx ry q
 rcases q with q | q
 ·exact h pins s σ H x y v u Q I rx ry q
 ·exact h' pins s σ H x y v u Q I rx ry q
theorem cj (b:Expr){op:CmpOp}(h:op≠.In:=by decide)(h2:op≠.NotIn:=by decide):behindInMarks op b=false:=by
 have e1:(op==CmpOp.In)=false:=by cases op<;>first | rfl | exact absurd rfl h
 have e2:(op==CmpOp.NotIn)=false:=by cases op<;>first | rfl | exact absurd rfl h2
 cases b<;>simp [behindInMarks,e1,e2]
theorem oV {op:CmpOp}{r:R2}(ho:OpR X (compareOp op) r)(ha:PE X a ta)(hb:PE X b tb)(hm:behindInMarks op b=false):PE X (.Compare a [op] [b] pos) (tOp r ta tb):=by
 intro pins s σ H Q I h
 exact wpAny_Compare1 (uy ha hb I h fun v u s2 x y H2 I2 rx ry q=>ho pins s2 σ H2 x y v u Q I2 rx ry q) hm
noncomputable def qX (t:TE):TT:=fun σ H Q=>t σ H fun x H'=>∃ k,x=.bl k/\Q k H'
theorem iW {op:CmpOp}{r:R2}(ho:OpR X (compareOp op) r)(ha:PE X a ta)(hb:PE X b tb)(hm:behindInMarks op b=false):PT X (.Compare a [op] [b] pos) (qX (tOp r ta tb)):=by
 intro pins s σ H Q I h
 refine wpAny_isTrue_Compare1 (thn (ha pins s σ H _ I h) fun v s1 ⟨x,H1,I1,r1,q1⟩=>thn (hb pins s1 σ H1 _ I1 q1) fun u s2 ⟨y,H2,I2,r2,q2⟩ =>
  thn (ho pins s2 σ H2 x y v u _ I2 r1 r2 q2) fun c s3 ⟨z,H3,I3,r3,k,e,q3⟩=>?_) hm
 subst e
 cases r3
 exact wpAny_truthy_bool ⟨H3,I3,q3⟩
noncomputable def ue (K:a0a)(x:V)(H:Hp)(k:Bool):Prop :=
 match x with
 | .non=>k=false
 | .bl b=>k=b
 | .int i=>k=(i != 0)
 | .str y=>y.length<=sizeLine/\k=((y.length:Int) != 0)
 | .byt y=>y.size<=sizeLine/\k=((y.size:Int) != 0)
 | .ref p=>(∃ xs,SqL K H p xs/\k=!xs.isEmpty)\/(∃ xs,SqT K H p xs/\k=!xs.isEmpty)\/∃ kvs,H p=some (.dK kvs)/\k=!kvs.isEmpty
 | _=>False
theorem iD {κ:Type}{kvs:List (κ×V)}{vs:List (κ×Value)}(r:KV kvs vs):(!vs.isEmpty)=!kvs.isEmpty:=by
 cases r<;>rfl
theorem dG {xs:List V}{its:List Value}(r:Vals xs its):(!its.toArray.isEmpty)=!xs.isEmpty:=by
 cases r<;>simp
theorem ei:(sizeLine:Nat) < 2 ^ 63:=by rw [sizeLine_eq]; decide
theorem s9:zD X (fun x H Q=>∃ k,ue X.K x H k/\Q k H):=by
 intro pins s σ H x v Q I rx h
 obtain ⟨k,e,q⟩:=h
 have hl:=ei
 have hs:sizeLine=16777216:=sizeLine_eq
 cases x with
 | non =>
  cases rx
  have e':k=false:=e
  subst e'
  exact truthy_none ⟨H,I,q⟩
 | bl b =>
  cases rx
  have e':k=b:=e
  subst e'
  exact wpAny_truthy_bool ⟨H,I,q⟩
 | int i =>
  obtain ⟨t,rfl⟩:=rx
  have e':k=(i != 0):=e
  subst e'
  exact PySem.P.truthy_int ⟨H,I,q⟩
 | str y =>
  obtain ⟨t,rfl⟩:=rx
  obtain ⟨hy,e'⟩:y.length<=sizeLine/\k=((y.length:Int) != 0):=e
  subst e'
  exact PySem.P.truthy_str (by omega) ⟨H,I.tok _,q⟩
 | byt y =>
  obtain ⟨t,rfl⟩:=rx
  obtain ⟨hy,e'⟩:y.size<=sizeLine/\k=((y.size:Int) != 0):=e
  subst e'
  exact PySem.W.truthy_bytes (by omega) ⟨H,I.tok _,q⟩
 | ref p =>
  cases rx
  have e':(∃ xs,SqL X.K H p xs/\k=!xs.isEmpty)\/(∃ xs,SqT X.K H p xs/\k=!xs.isEmpty)\/∃ kvs,H p=some (.dK kvs)/\k=!kvs.isEmpty:=e
  rcases e' with ⟨xs,hx,e'⟩ | ⟨xs,hx,e'⟩ | ⟨kvs,hx,e'⟩
  ·subst e'
   obtain ⟨its,r,pl,hz⟩:=I.list hx
   have hlen:=r.length
   exact wpAny_truthy_list pl.isList (by simp only [a0i]; omega) ⟨H,I.tok _,by rw [dG r]; exact q⟩
  ·subst e'
   obtain ⟨its,r,pl,hz⟩:=I.tuple hx
   have hlen:=r.length
   exact truthy_tuple pl (by simp only [a0i]; omega) ⟨H,I.tok _,by rw [dG r]; exact q⟩
  ·subst e'
   obtain ⟨hz,hS,vs,r,m⟩:kvs.length<=sizeLine/\(p==sysModules)=false/\∃ vs,KV kvs vs/\s.heap.DictOf (aB X.prog X.w) p vs:=I.hok p _ hx
   have hlen:kvs.length=vs.length:=Paired.length r
   exact wpAny_truthy_dict hS m (by omega) ⟨H,I.tok _,by rw [iD r]; exact q⟩
 | _=>exact (show False from e).elim
theorem ny (ha:PE X a ta)(he:∀ whole,isTrue a X.env whole=(do let v <- whole; standAt a.pos; holding [v] (truthy v))) :
  PT X a (fun σ H Q=>ta σ H fun x H'=>∃ k,ue X.K x H' k/\Q k H'):=by
 intro pins s σ H Q I h
 exact isTrue_plain (thn (ha pins s σ H _ I h) fun v s1 ⟨x,H1,I1,r1,q1⟩=>s9 pins s1 σ H1 x v Q I1 r1 q1) (he _)
theorem op_add_str:OpR X (binaryOp .Add) (fun x y H Q=>∃ i j,x=.str i/\y=.str j/\i.length+j.length<=sizeLine/\Q (.str (i++j)) H):=by
 intro pins s σ H x y v u Q I rx ry h
 obtain ⟨i,j,rfl,rfl,hz,q⟩:=h
 obtain ⟨t,rfl⟩:=rx
 obtain ⟨t',rfl⟩:=ry
 exact add_str (fun t' tk=>⟨.str (i++j),H,I.tok _,⟨_,rfl⟩,q⟩) hz
theorem rq {x:V}{us:List Value}(r:Vals [x] us):∃ u,us=[u]/\RelV x u:=by
 cases r with
 | cons r1 r2=>cases r2; exact ⟨_,rfl,r1⟩
theorem rF {x y:V}{us:List Value}(r:Vals [x,y] us):∃ u w',us=[u,w']/\RelV x u/\RelV y w':=by
 cases r with
 | cons r1 r2 =>
  cases r2 with
  | cons r3 r4=>cases r4; exact ⟨_,_,rfl,r1,r3⟩
noncomputable def yd (K:a0a)(x:V)(H:Hp)(n:Nat):Prop :=
 match x with
 | .str y=>y.length<=sizeLine/\n=y.length
 | .byt y=>y.size<=sizeLine/\n=y.size
 | .ref p=>(∃ xs,SqL K H p xs/\n=xs.length)\/∃ xs,SqT K H p xs/\n=xs.length
 | _=>False
theorem mj:er X (.builtin "len") (fun xs H Q=>∃ x n,xs=[x]/\yd X.K x H n/\Q (.int n) H):=by
 intro pins s σ H xs us Q I r h
 obtain ⟨x,n,rfl,e,q⟩:=h
 obtain ⟨u,rfl,rx⟩:=rq r
 have hl:=ei
 have hs:sizeLine=16777216:=sizeLine_eq
 cases x with
 | str y =>
  obtain ⟨t,rfl⟩:=rx
  obtain ⟨hy,e'⟩:y.length<=sizeLine/\n=y.length:=e
  subst e'
  exact len_str (by omega) ⟨.int _,H,I.tok _,⟨_,rfl⟩,q⟩
 | byt y =>
  obtain ⟨t,rfl⟩:=rx
  obtain ⟨hy,e'⟩:y.size<=sizeLine/\n=y.size:=e
  subst e'
  exact PySem.W.len_bytes (by omega) ⟨.int _,H,I.tok _,⟨_,rfl⟩,q⟩
 | ref p =>
  cases rx
  have e':(∃ xs,SqL X.K H p xs/\n=xs.length)\/∃ xs,SqT X.K H p xs/\n=xs.length:=e
  rcases e' with ⟨xs,hx,e'⟩ | ⟨xs,hx,e'⟩
  ·subst e'
   obtain ⟨its,r',pl,hz⟩:=I.list hx
   have hlen:=r'.length
   exact Calls.call_len_list pl.isList (by simp only [a0i]; omega) ⟨.int xs.length,H,I.tok _,⟨_,by simp only [a0i]; rw [hlen]⟩,q⟩
  ·subst e'
   obtain ⟨its,r',pl,hz⟩:=I.tuple hx
   have hlen:=r'.length
   exact len_tuple pl (by simp only [a0i]; omega) ⟨.int xs.length,H,I.tok _,⟨_,by simp only [a0i]; rw [hlen]⟩,q⟩
 | _=>exact (show False from e).elim
end
end L2
namespace L2
open PySem PySem.Spec PyProof.Rows
structure ObjM (h:Heap)(x dx C:Addr)(mA:Str->Option Value):Prop where
 obj:h.get? x=some (a2i C dx)
 ns:h.Ns1 dx mA
 ne:dx≠x
theorem bU {h:Heap}{dx:Addr}{mA:Str->Option Value}(n:h.Ns1 dx mA):∃ od,h.get? dx=some od/\∀ name,a2t name od=some (mA name):=by
 obtain ⟨o,es,ep,ho,hd,hk,_,hm⟩:=n
 refine ⟨o,ho,fun name=>?_⟩
 have e:=hm name
 unfold nsFind findBy at e
 rw [<- a1X] at e
 unfold a2t
 rw [hd]
 dsimp only
 split
 ·rename_i y q
  rw [q] at e
  exact congrArg some e
 ·rename_i q
  rw [q] at e
  have a:es.toList.any (·.refKey)=false:=by
   rw [List.any_eq_false]
   intro y hy
   obtain ⟨z,t,hkey⟩:=hk y (Array.mem_toList_iff.mp hy)
   simp [DictEntry.refKey,hkey]
  have a':¬ es.toList.any (·.refKey)=true:=by rw [a]; exact a0t
  rw [if_neg a']
  exact congrArg some e
theorem ObjM.look {h:Heap}{x dx C:Addr}{mA:Str->Option Value}(I:ObjM h x dx C mA):∃ od,a00 h x (a2i C dx) C (some od)/\∀ name,a2t name od=some (mA name) :=
 let ⟨od,ho,hl⟩:=bU I.ns
 ⟨od,⟨I.obj,rfl,rfl,ho⟩,hl⟩
noncomputable def wK (f:Str)(v:V):List (Str×V)->List (Str×V)
 | []=>[(f,v)]
 | (g,x)::r=>if g=f then (g,v)::r else (g,x)::wK f v r
theorem RelO.some_of {v:V}{o:Option Value}(r:RelO (some v) o):∃ u,o=some u/\RelV v u:=by
 cases o with
 | none=>exact (show False from r).elim
 | some u=>exact ⟨u,rfl,r⟩
theorem j3 {v:V}{u:Value}(r:RelV v u):a2P u=true:=by
 cases v with
 | non=>cases (show u=Value.none from r); rfl
 | bl b=>cases (show u=Value.bool b from r); rfl
 | int i=>obtain ⟨t,e⟩:=(show ∃ t,u=Value.int i t from r); cases e; rfl
 | str x=>obtain ⟨t,e⟩:=(show ∃ t,u=Value.str x t from r); cases e; rfl
 | byt b=>obtain ⟨t,e⟩:=(show ∃ t,u=Value.bytes b t from r); cases e; rfl
 | flt b=>obtain ⟨t,e⟩:=(show ∃ t,u=Value.float b t from r); cases e; rfl
 | ref a=>cases (show u=Value.ref a from r); rfl
 | ty n=>cases (show u=Value.type n from r); rfl
section
variable {P:Program}{w:World}{H H':Hp}{h h':Heap}{a C dx:Addr}{fs fs':List (Str×V)}
theorem pf (hok:HOk P w H h)(e:H a=some (.ins C dx fs)):∃ mA,ObjM h a dx C mA/\(∀ f,RelO (fs.lookup f) (mA f))/\a3n mA (fs.map (·.1))/\fs.length<=1000/\H dx=some (.own a):=by
 obtain ⟨d,z,ne,ob,mA,n,r,q⟩:=(show ObjOk P w H h a (.ins C dx fs) from hok a _ e)
 exact ⟨mA,⟨ob,n,ne⟩,r,q,z,d⟩
end
structure Cls (K:a0a)(C:Addr):Prop where
 pg:a2Q K C Str.empty=true
 hd:a0V K C=true
 po:PySem.W.plainOver K C=true
 sa:a0q K (.ref C) "__setattr__"=some (some (.builtin "object.__setattr__"))
theorem Cls.get {K:a0a}{C:Addr}(c:Cls K C)(f:Str):a2Q K C f=true:=c.pg
section
variable {X:Cx}{pins:List (Addr×Obj)}{σ:St}{H:Hp}{s:Shared}{a C dx:Addr}{fs:List (Str×V)}{f:Str}{v:V}{A:Around}{E:Value->Shared->Prop}
theorem nW {prog:Program}{w:World}{env:Env}{e:Expr}{f:Str}{pos:Pos}{s:Shared}{Q:Value->Shared->Prop}(hb:attributeBase e f env (eval e env)=eval e env)
  (h:wpAny (model prog w) A (eval e env) (fun o s₁=>wpAny (model prog w) A (getAttr o f true) Q E s₁) E s):wpAny (model prog w) A (eval (.Attribute e f pos) env) Q E s :=
 Attribute_any_ h (by rw [arm_eval_Attribute,hb])
end
section
variable {X:Cx}{pins:List (Addr×Obj)}{σ:St}{H:Hp}{s:Shared}{A:Around}{E:Value->Shared->Prop}{Q:Value->Shared->Prop}{c:Value}{b:Bool}
inductive de (K:a0a)(H:Hp):V->Value->Prop where
 | non:de K H .non (.type "NoneType")
 | bl (x:Bool):de K H (.bl x) (.type "bool")
 | int (i:Int):de K H (.int i) (.type "int")
 | str (x:Str):de K H (.str x) (.type "str")
 | flt (x:UInt64):de K H (.flt x) (.type "float")
 | lst {a:Addr} {xs:List V} (e:H a=some (.lst xs)):de K H (.ref a) (.type "list")
 | frz {a:Addr} {o:Obj} {xs:List V} (e:H a=some (.frz o (.lst xs))):de K H (.ref a) (.type "list")
 | tup {a:Addr} {xs:List V} (e:H a=some (.tup xs)):de K H (.ref a) (.type "tuple")
 | dK {a:Addr} {kvs:List (Key×V)} (e:H a=some (.dK kvs)):de K H (.ref a) (.type "dict")
 | dT {a:Addr} {kvs:List (List Key×V)} (e:H a=some (.dT kvs)):de K H (.ref a) (.type "dict")
 | ins {a C dx:Addr} {fs:List (Str×V)} (e:H a=some (.ins C dx fs)) (cl:Cls K C) (ha:a0q K (.ref C) "__class__"=some (some (.builtin "object.__class__")))
   (hn:a1b K (.builtin "object.__class__") "__get__"=some (some (.builtin "getset_descriptor.__get__"))) (htk:a1x K (.builtin "object.__class__")=some true)
   (hm:a1y K C (.type "object")=some true):de K H (.ref a) (.ref C)
theorem jn {x:V}{u t:Value}(I:Inv X pins σ H s)(rx:RelV x u)(ty:de X.K H x t)(e:a0O X.K t c=some b)(h:∀ tk,Q (.bool b) { s with toks:=tk }) :
  wpAny (model X.prog X.w) A (call (.builtin "isinstance") [u,c]) Q E s:=by
 cases ty with
 | non=>cases (show u=Value.none from rx); exact a0J a2H I.kIn a03 e (fun z=>nomatch z) h
 | bl y=>cases (show u=Value.bool y from rx); exact a0J PySem.W.kitx_bool I.kIn a03 e (fun z=>nomatch z) h
 | int i=>obtain ⟨t,q⟩:=(show ∃ t,u=Value.int i t from rx); cases q; exact a0J PySem.W.kitx_int I.kIn a03 e (fun z=>nomatch z) h
 | str y=>obtain ⟨t,q⟩:=(show ∃ t,u=Value.str y t from rx); cases q; exact a0J PySem.W.kitx_str I.kIn a03 e (fun z=>nomatch z) h
 | flt y=>obtain ⟨t,q⟩:=(show ∃ t,u=Value.float y t from rx); cases q; exact a0J PySem.W.kitx_float I.kIn a03 e (fun z=>nomatch z) h
 | @lst a xs ea =>
  cases (show u=Value.ref a from rx)
  obtain ⟨_,_,n,_,h1⟩:=(show ObjOk X.prog X.w H s.heap a (.lst xs) from I.hok a _ ea)
  exact a0J a2I I.kIn ⟨_,h1,rfl⟩ e (fun z=>nomatch z) h
 | @frz a ob xs ea =>
  cases (show u=Value.ref a from rx)
  obtain ⟨_,_,_,n,_,h1⟩:=(show ObjOk X.prog X.w H s.heap a (.frz ob (.lst xs)) from I.hok a _ ea)
  exact a0J a2I I.kIn ⟨_,h1,rfl⟩ e (fun z=>nomatch z) h
 | @tup a xs ea =>
  cases (show u=Value.ref a from rx)
  obtain ⟨_,_,_,p⟩:=(show ObjOk X.prog X.w H s.heap a (.tup xs) from I.hok a _ ea)
  obtain ⟨o,h1,h2,_⟩:=p
  exact a0J PySem.W.kitx_tuple I.kIn ⟨o,h1,h2⟩ e (fun z=>nomatch z) h
 | @dK a kvs ea =>
  cases (show u=Value.ref a from rx)
  obtain ⟨_,_,vs,_,p⟩:=(show ObjOk X.prog X.w H s.heap a (.dK kvs) from I.hok a _ ea)
  obtain ⟨o,es,ep,h1,h2,_⟩:=p
  exact a0J a2J I.kIn ⟨o,h1,h2.1⟩ e (fun z=>nomatch z) h
 | @dT a kvs ea =>
  cases (show u=Value.ref a from rx)
  obtain ⟨_,_,xs,_,o,es,ep,h1,h2,_⟩:=(show ObjOk X.prog X.w H s.heap a (.dT kvs) from I.hok a _ ea)
  exact a0J a2J I.kIn ⟨o,h1,h2.1⟩ e (fun z=>nomatch z) h
 | @ins a C dx fs ea cl ha hn htk hm =>
  cases (show u=Value.ref a from rx)
  obtain ⟨mA,O,_⟩:=pf I.hok ea
  obtain ⟨od,J,_⟩:=O.look
  exact a0J (PySem.W.kitx_own (cl.get _) cl.hd ha hn htk hm) I.kIn J e (fun z=>nomatch z) h
end
end L2
namespace L2
open PySem PySem.Spec PyProof.Rows
structure Room (k:Nat)(A:Around):Prop where
 hd:A.handled=none
 dp:A.depth+3 * k+5 < recursionLimit
 un:A.units+16 * k+200 < cLine
 gu:A.guards=some []
theorem Room.deeper {k:Nat}{A:Around}(r:Room (k+1) A)(env:Env):Room k (A.deeper env) :=
 ⟨r.hd,by have:=r.dp; show A.depth+1+3 * k+5 < _; omega,by have:=r.un; show A.units+3+16 * k+200 < _; omega,r.gu⟩
theorem g7 {A:Around}{C:Addr}{us:List Value}{kw:List (Str×Value)}:(A.under (.builtin "type.__call__" ⟨.ref C::us,kw⟩)).depth=A.depth+1:=by
 first | rfl | simp [Around.under,Code.weight,Code.isCreation,Code.isGuard,Code.isCaller,Code.frames,Code.isFrame,guardIds]
theorem ic {A:Around}{C:Addr}{us:List Value}{kw:List (Str×Value)}:(A.under (.builtin "type.__call__" ⟨.ref C::us,kw⟩)).units=A.units+1:=by
 first | rfl | simp [Around.under,Code.cUnits,Code.frames,Code.isFrame]
theorem make_guards {A:Around}{C:Addr}{us:List Value}{kw:List (Str×Value)}:(A.under (.builtin "type.__call__" ⟨.ref C::us,kw⟩)).guards=A.guards:=by
 first | rfl | simp [Around.under,Code.isGuard,guardIds]
theorem Room.make {k:Nat}{A:Around}(r:Room (k+1) A)(C:Addr)(us:List Value)(kw:List (Str×Value)):Room k (A.under (.builtin "type.__call__" ⟨.ref C::us,kw⟩)) :=
 ⟨r.hd,by have:=r.dp; rw [g7]; omega,by have:=r.un; rw [ic]; omega,make_guards.trans r.gu⟩
theorem Room.depth {k:Nat}{A:Around}(r:Room k A):A.depth < recursionLimit:=by have:=r.dp; omega
theorem Room.units {k:Nat}{A:Around}(r:Room k A):A.units+64 < cLine:=by have:=r.un; omega
noncomputable def sD:TA:=fun _ H Q=>Q [] H
noncomputable def mi (ta:TE)(tr:TA):TA:=fun σ H Q=>ta σ H fun x H1=>tr σ H1 fun xs H2=>Q (x::xs) H2
section
variable {X:Cx}{e:Expr}{es:List Expr}{te:TE}{t:TA}{pos:Pos}
theorem bM:PA X [] sD:=fun _ _ _ _ H Q I h=>Calls.spliced_nil ⟨[],H,I,.nil,h⟩
theorem aN (ha:PE X e te)(hr:PA X es t)(hs:starEach (e::es) X.env=(false,eval e X.env)::starEach es X.env:=by rfl):PA X (e::es) (mi te t):=by
 intro pos pins s σ H Q I h
 rw [hs]
 show wpAny _ _ (spliced ((false,eval e X.env)::backTo pos (starEach es X.env))) _ _ s
 refine Calls.spliced_cons (thn (ha pins s σ H _ I h) fun u s1 ⟨x,H1,I1,r1,q1⟩=>?_)
 exact thn (hr pos pins s1 σ H1 _ I1 q1) fun us s2 ⟨xs,H2,I2,r2,q2⟩=>⟨x::xs,H2,I2,.cons r1 r2,q2⟩
noncomputable def wO (t:TA):TE:=fun σ H Q=>t σ H fun xs H1=>xs.length<=sizeLine/\∀ p,H1 p=none->Q (.ref p) (upd H1 p (.tup xs))
noncomputable def xO (t:TA):TE:=fun σ H Q=>t σ H fun xs H1=>xs.length<=sizeLine/\∀ p,H1 p=none->Q (.ref p) (upd H1 p (.lst xs))
theorem nr {x1}(h:PA X es t):PE X (.Tuple es x1 pos) (wO t):=by
 intro pins s σ H Q I hq
 refine wpAny_Tuple_spliced (thn (h pos pins s σ H _ I hq) fun us s1 ⟨xs,H1,I1,r,z,q⟩=>⟨by rw [<- r.length]; exact z,?_⟩)
 have hf:H1 s1.heap.objs.size=none:=I1.hok.fresh (a0m _)
 refine ⟨.ref s1.heap.objs.size,upd H1 s1.heap.objs.size (.tup xs),I1.laid (t':=s1.toks) (fun b u e=>Heap.get?_push_of_some _ e) (a0m _) ?_,rfl,q _ hf⟩
 exact ⟨z,us,r,⟨_,Heap.get?_push_size _ rfl,rfl,_,rfl⟩⟩
theorem vP (h:PA X es t):PE X (.List es pos) (xO t):=by
 intro pins s σ H Q I hq
 refine wpAny_List_spliced (thn (h pos pins s σ H _ I hq) fun us s1 ⟨xs,H1,I1,r,z,q⟩=>⟨by rw [<- r.length]; exact z,?_⟩)
 have hf:H1 s1.heap.objs.size=none:=I1.hok.fresh (a0m _)
 refine ⟨.ref s1.heap.objs.size,upd H1 s1.heap.objs.size (.lst xs),I1.laid (t':=s1.toks) (fun b u e=>Heap.get?_push_of_some _ e) (a0m _) ?_,rfl,q _ hf⟩
 exact ⟨z,us,0,r,Heap.get?_push_size _ rfl⟩
end
noncomputable abbrev Sp:=List V->Hp->VK->XK->Prop
noncomputable abbrev CXT:=List Env->Hp->Shared->XK->Value->Shared->Prop
structure Env0 (P:Program)(w:World)(K:a0a)(mg:Str->Option Value)(base:Heap)(A:Around)(outer:List Env)(s:Shared)(H:Hp):Prop where
 frames:A.frames=some outer
 mod:Mod K mg base
 bs:∀ b o,base.get? b=some o->s.heap.get? b=some o/\H b=none
 bsz:base.objs.size<=s.heap.objs.size
 funs:s.heap.FunFrames base outer
 frf:∀ b∈frs outer,H b=none
 hok:HOk P w H s.heap
 bare:AllBare s.gens
noncomputable def CE (outer:List Env)(P:Program)(w:World)(H:Hp)(s:Shared)(Q:VK)(u:Value)(s':Shared):Prop :=
 ∃ v H',s'.os=s.os/\AllBare s'.gens/\Un (frs outer) [] H H' s.heap s'.heap/\HOk P w H' s'.heap/\RelV v u/\Q v H'
noncomputable def CR (CX:CXT)(outer:List Env)(P:Program)(w:World)(H:Hp)(s:Shared)(Q:VK)(E:XK)(r:Result)(s':Shared):Prop :=
 match r with
 | .ok (.ret u)=>CE outer P w H s Q u s'
 | .ok _=>False
 | .error e=>CX outer H s E e s'
structure ba (P:Program)(w:World)(K:a0a)(mg:Str->Option Value)(base:Heap)(CX:CXT)(k:Nat)(f:Addr)(fd:FuncData)(ps:List Str)(sp:Sp):Prop where
 len:∀ vs H Q E,sp vs H Q E->vs.length=ps.length
 run:∀ (A:Around) (outer:List Env) (s:Shared) (H:Hp) (args:Args) (us:List Value) (vs:List V) (Q:VK) (E:XK),Room k A->Env0 P w K mg base A outer s H->BindsTo s fd args (ps.zip us)->Vals vs us->sp vs H Q E ->
  codeAny (model P w) A (.call (.ref f) args) (CR CX outer P w H s Q E) s
theorem Env0.make {P:Program}{w:World}{K:a0a}{mg:Str->Option Value}{base:Heap}{A:Around}{outer:List Env}{s:Shared}{H:Hp}(e:Env0 P w K mg base A outer s H)(C:Addr)(us:List Value)(kw:List (Str×Value)) :
  Env0 P w K mg base (A.under (.builtin "type.__call__" ⟨.ref C::us,kw⟩)) outer s H:=⟨by first | exact e.frames | (simpa [Around.under,Code.envs,Code.isFrame,pushEnvs] using e.frames),e.mod,e.bs,e.bsz,e.funs,e.frf,e.hok,e.bare⟩
section
variable {X:Cx}{pins:List (Addr×Obj)}{σ:St}{H:Hp}{s s':Shared}
theorem Inv.env0 (I:Inv X pins σ H s):Env0 X.prog X.w X.K X.mg X.base X.A X.stack s H :=
 ⟨I.ok.frames,I.ok.mod,I.bs,a0n I.ok.bsz I.sz,I.stack,I.stkFree,I.hok,I.bare⟩
theorem Inv.after {Q:VK}{u:Value}(I:Inv X pins σ H s)(h:CE X.stack X.prog X.w H s Q u s'):EP X pins σ Q u s':=by
 obtain ⟨v,H',os,bare,un,hok,r,q⟩:=h
 obtain ⟨hh,g,d,t,os'⟩:=s'
 obtain rfl:os'=s.os:=os
 exact ⟨v,H',I.call (h':=hh) (g':=g) (d':=d) (t':=t) (ch:=[]) un hok bare (fun b z=>absurd z (by simp)),r,q⟩
end
noncomputable def ze (sp:Sp)(dvs:List V)(E:XK)(t:TA):TE:=fun σ H Q=>t σ H fun vs H1=>sp (vs++dvs) H1 Q E
noncomputable def Binds (K:a0a)(fd:FuncData)(ps:List Str)(ds:List Value):Prop :=
 ∀ (s:Shared) (us:List Value),K.In s.heap->(us++ds).length=ps.length->BindsTo s fd ⟨us,[]⟩ (ps.zip (us++ds))
theorem Binds.all {K:a0a}{fd:FuncData}{ps:List Str}(h:∀ us:List Value,us.length=ps.length->bindArgs fd ⟨us,[]⟩=pure (ps.zip us)):Binds K fd ps []:=fun s us _ hl=>by
 rw [a0F] at hl ⊢
 exact .of_eq (h us hl)
noncomputable def dQ (CX:CXT)(X:Cx)(E:XK):Prop:=∀ (pins:List (Addr×Obj)) (σ:St) (H:Hp) (s:Shared) (e:Value) (s':Shared),Inv X pins σ H s->CX X.stack H s E e s'->X.xe e s'
section
variable {X:Cx}{CX:CXT}{k:Nat}{f C:Addr}{fd:FuncData}{ps:List Str}{sp:Sp}{dvs:List V}{ds:List Value}{E:XK}{x m:Str}{p pos apos:Pos}{e o:Expr}{es:List Expr}{ta:TE}{t:TA}
theorem uD {pins:List (Addr×Obj)}{σ:St}{H:Hp}{s:Shared}{Q:VK}{us:List Value}{vs:List V}(F:ba X.prog X.w X.K X.mg X.base CX k f fd ps sp)(hr:Room k X.A)(hb:Binds X.K fd ps ds)(hd:Vals dvs ds)(hx:dQ CX X E)
  (I:Inv X pins σ H s) (r:Vals vs us) (h:sp (vs++dvs) H Q E):wpAny (model X.prog X.w) X.A (call (.ref f) us) (EP X pins σ Q) X.xe s:=by
 have r2:Vals (vs++dvs) (us++ds):=r.append hd
 have hl:(us++ds).length=ps.length:=by rw [<- r2.length]; exact F.len _ _ _ _ h
 refine wpAny_call (codeAny_mono (F.run X.A X.stack s H ⟨us,[]⟩ (us++ds) (vs++dvs) Q E hr I.env0 (hb s us I.kIn hl) r2 h) fun r s' hq=>?_)
 cases r with
 | error e=>exact hx pins σ H s e s' I hq
 | ok fl =>
  cases fl with
  | ret u=>exact I.after hq
  | next=>exact a0N hq
  | brk=>exact a0N hq
  | cont=>exact a0N hq
theorem pH (F:ba X.prog X.w X.K X.mg X.base CX k f fd ps sp)(hr:Room k X.A)(hg:Gl X x)(hm:X.mg x=some (.ref f))(hk:a09 X.K (.ref f)=true)(hb:Binds X.K fd ps ds)(hd:Vals dvs ds)(hx:dQ CX X E)
  (ha:PA X (e::es) t) (hdb:(x==("__debug__":Str))=false:=by decide) (he:starEach (e::es) X.env=(false,eval e X.env)::starEach es X.env:=by rfl) (hpl:(backTo pos (starEach es X.env)).any (·.1)=false:=by rfl) :
  PE X (.Call (.Name x p) (e::es) [] pos) (ze sp dvs E t):=by
 intro pins s σ H Q I h
 refine wpAny_Call_Name_kw (bS I hg hm ?_ hdb)
 refine a1Y (h₀:=X.base) I.ok.mod.kin hk (thn (ha pos pins s σ H _ I h) fun us s1 ⟨vs,H1,I1,r,q⟩=>⟨I1.kIn,?_⟩) he hpl
 exact uD F hr hb hd hx I1 r q
end
structure az (N P:List Str)(sc:Scope):Prop where
 kind:sc.kind=.function
 co:sc.isCoroutine=false
 gen:sc.isGenerator=false
 nd:N.Nodup
 pre:N.take P.length=P
 par:∀ x∈P,sc.names.lookup x=some .local\/sc.names.lookup x=some .cell
 nofree:∀ y∈sc.names,y.2≠.free
theorem eD {kindOf:Str->Option NameKind}{x:Str}:∀ {binds:List (Str×Value)} {m:Str->Option Value},(∀ v,(x,v) ∉ binds)->bindL kindOf binds m x=m x
 | [],_,_=>rfl
 | (n,v)::r,m,h=>by
  unfold bindL
  rw [eD fun w hw=>h w (a0e _ hw)]
  split
  ·have:x≠n:=by rintro rfl; exact h v a0c
   simp [this]
  ·rfl
theorem eu {kindOf:Str->Option NameKind}{x:Str}:∀ {binds:List (Str×Value)} {m:Str->Option Value},(∀ v,(x,v) ∉ binds)->bindC kindOf binds m x=m x
 | [],_,_=>rfl
 | (n,v)::r,m,h=>by
  unfold bindC
  rw [eu fun w hw=>h w (a0e _ hw)]
  split
  ·rfl
  ·have:x≠n:=by rintro rfl; exact h v a0c
   simp [this]
theorem eO {kindOf:Str->Option NameKind}{x:Str}{v:Value}:∀ {P:List Str} {vs:List Value} {i:Nat} {m:Str->Option Value},P.Nodup->P[i]?=some x->vs[i]?=some v->kindOf x=some .local ->
  bindL kindOf (P.zip vs) m x=some v
 | [],_,_,_,_,h,_,_=>by simp at h
 | _::_,[],_,_,_,_,h,_=>by simp at h
 | p::P,w::vs,0,m,nd,h1,h2,hk=>by
  simp at h1 h2; subst h1; subst h2
  show bindL kindOf ((p,w)::P.zip vs) m p=_
  unfold bindL
  rw [eD fun v hv=>(a1m.mp nd).1 (a2k hv).1,if_pos hk]
  simp
 | p::P,w::vs,i+1,m,nd,h1,h2,hk=>by
  show bindL kindOf ((p,w)::P.zip vs) m x=_
  unfold bindL
  exact eO (i:=i) (a1m.mp nd).2 (by simpa using h1) (by simpa using h2) hk
theorem eN {kindOf:Str->Option NameKind}{x:Str}{v:Value}:∀ {P:List Str} {vs:List Value} {i:Nat} {m:Str->Option Value},P.Nodup->P[i]?=some x->vs[i]?=some v->kindOf x≠some .local ->
  bindC kindOf (P.zip vs) m x=some v
 | [],_,_,_,_,h,_,_=>by simp at h
 | _::_,[],_,_,_,_,h,_=>by simp at h
 | p::P,w::vs,0,m,nd,h1,h2,hk=>by
  simp at h1 h2; subst h1; subst h2
  show bindC kindOf ((p,w)::P.zip vs) m p=_
  unfold bindC
  rw [eu fun v hv=>(a1m.mp nd).1 (a2k hv).1,if_neg hk]
  simp
 | p::P,w::vs,i+1,m,nd,h1,h2,hk=>by
  show bindC kindOf ((p,w)::P.zip vs) m x=_
  unfold bindC
  exact eN (i:=i) (a1m.mp nd).2 (by simpa using h1) (by simpa using h2) hk
noncomputable def start (N:List Str)(vs:List V):St:=vs.map some++a0f (N.length-vs.length) none
noncomputable def cJ (CX:CXT)(P:Program)(w:World)(K:a0a)(mg:Str->Option Value)(base:Heap)(N:List Str)(qual:Str)(scope:Scope)(f:Addr)(cd:Value)(A:Around)(outer:List Env)(s:Shared)(H:Hp)(E:XK):Cx where
 prog:=P
 w:=w
 K:=K
 mg:=mg
 base:=base
 A:=A.deeper (envOfC qual scope s.heap.objs.size f cd)
 N:=N
 s₀:=s
 H₀:=H
 env:=envOfC qual scope s.heap.objs.size f cd
 outer:=outer
 stack:=envOfC qual scope s.heap.objs.size f cd::outer
 ex:=[]
 calm:=true
 fn:=fun _=>true
 pn:=[]
 xe:=fun e s'=>wpAny (model P w) (A.deeper (envOfC qual scope s.heap.objs.size f cd)) (leaving (envOfC qual scope s.heap.objs.size f cd) e) (fun _ s''=>CX outer H s E e s'') (fun e' s''=>CX outer H s E e' s'') s'
theorem gz {sc:Scope}{n:Nat}{x:Str}(h:sc.names.lookup x=some .cell):∃ c,(cellsFrom n sc.names []).lookup x=some c:=by
 have q:=a2d sc.names n [] (.inl h)
 exact Option.isSome_iff_exists.mp q
theorem jN {CX:CXT}{P:Program}{w:World}{K:a0a}{mg:Str->Option Value}{base:Heap}{N ps:List Str}{qual:Str}{scope:Scope}{f:Addr}{cd:Value}{A:Around}{outer:List Env}{s s1:Shared}{H:Hp}{E:XK}{us:List Value}{vs:List V}
  (S:az N ps scope) (hd:A.handled=none) (e0:Env0 P w K mg base A outer s H) (hl:vs.length=ps.length) (r:Vals vs us)
  (x:InCallC s s.heap.objs.size (bindL (envOfC qual scope s.heap.objs.size f cd).kindOf (ps.zip us) fun _=>none) (cellsFrom (s.heap.objs.size+1) scope.names []) (bindC (envOfC qual scope s.heap.objs.size f cd).kindOf (ps.zip us) fun _=>none) s1) :
  Inv (cJ CX P w K mg base N qual scope f cd A outer s H E) [] (start N vs) H s1:=by
 have hpl:ps.length<=N.length:=by have:=congrArg a2v S.pre; rw [a0w] at this; omega
 obtain ⟨h1,tk,rfl,hk⟩:=x.done
 have noA:∀ b:Addr,b ∉ (cJ CX P w K mg base N qual scope f cd A outer s H E).ex:=fun b z=>absurd (show b∈([]:List Addr) from z) (by simp)
 refine ⟨⟨e0.mod,S.kind,rfl,rfl,a0m _,fun y z c h1 h2=>?_,fun y hy=>?_,fun y c _ h=>?_,fun _=>hd,Around.frames_deeper e0.frames,.inr ⟨rfl,rfl⟩,fun b z=>absurd z (noA b),e0.bs,e0.bsz,fun b _ _=>noA b,fun b z=>absurd z (noA b),e0.funs,e0.frf⟩,
  rfl,e0.bare,Un.kept hk,⟨_,x.toInCall.ns,fun i y v h1 h2 h3=>?_⟩,fun y c h=>⟨_,x.cell y c h⟩,e0.hok.fresh (a0m _),fun y c h=>?_,fun p hp=>absurd (show p∈([]:List (Addr×Obj)) from hp) (by simp),e0.hok.kept hk,?_⟩
 ·exact name_of_addr x.apart (a1h h1) (a1h h2)
 ·have hy:scope.names.lookup y=some .cell\/scope.names.lookup y=some .free:=hy
  rcases hy with hy | hy
  ·exact gz hy
  ·exact absurd rfl (S.nofree _ (a1h hy))
 ·exact a2j (x.above y c (a1h h))
 ·have hi:i < vs.length:=by
   unfold start at h2
   by_cases hi:i < vs.length
   ·exact hi
   ·rw [List.getElem?_append_right (by simpa using hi)] at h2
    rw [List.getElem?_replicate] at h2
    split at h2<;>cases h2
  have ha:vs[i]?=some v:=by
   unfold start at h2
   rw [a10 (by simpa using hi),a0A] at h2
   cases e:vs[i]? with
   | none=>rw [e] at h2; cases h2
   | some a=>rw [e] at h2; cases h2; rfl
  obtain ⟨u,hu,rv⟩:=r.get ha
  have hp:ps[i]?=some y:=by
   rw [<- S.pre,List.getElem?_take_of_lt (by omega)]; exact h1
  have ndP:ps.Nodup:=by rw [<- S.pre]; exact S.nd.sublist (List.take_sublist _ _)
  refine ⟨u,rv,?_⟩
  rcases S.par y (a2q hp) with k | k
  ·exact .inl ⟨k,eO ndP hp hu k⟩
  ·obtain ⟨c,e⟩:=gz (n:=s.heap.objs.size+1) k
   refine .inr ⟨.inl k,c,e,?_⟩
   have q:=x.cell y c e
   rw [eN ndP hp hu (by show scope.names.lookup y≠_; rw [k]; decide)] at q
   exact q
 ·exact e0.hok.fresh (a2j (x.above y c (a1h h)))
 ·unfold start
  show _=N.length
  rw [a0d,a0b,a1n]
  omega
theorem rQ {CX:CXT}{P:Program}{w:World}{K:a0a}{mg:Str->Option Value}{base:Heap}{k:Nat}{f:Addr}{name qual:Str}{params:Arguments}{body:List Stmt}{scope:Scope}{dV kV doc pm cdv ct oc:Value}{an od:Option Addr}
  {osl:Array (Option Value)} {N ps:List Str} {sp:Sp} (lk:K.lookup f=some ⟨oc,od,.func (a01 name qual params body scope dV kV doc pm an cdv ct),osl⟩) (hcd:a11 K cdv qual=true) (S:az N ps scope)
  (len:∀ vs H Q E,sp vs H Q E->vs.length=ps.length)
  (hbody:∀ (A:Around) (outer:List Env) (s:Shared) (H:Hp) (vs:List V) (Q:VK) (E:XK),Room k (A.deeper (envOfC qual scope s.heap.objs.size f cdv))->sp vs H Q E ->
   ∃ t,PSs (cJ CX P w K mg base N qual scope f cdv A outer s H E) body t/\t { nx:=fun _ H'=>Q .non H',rt:=Q } (start N vs) H) :
  ba P w K mg base CX (k+1) f (a01 name qual params body scope dV kV doc pm an cdv ct) ps sp:=by
 refine ⟨len,fun A outer s H args us vs Q E hr e0 hb r hsp=>?_⟩
 have hl:=len _ _ _ _ hsp
 have KX:K.In s.heap:=e0.mod.kin.keeps fun b o e=>(e0.bs b o e).1
 have lim:s.heap.NoLimit:=e0.mod.nolimit.keeps fun b o e=>(e0.bs b o e).1
 have hkind:∀ y∈ps.zip us,scope.names.lookup y.1=some .local\/(scope.names.lookup y.1=some .cell/\((cellsFrom (s.heap.objs.size+1) scope.names []).lookup y.1).isSome=true):=fun ⟨n,v⟩ hy=>by
  rcases S.par n (a2k hy).1 with q | q
  ·exact .inl q
  ·exact .inr ⟨q,a2d _ _ _ (.inl q)⟩
 refine codeAny_call_function hr.depth (KX _ _ lk) rfl S.co S.gen rfl (PySem.W.codeRec_of KX hcd) (hb _ _ _ _ ?_)
 refine wpAny_newFunctionEnv_cells S.kind hkind fun env he s1 x=>?_
 subst he
 refine ⟨lim.keeps x.toInCall.keep,codeAny_func ?_⟩
 obtain ⟨t,ht,hq⟩:=hbody A outer s H vs Q E (hr.deeper _) hsp
 have I:Inv (cJ CX P w K mg base N qual scope f cdv A outer s H E) [] (start N vs) H s1:=jN S hr.hd e0 hl r x
 refine wpAny_mono (ht [] s1 (start N vs) H _ I hq) (fun fl s' hs=>?_) fun e s' hs=>hs
 have fin:∀ {σ':St} {H':Hp} {v:V} {u:Value},Inv (cJ CX P w K mg base N qual scope f cdv A outer s H E) [] σ' H' s'->RelV v u->Q v H'->CE outer P w H s Q u s' :=
  fun {σ' H' v u} J rv q=>⟨v,H',J.os,J.bare,J.base,J.hok,rv,q⟩
 cases fl with
 | ret u =>
  obtain ⟨v,σ',H',J,rv,q⟩:=hs
  exact fin J rv q
 | next =>
  obtain ⟨σ',H',J,q⟩:=hs
  exact fin (v:=V.non) (u:=Value.none) J rfl q
 | brk =>
  obtain ⟨_,_,_,q⟩:=hs
  exact a0N q
 | cont =>
  obtain ⟨_,_,_,q⟩:=hs
  exact a0N q
end L2
namespace L2
open PySem PySem.Spec PyProof.Rows
section
variable {X:Cx}{x:Str}{p pos:Pos}{e:Expr}{es:List Expr}{t:TA}{id T:String}{r:List V->Hp->VK->Prop}
noncomputable def tCB (r:List V->Hp->VK->Prop)(t:TA):TE:=fun σ H Q=>t σ H fun vs H1=>r vs H1 Q
theorem dr (hc:er X (.builtin id) r)(hg:Gl X x)(hm:X.mg x=none)(hv:bootBuiltins x=some (.builtin id))(ha:PA X (e::es) t)(hn:x≠"__name__":=by decide)(hdb:(x==("__debug__":Str))=false:=by decide)
  (he:starEach (e::es) X.env=(false,eval e X.env)::starEach es X.env:=by rfl) (hpl:(backTo pos (starEach es X.env)).any (·.1)=false:=by rfl):PE X (.Call (.Name x p) (e::es) [] pos) (tCB r t):=by
 intro pins s σ H Q I h
 refine wpAny_Call_Name_kw (fM I hg hm hv ?_ hn hdb)
 exact a1E (thn (ha pos pins s σ H _ I h) fun us s1 ⟨vs,H1,I1,r1,q1⟩=>hc pins s1 σ H1 vs us Q I1 r1 q1) he hpl
theorem jC (hc:er X (.type T) r)(hg:Gl X x)(hm:X.mg x=none)(hv:bootBuiltins x=some (.type T))(ha:PA X (e::es) t)(hn:x≠"__name__":=by decide)(hdb:(x==("__debug__":Str))=false:=by decide)
  (he:starEach (e::es) X.env=(false,eval e X.env)::starEach es X.env:=by rfl) (hpl:(backTo pos (starEach es X.env)).any (·.1)=false:=by rfl):PE X (.Call (.Name x p) (e::es) [] pos) (tCB r t):=by
 intro pins s σ H Q I h
 refine wpAny_Call_Name_kw (fM I hg hm hv ?_ hn hdb)
 exact a1R (thn (ha pos pins s σ H _ I h) fun us s1 ⟨vs,H1,I1,r1,q1⟩=>hc pins s1 σ H1 vs us Q I1 r1 q1) he hpl
end
end L2
namespace HT
open PySem PyProof.Rows
section
variable {prog:Program}{w:World}{A:Around}{E:Value->Shared->Prop}{s:Shared}
theorem cat_tup {t b:Addr}{vs ws:List Value}{Q:Value->Shared->Prop}(ht:IsTup s.heap t vs.toArray)(hb:IsTup s.heap b ws.toArray)(hv:vs≠[])
  (h1:ws=[]->Q (.ref t) s) (h2:ws≠[]->Q (.ref s.heap.objs.size) { s with heap:=s.heap.push { cls:=.type "tuple",data:=.seq (vs++ws).toArray } })
  (hsz:vs.length+ws.length<=sizeLine):wpAny (model prog w) A (binaryOp .Add (.ref t) (.ref b)) Q E s:=by
 obtain ⟨⟨cls,dd,data,sl⟩,ho,hc,n,hd⟩:=id ht
 obtain ⟨⟨cls2,dd2,data2,sl2⟩,ho2,hc2,n2,hd2⟩:=id hb
 simp only at hc hd hc2 hd2
 subst hc hd hc2 hd2
 have e:vs.toArray++ws.toArray=(vs++ws).toArray:=by simp
 by_cases hw:ws=[]
 ·exact concat_meets ⟨_,ho,rfl⟩ ⟨_,ho2,rfl⟩ noFill_tuple_add seq_tuple_add a2e a18 (a15 _ _)
   (tuple_addW1 t b vs.toArray ws.toArray n n2 dd dd2 sl sl2 (by simpa using hv) (by simp [hw])) ⟨ho,ho2,h1 hw⟩
 ·refine concat_meets ⟨_,ho,rfl⟩ ⟨_,ho2,rfl⟩ noFill_tuple_add seq_tuple_add a2e a18 (a15 _ _)
   (tuple_addW2 t b vs.toArray ws.toArray n n2 dd dd2 sl sl2 (by simpa using hv) (by simpa using hw) (by rw [a0i,a0i]; exact hsz)) ⟨ho,ho2,?_⟩
  rw [e]
  exact h2 hw
noncomputable def sIx (n d:Nat):Option Int->Nat
 | none=>d
 | some v=>if v < 0 then (v+(n:Int)).toNat else min v.toNat n
theorem sG (n d:Nat)(hd:d<=n)(o:Option Int):sIx n d o<=n:=by
 cases o with
 | none=>exact hd
 | some v =>
  show (if v < 0 then (v+(n:Int)).toNat else min v.toNat n)<=n
  by_cases hv:v < 0
  ·rw [if_pos hv]; omega
  ·rw [if_neg hv]; exact a2R _ _
theorem jf (v:Int)(n d:Nat):(if v < 0 then max (v+(n:Int)) 0 else min v (n:Int))=((sIx n d (some v):Nat):Int):=by
 show (if v < 0 then max (v+(n:Int)) 0 else min v (n:Int))=(((if v < 0 then (v+(n:Int)).toNat else min v.toNat n):Nat):Int)
 by_cases hv:v < 0
 ·simp only [if_pos hv]; omega
 ·simp only [if_neg hv]; omega
theorem hZ (lo hi:Option Int)(n:Nat):Builtin.Slice.sliceAdjust lo hi 1 (n:Int)=(((sIx n 0 lo:Nat):Int),((sIx n n hi:Nat):Int)):=by
 have h1:¬ ((1:Int) < 0):=by omega
 unfold Builtin.Slice.sliceAdjust
 simp only [h1,if_false]
 refine Prod.ext ?_ ?_
 ·cases lo with
  | none=>rfl
  | some v=>exact jf v n 0
 ·cases hi with
  | none=>rfl
  | some v=>exact jf v n n
theorem g8 (i j:Nat):Builtin.Slice.slicePlaces (i:Int) (j:Int) 1=j-i:=by
 unfold Builtin.Slice.slicePlaces
 have h1:(1:Int) > 0:=by omega
 simp only [h1,if_true,Int.ediv_one]
 split<;>omega
theorem d7 {v:Value}{o:Option Int}{Q:Option Int->Shared->Prop}(p:IsPart v o)(h:Q o s):wpAny (model prog w) A (Builtin.Slice.slicePartIndex v) Q E s:=by
 cases p with
 | none=>exact slicePart_none h
 | int i t=>exact slicePart_int h
theorem sliceApplied_gen {sl:Addr}{vl vu:Value}{lo hi:Option Int}{n:Nat}{Q:Int×Int×Nat->Shared->Prop}(hs:s.heap.IsSliceOf sl vl vu .none)(pl:IsPart vl lo)(pu:IsPart vu hi)
  (h:Q (((sIx n 0 lo:Nat):Int),1,sIx n n hi-sIx n 0 lo) s):wpAny (model prog w) A (Builtin.Slice.sliceApplied (.ref sl) (pure (n:Int))) Q E s:=by
 obtain ⟨os,hos,hcs,hds⟩:=id hs
 unfold Builtin.Slice.sliceApplied Builtin.Slice.sliceFields
 refine wpAny_bind (wpAny_bind (wpAny_field hos hds (x:=vl) rfl (wpAny_bind (wpAny_field hos hds (x:=vu) rfl (wpAny_bind (wpAny_field hos hds (x:=.none) rfl (wpAny_pure ?_)))))))
 refine wpAny_bind (slicePart_none ?_)
 show wpAny _ _ (if ((1:Int)==0)=true then _ else _) _ _ s
 rw [if_neg (by decide)]
 refine wpAny_bind (d7 pl (wpAny_bind (d7 pu (wpAny_bind (wpAny_pure ?_)))))
 show wpAny _ _ (match Builtin.Slice.sliceAdjust lo hi 1 (n:Int) with | (lo,hi)=>pure (lo,(1:Int),Builtin.Slice.slicePlaces lo hi 1)) _ _ s
 rw [hZ lo hi n]
 show wpAny _ _ (pure (((sIx n 0 lo:Nat):Int),(1:Int),Builtin.Slice.slicePlaces ((sIx n 0 lo:Nat):Int) ((sIx n n hi:Nat):Int) 1)) _ _ s
 rw [g8]
 exact wpAny_pure h
theorem l5 (xs:Array Value)(i k:Nat):((a0X k).filterMap fun (m:Nat)=>xs[((i:Int)+(m:Int) * 1).toNat]?).toArray=((xs.toList.drop i).take k).toArray:=by
 have e:(fun (m:Nat)=>xs[((i:Int)+(m:Int) * 1).toNat]?)=fun m=>xs[i+m]?:=by
  funext m
  have:((i:Int)+(m:Int) * 1).toNat=i+m:=by omega
  rw [this]
 rw [e]
 have:=pick_run xs i k
 rw [List.filterMap_map] at this
 have e2:((fun x=>xs[x]?) ∘ fun x=>i+x)=fun m=>xs[i+m]?:=rfl
 rw [e2] at this
 rw [this]
theorem getItem_tuple_cut {t sl:Addr}{items:Array Value}{vl vu:Value}{lo hi:Option Int}{Q:Value->Shared->Prop}(ht:IsTup s.heap t items)(hs:s.heap.IsSliceOf sl vl vu .none)(pl:IsPart vl lo)(pu:IsPart vu hi)
  (hw:¬ (sIx items.size 0 lo=0/\sIx items.size items.size hi=items.size))
  (h:Q (.ref s.heap.objs.size) { s with heap:=s.heap.push { cls:=.type "tuple",data:=.seq ((items.toList.drop (sIx items.size 0 lo)).take (sIx items.size items.size hi-sIx items.size 0 lo)).toArray } })
  (hsz:items.size<=sizeLine):wpAny (model prog w) A (getItem (.ref t) (.ref sl)) Q E s:=by
 have htake:sizeOk (.seq ((items.toList.drop (sIx items.size 0 lo)).take (sIx items.size items.size hi-sIx items.size 0 lo)).toArray):=by
  show ((items.toList.drop (sIx items.size 0 lo)).take (sIx items.size items.size hi-sIx items.size 0 lo)).toArray.size<=sizeLine
  rw [a0i,a0w,a0z,a0p]
  omega
 have hj:sIx items.size items.size hi<=items.size:=sG _ _ (a0m _) hi
 obtain ⟨os,hos,hcs,hds⟩:=id hs
 have hTs:s.TypeIs (.ref sl) "slice":=⟨os,hos,hcs⟩
 unfold getItem
 try with_reducible refine wpAny_holding ?_
 first | refine wpAny_bind (wpAny_pure ?_) | skip
 refine wpAny_bind (wpAny_sequenceKey ht.typeIs (by decide) ?_)
 refine wpAny_bind (wpAny_callSpecial?_slot (name:=Str.ofString "__getitem__") ht.typeIs a0B
  (wpAny_call_entry a0B ht.typeIs entry_tuple_getitem ?_ (args_tuple_getitem _ _)))
 show wpAny _ _ (Builtin.Tuple.tupleItemsOf (.ref t) >>= _) _ _ s
 refine wpAny_bind (tupleItemsOf_ ht ?_)
 refine wpAny_bind (wpAny_typeOf hTs ?_)
 rw [if_pos (by decide)]
 refine wpAny_bind (sliceApplied_gen hs pl pu ?_)
 have hno:¬ ((((sIx items.size 0 lo:Nat):Int)==0&&(1:Int)==1&&(sIx items.size items.size hi-sIx items.size 0 lo)==items.size)=true):=by
  intro q
  rw [a0h,a0h] at q
  have q1:((sIx items.size 0 lo:Nat):Int)=0:=eq_of_beq q.1.1
  have q2:sIx items.size items.size hi-sIx items.size 0 lo=items.size:=eq_of_beq q.2
  exact hw ⟨by omega,by omega⟩
 show wpAny _ _ (if (((sIx items.size 0 lo:Nat):Int)==0&&(1:Int)==1&&(sIx items.size items.size hi-sIx items.size 0 lo)==items.size)=true then _ else _) _ _ s
 rw [if_neg hno,l5]
 first
  | exact wpAny_bind (m:=Builtin.Tuple.tupleExact _) (wpAny_newObj_type (wpAny_pure ⟨_,rfl,wpAny_pure h⟩) htake)
  | exact wpAny_bind (m:=Builtin.Tuple.tupleExact _) (wpAny_newObj_type (wpAny_bind (wpAny_pure (wpAny_pure ⟨_,rfl,wpAny_pure h⟩))) htake)
  | exact wpAny_bind (wpAny_bind (m:=Builtin.Tuple.tupleExact _) (wpAny_newObj_type (wpAny_pure (wpAny_pure ⟨_,rfl,wpAny_pure h⟩)) htake))
  | exact wpAny_bind (wpAny_bind (m:=Builtin.Tuple.tupleExact _) (wpAny_newObj_type (wpAny_pure ⟨_,rfl,wpAny_pure h⟩) htake))
end
end HT
namespace L2
open PySem PySem.Spec PyProof.Rows
noncomputable abbrev TO:=St->Hp->(Option Int->Hp->Prop)->Prop
noncomputable def PO (X:Cx)(e:Option Expr)(t:TO):Prop :=
 ∀ (pins:List (Addr×Obj)) (s:Shared) (σ:St) (H:Hp) (Q:Option Int->Hp->Prop),Inv X pins σ H s->t σ H Q ->
  wpAny (model X.prog X.w) X.A (evalPart e X.env) (fun u s'=>∃ o H',Inv X pins σ H' s'/\IsPart u o/\Q o H') X.xe s
noncomputable def p9:TO:=fun _ H Q=>Q none H
noncomputable def xJ (t:TE):TO:=fun σ H Q=>t σ H fun x H1=>∃ i,x=.int i/\Q (some i) H1
section
variable {X:Cx}{e:Expr}{te:TE}{lo hi:Option Expr}{tl th:TO}{pos p2:Pos}
theorem ji:PO X none p9:=by
 intro pins s σ H Q I h
 rw [evalPart_none]
 exact wpAny_pure ⟨none,H,I,.none,h⟩
theorem dq (h:PE X e te):PO X (some e) (xJ te):=by
 intro pins s σ H Q I hw
 rw [evalPart_some]
 refine thn (h pins s σ H _ I hw) fun u s1 ⟨x,H1,I1,r1,q1⟩=>?_
 obtain ⟨i,rfl,q⟩:=q1
 obtain ⟨t,rfl⟩:=r1
 exact ⟨some i,H1,I1,.int i t,q⟩
noncomputable def SlR (X:Cx)(r:V->Option Int->Option Int->Hp->VK->Prop):Prop :=
 ∀ (pins:List (Addr×Obj)) (s:Shared) (σ:St) (H:Hp) (x:V) (v vl vu:Value) (lo hi:Option Int) (sl:Addr) (Q:VK),Inv X pins σ H s->RelV x v->s.heap.IsSliceOf sl vl vu .none->IsPart vl lo->IsPart vu hi->r x lo hi H Q ->
  ∃ T id,typeLookup (.type T) "__getitem__"=pure (some (.builtin id))/\s.TypeIs v T/\wpAny (model X.prog X.w) X.A (getItem v (.ref sl)) (EP X pins σ Q) X.xe s
theorem SlR.or {r r':V->Option Int->Option Int->Hp->VK->Prop}(h:SlR X r)(h':SlR X r'):SlR X (fun x lo hi H Q=>r x lo hi H Q\/r' x lo hi H Q):=by
 intro pins s σ H x v vl vu lo hi sl Q I rx hs pl pu q
 rcases q with q | q
 ·exact h pins s σ H x v vl vu lo hi sl Q I rx hs pl pu q
 ·exact h' pins s σ H x v vl vu lo hi sl Q I rx hs pl pu q
noncomputable def tSl (r:V->Option Int->Option Int->Hp->VK->Prop)(te:TE)(tl th:TO):TE:=fun σ H Q=>te σ H fun x H1=>tl σ H1 fun l H2=>th σ H2 fun u H3=>r x l u H3 Q
theorem ee {r:V->Option Int->Option Int->Hp->VK->Prop}(hr:SlR X r)(he:PE X e te)(hl:PO X lo tl)(hu:PO X hi th):PE X (.Subscript e (.Slice lo hi none p2) pos) (tSl r te tl th):=by
 intro pins s σ H Q I h
 refine Subscript_ (thn (he pins s σ H _ I h) fun v s1 ⟨x,H1,I1,r1,q1⟩=>?_)
 refine wpAny_Slice (thn (hl pins s1 σ H1 _ I1 q1) fun vl s2 ⟨l,H2,I2,pl,q2⟩=>thn (hu pins s2 σ H2 _ I2 q2) fun vu s3 ⟨u,H3,I3,pu,q3⟩=>?_)
 rw [evalPart_none]
 refine wpAny_pure ?_
 have I4:Inv X pins σ H3 { s3 with heap:=s3.heap.push { cls:=.type "slice",data:=.fields #[vl,vu,.none] } }:=I3.kept (t':=s3.toks) fun b ob q=>Heap.get?_push_of_some _ q
 obtain ⟨T,id,hT,ht,hg⟩:=hr pins { s3 with heap:=s3.heap.push { cls:=.type "slice",data:=.fields #[vl,vu,.none] } } σ H3 x v vl vu l u s3.heap.objs.size Q I4 r1 (Heap.IsSliceOf.new ..) pl pu q3
 show wpAny (model X.prog X.w) X.A (subscriptTail e (.Slice lo hi none p2) v (.ref s3.heap.objs.size)) (EP X pins σ Q) X.xe { s3 with heap:=s3.heap.push { cls:=.type "slice",data:=.fields #[vl,vu,.none] } }
 exact tail_any (ops:=[.ref s3.heap.objs.size,v]) ht hT hg (by with_unfolding_all rfl)
noncomputable def cA (xs:List V)(lo hi:Option Int):List V:=(xs.drop (HT.sIx xs.length 0 lo)).take (HT.sIx xs.length xs.length hi-HT.sIx xs.length 0 lo)
theorem bq (xs:List V)(lo hi:Option Int):(cA xs lo hi).length<=xs.length:=by
 unfold cA
 rw [a0w,a0z]
 omega
noncomputable def Ak (K:a0a):V->Option Int->Option Int->Hp->VK->Prop:=fun x lo hi H Q=>∃ a xs,x=.ref a/\SqT K H a xs /\
 ¬ (HT.sIx xs.length 0 lo=0/\HT.sIx xs.length xs.length hi=xs.length)/\∀ p,H p=none->Q (.ref p) (upd H p (.tup (cA xs lo hi)))
theorem uw:SlR X (Ak X.K):=by
 intro pins s σ H x v vl vu lo hi sl Q I rx hs pl pu h
 obtain ⟨a,xs,rfl,hx,hw,q⟩:=h
 cases rx
 obtain ⟨its,r,ht,hz⟩:=I.tuple hx
 have hlen:its.toArray.size=xs.length:=by rw [a0i]; exact r.length.symm
 refine ⟨"tuple",_,a0B.lookup,ht.typeIs,?_⟩
 refine HT.getItem_tuple_cut ht hs pl pu (by rw [hlen]; exact hw) ?_ (by rw [hlen]; exact hz)
 rw [hlen]
 refine ⟨.ref s.heap.objs.size,_,I.laid (t':=s.toks) (o:=.tup (cA xs lo hi)) (fun b ob q=>Heap.get?_push_of_some _ q) (a0m _) ?_,rfl,q _ (I.hok.fresh (a0m _))⟩
 exact ⟨a0n (bq xs lo hi) hz,_,(r.drop (HT.sIx xs.length 0 lo)).take (HT.sIx xs.length xs.length hi-HT.sIx xs.length 0 lo),IsTup.new _ _⟩
noncomputable def xH (K:a0a):R2:=fun x y H Q=>∃ a b xs ys,x=.ref a/\y=.ref b/\SqT K H a xs/\SqT K H b ys/\xs≠[]/\xs.length+ys.length<=sizeLine /\
 (ys=[]->Q (.ref a) H)/\(ys≠[]->∀ p,H p=none->Q (.ref p) (upd H p (.tup (xs++ys))))
theorem Vals.nil_iff {xs:List V}{us:List Value}(r:Vals xs us):us=[] ↔ xs=[]:=by
 cases r with
 | nil=>simp
 | cons _ _=>simp
theorem pq:OpR X (binaryOp .Add) (xH X.K):=by
 intro pins s σ H x y v u Q I rx ry h
 obtain ⟨a,b,xs,ys,rfl,rfl,ha,hb,hx,hz,q1,q2⟩:=h
 cases rx
 cases ry
 obtain ⟨its,r1,p1,_⟩:=I.tuple ha
 obtain ⟨its2,r2,p2,_⟩:=I.tuple hb
 refine HT.cat_tup p1 p2 (fun z=>hx (r1.nil_iff.mp z)) (fun z=>⟨.ref a,H,I,rfl,q1 (r2.nil_iff.mp z)⟩) (fun z=>?_) (by rw [<- r1.length,<- r2.length]; exact hz)
 refine ⟨.ref s.heap.objs.size,_,I.laid (t':=s.toks) (o:=.tup (xs++ys)) (fun b ob q=>Heap.get?_push_of_some _ q) (a0m _) ?_,rfl,q2 (fun w=>z (r2.nil_iff.mpr w)) _ (I.hok.fresh (a0m _))⟩
 exact ⟨by rw [a0d]; exact hz,_,r1.append r2,IsTup.new _ _⟩
end
end L2
namespace L2
open PySem PySem.Spec PyProof.Rows
noncomputable def ixN (n:Nat)(i:Int):Option Nat:=if 0<=i then (if i < n then some i.toNat else none) else if -(n:Int)<=i then some (i+n).toNat else none
noncomputable def atI {α:Type}(xs:List α)(i:Int):Option α:=(ixN xs.length i).bind fun j=>xs[j]?
theorem qP {n:Nat}{i:Int}{j:Nat}(h:ixN n i=some j):seqIndex? i n=some j/\j < n/\-(n:Int)<=i/\i < n:=by
 unfold ixN at h
 by_cases h0:0<=i
 ·rw [if_pos h0] at h
  by_cases h1:i < n
  ·rw [if_pos h1] at h
   have e:i.toNat=j:=a0L h
   exact ⟨by rw [seqIndex_of h0 h1,e],by omega,by omega,h1⟩
  ·rw [if_neg h1] at h; cases h
 ·rw [if_neg h0] at h
  by_cases h1:-(n:Int)<=i
  ·rw [if_pos h1] at h
   have e:(i+n).toNat=j:=a0L h
   exact ⟨by rw [seqIndex_neg (by omega) h1,e],by omega,h1,by omega⟩
  ·rw [if_neg h1] at h; cases h
theorem eQ {α:Type}{xs:List α}{i:Int}{v:α}(h:atI xs i=some v):∃ j,seqIndex? i xs.length=some j/\xs[j]?=some v/\j < xs.length/\-(xs.length:Int)<=i/\i < xs.length:=by
 unfold atI at h
 cases e:ixN xs.length i with
 | none=>rw [e] at h; cases h
 | some j =>
  rw [e] at h
  obtain ⟨h1,h2,h3,h4⟩:=qP e
  exact ⟨j,h1,h,h2,h3,h4⟩
noncomputable def dm (b:Expr):Prop:=∀ o i,subscripted b false o i=operate [o,i] (getItem o i)
noncomputable def IxR (X:Cx)(r:R2):Prop :=
 ∀ (value slice:Expr) (pins:List (Addr×Obj)) (s:Shared) (σ:St) (H:Hp) (x y:V) (v u:Value) (Q:VK),Inv X pins σ H s->RelV x v->RelV y u->r x y H Q ->
  subscripted slice false v u=operate [v,u] (getItem v u)->wpAny (model X.prog X.w) X.A (subscriptTail value slice v u) (EP X pins σ Q) X.xe s
noncomputable def MtR (X:Cx)(id:String)(r:V->List V->Hp->VK->Prop):Prop :=
 ∀ (pins:List (Addr×Obj)) (s:Shared) (σ:St) (H:Hp) (x:V) (xs:List V) (v:Value) (us:List Value) (Q:VK),Inv X pins σ H s->RelV x v->Vals xs us->r x xs H Q ->
  wpAny (model X.prog X.w) X.A (call (.builtin id) (v::us)) (EP X pins σ Q) X.xe s
section
variable {X:Cx}{a b:Expr}{ta tb:TE}{pos:Pos}
theorem IxR.or {r r':R2}(h:IxR X r)(h':IxR X r'):IxR X (fun x y H Q=>r x y H Q\/r' x y H Q):=by
 intro value slice pins s σ H x y v u Q I rx ry q hs
 rcases q with q | q
 ·exact h value slice pins s σ H x y v u Q I rx ry q hs
 ·exact h' value slice pins s σ H x y v u Q I rx ry q hs
theorem rN {r:R2}(hr:IxR X r)(ha:PE X a ta)(hb:PE X b tb)(hs:dm b):PE X (.Subscript a b pos) (tOp r ta tb):=by
 intro pins s σ H Q I h
 exact Subscript_ (uy ha hb I h fun v u s2 x y H2 I2 rx ry q=>hr a b pins s2 σ H2 x y v u Q I2 rx ry q (hs _ _))
noncomputable def Ad (K:a0a):R2:=fun x y H Q=>∃ p xs i v,x=.ref p/\y=.int i/\SqL K H p xs/\atI xs i=some v/\Q v H
noncomputable def zv (K:a0a):R2:=fun x y H Q=>∃ p xs i v,x=.ref p/\y=.int i/\SqT K H p xs/\atI xs i=some v/\Q v H
noncomputable def zZ:R2:=fun x y H Q=>∃ z i c,x=.str z/\y=.int i/\z.length<=sizeLine/\atI z.cps.toList i=some c/\Q (.str ⟨#[c]⟩) H
theorem pF:IxR X (Ad X.K):=by
 intro value slice pins s σ H x y v u Q I rx ry h hs
 obtain ⟨p,xs,i,z,rfl,rfl,hq,he,q⟩:=h
 cases rx
 obtain ⟨t,rfl⟩:=ry
 obtain ⟨its,r,pl,hz⟩:=I.list hq
 obtain ⟨j,h1,h2,h3,h4,h5⟩:=eQ he
 obtain ⟨w,ew,rw'⟩:=r.get h2
 have hl:=r.length
 have hn:=ei
 have fin:EP X pins σ Q w s:=⟨z,H,I,rw',q⟩
 by_cases h0:0<=i
 ·have hj:i.toNat=j:=by
   rw [seqIndex_of h0 h5] at h1
   exact a0L h1
  exact item_listR pl.isList h0 (by omega) (by rw [hj]; simpa using ew) fin hs
 ·have hj:(i+(its.toArray.size:Int)).toNat=j:=by
   rw [seqIndex_neg (by omega) h4] at h1
   rw [a0i,<- hl]
   exact a0L h1
  exact subscriptTail_builtinR (x:=w) pl.isList.typeIs slot_list_getitem.lookup
   (wpAny_getItem_list_neg (Q:=fun r s'=>r=w/\EP X pins σ Q r s') pl.isList (by omega) (by rw [a0i]<;>omega) (by omega) (by rw [hj]; simpa using ew) ⟨rfl,fin⟩) hs
theorem v8:IxR X (zv X.K):=by
 intro value slice pins s σ H x y v u Q I rx ry h hs
 obtain ⟨p,xs,i,z,rfl,rfl,hq,he,q⟩:=h
 cases rx
 obtain ⟨t,rfl⟩:=ry
 obtain ⟨its,r,pl,hz⟩:=I.tuple hq
 obtain ⟨j,h1,h2,h3,h4,h5⟩:=eQ he
 obtain ⟨w,ew,rw'⟩:=r.get h2
 have hl:=r.length
 have hn:=ei
 have fin:EP X pins σ Q w s:=⟨z,H,I,rw',q⟩
 exact subscriptTail_builtinR (x:=w) pl.typeIs slot_tuple_getitem.lookup
  (getItem_tuple (j:=j) (Q:=fun r s'=>r=w/\EP X pins σ Q r s') pl (by omega) (by omega) (by rw [a0i,<- hl]; exact h1) (by simpa using ew) ⟨rfl,fin⟩) hs
theorem ud:IxR X zZ:=by
 intro value slice pins s σ H x y v u Q I rx ry h hs
 obtain ⟨z,i,c,rfl,rfl,hz,he,q⟩:=h
 obtain ⟨t,rfl⟩:=rx
 obtain ⟨t',rfl⟩:=ry
 obtain ⟨j,h1,h2,h3,h4,h5⟩:=eQ he
 have hl:z.cps.toList.length=z.length:=by simp [Str.length]
 rw [hl] at h1 h4 h5
 have hn:=ei
 exact tail_any (typeIs_str s z t) slot_str_getitem.lookup (getItem_str (c:=c) (by
  have e1:decide (i < -(2 ^ 63:Int))=false:=decide_eq_false (by omega)
  have e2:decide (i >= 2 ^ 63)=false:=decide_eq_false (by omega)
  rw [e1,e2,Bool.or_false]) (by rw [h1]; simpa using h2) ⟨.str ⟨#[c]⟩,H,I.tok _,⟨_,rfl⟩,q⟩) hs
theorem fL (lo hi:Option Int)(n:Nat):(sliceBounds lo hi none n).1=((HT.sIx n 0 lo:Nat):Int)/\(sliceBounds lo hi none n).2.1=((HT.sIx n n hi:Nat):Int)/\(sliceBounds lo hi none n).2.2=1:=by
 refine ⟨?_,?_,rfl⟩
 ·cases lo with
  | none=>simp [sliceBounds,HT.sIx]
  | some i =>
   simp only [sliceBounds,HT.sIx,a2S,show (1:Int) > 0 by decide,if_true]
   by_cases h:i < 0
   ·simp only [h,if_true]<;>omega
   ·simp only [h,if_false]<;>omega
 ·cases hi with
  | none=>simp [sliceBounds,HT.sIx]
  | some i =>
   simp only [sliceBounds,HT.sIx,a2S,show (1:Int) > 0 by decide,if_true]
   by_cases h:i < 0
   ·simp only [h,if_true]<;>omega
   ·simp only [h,if_false]<;>omega
theorem ej (its:List Value)(lo hi:Option Int):slicePick its.toArray lo hi none=((its.drop (HT.sIx its.length 0 lo)).take (HT.sIx its.length its.length hi-HT.sIx its.length 0 lo)).toArray:=by
 obtain ⟨h1,h2,h3⟩:=fL lo hi its.toArray.size
 unfold slicePick
 rw [h1,h2,h3]
 simp only [sliceRange_one,pick_run,a0i]<;>rfl
noncomputable def ql (K:a0a):V->Option Int->Option Int->Hp->VK->Prop:=fun x lo hi H Q=>∃ a xs,x=.ref a/\SqL K H a xs/\∀ p,H p=none->Q (.ref p) (upd H p (.lst (cA xs lo hi)))
theorem sl_list:SlR X (ql X.K):=by
 intro pins s σ H x v vl vu lo hi sl Q I rx hs pl pu h
 obtain ⟨a,xs,rfl,hx,q⟩:=h
 cases rx
 obtain ⟨its,r,ht,hz⟩:=I.list hx
 have hlen:=r.length
 refine ⟨"list",_,slot_list_getitem.lookup,ht.isList.typeIs,?_⟩
 refine wpAny_getItem_list_slice ht.isList hs pl pu .none (by simp) ?_ (by rw [a0i]<;>omega)
 rw [ej,<- hlen]
 refine ⟨.ref s.heap.objs.size,_,I.laid (t':=s.toks) (o:=.lst (cA xs lo hi)) (fun b ob q=>Heap.get?_push_of_some _ q) (a0m _) ?_,rfl,q _ (I.hok.fresh (a0m _))⟩
 exact ⟨a0n (bq xs lo hi) hz,_,0,(r.drop (HT.sIx xs.length 0 lo)).take (HT.sIx xs.length xs.length hi-HT.sIx xs.length 0 lo),Heap.get?_push_size _ rfl⟩
noncomputable def eqV:V->V->Bool
 | .non,.non=>true
 | .bl a,.bl b=>a==b
 | .bl a,.int b=>(if a then 1 else 0)==b
 | .int a,.bl b=>a==(if b then 1 else 0)
 | .int a,.int b=>a==b
 | .str a,.str b=>a==b
 | _,_=>false
noncomputable def inV (x:V)(xs:List V):Bool:=xs.any fun y=>eqV y x
theorem eo:er X (.type "tuple") (fun xs H Q=>∃ p ys,xs=[.ref p]/\((SqL X.K H p ys/\∀ l,H l=none->Q (.ref l) (upd H l (.tup ys)))\/(SqT X.K H p ys/\Q (.ref p) H))):=by
 intro pins s σ H xs us Q I r h
 obtain ⟨p,ys,rfl,h⟩:=h
 obtain ⟨u,rfl,rx⟩:=rq r
 cases rx
 rcases h with ⟨hq,q⟩ | ⟨hq,q⟩
 ·obtain ⟨its,r',pl,hz⟩:=I.list hq
  have hlen:=r'.length
  refine call_tuple_list pl.isList (fun h' kp=>?_) (by simp only [a0i]<;>omega)
  have I1:Inv X pins σ H { s with heap:=h' }:=I.kept (t':=s.toks) kp
  have I2:Inv X pins σ (upd H h'.objs.size (.tup ys)) { s with heap:=h'.push { cls:=.type "tuple",data:=.seq its.toArray } } :=
   I1.laid (t':=s.toks) (fun b o e=>Heap.get?_push_of_some _ e) (a0m _) (show ObjOk X.prog X.w _ _ _ (.tup ys) from ⟨hz,its,r',IsTup.new _ _⟩)
  exact ⟨.ref h'.objs.size,_,I2,rfl,q _ (I1.hok.fresh (a0m _))⟩
 ·obtain ⟨its,r',pl,hz⟩:=I.tuple hq
  exact call_tuple_same pl ⟨.ref p,H,I,rfl,q⟩
noncomputable def tyV (K:a0a)(T:String)(x:V)(H:Hp):Prop:=match x with
 | .str _=>T="str"
 | .int _=>T="int"
 | .ref p=>(T="list"/\∃ xs,SqL K H p xs)\/(T="tuple"/\∃ o,K.lookup p=some o/\o.cls=.type "tuple"/\o.dict=none) \/
   (T="dict"/\((∃ kvs,H p=some (.dK kvs))\/∃ kvs,H p=some (.dT kvs)))\/(T="set"/\∃ S n,H p=some (.set S n))
 | _=>False
theorem lr {pins:List (Addr×Obj)}{σ:St}{H:Hp}{s:Shared}{T:String}{x:V}{v:Value}(I:Inv X pins σ H s)(r:RelV x v)(ty:tyV X.K T x H) :
  s.TypeIs v T/\∀ a,v=.ref a->∃ ob,s.heap.get? a=some ob/\ob.dict=none:=by
 cases x with
 | str z =>
  obtain ⟨t,rfl⟩:=r
  cases (show T="str" from ty)
  exact ⟨typeIs_str s z t,fun _ e=>nomatch e⟩
 | int i =>
  obtain ⟨t,rfl⟩:=r
  cases (show T="int" from ty)
  exact ⟨typeIs_int s i t,fun _ e=>nomatch e⟩
 | ref p =>
  cases r
  rcases ty with ⟨rfl,xs,hq⟩ | ⟨rfl,o,hk,hc,hd⟩ | ⟨rfl,hk⟩ | ⟨rfl,S,n,hk⟩
  ·obtain ⟨its,_,pl,_⟩:=I.list hq
   refine ⟨pl.isList.typeIs,fun a e=>?_⟩
   cases e
   obtain ⟨o,n,e,c,hd,_⟩:=pl
   exact ⟨o,e,hd⟩
  ·refine ⟨⟨o,I.kIn p o hk,hc⟩,fun a e=>?_⟩
   cases e
   exact ⟨o,I.kIn _ o hk,hd⟩
  ·have z:∃ o,s.heap.get? p=some o/\o.ExactDict:=by
    rcases hk with ⟨kvs,hk⟩ | ⟨kvs,hk⟩
    ·obtain ⟨_,_,_,_,o,_,_,e,ex,_⟩:=I.hok p _ hk
     exact ⟨o,e,ex⟩
    ·obtain ⟨_,_,_,_,o,_,_,e,ex,_⟩:=I.hok p _ hk
     exact ⟨o,e,ex⟩
   obtain ⟨o,e,ex⟩:=z
   refine ⟨⟨o,e,ex.1⟩,fun a e2=>?_⟩
   cases e2
   exact ⟨o,e,ex.2.1⟩
  ·obtain ⟨o,_,_,_,e,ex,_⟩:=I.hok p _ hk
   refine ⟨⟨o,e,ex.1⟩,fun a e2=>?_⟩
   cases e2
   exact ⟨o,e,ex.2.1⟩
 | _=>exact a0N ty
noncomputable def zP (K:a0a)(T:String)(r:V->List V->Hp->VK->Prop)(to:TE):TE:=fun σ H Q=>to σ H fun x H1=>tyV K T x H1/\r x [] H1 Q
noncomputable def tBM (K:a0a)(T:String)(r:V->List V->Hp->VK->Prop)(to:TE)(t:TA):TE:=fun σ H Q=>to σ H fun x H1=>tyV K T x H1/\t σ H1 fun xs H2=>r x xs H2 Q
variable {o e:Expr}{es:List Expr}{to:TE}{t:TA}{name:Str}{apos cpos:Pos}{T id:String}{r:V->List V->Hp->VK->Prop}
theorem t5 (pa:PlainAttrs T)(slot:Slot T name id)(hty:typeOf (.builtin id)=pure (.type "method_descriptor"))(hm:MtR X id r)(ho:PE X o to)
  (hbase:attributeBase o name X.env (eval o X.env)=eval o X.env:=by rfl) (hline:(apos.endLine==cpos.line)=true:=by rfl):PE X (.Call (.Attribute o name apos) [] [] cpos) (zP X.K T r to):=by
 intro pins s σ H Q I h
 refine wpAny_Call_method0_late hbase hline (thn (ho pins s σ H _ I h) fun v s1 ⟨x,H1,I1,r1,ty,q1⟩=>?_)
 obtain ⟨h1,h2⟩:=lr I1 r1 ty
 exact ⟨T,id,pa,slot,hty,h1,h2,Calls.callWith_builtin rfl (PySem.evalArgs_none (hm pins s1 σ H1 x [] v [] Q I1 r1 .nil q1))⟩
theorem ly (pa:PlainAttrs T)(slot:Slot T name id)(hty:typeOf (.builtin id)=pure (.type "method_descriptor"))(hm:MtR X id r)(ho:PE X o to)(ha:PA X (e::es) t)
  (hbase:attributeBase o name X.env (eval o X.env)=eval o X.env:=by rfl)
  (hfew:((backTo cpos (starEach (e::es) X.env)).all (fun x=>!x.1)&&(backToKw cpos (keywordEach [] X.env)).all (fun x=>x.1.isSome)
  &&decide ((e::es).length+([]:List Keyword).length+(if ([]:List Keyword).isEmpty then 0 else 1) < 30))=true:=by rfl)
  (hline:(apos.endLine==cpos.line)=true:=by rfl) (hs:starEach (e::es) X.env=(false,eval e X.env)::starEach es X.env:=by rfl) (hplain:(backTo cpos (starEach es X.env)).any (·.1)=false:=by rfl) :
  PE X (.Call (.Attribute o name apos) (e::es) [] cpos) (tBM X.K T r to t):=by
 intro pins s σ H Q I h
 refine wpAny_Call_method_late hbase hfew hline rfl (thn (ho pins s σ H _ I h) fun v s1 ⟨x,H1,I1,r1,ty,q1⟩=>?_)
 obtain ⟨h1,h2⟩:=lr I1 r1 ty
 refine ⟨T,id,pa,slot,hty,h1,h2,?_⟩
 have hA:=ha cpos pins s1 σ H1 _ I1 q1
 rw [hs] at hA ⊢
 refine Calls.callWith_builtin (by show (false || (backTo cpos (starEach es X.env)).any (·.1))=false; rw [hplain]<;>rfl) (Calls.evalArgs_plain ?_)
 exact thn hA fun us s2 ⟨vs,H2,I2,r2,q2⟩=>hm pins s2 σ H2 x vs v us Q I2 r1 r2 q2
end
end L2
namespace L2
open PySem PySem.Spec PyProof.Rows
noncomputable def MtM (X:Cx)(id:String)(r:V->List V->Hp->VK->Prop):Prop :=
 ∀ (pins:List (Addr×Obj)) (s:Shared) (σ:St) (H:Hp) (x:V) (xs:List V) (v:Value) (us:List Value) (Q:VK),Inv X pins σ H s->RelV x v->Vals xs us->r x xs H Q ->
  wpAny (model X.prog X.w) X.A (call (.builtin id) (v::us)) (EP X pins σ Q) X.xe s
theorem Vals.one:∀ {x:V} {us:List Value},Vals [x] us->∃ u,us=[u]/\RelV x u
 | _,_,.cons r .nil=>⟨_,rfl,r⟩
theorem Vals.zero:∀ {us:List Value},Vals [] us->us=[]
 | _,.nil=>rfl
theorem Vals.dropLast {xs:List V}{us:List Value}(h:Vals xs us):Vals xs.dropLast us.dropLast:=by
 induction h with
 | nil=>exact .nil
 | cons r t ih =>
  cases t with
  | nil=>exact .nil
  | cons q t'=>exact .cons r ih
theorem Vals.rep {xs:List V}{us:List Value}(h:Vals xs us):∀ k:Nat,Vals (a0f k xs).flatten (a0f k us).flatten
 | 0=>.nil
 | k+1=>by
  rw [a0E,a0E,a1q,a1q]
  exact Vals.append h (Vals.rep h k)
theorem g5 {α:Type}(l:List α):l.eraseIdx (l.length-1)=l.dropLast:=by
 induction l with
 | nil=>rfl
 | cons a r ih =>
  cases r with
  | nil=>rfl
  | cons b r =>
   have e:(a::b::r).length-1=((b::r).length-1)+1:=by
    have h1:(a::b::r).length=r.length+2:=rfl
    have h2:(b::r).length=r.length+1:=rfl
    omega
   rw [e,List.eraseIdx_cons_succ,ih]
   all_goals rfl
theorem eP (its:List Value):∀ (k:Nat) (acc:List Value),
  a28 (fun x1 x2=>x1++x2) acc.toArray (a0f k its.toArray)=(acc++(a0f k its).flatten).toArray
 | 0,acc=>by simp
 | k+1,acc=>by
  have e:acc.toArray++its.toArray=(acc++its).toArray:=by simp
  have e2:(acc++its)++(a0f k its).flatten=acc++(a0f (k+1) its).flatten:=by
   rw [a0E,a1q,a1c]
  rw [<- e2,<- eP its k (acc++its),<- e,a0E,a20]
section
variable {X:Cx}{pins:List (Addr×Obj)}{σ:St}{H:Hp}{s:Shared}{l b:Addr}{xs ys zs:List V}
theorem Inv.lset {its its':List Value}{n:Nat}{f:Array Value->Array Value}{t':Nat}(I:Inv X pins σ H s)(hH:H l=some (.lst xs))
  (e:s.heap.get? l=some { cls:=.type "list",data:=.seq its.toArray n }) (hf:f its.toArray=its'.toArray) (hv:Vals ys its') (hz:ys.length<=sizeLine) :
  Inv X pins σ (upd H l (.lst ys)) { s with heap:=s.heap.update l (Obj.mapSeq f),toks:=t' }:=by
 have q:=PySem.IsL.update e f
 rw [hf] at q
 refine I.write (x:=l) (e:=l) (by rw [hH]; exact trivial) (.inl rfl) (fun b' u hb hu=>(Heap.get?_update_other s.heap (Obj.mapSeq f) (a1g hb)).trans hu) ⟨_,q⟩ ?_
 exact ⟨hz,its',_,hv,q⟩
theorem Inv.lnew {its:List Value}{t':Nat}(I:Inv X pins σ H s)(hv:Vals ys its)(hz:ys.length<=sizeLine) :
  Inv X pins σ (upd H s.heap.objs.size (.lst ys)) { s with heap:=s.heap.push { cls:=.type "list",data:=.seq its.toArray },toks:=t' } :=
 I.laid (fun _ _ q=>Heap.get?_push_of_some _ q) (a0m _) ⟨hz,its,0,hv,Heap.get?_push_size _ rfl⟩
theorem Inv.fresh (I:Inv X pins σ H s):H s.heap.objs.size=none:=I.hok.fresh (a0m _)
theorem Inv.lstM (I:Inv X pins σ H s)(hH:H l=some (.lst xs)):xs.length<=sizeLine/\∃ (its:List Value) (n:Nat),Vals xs its/\xs.length=its.length/\s.heap.get? l=some { cls:=.type "list",data:=.seq its.toArray n }:=by
 obtain ⟨z,its,n,r,e⟩:=I.hok l _ hH
 exact ⟨z,its,n,r,r.length,e⟩
theorem kQ {n:Nat}(h:n<=sizeLine):Builtin.List.listTooLong n=false:=by
 unfold Builtin.List.listTooLong
 exact decide_eq_false (by omega)
end
section
variable {X:Cx}
noncomputable def nR:V->List V->Hp->VK->Prop:=fun x vs H Q=>∃ l xs y,x=.ref l/\vs=[y]/\H l=some (.lst xs)/\xs.length < sizeLine/\Q .non (upd H l (.lst (xs++[y])))
theorem jO:MtM X "list.append" nR:=by
 intro pins s σ H x vs v us Q I rx rv h
 obtain ⟨l,xs,y,rfl,rfl,hH,hz,q⟩:=h
 cases rx
 obtain ⟨u,rfl,ru⟩:=rv.one
 obtain ⟨z,its,n,r,hl,e⟩:=I.lstM hH
 refine call_meets F.slot_list_append ⟨_,e,rfl⟩ F.entry_list_append (F.args_list_append_2 _ _) (PySem.list_append l its.toArray n u (by rw [a0i]; omega)) ⟨e,?_⟩
 refine ⟨.non,_,I.lset (its':=its++[u]) hH e (by simp) (r.append (.cons ru .nil)) ?_,rfl,q⟩
 rw [a0d,a0j]
 omega
noncomputable def Aj:V->List V->Hp->VK->Prop:=fun x vs H Q=>∃ l xs y,x=.ref l/\vs=[]/\H l=some (.lst xs)/\xs[xs.length-1]?=some y/\Q y (upd H l (.lst xs.dropLast))
theorem se:MtM X "list.pop" Aj:=by
 intro pins s σ H x vs v us Q I rx rv h
 obtain ⟨l,xs,y,rfl,rfl,hH,hy,q⟩:=h
 cases rx
 have hus:=rv.zero
 subst hus
 obtain ⟨z,its,n,r,hl,e⟩:=I.lstM hH
 obtain ⟨u,hu,ru⟩:=r.get hy
 have hy':its.toArray[its.toArray.size-1]?=some u:=by
  show its.toArray[its.length-1]?=some u
  rw [<- Array.getElem?_toList,<- hl]
  exact hu
 refine call_meets F.slot_list_pop ⟨_,e,rfl⟩ F.entry_list_pop (F.args_list_pop_1 _) (MeetsSeq.list_pop_last l its.toArray n u hy' (by rw [a0i]; omega)) ⟨e,?_⟩
 refine ⟨y,_,I.lset (its':=its.dropLast) hH e ?_ r.dropLast ?_,ru,q⟩
 ·show its.toArray.eraseIdxIfInBounds (its.toArray.size-1)=its.dropLast.toArray
  rw [a0i,List.eraseIdxIfInBounds_toArray,g5]
 ·rw [List.length_dropLast]
  omega
noncomputable def yz:R2:=fun x y H Q=>∃ l b xs zs,x=.ref l/\y=.ref b/\H l=some (.lst xs)/\H b=some (.lst zs)/\xs.length+zs.length<=sizeLine/\∀ p,H p=none->Q (.ref p) (upd H p (.lst (xs++zs)))
theorem op_cat:OpR X (binaryOp .Add) yz:=by
 intro pins s σ H x y v u Q I rx ry h
 obtain ⟨l,b,xs,zs,rfl,rfl,hH,hB,hz,q⟩:=h
 cases rx
 cases ry
 obtain ⟨z,its,n,r,hl,e⟩:=I.lstM hH
 obtain ⟨z2,its2,n2,r2,hl2,e2⟩:=I.lstM hB
 refine PySem.P.add_list e e2 ?_ (by rw [a0i,a0i]; omega)
 have ea:its.toArray++its2.toArray=(its++its2).toArray:=by simp
 rw [ea]
 exact ⟨.ref _,_,I.lnew (t':=s.toks) (r.append r2) (by rw [a0d]; omega),rfl,q _ I.fresh⟩
noncomputable def y9:R2:=fun x y H Q=>∃ l k xs,x=.ref l/\y=.int k/\H l=some (.lst xs)/\-(2 ^ 63)<=k/\k < 2 ^ 63/\xs.length * k.toNat<=sizeLine /\
 ∀ p,H p=none->Q (.ref p) (upd H p (.lst (a0f k.toNat xs).flatten))
theorem pO {α:Type}(xs:List α)(k:Nat):(a0f k xs).flatten.length=k * xs.length:=by
 induction k with
 | zero=>simp
 | succ k ih=>rw [a0E,a1q,a0d,ih,Nat.succ_mul,Nat.add_comm]
theorem uh:OpR X (binaryOp .Mult) y9:=by
 intro pins s σ H x y v u Q I rx ry h
 obtain ⟨l,k,xs,rfl,rfl,hH,h1,h2,hz,q⟩:=h
 cases rx
 obtain ⟨t,rfl⟩:=ry
 obtain ⟨z,its,n,r,hl,e⟩:=I.lstM hH
 have hlen:its.toArray.size * k.toNat<=sizeLine:=by rw [a0i,<- hl]; exact hz
 have hcap:¬ its.toArray.size * k.toNat > (2 ^ 63-1) / 8:=by
  have:(sizeLine:Nat)<=(2 ^ 63-1) / 8:=by decide
  omega
 have hfit:¬ (!Builtin.List.listFitsIndex k)=true:=by
  rw [fitsIndex_both h1 h2]
  exact a0t
 have hlong:¬ Builtin.List.listTooLong (its.toArray.size * k.toNat)=true:=by
  rw [kQ hlen]
  exact a0t
 have hnew:a28 (fun x1 x2=>x1++x2) #[] (a0f (if its.toArray.isEmpty=true then 0 else k.toNat) its.toArray)=(a0f k.toNat its).flatten.toArray:=by
  have f0:∀ m:Nat,a28 (fun x1 x2=>x1++x2) #[] (a0f m its.toArray)=(a0f m its).flatten.toArray:=fun m=>by
   have:=eP its m []
   rw [a2l] at this
   exact this
  rw [f0]
  cases its with
  | nil=>simp
  | cons a r'=>rw [if_neg (by simp)]
 refine wpAny_binaryOp_repeat_ref (T:="list") (U:="int") (by decide) ⟨_,e,rfl⟩ (fun s'=>typeIs_int s' k t) noFill_list_mul F.fills_int_mul F.slot_int_rmul repeat_list F.slot_int_index.lookup
  (call_meets F.slot_int_rmul (typeIs_int s k t) F.entry_int_rmul (F.args_int_rmul_2 _ _) (int___rmul___int_list k t l its.toArray n)
   ⟨e,rfl,⟨_,e,rfl⟩,call_meets F.slot_list_mul ⟨_,e,rfl⟩ F.entry_list_mul (F.args_list_mul_2 _ _) (AutoListH.list___mul___list_int_3 l its.toArray n k t hfit hcap hlong) ⟨e,?_⟩⟩)
 rw [hnew]
 exact ⟨.ref _,_,I.lnew (t':=s.toks) (r.rep k.toNat) (by rw [pO,a3p]; exact hz),rfl,q _ I.fresh⟩
end
end L2
namespace Att
open PySem PySem.W PySem.Calls PyProof.Rows
theorem df {P:Params}{h:Heap}:∀ (ns:List Int) (vs:List Value),WellAll P h vs (ns.map WData.int)->IntsAre vs ns:=by
 intro ns
 induction ns with
 | nil =>
  intro vs w
  rw [a0C] at w
  cases w
  exact .nil
 | cons n ns ih =>
  intro vs w
  rw [a0k] at w
  cases w with
  | cons a b =>
   cases a
   exact .cons _ _ (ih _ b)
theorem jL {l:OpenLaw}{n:Nat}(hn:l.most=some n){P:Params}{h:Heap}{args:List WData}{vals:List Value}
  (hpre:l.row.toRowW.claim.pre args=true) (hwl:WellAll P h vals args) :
  ∃ a vs ns,vals=[Value.ref a]/\args=[WData.list (ns.map WData.int)]/\h.get? a=some { cls:=.type "list",data:=.seq vs.toArray }/\IntsAre vs ns/\ns.length<=n:=by
 have hsh:WShape.hasAll [] args [.list .int]=true:=(pre_splitW hpre).1
 have hc:l.pre.holds [] { args:=args }=true:=(pre_splitW hpre).2
 obtain ⟨d,r,rfl,h1,h2⟩:=hasAllW_cons hsh
 obtain rfl:=hasAllW_nil h2
 obtain ⟨xs,rfl,h3⟩:=hasW_list h1
 obtain ⟨ns,rfl⟩:=items_int h3
 have hlen:ns.length<=n:=by
  unfold OpenLaw.pre at hc
  have h4:(WTm.not (.lt (.lit (.int (n:Int))) (.len (.arg 0)))).holds [] { args:=[.list (ns.map .int)] }=true:=by
   have h4:=(holds_andW hc).1
   rw [hn] at h4
   exact h4
  have h5:=condW_of h4 (w_not (w_lt w_lit (w_len_list (w_arg rfl))))
  rw [a0b] at h5
  refine Nat.le_of_not_lt fun q=>?_
  have q':(n:Int) < ((ns.length:Nat):Int):=by omega
  first
   | (rw [decide_eq_true q'] at h5; exact absurd h5 (by decide))
   | (simp at h5; omega)
 cases hwl with
 | cons w1 w2 =>
  cases w2
  cases w1 with
  | list ho hall=>exact ⟨_,_,ns,rfl,rfl,ho,df ns _ hall,hlen⟩
theorem jM (l:OpenLaw)(args:List WData):l.row.toRowW.claim.post args (.bool true) args=true :=
 postW_of (r:=l.row.toRowW) (X:=(true==true))
  (show WShape.has [] (.bool true) .bool=true by first | rfl | decide | simp [WShape.has,WShape.arms,WShape.armsAll])
  (show (WTm.eq .res (.lit (.bool true))).value [] { args:=args,res:=some (.bool true),after:=args }=some (.bool (true==true)) from w_eq_bool (w_res rfl) w_lit) rfl
theorem attach_call {l:OpenLaw}{n:Nat}{q:Program}{loose:List Str}{XP:(Str->Option Value)->Heap->Prop}{YP:World->Heap->Prop}{d:DefRec}
  (hn:l.most=some n) (hdf:d.params.defaults=[])
  (call:∀ (w:World) (s₀ s₁:Shared) (mg mb:Str->Option Value) (fa:Addr) (o:Obj) (pm cd doc:Value) (a:Addr) (vs:List Value) (ns:List Int),
   Ground q loose [] XP w s₀ mg mb s₁.heap->YP w s₁.heap ->
   s₁.heap.get? fa=some o->o.data=.func (docDef d.name d.params d.body d.scope pm cd doc)->s₁.heap.CodeRec cd d.name->mg d.name=some (.ref fa) ->
   s₁.heap.get? a=some { cls:=.type "list",data:=.seq vs.toArray }->IntsAre vs ns->ns.length<=n->s₁.gens=#[] ->
   codeAny (model l.prog w) callerA (.call (.ref fa) ⟨[.ref a],[]⟩) (fun r s'=>r=.ok (.ret (.bool true))/\OldK s₁.heap s'.heap/\s'.os=s₁.os/\AllBare s'.gens) s₁) :
  WalkO q loose XP YP l.row.toRowW d [] (fun f vs=>a29 f vs):=by
 intro w s₀ s₁ mg mb G Y fa o pm cd doc dV kV ho hd hcd hD hmg hg args vals as hpre hlay hrd hwl hlo
 obtain rfl:dV=.none:=Dflts.none hD hdf
 obtain rfl:kV=.none:=Dflts.noKw hD
 obtain ⟨a,vs,ns,rfl,rfl,hobj,hints,hlen⟩:=jL hn hpre hwl
 refine enter_call (codeAny_mono (call w s₀ s₁ mg mb fa o pm cd doc a vs ns G Y ho (fd_plain hd) hcd hmg hobj hints hlen hg) fun r s' hq=>?_)
 obtain ⟨rfl,h2,h3,h4⟩:=hq
 exact ⟨.inl ⟨.bool true,.bool true,[],rfl,fun _=>rfl,.bool true,jM l _,fun _=>⟨a3A,fun _ hm=>(nomatch hm)⟩⟩,h2,h3,h4⟩
end Att
namespace L2
open PySem PySem.Spec PyProof.Rows
theorem bT:∀ {vs:List Value} {ns:List Int},IntsAre vs ns->Vals (ns.map V.int) vs
 | _,_,.nil=>.nil
 | _,_,.cons n t h=>.cons ⟨t,rfl⟩ (bT h)
noncomputable def my (H:Hp):Prop:=∀ b,H b=none\/∃ o xs,H b=some (.frz o (.lst xs))
theorem mE {P:Program}{w:World}{K:a0a}{mg mb:Str->Option Value}{CX:CXT}{k:Nat}{fa a:Addr}{fd:FuncData}{x:Str}{sp:Sp}{s₁:Shared}{vs:List Value}{ns:List Int}
  (KX:K.In s₁.heap) (hns:s₁.heap.Ns mainGlobals mg) (hb:s₁.heap.Ns builtinsNs mb) (hbb:∀ x:Str,x≠"__name__"->mb x=bootBuiltins x) (hlim:s₁.heap.NoLimit) (hg:s₁.gens=#[])
  (ha:s₁.heap.get? a=some { cls:=.type "list",data:=.seq vs.toArray }) (hi:IntsAre vs ns) (hl:ns.length<=sizeLine) (hr:Room k callerA)
  (F:∀ base:Heap,K.In base->base.Ns mainGlobals mg->ba P w K mg base CX k fa fd [x] sp) (hbind:∀ (s:Shared) (u:Value),BindsTo s fd ⟨[u],[]⟩ [(x,u)])
  (hsp:∀ H:Hp,my H->SqL K H a (ns.map V.int)->sp [.ref a] H (fun v _=>v=.bl true) fun _ _ _=>False)
  (hCX:∀ H e s',CX [] H s₁ (fun _ _ _=>False) e s'->False) :
  codeAny (model P w) callerA (.call (.ref fa) ⟨[.ref a],[]⟩) (fun r s'=>r=.ok (.ret (.bool true))/\OldK s₁.heap s'.heap/\s'.os=s₁.os/\AllBare s'.gens) s₁:=by
 have rv:=bT hi
 have lenV:=hi.length
 -- from an abstract heap in which nothing but the script may be tracked
 have core:∀ H:Hp,my H->SqL K H a (ns.map V.int)->HOk P w H s₁.heap->(∀ b,H b≠none->b=a)->(H a≠none->K.lookup a=none) ->
   codeAny (model P w) callerA (.call (.ref fa) ⟨[.ref a],[]⟩) (fun r s'=>r=.ok (.ret (.bool true))/\OldK s₁.heap s'.heap/\s'.os=s₁.os/\AllBare s'.gens) s₁:=by
  intro H hO hS hok hA hK
  have base_of:∀ {b:Addr} {o:Obj},s₁.heap.get? b=some o->H b=none->(fq s₁.heap H).get? b=some o:=fun e n=>kR e n
  have noA:∀ {b:Addr} {o:Obj} {es:Array DictEntry} {ep:Nat},s₁.heap.get? b=some o->o.data=.dict es ep->H b=none:=fun {b o es ep} e d=>by
   cases q:H b with
   | none=>rfl
   | some u =>
    have e':b=a:=hA b (by rw [q]; simp)
    subst e'
    rw [ha] at e; cases e
    have d':Data.seq vs.toArray _=Data.dict es ep:=d
    cases d'
  have nsK:∀ {b:Addr} {m:Str->Option Value},s₁.heap.Ns b m->(fq s₁.heap H).Ns b m:=fun {b m} ⟨o,es,ep,e,d,r⟩=>⟨o,es,ep,base_of e (noA e d),d,r⟩
  have hKb:K.In (fq s₁.heap H):=fun b o e=>base_of (KX b o e) (by
   cases q:H b with
   | none=>rfl
   | some u =>
    have e':b=a:=hA b (by rw [q]; simp)
    subst e'
    rw [hK (by rw [q]; simp)] at e; cases e)
  have hM:Mod K mg (fq s₁.heap H):=⟨hKb,nsK hns,⟨mb,nsK hb,hbb⟩,let ⟨mc,h1,h2⟩:=hlim; ⟨mc,nsK h1,h2⟩⟩
  have e0:Env0 P w K mg (fq s₁.heap H) callerA [] s₁ H:=⟨rfl,hM,fun b o e=>nU e,a3q (jx _ _),trivial,fun b hb=>absurd (show b∈([]:List Addr) from hb) (by simp),hok,.of_eq hg⟩
  refine codeAny_mono ((F _ hKb (nsK hns)).run callerA [] s₁ H ⟨[.ref a],[]⟩ [.ref a] [.ref a] _ _ hr e0 (hbind s₁ (.ref a)) (.cons rfl .nil) (hsp H hO hS)) fun r s' h=>?_
  cases r with
  | error e=>exact (hCX H e s' h).elim
  | ok fl =>
   cases fl with
   | next=>exact a0N h
   | brk=>exact a0N h
   | cont=>exact a0N h
   | ret u =>
    obtain ⟨v,H',os,bare,un,hok',r',q⟩:=h
    have q':v=.bl true:=q
    subst q'
    obtain rfl:u=Value.bool true:=r'
    refine ⟨rfl,OldK.of_keep fun b o e=>?_,os,bare⟩
    cases q:H b with
    | none=>exact un.keep b o e q (by intro z; exact absurd (show b∈([]:List Addr) from z) (by simp)) (by simp)
    | some u =>
     rcases hO b with z | ⟨ob,xs,z⟩
     ·rw [q] at z; cases z
     ·have z2:=un.frzs b ob _ z
      obtain ⟨e1,_⟩:=hok b _ z
      obtain ⟨e2,_⟩:=hok' b _ z2
      rw [e] at e1; cases e1
      exact e2
 cases hk:K.lookup a with
 | some o =>
  -- the script is one of the module's own objects
  have e:=KX a o hk
  rw [ha] at e
  cases e
  refine core (fun _=>none) (fun _=>.inl rfl) (.inr ⟨_,vs.toArray,_,hk,rfl,rfl,rfl,by rw [a0i,lenV]; exact hl,by simpa using rv⟩) (fun b u z=>by have z':(none:Option HO)=some u:=z; cases z') (fun b z=>absurd rfl z) fun z=>absurd rfl z
 | none =>
  refine core (fun b=>if b=a then some (.frz { cls:=.type "list",data:=.seq vs.toArray } (.lst (ns.map V.int))) else none) (fun b=>?_) (.inl (.inr ⟨{ cls:=.type "list",data:=.seq vs.toArray },if_pos rfl⟩)) (fun b u z=>?_) (fun b z=>?_) fun _=>hk
  ·by_cases hb:b=a
   ·exact .inr ⟨_,_,if_pos hb⟩
   ·exact .inl (if_neg hb)
  ·by_cases hb:b=a
   ·have z':=(if_pos hb).symm.trans z
    cases z'
    subst hb
    exact ⟨ha,by rw [a0b]; exact hl,vs,_,rv,ha⟩
   ·have z':=(if_neg hb).symm.trans z
    cases z'
  ·by_cases hb:b=a
   ·exact hb
   ·exact absurd (if_neg hb) z
end L2
namespace L2
open PySem PySem.Spec PyProof.Rows
theorem walk_of {l:a2m}{n k:Nat}{q:Program}{loose:List Str}{XP:(Str->Option Value)->Heap->Prop}{YP:World->Heap->Prop}{d:DefRec}{K:Params->a0a}{CX:World->CXT}{sp:World->Sp}{x:Str}
  (hn:l.most=some n) (hn2:n<=sizeLine) (hdf:d.params.defaults=[]) (hr:Room k callerA)
  (hY:∀ (w:World) (h:Heap),YP w h->(K w.params).In h)
  (F:∀ (w:World) (mg:Str->Option Value) (fa:Addr) (h:Heap),(K w.params).In h->h.Ns mainGlobals mg->mg d.name=some (.ref fa) ->
   ∃ fd:FuncData,(∀ (s:Shared) (u:Value),BindsTo s fd ⟨[u],[]⟩ [(x,u)]) /\
    ∀ base:Heap,(K w.params).In base->base.Ns mainGlobals mg->ba l.prog w (K w.params) mg base (CX w) k fa fd [x] (sp w))
  (hsp:∀ (w:World) (H:Hp) (a:Addr) (ns:List Int),ns.length<=n->my H->SqL (K w.params) H a (ns.map V.int)->sp w [.ref a] H (fun v _=>v=.bl true) fun _ _ _=>False)
  (hCX:∀ (w:World) (H:Hp) (s:Shared) (e:Value) (s':Shared),CX w [] H s (fun _ _ _=>False) e s'->False) :
  a3b q loose XP YP l.row.toRowW d [] (fun f vs=>a29 f vs):=by
 refine Att.attach_call hn hdf fun w s₀ s₁ mg mb fa o pm cd doc a vs ns G Y ho hd hcd hmg hobj hints hlen hg=>?_
 have KX:=hY w _ Y
 obtain ⟨fd,hb,hF⟩:=F w mg fa _ KX G.T.g hmg
 exact mE KX G.T.g G.T.b G.T.builtins G.T.nolimit hg hobj hints (a0n hlen hn2) hr hF hb (fun H hO hS=>hsp w H a ns hlen hO hS) fun H e s'=>hCX w H s₁ e s'
end L2
namespace L2
open PySem PySem.Spec PyProof.Rows
noncomputable def defArgs (s:Stmt):Arguments:=match s with
 | .FunctionDef _ a _ _ _ _ _ _ _ _=>a
 | _=>{ posonlyargs:=[],args:=[],vararg:=none,kwonlyargs:=[],kw_defaults:=[],kwarg:=none,defaults:=[] }
noncomputable def defBody (s:Stmt):List Stmt:=match s with
 | .FunctionDef _ _ b _ _ _ _ _ _ _=>b
 | _=>[]
noncomputable def defScope (s:Stmt):Scope:=match s with
 | .FunctionDef _ _ _ _ _ _ sc _ _ _=>sc
 | _=>{ kind:=.function,names:=[],isGenerator:=false,isCoroutine:=false }
noncomputable abbrev CX0:CXT:=fun _ _ _ _ _ _=>False
noncomputable abbrev E0:XK:=fun _ _ _=>False
theorem rB {X:Cx}:dQ CX0 X E0:=fun _ _ _ _ _ _ _ h=>h.elim
structure Fun (K:a0a)(x qual:Str)(st:Stmt)(f:Addr)(fd:FuncData):Prop where
 ex:∃ (oc:Value) (od:Option Addr) (kV doc pm:Value) (an:Option Addr) (cdv ct:Value) (osl:Array (Option Value)),
  fd=a01 x qual (defArgs st) (defBody st) (defScope st) .none kV doc pm an cdv ct/\K.lookup f=some ⟨oc,od,.func fd,osl⟩/\a11 K cdv qual=true
 kp:a09 K (.ref f)=true
section
variable {P:Program}{w:World}{K:a0a}{mg:Str->Option Value}{base:Heap}
theorem Fun.ok {x qual:Str}{st:Stmt}{f:Addr}{fd:FuncData}{N ps:List Str}{k:Nat}{sp:Sp}(F:Fun K x qual st f fd)(S:az N ps (defScope st))(len:∀ vs H Q E,sp vs H Q E->vs.length=ps.length)
  (hbody:∀ (cdv:Value) (A:Around) (outer:List Env) (s:Shared) (H:Hp) (vs:List V) (Q:VK) (E:XK),Room k (A.deeper (envOfC qual (defScope st) s.heap.objs.size f cdv))->sp vs H Q E ->
   ∃ t,PSs (cJ CX0 P w K mg base N qual (defScope st) f cdv A outer s H E).nox (defBody st) t/\t { nx:=fun _ H'=>Q .non H',rt:=Q } (start N vs) H):ba P w K mg base CX0 (k+1) f fd ps sp:=by
 obtain ⟨oc,od,kV,doc,pm,an,cdv,ct,osl,rfl,lk,hcd⟩:=F.ex
 refine rQ lk hcd S len fun A outer s H vs Q E hr hsp=>?_
 obtain ⟨t,h,q⟩:=hbody cdv A outer s H vs Q E hr hsp
 exact ⟨t,h.nox,q⟩
theorem Fun.binds {x qual:Str}{st:Stmt}{f:Addr}{fd:FuncData}{ps:List Str}(F:Fun K x qual st f fd)
  (h:∀ (kV doc pm:Value) (an:Option Addr) (cdv ct:Value) (us:List Value),us.length=ps.length->bindArgs (a01 x qual (defArgs st) (defBody st) (defScope st) .none kV doc pm an cdv ct) ⟨us,[]⟩=pure (ps.zip us)):Binds K fd ps []:=by
 obtain ⟨oc,od,kV,doc,pm,an,cdv,ct,osl,rfl,lk,hcd⟩:=F.ex
 exact .all (h kV doc pm an cdv ct)
theorem mR {x qual:Str}{st:Stmt}{f:Addr}{oc:Value}{od an:Option Addr}{osl:Array (Option Value)}{kV doc pm cdv ct:Value}(l:K.lookup f=some ⟨oc,od,.func (a01 x qual (defArgs st) (defBody st) (defScope st) .none kV doc pm an cdv ct),osl⟩)
  (c:a11 K cdv qual=true) (k:a09 K (.ref f)=true):Fun K x qual st f (a01 x qual (defArgs st) (defBody st) (defScope st) .none kV doc pm an cdv ct):=⟨⟨oc,od,kV,doc,pm,an,cdv,ct,osl,rfl,l,c⟩,k⟩
end
theorem xp {A:Around}{k:Nat}(hr:Room k A):A.units+1 < cLine:=a1Z (Nat.add_le_add_left (by decide:1<=64) _) hr.units
section
variable {X:Cx}
theorem pv (i:Nat){x:Str}{pos:Pos}(hN:X.N[i]?=some x:=by rfl)(hv:Vis X.env.scope x:=by first | exact a0M rfl | exact a0H (a0M rfl) | exact a0H (a0H rfl))(hd:(x==("__debug__":Str))=false:=by decide)
  (hcd:(x==("__classdict__":Str))=false:=by decide):PE X (.Name x pos) (pU i):=bJ hN hv hd hcd
end
noncomputable def Same (H H':Hp):Prop:=∀ b o,H b=some o->H' b=some o
theorem Same.refl (H:Hp):Same H H:=fun _ _ h=>h
end L2
namespace L2
open PySem PySem.Spec PyProof.Rows
section
variable {κ:Type}[DecidableEq κ]
noncomputable def dg (kvs:List (κ×V))(k:κ):Option V:=(kvs.find? fun kv=>decide (kv.1=k)).map (·.2)
noncomputable def gY (kvs:List (κ×V))(k:κ)(v:V):List (κ×V) :=
 if (kvs.any fun kv=>decide (kv.1=k))=true then kvs.map (fun kv=>if kv.1=k then (kv.1,v) else kv) else kvs++[(k,v)]
theorem gQ {p:κ×V}{r:List (κ×V)}{k:κ}(e:p.1=k):dg (p::r) k=some p.2:=by simp [dg,a1d,e]
theorem gX {p:κ×V}{r:List (κ×V)}{k:κ}(e:¬ p.1=k):dg (p::r) k=dg r k:=by simp [dg,a1d,e]
theorem gL (kvs:List (κ×V))(k:κ)(v:V):(gY kvs k v).length<=kvs.length+1:=by
 unfold gY
 split
 ·rw [a0b]; omega
 ·rw [a0d,a0g,a1o]; omega
theorem RelO.getD {o:Option V}{u:Option Value}{d:V}{d':Value}(r:RelO o u)(rd:RelV d d'):RelV (o.getD d) (u.getD d'):=by
 cases o with
 | none=>cases u with
  | none=>exact rd
  | some _=>exact (show False from r).elim
 | some _=>cases u with
  | none=>exact (show False from r).elim
  | some _=>exact r
theorem KV.val {kvs:List (κ×V)}{vs:List (κ×Value)}(r:KV kvs vs)(k:κ):RelO (dg kvs k) (valueAt vs k):=by
 unfold KV at r
 induction r with
 | nil=>exact a03
 | @cons p q ps qs h t ih =>
  obtain ⟨h1,h2⟩:=h
  by_cases e:p.1=k
  ·have e':q.1=k:=h1.symm.trans e
   have b:valueAt (q::qs) k=some q.2:=by simp [valueAt,a1d,e']
   rw [gQ e,b]; exact h2
  ·have e':¬ q.1=k:=fun z=>e (h1.trans z)
   have b:valueAt (q::qs) k=valueAt qs k:=by simp [valueAt,a1d,e']
   rw [gX e,b]; exact ih
theorem KV.any {kvs:List (κ×V)}{vs:List (κ×Value)}(r:KV kvs vs)(k:κ):(kvs.any fun kv=>decide (kv.1=k))=vs.any fun kv=>decide (kv.1=k):=by
 unfold KV at r
 induction r with
 | nil=>rfl
 | cons h t ih=>rw [a3c,a3c,ih,h.1]
theorem KV.repl {kvs:List (κ×V)}{vs:List (κ×Value)}(r:KV kvs vs)(k:κ){y:V}{u:Value}(ry:RelV y u) :
  KV (kvs.map fun kv=>if kv.1=k then (kv.1,y) else kv) (vs.map fun kv=>if kv.1=k then (kv.1,u) else kv):=by
 unfold KV at r ⊢
 induction r with
 | nil=>exact .nil
 | @cons p q ps qs h t ih =>
  rw [a0k,a0k]
  refine .cons ?_ ih
  obtain ⟨h1,h2⟩:=h
  by_cases e:p.1=k
  ·rw [if_pos e,if_pos (h1.symm.trans e)]; exact ⟨h1,ry⟩
  ·rw [if_neg e,if_neg (fun z=>e (h1.trans z))]; exact ⟨h1,h2⟩
theorem KV.put {kvs:List (κ×V)}{vs:List (κ×Value)}(r:KV kvs vs)(k:κ){y:V}{u:Value}(ry:RelV y u):KV (gY kvs k y) (stored vs k u):=by
 unfold gY stored
 rw [r.any k]
 by_cases e:(vs.any fun kv=>decide (kv.1=k))=true
 ·rw [if_pos e,if_pos e]; exact r.repl k ry
 ·rw [if_neg e,if_neg e]; exact Paired.snoc r ⟨rfl,ry⟩
end
theorem kL {P:Program}{w:World}{k:Key}{u:Value}(r:RelV (kV k) u):(aB P w).is k u=true:=by
 cases k with
 | inl i=>obtain ⟨t,e⟩:=(show ∃ t,u=Value.int i t from r); subst e; exact gP P w i t
 | inr x=>obtain ⟨t,e⟩:=(show ∃ t,u=Value.str x t from r); subst e; exact gM P w x t
theorem eL {P:Program}{w:World}:∀ {ks:List Key} {us:List Value},Vals (ks.map kV) us->ItemsAre (aB P w) ks us
 | [],_,r=>by rw [a0C] at r; cases r; exact .nil
 | k::ks,_,r=>by
  rw [a0k] at r
  cases r with
  | cons h t=>exact .cons (kL h) (eL t)
noncomputable abbrev KT (H:Hp):List (List Key×V)->List (List Key×Addr×Value)->Prop:=Paired fun p q=>p.1=q.1/\H q.2.1=some (.tup (p.1.map kV))/\RelV p.2 q.2.2
theorem KT.val {H:Hp}{kvs:List (List Key×V)}{xs:List (List Key×Addr×Value)}(r:KT H kvs xs)(k:List Key):RelO (dg kvs k) ((atKey xs k).map (·.2)):=by
 induction r with
 | nil=>exact a03
 | @cons p q ps qs h t ih =>
  obtain ⟨h1,_,h2⟩:=h
  by_cases e:p.1=k
  ·have e':q.1=k:=h1.symm.trans e
   have b:atKey (q::qs) k=some q.2:=by simp [atKey,a1d,e']
   rw [gQ e,b]; exact h2
  ·have e':¬ q.1=k:=fun z=>e (h1.trans z)
   have b:atKey (q::qs) k=atKey qs k:=by simp [atKey,a1d,e']
   rw [gX e,b]; exact ih
section
variable {P:Program}{w:World}{H:Hp}{h:Heap}{a:Addr}
theorem rA {u:HO}(ok:HOk P w H h)(e:Rd H a u):ObjOk P w H h a u:=e.ok ok
theorem lI {kvs:List (Key×V)}(ok:HOk P w H h)(e:Rd H a (.dK kvs)):kvs.length<=sizeLine/\(a==sysModules)=false/\∃ vs,KV kvs vs/\h.DictOf (aB P w) a vs :=
 show ObjOk P w H h a (.dK kvs) from rA ok e
theorem xW {kvs:List (Key×V)}(ok:HOk P w H h)(e:H a=some (.dK kvs)):kvs.length<=sizeLine/\(a==sysModules)=false/\∃ vs,KV kvs vs/\h.DictOf (aB P w) a vs:=lI ok (.inl e)
theorem mJ {ks:List Key}(ok:HOk P w H h)(e:H a=some (.tup (ks.map kV))):(tupleKind (aB P w)).is h ks a:=by
 obtain ⟨_,its,r,o,h1,h2,n,h3⟩:=(show ObjOk P w H h a (.tup (ks.map kV)) from ok a _ e)
 exact ⟨o,its.toArray,n,h1,h2,h3,by simpa using eL r⟩
theorem q8 {kvs:List (List Key×V)}(ok:HOk P w H h)(e:Rd H a (.dT kvs)):kvs.length<=sizeLine/\(a==sysModules)=false /\
  ∃ xs,KT H kvs xs/\h.DictOfH (tupleKind (aB P w)) a xs:=by
 obtain ⟨z,y,xs,r,o,es,ep,h1,h2,h3,h4,h5⟩:=(show ObjOk P w H h a (.dT kvs) from rA ok e)
 refine ⟨z,y,xs,r,o,es,ep,h1,h2,h3,h4,fun x hx=>?_,h5⟩
 have all:∀ {l:List (List Key×V)} {m:List (List Key×Addr×Value)},KT H l m->∀ x∈m,(tupleKind (aB P w)).is h x.1 x.2.1:=by
  intro l m q
  induction q with
  | nil=>intro x hx; exact nomatch hx
  | @cons p q ps qs hq t ih =>
   intro x hx
   rcases a0W.mp hx with e | hx
   ·subst e
    exact mJ ok (by rw [<- hq.1]; exact hq.2.1)
   ·exact ih x hx
 exact all r x hx
end
noncomputable def tI (H:Hp)(a:Addr)(y:V)(r:Option V):Prop :=
 (∃ kvs k,Rd H a (.dK kvs)/\y=kV k/\r=dg kvs k)\/∃ kvs k b,Rd H a (.dT kvs)/\y=.ref b/\H b=some (.tup (k.map kV))/\r=dg kvs k
section
variable {X:Cx}{pins:List (Addr×Obj)}{σ:St}{H:Hp}{s:Shared}{a:Addr}{y v:V}{u r:Value}{o:Option V}{A:Around}{E:Value->Shared->Prop}
theorem Inv.big (I:Inv X pins σ H s):sysModules < s.heap.objs.size:=by
 have h:mainGlobals < s.heap.objs.size:=(I.mod.glob.keeps I.bk).lt
 exact a2L (by decide) h
theorem pW {h':Heap}{t':Nat}{ob:HO}(I:Inv X pins σ H s)(mu:Mut (H a))(hs:Heap.SameBut a s.heap h')(he:∃ q,h'.get? a=some q)(new:ObjOk X.prog X.w (upd H a ob) h' a ob) :
  Inv X pins σ (upd H a ob) { s with heap:=h',toks:=t' } :=
 I.write (x:=a) (e:=a) mu (.inl rfl) (fun b q hb z=>(hs.2 b hb).trans z) he new
theorem tH {P:Program}{w:World}{H':Hp}{h':Heap}{kvs:List (Key×V)}{vs:List (Key×Value)}(z:kvs.length<=sizeLine)(hd:(a==sysModules)=false)(rel:KV kvs vs)(dd:h'.DictOf (aB P w) a vs) :
  ObjOk P w H' h' a (.dK kvs):=⟨z,hd,vs,rel,dd⟩
end
theorem m8 {P:Program}{w:World}{H:Hp}(h:Heap)(hb:sysModules < h.objs.size):ObjOk P w H (h.push { cls:=.type "dict",data:=.dict #[] }) h.objs.size (.dK []) :=
 ⟨a1a _,beq_eq_false_iff_ne.mpr (a1g (a0K hb)),[],.nil,Heap.DictOf.new h⟩
noncomputable def fN:List (TE×TE)->St->Hp->(List (V×V)->Hp->Prop)->Prop
 | [],_,H,Q=>Q [] H
 | (tk,tv)::r,σ,H,Q=>tk σ H fun x H1=>tv σ H1 fun y H2=>fN r σ H2 fun ps H3=>Q ((x,y)::ps) H3
noncomputable abbrev VV:List (V×V)->List (Value×Value)->Prop:=Paired fun p q=>RelV p.1 q.1/\RelV p.2 q.2
noncomputable def PPs (X:Cx)(pos:Pos)(keys:List (Option Expr))(values:List Expr)(trs:List (TE×TE)):Prop :=
 ∀ (pins:List (Addr×Obj)) (s:Shared) (σ:St) (H:Hp) (Q:List (V×V)->Hp->Prop),Inv X pins σ H s->fN trs σ H Q ->
  wpAny (model X.prog X.w) X.A (evalPairs (pairTrees keys values X.env pos)) (fun vs s'=>∃ ps H',Inv X pins σ H' s'/\VV ps vs/\Q ps H') X.xe s
theorem oj {X:Cx}{pos:Pos}:PPs X pos [] [] []:=fun pins s σ H Q I h=>pairTrees_nil_walk ⟨[],H,I,.nil,h⟩
theorem kN {X:Cx}{pos:Pos}{k v:Expr}{ks:List (Option Expr)}{vs:List Expr}{tk tv:TE}{trs:List (TE×TE)}(hk:PE X k tk)(hv:PE X v tv)(hr:PPs X pos ks vs trs) :
  PPs X pos (some k::ks) (v::vs) ((tk,tv)::trs):=fun pins s σ H Q I h =>
 pairTrees_cons_walk (thn (hk pins s σ H _ I h) fun u s1 ⟨x,H1,I1,rx,q1⟩=>thn (hv pins s1 σ H1 _ I1 q1) fun w2 s2 ⟨y,H2,I2,ry,q2⟩ =>
  thn (hr pins s2 σ H2 _ I2 q2) fun ws s3 ⟨ps,H3,I3,rel,q3⟩=>⟨(x,y)::ps,H3,I3,.cons ⟨rx,ry⟩ rel,q3⟩)
noncomputable def cw (kvs more:List (Key×V)):List (Key×V):=more.foldl (fun acc kv=>gY acc kv.1 kv.2) kvs
theorem KV.merge:∀ {more:List (Key×V)} {rs:List (Key×Value)} {kvs:List (Key×V)} {vs:List (Key×Value)},KV more rs->KV kvs vs->KV (cw kvs more) (merged vs rs):=by
 intro more rs kvs vs r
 unfold KV at r
 induction r generalizing kvs vs with
 | nil=>intro q; exact q
 | @cons p q ps qs h t ih =>
  intro r0
  have e:KV (gY kvs p.1 p.2) (stored vs q.1 q.2):=by
   have:=r0.put p.1 h.2
   rw [<- h.1]; exact this
  exact ih e
theorem b9:∀ (more kvs:List (Key×V)),(cw kvs more).length<=kvs.length+more.length
 | [],kvs=>by show kvs.length<=kvs.length+0; omega
 | p::r,kvs=>by
  have h1:=b9 r (gY kvs p.1 p.2)
  have h2:=gL kvs p.1 p.2
  show (cw (gY kvs p.1 p.2) r).length<=_
  rw [a0g]; omega
theorem eg {P:Program}{w:World}:∀ {kvs:List (Key×V)} {ws:List (Value×Value)},VV (kvs.map fun kv=>(kV kv.1,kv.2)) ws->∃ rs,Carries (aB P w) ws rs/\KV kvs rs
 | [],_,r=>by rw [a0C] at r; cases r; exact ⟨[],a03,.nil⟩
 | p::kvs,_,r=>by
  rw [a0k] at r
  cases r with
  | @cons a b as bs h t =>
   obtain ⟨rs,c,q⟩:=eg (P:=P) (w:=w) t
   obtain ⟨b1,b2⟩:=b
   exact ⟨(p.1,b2)::rs,⟨kL h.1,rfl,c⟩,.cons ⟨rfl,h.2⟩ q⟩
noncomputable def rR (trs:List (TE×TE)):TE:=fun σ H Q=>∀ p,H p=none->fN trs σ (upd H p (.dK [])) fun ps H2=>H2 p=some (.dK [])/\∃ kvs:List (Key×V),ps=kvs.map (fun kv=>(kV kv.1,kv.2))/\kvs.length<=15/\Q (.ref p) (upd H2 p (.dK (cw [] kvs)))
theorem n6 {X:Cx}{pos:Pos}{keys:List (Option Expr)}{values:List Expr}{trs:List (TE×TE)}(h:PPs X pos keys values trs)(hall:keys.all (·.isSome)=true)(hl:keys.length=values.length)(h0:keys≠[])
  (h15:keys.length<=15):PE X (.Dict keys values pos) (rR trs):=by
 intro pins s σ H Q I q
 have hn:=I.hok.fresh (a0m s.heap.objs.size)
 have I1:=I.laid (a:=s.heap.objs.size) (o:=.dK []) (h':=s.heap.push { cls:=.type "dict",data:=.dict #[] }) (t':=s.toks) (fun _ _ q=>Heap.get?_push_of_some _ q) (a0m _) (m8 s.heap I.big)
 refine wpAny_Dict_walk (knd:=aB X.prog X.w) hall hl h0 h15 (thn (h pins _ σ _ _ I1 (q _ hn)) fun ws s2 ⟨ps,H2,I2,rel,e,kvs,ep,lk,q2⟩=>?_)
 subst ep
 obtain ⟨rs,c,rk⟩:=eg (P:=X.prog) (w:=X.w) rel
 obtain ⟨z,hd,vs0,r0,dd⟩:=xW I2.hok e
 cases r0
 refine ⟨rs,c,dd,fun h' dd' hs=>⟨.ref s.heap.objs.size,_,?_,rfl,q2⟩⟩
 have hz:(cw [] kvs).length<=sizeLine:=by
  have h1:=b9 kvs []
  rw [a1o] at h1
  rw [sizeLine_eq]; omega
 have he:∃ q,h'.get? s.heap.objs.size=some q:=let ⟨q,_,_,hq,_⟩:=dd'; ⟨q,hq⟩
 exact pW I2 (by rw [e]; exact a03) hs he (tH hz hd (rk.merge .nil) dd')
structure M2 (X:Cx)(o:Expr)(m:Str)(apos:Pos)(e f:Expr)(cpos:Pos):Prop where
 base:attributeBase o m X.env (eval o X.env)=eval o X.env
 few:((backTo cpos (starEach [e,f] X.env)).all (fun x=>!x.1)&&(backToKw cpos (keywordEach [] X.env)).all (fun x=>x.1.isSome)
 &&decide (([e,f]:List Expr).length+([]:List Keyword).length+(if ([]:List Keyword).isEmpty then 0 else 1) < 30))=true
 line:(apos.endLine==cpos.line)=true
 trees:backTo cpos (starEach [e,f] X.env)=[(false,eval e X.env),(false,eval f X.env)]
noncomputable def IsD (H:Hp)(a:Addr):Prop:=(∃ kvs,Rd H a (.dK kvs))\/∃ kvs,Rd H a (.dT kvs)
theorem vR {X:Cx}{pins:List (Addr×Obj)}{σ:St}{H:Hp}{s:Shared}{a:Addr}(I:Inv X pins σ H s)(d:IsD H a) :
  s.TypeIs (.ref a) "dict"/\(∀ b,Value.ref a=.ref b->∃ ob,s.heap.get? b=some ob/\ob.dict=none)/\(a==sysModules)=false:=by
 rcases d with ⟨kvs,e⟩ | ⟨kvs,e⟩
 ·obtain ⟨_,hd,vs,_,dd⟩:=lI I.hok e
  refine ⟨dd.typeIs,fun b q=>?_,hd⟩
  cases q
  obtain ⟨ob,_,_,h1,h2,_⟩:=dd
  exact ⟨ob,h1,h2.2.1⟩
 ·obtain ⟨_,hd,xs,_,dd⟩:=q8 I.hok e
  refine ⟨dd.typeIs,fun b q=>?_,hd⟩
  cases q
  obtain ⟨ob,_,_,h1,h2,_⟩:=dd
  exact ⟨ob,h1,h2.2.1⟩
section
variable {X:Cx}{pins:List (Addr×Obj)}{σ:St}{H:Hp}{s:Shared}{a:Addr}{y d:V}{u r:Value}{o:Option V}{A:Around}{E:Value->Shared->Prop}
theorem vv {Q:Value->Shared->Prop}(hu:A.units+1 < cLine)(I:Inv X pins σ H s)(g:tI H a y o)(ry:RelV y u)(rd:RelV d r)(h:∀ w' s',Inv X pins σ H s'->RelV (o.getD d) w'->Q w' s') :
  wpAny (model X.prog X.w) A (call (.builtin "dict.get") [.ref a,u,r]) Q E s:=by
 rcases g with ⟨kvs,k,e,ey,l⟩ | ⟨kvs,k,b,e,ey,eb,l⟩
 ·subst ey
  obtain ⟨z,hd,vs,rel,dd⟩:=lI I.hok e
  refine call_meetsIn a1F dd.typeIs a2f (a19 _ _ _) (meets_dict_get_default (aB X.prog X.w) a (kL ry) hd r) ⟨_,dd.mapOf,h _ _ (I.tok _) ?_⟩
  rw [l]
  exact (rel.val k).getD rd
 ·subst ey
  cases (show u=Value.ref b from ry)
  obtain ⟨z,hd,xs,rel,dd⟩:=q8 I.hok e
  refine call_meetsIn a1F dd.typeIs a2f (a19 _ _ _) (meetsH_dict_get_default (tupleKind (aB X.prog X.w)) a b hd r) ⟨tupleKind_room_in1 hu,k,xs,mJ I.hok eb,dd,h _ _ (I.tok _) ?_⟩
  rw [l]
  exact (rel.val k).getD rd
end
noncomputable def uV (td ty tx:TE):TE:=fun σ H Q=>td σ H fun x H1=>∃ a,x=.ref a/\IsD H1 a/\ty σ H1 fun y H2=>tx σ H2 fun z H3=>∃ o,tI H3 a y o/\Q (o.getD z) H3
section
variable {X:Cx}{o e f:Expr}{apos cpos:Pos}{td ty tx:TE}
theorem mB (hu:X.A.units+1 < cLine)(ho:PE X o td)(he:PE X e ty)(hf:PE X f tx)(m:M2 X o "get" apos e f cpos):PE X (.Call (.Attribute o "get" apos) [e,f] [] cpos) (uV td ty tx):=by
 intro pins s σ H Q I h
 refine wpAny_Call_method m.base m.few m.line PySem.F.plainAttrs_dict a1F PySem.F.type_dict_get (thn (ho pins s σ H _ I h) fun u s1 ⟨x,H1,I1,rx,a,ex,d,q1⟩=>?_)
 subst ex
 obtain rfl:u=Value.ref a:=rx
 obtain ⟨t1,t2,_⟩:=vR I1 d
 refine ⟨t1,t2,?_⟩
 rw [m.trees]
 refine Calls.callWith_builtin rfl (Calls.evalArgs_plain (Calls.spliced_cons (thn (he pins s1 σ H1 _ I1 q1) fun iv s2 ⟨y,H2,I2,ry,q2⟩ =>
  Calls.spliced_cons (thn (hf pins s2 σ H2 _ I2 q2) fun fv s3 ⟨z,H3,I3,rz,ov,g,q3⟩=>Calls.spliced_nil ?_))))
 exact vv hu I3 g ry rz fun w' s4 I4 rw'=>⟨_,H3,I4,rw',q3⟩
end
end L2
namespace L2
open PySem PySem.Spec PyProof.Rows
end L2

set_option maxHeartbeats 4000000
namespace L3
open PySem PySem.Spec PyProof.Rows L2
noncomputable abbrev noX:Value->Shared->Prop:=fun _ _=>False
inductive Th where
 | non | bl (b:Bool) | int (i:Int) | str (x:Str) | tup (ts:List Th) | lst (ts:List Th)
mutual
noncomputable def Has (K:a0a)(H:Hp):Th->V->Prop
 | .non,v=>v=.non
 | .bl b,v=>v=.bl b
 | .int i,v=>v=.int i
 | .str x,v=>v=.str x
 | .tup ts,v=>∃ a vs,v=.ref a/\SqT K H a vs/\HasL K H ts vs
 | .lst ts,v=>∃ a vs,v=.ref a/\H a=some (.lst vs)/\HasL K H ts vs
noncomputable def HasL (K:a0a)(H:Hp):List Th->List V->Prop
 | [],vs=>vs=[]
 | t::ts,vs=>∃ v r,vs=v::r/\Has K H t v/\HasL K H ts r
end
theorem Same.sqt {K:a0a}{H H':Hp}{a:Addr}{xs:List V}(e:Same H H')(h:SqT K H a xs):SqT K H' a xs:=by
 rcases h with (h | ⟨o,h⟩) | h
 ·exact .inl (.inl (e _ _ h))
 ·exact .inl (.inr ⟨o,e _ _ h⟩)
 ·exact .inr h
mutual
theorem Has.mono {K:a0a}{H H':Hp}(s:Same H H'):∀ {t:Th} {v:V},Has K H t v->Has K H' t v
 | .non,_,h=>h
 | .bl _,_,h=>h
 | .int _,_,h=>h
 | .str _,_,h=>h
 | .tup _,_,⟨a,vs,e,q,r⟩=>⟨a,vs,e,Same.sqt s q,HasL.mono s r⟩
 | .lst _,_,⟨a,vs,e,q,r⟩=>⟨a,vs,e,s _ _ q,HasL.mono s r⟩
theorem HasL.mono {K:a0a}{H H':Hp}(s:Same H H'):∀ {ts:List Th} {vs:List V},HasL K H ts vs->HasL K H' ts vs
 | [],_,h=>h
 | _::_,_,⟨v,r,e,q,z⟩=>⟨v,r,e,Has.mono s q,HasL.mono s z⟩
end
noncomputable def Th.ty:Th->String
 | .non=>"NoneType" | .bl _=>"bool" | .int _=>"int" | .str _=>"str" | .tup _=>"tuple" | .lst _=>"list"
noncomputable def isI (c:String)(t:Th):Bool:=t.ty==c || (t.ty=="bool"&&c=="int")
structure DTab (K:a0a)(w:World)(a:Addr)(T:List (Str×V)):Prop where
 ex:∃ es n,K.lookup a=some ⟨.type "dict",none,.dict es n,#[]⟩/\a21 w.params es.toList/\Paired (fun (p:Str×V) (e:DictEntry)=>(∃ t,e.key=.str p.1 t)/\RelV p.2 e.val) T es.toList
 lo:(a==sysModules)=false
theorem gH {x:Str}:∀ {T:List (Str×V)} {l:List DictEntry},Paired (fun (p:Str×V) (e:DictEntry)=>(∃ t,e.key=.str p.1 t)/\RelV p.2 e.val) T l->RelO (T.lookup x) ((l.find? fun d=>Value.isStrOf x d.key).map (·.val))
 | _,_,.nil=>trivial
 | (k,v)::T,e::l,.cons ⟨⟨t,h1⟩,h2⟩ r=>by
  have ih:=gH (x:=x) r
  have q:Value.isStrOf x e.key=(x==k):=by
   have h1':e.key=.str k t:=h1
   rw [h1']
   show (k==x)=(x==k)
   by_cases z:x=k
   ·subst z; rfl
   ·rw [beq_false_of_ne z,beq_false_of_ne (a1g z)]
  rw [a1d,q,a04]
  cases x==k with
  | true=>exact h2
  | false=>exact ih
theorem DTab.map {K:a0a}{w:World}{a:Addr}{T:List (Str×V)}{P:Program}{h:Heap}(D:DTab K w a T)(X:K.In h):∃ f:Str->Option Value,h.MapOf (strKind P w) a f/\∀ x,RelO (T.lookup x) (f x):=by
 obtain ⟨es,n,h1,h2,h3⟩:=D.ex
 refine ⟨_,PySem.W.mapOf_K (prog:=P) X h1 h2,fun x=>?_⟩
 have q:=gH (x:=x) h3
 have e:findBy Value.isStrOf es x=(es.toList.find? fun d=>Value.isStrOf x d.key).map (·.val):=by
  unfold findBy
  rw [<- a1X]
 rw [e]; exact q
theorem RelO.some_is {v:V}{o:Option Value}(r:RelO (some v) o):∃ u,o=some u/\RelV v u:=by
 cases o with
 | none=>exact r.elim
 | some u=>exact ⟨u,rfl,r⟩
theorem RelO.same_some {o:Option V}{u:Option Value}(r:RelO o u):u.isSome=o.isSome:=by
 cases o with
 | none =>
  cases u with
  | none=>rfl
  | some u=>exact r.elim
 | some v =>
  obtain ⟨u,rfl,_⟩:=RelO.some_is r
  rfl
section
variable {X:Cx}
theorem fU:OpR X (compareOp .NotIn) (fun x y H Q=>∃ z a T,x=.str z/\y=.ref a/\DTab X.K X.w a T/\Q (.bl (!(T.lookup z).isSome)) H):=by
 intro pins s σ H x y v u Q I rx ry h
 obtain ⟨z,a,T,rfl,rfl,D,q⟩:=h
 obtain ⟨t,rfl⟩:=rx
 cases ry
 obtain ⟨f,hm,hf⟩:=D.map (P:=X.prog) I.kIn
 refine wpAny_notIn_of (strKind_is X.prog X.w z t) D.lo hm ?_
 rw [RelO.same_some (hf z)]
 exact ⟨.bl (!(T.lookup z).isSome),H,I.tok _,rfl,q⟩
theorem uM:IxR X (fun x y H Q=>∃ a z T v,x=.ref a/\y=.str z/\DTab X.K X.w a T/\T.lookup z=some v/\Q v H):=by
 intro value slice pins s σ H x y v u Q I rx ry h hs
 obtain ⟨a,z,T,r,rfl,rfl,D,l,q⟩:=h
 cases rx
 obtain ⟨t,rfl⟩:=ry
 obtain ⟨f,hm,hf⟩:=D.map (P:=X.prog) I.kIn
 have e:=hf z
 rw [l] at e
 obtain ⟨w',e1,e2⟩:=RelO.some_is e
 exact tail_any hm.typeIs PySem.F.slot_dict_getitem.lookup (wpAny_getItem_of (strKind_is X.prog X.w z t) hm e1 ⟨r,H,I.tok _,e2,q⟩) hs
end
theorem fY {H:Hp}{p:Addr}(h:H p=none)(o:HO):Same H (upd H p o):=fun b u q=>by rw [ag (aS q h)]; exact q
noncomputable def rh (K:a0a):R2:=fun x y H Q=>∃ a b xs ys,x=.ref a/\y=.ref b/\SqT K H a xs/\SqT K H b ys/\xs≠[]/\xs.length+ys.length<=sizeLine/\∀ v H',Same H H'->(∃ c,v=.ref c/\SqT K H' c (xs++ys))->Q v H'
theorem qj {X:Cx}:OpR X (binaryOp .Add) (rh X.K):=fun pins s σ H x y v u Q I rx ry h=>by
 obtain ⟨a,b,xs,ys,e1,e2,h1,h2,hx,hz,q⟩:=h
 exact pq pins s σ H x y v u Q I rx ry ⟨a,b,xs,ys,e1,e2,h1,h2,hx,hz,fun z=>q _ _ (Same.refl _) ⟨a,rfl,by rw [z,a0F]; exact h1⟩,fun _ p hp=>q _ _ (fY hp _) ⟨p,rfl,SqT.of ah⟩⟩
theorem wF {X:Cx}{x:Str}{T:String}{pos:Pos}(hg:Gl X x)(hm:X.mg x=none)(hv:bootBuiltins x=some (.type T))(hn:x≠"__name__":=by decide)(hd:(x==("__debug__":Str))=false:=by decide):PE X (.Name x pos) (tC (.ty T)):=oF (v:=.ty T) hg hm hv rfl hn hd
theorem fD {X:Cx}{x:Str}{a:Addr}{pos:Pos}(hg:Gl X x)(hm:X.mg x=some (.ref a))(hd:(x==("__debug__":Str))=false:=by decide):PE X (.Name x pos) (tC (.ref a)):=jg (v:=.ref a) hg hm rfl hd
mutual
noncomputable def toD:Th->PyData
 | .non=>.none
 | .bl b=>.bool b
 | .int i=>.int i
 | .str x=>.str x
 | .tup ts=>.tuple (cB ts)
 | .lst ts=>.list (cB ts)
noncomputable def cB:List Th->List PyData
 | []=>[]
 | t::ts=>toD t::cB ts
end
section
variable {X:Cx}{pins:List (Addr×Obj)}{σ:L2.St}{H:Hp}{s:Shared}
mutual
theorem Has.reads (I:Inv X pins σ H s):∀ {t:Th} {v:V} {u:Value},Has X.K H t v->RelV v u->∃ as,Reads s.heap u (toD t) as
 | .non,_,u,h,r=>by
  obtain rfl:_=V.non:=h
  obtain rfl:u=Value.none:=r
  exact ⟨_,.none⟩
 | .bl b,_,u,h,r=>by
  obtain rfl:_=V.bl b:=h
  obtain rfl:u=Value.bool b:=r
  exact ⟨_,.bool b⟩
 | .int i,_,u,h,r=>by
  obtain rfl:_=V.int i:=h
  obtain ⟨t,rfl⟩:∃ t,u=Value.int i t:=r
  exact ⟨_,.int i t⟩
 | .str x,_,u,h,r=>by
  obtain rfl:_=V.str x:=h
  obtain ⟨t,rfl⟩:∃ t,u=Value.str x t:=r
  exact ⟨_,.str x t⟩
 | .tup ts,_,u,⟨a,vs,e,hS,hL⟩,r=>by
  subst e
  obtain rfl:u=Value.ref a:=r
  obtain ⟨its,rv,⟨o,h1,h2,n,h3⟩,_⟩:=I.tuple hS
  obtain ⟨as,ra⟩:=HasL.reads I hL rv
  exact ⟨_,.tuple h1 h2 h3 (by simpa using ra)⟩
 | .lst ts,_,u,⟨a,vs,e,hS,hL⟩,r=>by
  subst e
  obtain rfl:u=Value.ref a:=r
  obtain ⟨its,rv,⟨o,n,h1,h2,_,h3⟩,_⟩:=I.list (SqL.of hS)
  obtain ⟨as,ra⟩:=HasL.reads I hL rv
  exact ⟨_,.list h1 h2 h3 (by simpa using ra)⟩
theorem HasL.reads (I:Inv X pins σ H s):∀ {ts:List Th} {vs:List V} {us:List Value},HasL X.K H ts vs->Vals vs us->∃ as,ReadsAll s.heap us (cB ts) as
 | [],vs,us,h,r=>by
  obtain rfl:vs=[]:=h
  cases r
  exact ⟨_,.nil⟩
 | t::ts,vs,us,⟨v,w',e,h1,h2⟩,r=>by
  subst e
  cases r with
  | cons r1 r2 =>
   obtain ⟨as,ra⟩:=Has.reads I h1 r1
   obtain ⟨bs,rb⟩:=HasL.reads I h2 r2
   exact ⟨_,.cons ra rb⟩
end
end
noncomputable abbrev eY (t:Th):Prop:=SeqAt.shaped (toD t)=true
theorem iO {X:Cx}(hu:X.A.units+64 < cLine):OpR X (compareOp .Eq) (fun x y H Q=>∃ t t',Has X.K H t x/\Has X.K H t' y/\eY t/\eY t'/\Q (.bl (PyData.eqv (toD t) (toD t'))) H):=by
 intro pins s σ H x y v u Q I rx ry h
 obtain ⟨t,t',h1,h2,o1,o2,q⟩:=h
 obtain ⟨as,ra⟩:=Has.reads I h1 rx
 obtain ⟨bs,rb⟩:=Has.reads I h2 ry
 exact a3r ra rb o1 o2 hu ⟨.bl _,H,I,rfl,q⟩
theorem qh {X:Cx}(hu:X.A.units+64 < cLine):OpR X (compareOp .NotEq) (fun x y H Q=>∃ t t',Has X.K H t x/\Has X.K H t' y/\eY t/\eY t'/\Q (.bl (!PyData.eqv (toD t) (toD t'))) H):=by
 intro pins s σ H x y v u Q I rx ry h
 obtain ⟨t,t',h1,h2,o1,o2,q⟩:=h
 obtain ⟨as,ra⟩:=Has.reads I h1 rx
 obtain ⟨bs,rb⟩:=Has.reads I h2 ry
 exact a3s ra rb o1 o2 hu ⟨.bl _,H,I,rfl,q⟩
section
variable {prog:Program}{w:World}{A:Around}{E:Value->Shared->Prop}{s:Shared}
theorem cC {t sl:Addr}{items:Array Value}{vl vu:Value}{lo hi:Option Int}{Q:Value->Shared->Prop}(ht:IsTup s.heap t items)(hs:s.heap.IsSliceOf sl vl vu .none)(pl:IsPart vl lo)(pu:IsPart vu hi)
  (hw:HT.sIx items.size 0 lo=0/\HT.sIx items.size items.size hi=items.size) (h:Q (.ref t) s):wpAny (model prog w) A (getItem (.ref t) (.ref sl)) Q E s:=by
 obtain ⟨os,hos,hcs,hds⟩:=id hs
 have hTs:s.TypeIs (.ref sl) "slice":=⟨os,hos,hcs⟩
 unfold getItem
 try with_reducible refine wpAny_holding ?_
 first | refine wpAny_bind (wpAny_pure ?_) | skip
 refine wpAny_bind (wpAny_sequenceKey ht.typeIs (by decide) ?_)
 refine wpAny_bind (wpAny_callSpecial?_slot (name:=Str.ofString "__getitem__") ht.typeIs a0B
  (wpAny_call_entry a0B ht.typeIs entry_tuple_getitem ?_ (args_tuple_getitem _ _)))
 show wpAny _ _ (Builtin.Tuple.tupleItemsOf (.ref t) >>= _) _ _ s
 refine wpAny_bind (tupleItemsOf_ ht ?_)
 refine wpAny_bind (wpAny_typeOf hTs ?_)
 rw [if_pos (by decide)]
 refine wpAny_bind (HT.sliceApplied_gen hs pl pu ?_)
 have hyes:(((HT.sIx items.size 0 lo:Nat):Int)==0&&(1:Int)==1&&(HT.sIx items.size items.size hi-HT.sIx items.size 0 lo)==items.size)=true:=by
  rw [hw.1,hw.2]
  simp
 show wpAny _ _ (if (((HT.sIx items.size 0 lo:Nat):Int)==0&&(1:Int)==1&&(HT.sIx items.size items.size hi-HT.sIx items.size 0 lo)==items.size)=true then _ else _) _ _ s
 rw [if_pos hyes]
 unfold Builtin.Tuple.tupleIsExact
 refine wpAny_bind (wpAny_bind (wpAny_typeOf ht.typeIs (wpAny_pure ?_)))
 rw [if_pos (by decide)]
 first
  | exact wpAny_bind (wpAny_rule (wpAny_pure ⟨_,rfl,wpAny_pure h⟩))
  | exact wpAny_bind (wpAny_rule (wpAny_bind (wpAny_pure (wpAny_pure ⟨_,rfl,wpAny_pure h⟩))))
end
section
variable {X:Cx}
noncomputable def n9 (K:a0a):V->Option Int->Option Int->Hp->VK->Prop:=fun x lo hi H Q=>∃ a xs,x=.ref a/\SqT K H a xs/\∀ v H',Same H H'->(∃ c,v=.ref c/\SqT K H' c (cA xs lo hi))->Q v H'
theorem eZ:SlR X (n9 X.K):=by
 intro pins s σ H x v vl vu lo hi sl Q I rx hs pl pu h
 obtain ⟨a,xs,rfl,hx,q⟩:=h
 by_cases hw:HT.sIx xs.length 0 lo=0/\HT.sIx xs.length xs.length hi=xs.length
 ·cases rx
  obtain ⟨its,r,ht,hz⟩:=I.tuple hx
  have hlen:its.toArray.size=xs.length:=by rw [a0i]; exact r.length.symm
  refine ⟨"tuple",_,a0B.lookup,ht.typeIs,?_⟩
  refine cC ht hs pl pu (by rw [hlen]; exact hw) ⟨.ref a,H,I,rfl,q _ _ (Same.refl H) ⟨a,rfl,?_⟩⟩
  have e:cA xs lo hi=xs:=by
   unfold cA
   rw [hw.1,hw.2]
   simp
  rw [e]
  exact hx
 ·exact uw pins s σ H _ v vl vu lo hi sl Q I rx hs pl pu ⟨a,xs,rfl,hx,hw,fun p hp=>q _ _ (fY hp _) ⟨p,rfl,SqT.of ah⟩⟩
end
noncomputable def Al (K:a0a):R2:=fun x y H Q=>∃ p xs i v,x=.ref p/\y=.int i/\(SqL K H p xs\/SqT K H p xs)/\atI xs i=some v/\Q v H
theorem ix_any {X:Cx}:IxR X (Al X.K):=fun value slice pins s σ H x y v u Q I rx ry h hs=>by
 obtain ⟨p,xs,i,z,e1,e2,hq,ha,q⟩:=h
 rcases hq with hq | hq
 ·exact pF value slice pins s σ H x y v u Q I rx ry ⟨p,xs,i,z,e1,e2,hq,ha,q⟩ hs
 ·exact v8 value slice pins s σ H x y v u Q I rx ry ⟨p,xs,i,z,e1,e2,hq,ha,q⟩ hs
end L3

namespace L3
open PySem PySem.Spec PySem.Builtin PySem.Builtin.Str PyProof.Rows L2
theorem eJ:∀ {ts:List a1j} {its:List Value},Vals (ts.map V.str) its->∃ l:List (a1j×Tok),its=strValues l/\l.map (·.1)=ts
 | [],_,h=>by
  cases h
  exact ⟨[],rfl,rfl⟩
 | t::ts,_,h=>by
  cases h with
  | cons h1 h2 =>
   obtain ⟨k,rfl⟩:=h1
   obtain ⟨l,rfl,e⟩:=eJ h2
   exact ⟨(t,k)::l,rfl,by rw [a0k,e]⟩
theorem cM:∀ (l:List (a1j×Tok)),Vals ((l.map (·.1)).map V.str) (strValues l)
 | []=>.nil
 | p::l=>.cons ⟨p.2,rfl⟩ (cM l)
section
variable {X:Cx}
noncomputable def qS (K:a0a):V->List V->Hp->VK->Prop:=fun x vs H Q=>∃ z p ts,x=.str z/\vs=[.ref p]/\SqL K H p (ts.map V.str)/\JoinOk z ts=true/\Q (.str (a0r z ts)) H
theorem pC:MtR X "str.join" (qS X.K):=by
 intro pins s σ H x vs v us Q I rx rv h
 obtain ⟨z,p,ts,rfl,rfl,hS,hok,q⟩:=h
 obtain ⟨t,rfl⟩:=rx
 obtain ⟨u,rfl,ru⟩:=rv.one
 cases ru
 obtain ⟨its,r,pl,_⟩:=I.list hS
 obtain ⟨l,rfl,e⟩:=eJ r
 exact SC.join pl.isList e hok fun t' k=>⟨.str (a0r z ts),H,I.tok _,⟨t',by rw [show Txt.join z ts=a0r z ts from StrLaws.glued_eq_join z ts]⟩,q⟩
noncomputable def lY:V->List V->Hp->VK->Prop:=fun x vs H Q=>∃ z y,x=.str z/\vs=[.str y]/\(y.length==0)=false/\z.length+2<=sizeLine/\∀ p,H p=none->Q (.ref p) (upd H p (.lst ((Txt.split z y).map V.str)))
theorem lJ:MtR X "str.split" lY:=by
 intro pins s σ H x vs v us Q I rx rv h
 obtain ⟨x,y,rfl,rfl,hy,hsz,q⟩:=h
 obtain ⟨t,rfl⟩:=rx
 obtain ⟨u',rfl,ru⟩:=rv.one
 obtain ⟨u,rfl⟩:=ru
 have few:(Txt.split x y).length<=sizeLine:=by
  have:=StrLaws.occ_length_le x y 0 x.length (x.length+1)
  simp only [Txt.split,apply_ite a2v,length_partsBetween,a0j]
  split<;>(try split)<;>omega
 have out:∀ (l:List (a1j×Tok)) (k:Nat),Txt.split x y=l.map (·.1)->EP X pins σ Q (.ref s.heap.objs.size) { s with heap:=s.heap.push { cls:=.type "list",data:=.seq (strValues l).toArray },toks:=k }:=fun l k e =>
  ⟨.ref _,_,I.lnew (t':=k) (its:=strValues l) (ys:=(Txt.split x y).map V.str) (by rw [e]; exact cM l) (by rw [a0b]; exact few),rfl,q _ I.fresh⟩
 unfold Txt.split at few out
 split at out
 next no =>
  exact call_meets F.slot_str_split (typeIs_str _ _ _) F.entry_str_split (F.args_str_split_2 _ _) (meets_str_split_cannot_occur x y t u no) (out [(x,t)] s.toks rfl)
 next may =>
  rw [if_neg may] at few
  rw [a2T] at may
  split at out
  next no =>
   exact call_meets F.slot_str_split (typeIs_str _ _ _) F.entry_str_split (F.args_str_split_2 _ _) (meets_str_split_not_found x y t u may hy no) (out [(x,t)] s.toks rfl)
  next yes =>
   rw [if_neg yes] at few
   rw [a2T] at yes
   have o:=fun k=>out (numbered s.toks _) k (numbered_texts s.toks _).symm
   rw [<- strsFrom_eq] at o
   exact call_meets F.slot_str_split (typeIs_str _ _ _) F.entry_str_split (F.args_str_split_2 _ _) (meets_str_split_sep x y t u may hy yes (by omega) few) (o _)
end
theorem gD {α:Type}{c:α}:∀ {x y r z:List α},c ∉ x->c ∉ y->x++c::r=y++c::z->x=y/\r=z
 | [],[],_,_,_,_,e=>⟨rfl,(a1M e).2⟩
 | [],b::y,_,_,_,hy,e=>absurd (by rw [(a1M e).1]; exact a0c) hy
 | a::x,[],_,_,hx,_,e=>absurd (by rw [<- (a1M e).1]; exact a0c) hx
 | a::x,b::y,r,z,hx,hy,e=>by
  obtain ⟨h1,h2⟩:=gD (fun m=>hx (a0e _ m)) (fun m=>hy (a0e _ m)) (a1M e).2
  exact ⟨by rw [h1,(a1M e).1],h2⟩
theorem ax (x y:a1j):(x++y).cps.toList=x.cps.toList++y.cps.toList:=a2w
theorem gy (c:Nat):∀ (xs ys:List a1j),xs≠[]->ys≠[]->(∀ p∈xs,c ∉ p.cps.toList)->(∀ p∈ys,c ∉ p.cps.toList)->a0r ⟨#[c]⟩ xs=a0r ⟨#[c]⟩ ys->xs=ys
 | [],_,h,_,_,_,_=>absurd rfl h
 | _::_,[],_,h,_,_,_=>absurd rfl h
 | [x],[y],_,_,_,_,e=>by rw [show x=y from e]
 | [x],y::y2::r,_,_,hx,_,e=>by
  have e':x=y++⟨#[c]⟩++a0r ⟨#[c]⟩ (y2::r):=e
  refine absurd ?_ (hx x a0c)
  rw [e',ax,ax]
  exact a0Z _ (a0I _ a0c)
 | x::x2::r,[y],_,_,_,hy,e=>by
  have e':x++⟨#[c]⟩++a0r ⟨#[c]⟩ (x2::r)=y:=e
  refine absurd ?_ (hy y a0c)
  rw [<- e',ax,ax]
  exact a0Z _ (a0I _ a0c)
 | x::x2::r,y::y2::z,_,_,hx,hy,e=>by
  have e':x++⟨#[c]⟩++a0r ⟨#[c]⟩ (x2::r)=y++⟨#[c]⟩++a0r ⟨#[c]⟩ (y2::z):=e
  have e2:=congrArg (fun s=>s.cps.toList) e'
  simp only [ax] at e2
  have e3:x.cps.toList++c::(a0r ⟨#[c]⟩ (x2::r)).cps.toList=y.cps.toList++c::(a0r ⟨#[c]⟩ (y2::z)).cps.toList:=by
   simpa using e2
  obtain ⟨h1,h2⟩:=gD (hx x a0c) (hy y a0c) e3
  have hxy:x=y:=by
   cases x; cases y
   exact congrArg a2M (a1I.mp h1)
  have hr:a0r ⟨#[c]⟩ (x2::r)=a0r ⟨#[c]⟩ (y2::z):=by
   revert h2
   generalize a0r ⟨#[c]⟩ (x2::r)=u
   generalize a0r ⟨#[c]⟩ (y2::z)=v
   intro h2
   cases u; cases v
   exact congrArg a2M (a1I.mp h2)
  rw [hxy,gy c (x2::r) (y2::z) (a05 _ _) (a05 _ _) (fun p hp=>hx p (a0e _ hp)) (fun p hp=>hy p (a0e _ hp)) hr]
theorem mf (x y:a1j):Txt.split x y≠[]:=by
 unfold Txt.split
 split
 ·exact a05 _ _
 ·split
  ·exact a05 _ _
  ·intro h
   have e:=congrArg a2v h
   rw [length_partsBetween] at e
   exact absurd e (Nat.succ_ne_zero _)
end L3

namespace L3
open PySem PySem.Spec PyProof.Rows L2
noncomputable def ItO (h:Heap):Bool->Addr->Addr->Nat->Prop
 | true,it,a,n=>h.IsTupleIter it a n
 | false,it,a,n=>h.IsListIter it a n
end L3
namespace L3
open PySem PySem.Spec PyProof.Rows L2
end L3
namespace L3
open PySem PySem.Spec PyProof.Rows L2
end L3
namespace L3
open PySem PySem.Spec PyProof.Rows L2
end L3
namespace L3
open PySem PySem.Spec PyProof.Rows L2
end L3
namespace L3
open PySem PySem.Spec PyProof.Rows L2
end L3
namespace L3
open PySem PySem.Spec PyProof.Rows L2
end L3

namespace L3
open PySem PySem.Spec PyProof.Rows L2
noncomputable def CW (X:Cx)(cs:List Expr)(k:Bool->Shared->Prop)(s:Shared):Prop:=match cs with
 | []=>k true s
 | [c]=>wpAny (model X.prog X.w) X.A (isTrue c X.env (eval c X.env)) k noX s
 | _=>False
noncomputable def PC (X:Cx)(cs:List Expr)(tc:TT):Prop:=∀ (pins:List (Addr×Obj)) (s:Shared) (σ:L2.St) (H:Hp) (Q:Bool->Hp->Prop),Inv X pins σ H s->tc σ H Q->CW X cs (fun ok s'=>∃ H',Inv X pins σ H' s'/\Q ok H') s
section
variable {X:Cx}{elt iter tg cnd:Expr}{pre:List Str}{pos spos pz:Pos}{z:Str}{jz:Nat}{scope:Scope}{cl:List (Str×Addr)}{ys:List Str}{is:List Nat}{wi:TI}{g:TG}{te:TE}{tc:TT}
noncomputable def tT:TT:=fun _ H Q=>Q true H
end
end L3

namespace L3
open PySem PySem.Spec PyProof.Rows L2
end L3
namespace L3
open PySem PySem.Spec PyProof.Rows L2
end L3
namespace L3
open PySem PySem.Spec PyProof.Rows L2
end L3

namespace L3
open PySem PySem.Spec PyProof.Rows L2
theorem bT:∀ {ns:List Int} {us:List Value},Vals (ns.map V.int) us->IntsAre us ns
 | [],_,.nil=>.nil
 | n::ns,_,.cons ⟨t,e⟩ r=>by cases e; exact .cons n t (bT r)
end L3
namespace L3
open PySem PySem.Spec PyProof.Rows L2
noncomputable abbrev qR (h:Heap)(T:Addr)(a b c:Value):Prop:=h.get? T=some { cls:=.type "tuple",data:=.seq #[a,b,c] }
end L3
namespace L3
open PySem PySem.Spec PyProof.Rows L2
noncomputable def Z3 (n a1 a2 a3:Nat)(i:Nat)(h:Heap):Prop :=
 IsZip h (n+5) (n+3) (n+4) .none/\qR h (n+3) (.ref n) (.ref (n+1)) (.ref (n+2))/\(∃ a b c,qR h (n+4) a b c)/\ItO h false n a1 i/\ItO h false (n+1) a2 i/\ItO h false (n+2) a3 i
end L3

namespace L3
open PySem PySem.Spec PyProof.Rows L2
noncomputable abbrev VE:List Value:=[.type "ValueError",.type "Exception",.type "BaseException",.type "object"]
structure dS (h:Heap)(C N:Addr)(up:List Value)(names:Str->Option Value):Prop where
 obj:∃ nm q bs hd sn sub ab col dd k0 k1 k2 k3 k5,h.get? C=some (excClassObj nm q C N bs up hd sn sub ab col dd k0 k1 k2 k3 k5 "ValueError.__new__")
 ns:h.Ns N names
section
variable {prog:Program}{w:World}{h:Heap}{A:Around}{g:Array GenState}{d:Drawn}{t:Nat}{os:OsState}{E:Value->Shared->Prop}
theorem lF {C N fI:Addr}{up us:List Value}{names:Str->Option Value}{oI:Obj}{Q:Value->Shared->Prop}(c:dS h C N up names)(T:OwnTail h VE up)
  (hi:names "__init__"=some (.ref fI)) (hf:h.get? fI=some oI) (hc:oI.cls=.type "function") (hl:us.length<=sizeLine)
  (k:∀ h',Heap.MadeExcOf h h' (h.objs.size+1) (.ref C) us->wpAny (model prog w) (A.under (.builtin "type.__call__" ⟨.ref C::us,[]⟩)) (call (.ref fI) (.ref (h.objs.size+1)::us)) (fun r s'=>r=.none/\Q (.ref (h.objs.size+1)) s') E ⟨h',g,d,t,os⟩) :
  wpAny (model prog w) A (call (.ref C) us) Q E ⟨h,g,d,t,os⟩:=by
 obtain ⟨⟨nm,q,bs,hd,sn,sub,ab,col,dd,k0,k1,k2,k3,k5,hC⟩,hn⟩:=c
 have B:=a1V
 have l1:=tc_lookup
 have l2:=tc_bind (.ref C)
 have ty:(⟨h,g,d,t,os⟩:Shared).TypeIs (.ref C) "type":=⟨_,hC,rfl⟩
 refine wpAny_call (codeAny_of_tree ?_)
 show wpAny _ _ (callAny (.ref C) _) _ _ _
 repeat (any_goals (first | with_reducible refine wpAny_loadPart_at hC ?_ | assumption | wp_step))
 refine ⟨rfl,codeAny_call_builtin_at (Code.quiet_builtin _ (by decide +kernel)) entry_typeCall (wpAny_check_type_call_sub hC ?_)⟩
 repeat (first | with_reducible refine wpAny_madeBy_exc hC ?_ | with_reducible refine wpAny_loadPart_at hC ?_ | wp_step)
 refine codeAny_call_builtin_code (Code.quiet_builtin _ B.quiet) (wpAny_check_new_subU B B.hasB T hC ?_)
 refine codeAny_exc_new_subU B B.hasB B T hC ?_ hl
 show wpAny _ _ _ _ _ (⟨(h.push { cls:=.type "tuple",data:=.seq us.toArray }).push { cls:=.ref C,data:=.fields #[.ref h.objs.size,.none,.none,.none,.bool false,.none] },g,d,t,os⟩:Shared)
 generalize hG:(h.push { cls:=.type "tuple",data:=.seq us.toArray }).push { cls:=.ref C,data:=.fields #[.ref h.objs.size,.none,.none,.none,.bool false,.none] }=G
 have old:∀ b o,h.get? b=some o->G.get? b=some o:=fun b o z=>by rw [<- hG]; exact Heap.get?_push_of_some _ (Heap.get?_push_of_some _ z)
 have new:G.get? (h.objs.size+1)=some { cls:=.ref C,data:=.fields #[.ref h.objs.size,.none,.none,.none,.bool false,.none] }:=by rw [<- hG]; heap_get
 have tup:G.get? h.objs.size=some { cls:=.type "tuple",data:=.seq us.toArray }:=by rw [<- hG]; exact Heap.get?_push_of_some _ (Heap.get?_push_at rfl rfl)
 have own:(Value.ref C::up).contains (.ref C)=true:=by simp
 have hCG:=old _ _ hC
 unfold isInstance
 repeat (first | with_reducible refine wpAny_loadPart_at new ?_ | (with_reducible refine wpAny_isSubtype_exc hCG ?_; rw [own]) | wp_step)
 show wpAny _ _ (typeLookup (.ref C) _) _ _ _
 refine wpAny_typeLookup_tail hCG (hn.keeps old) (T.keeps old) B.mroIs B.init.lookup ?_
 rw [hi]
 refine wpAny_holding (wpAny_bind ?_)
 unfold bindSpecial
 refine wpAny_bind (wpAny_typeOf (T:="function") ⟨_,old _ _ hf,hc⟩ ?_)
 rw [if_pos (by decide)]
 refine wpAny_pure (wpAny_bind (wpAny_mono (k G ⟨old,Heap.get?_none_of_le (a22 _),h.objs.size,new,Heap.get?_none_of_le (a0m _),tup⟩) (fun r s' hr=>?_) fun _ _ x=>x))
 obtain ⟨rfl,hQ⟩:=hr
 wp_walk
 exact hQ
noncomputable def b6:List Value->Bool
 | .ref _::r=>b6 r
 | l=>l==VE
theorem eF (self:Value):∀ {l:List Value},b6 l=true->refuseLoop self "__setattr__" l=pure ()
 | .ref c::r,q=>by rw [refuseLoop_ref]; exact eF self q
 | [],q=>by cases q
 | .type n::r,q=>by rw [show Value.type n::r=VE from beq_iff_eq.mp q]; kernel_rfl
 | .none::r,q=>by cases (show Value.none::r=VE from beq_iff_eq.mp q)
 | .bool _::r,q=>by cases (show _::r=VE from beq_iff_eq.mp q)
 | .int _ _::r,q=>by cases (show _::r=VE from beq_iff_eq.mp q)
 | .float _ _::r,q=>by cases (show _::r=VE from beq_iff_eq.mp q)
 | .str _ _::r,q=>by cases (show _::r=VE from beq_iff_eq.mp q)
 | .bytes _ _::r,q=>by cases (show _::r=VE from beq_iff_eq.mp q)
 | .builtin _::r,q=>by cases (show _::r=VE from beq_iff_eq.mp q)
 | .ellipsis::r,q=>by cases (show _::r=VE from beq_iff_eq.mp q)
 | .notImplemented::r,q=>by cases (show _::r=VE from beq_iff_eq.mp q)
end
section
variable {prog:Program}{w:World}{A:Around}{E:Value->Shared->Prop}{s:Shared}{K:a0a}
theorem pM {e C:Addr}{oe:Obj}{vs:Array Value}{name:Str}{v:Value}{Q:Unit->Shared->Prop}(X:K.In s.heap)(he:s.heap.get? e=some oe)(hc:oe.cls=.ref C)(hd:oe.dict=none)(hf:oe.data=.fields vs)
  (hs:a0q K (.ref C) "__setattr__"=some (some (.builtin "object.__setattr__"))) (hp:(a1r K C).any (fun cd=>b6 cd.mro)=true) (ht:a1S K C name=some none) (hh:a0V K C=true)
  (h:∀ h',h'.get? e=some { oe with dict:=some s.heap.objs.size }->h'.Ns1 s.heap.objs.size (fun y=>if y=name then some v else none)->(∀ b o,b≠e->s.heap.get? b=some o->h'.get? b=some o)->Q () { s with heap:=h',toks:=s.toks+2 }) :
  wpAny (model prog w) A (setAttr (.ref e) name v) Q E s:=by
 have J:a00 s.heap e oe C none:=⟨he,hc,by unfold a12; rw [hf],by rw [hd]; trivial⟩
 have SF:=PySem.F.store_object
 refine PySem.W.set_plain X J hs ?_
 obtain ⟨cd,kc,ku⟩:=a1k hp
 have top:cd.mro.contains (.type "object")=true:=by
  have:∀ l:List Value,b6 l=true->l.contains (.type "object")=true:=by
   intro l
   induction l with
   | nil=>intro q; cases q
   | cons v r ih =>
    intro q
    by_cases z:(∃ a,v=.ref a)
    ·obtain ⟨a,rfl⟩:=z
     rw [a07,ih q,a1G]
    ·have:v::r=VE:=by
      cases v with
      | ref a=>exact absurd ⟨a,rfl⟩ z
      | _=>exact beq_iff_eq.mp q
     rw [this]; decide +kernel
  exact this _ ku
 have ne:cd.mro.isEmpty=false:=by cases q:cd.mro with | nil=>rw [q] at top; cases top | cons _ _=>rfl
 have sub:a2A (model prog w) s.heap (isInstance (.ref e) (.type "object")) true:=J.type.andThen (PySem.W.looks_mroIn X (by unfold a1y; rw [kc,a2c,if_neg (by rw [ne]; decide),top]))
 refine codeAny_call_builtin SF.slot.plain SF.entry (@a2B (model prog w) _ _ { s with toks:=s.toks+1 } "object.__setattr__" "object" "__setattr__" (.ref e) [.str name s.toks,v] [] _ SF.kind SF.split sub (SF.args (.ref e) (.str name s.toks) v) ?_)
 obtain ⟨attr,ha,hr⟩:=(Option.bind_eq_some_iff).1 ht
 have taker:a2A (model prog w) s.heap (Builtin.ObjectAttr.storeTaker? attr) none:=by
  cases attr with
  | none=>exact .now
  | some a =>
   obtain ⟨b,hb,z⟩:=Option.map_eq_some_iff.mp hr
   refine (PySem.W.looks_takesIn X hb).andThen ?_
   cases b with
   | false=>exact .now
   | true=>cases z
 have hm:a2A (model prog w) s.heap (mroOf (.ref C)) cd.mro:=(a2x X kc).andThen .now
 rw [PySem.W.osa_eq,refuse_eq]
 refine wpAny_bind (wpAny_bind (a0G (s:={ s with toks:=s.toks+1 }) J.type (wpAny_bind (a0G (s:={ s with toks:=s.toks+1 }) hm ?_))))
 rw [eF _ ku]
 refine wpAny_pure (wpAny_bind (a0G (s:={ s with toks:=s.toks+1 }) J.type (wpAny_bind (a0G (s:={ s with toks:=s.toks+1 }) (a2r X ha) (wpAny_bind (a0G (s:={ s with toks:=s.toks+1 }) taker ?_))))))
 obtain ⟨cd',kc',kd⟩:=a1k hh
 obtain ⟨c,di,da,sl⟩:=oe
 dsimp only at hc hd hf
 subst hc hd hf
 refine wpAny_bind (wpAny_pure (wpAny_bind (wpAny_bind (wpAny_loadPart he (wpAny_bind (a0G (s:={ s with toks:=s.toks+1 }) (a2x X kc') ?_))))))
 rw [kd]
 have e1:(s.heap.push a1C).get? e=some _:=Heap.get?_push_of_some _ he
 refine wpAny_bind (wpAny_alloc (wpAny_bind (wpAny_update e1 ?_)))
 show wpAny _ _ (pure (some s.heap.objs.size)) _ _ _
 refine wpAny_pure ?_
 generalize hG:(s.heap.push a1C).update e (fun o=>{ cls:=o.cls,dict:=some s.heap.objs.size,data:=o.data,slots:=o.slots })=G
 have ng:s.heap.objs.size≠e:=a1W (Heap.lt_size he)
 have g1:G.get? e=some { cls:=.ref C,dict:=some s.heap.objs.size,data:=.fields vs,slots:=sl }:=by rw [<- hG]; exact Heap.get?_update_self _ e1 rfl
 have g2:G.get? s.heap.objs.size=some a1C:=by rw [<- hG,Heap.get?_update_other _ _ (a1g ng)]; exact Heap.get?_push_size s.heap rfl
 have g3:∀ b o,b≠e->s.heap.get? b=some o->G.get? b=some o:=fun b o hb z=>by rw [<- hG,Heap.get?_update_other _ _ (a1g hb)]; exact Heap.get?_push_of_some _ z
 have g4:G.Ns1 s.heap.objs.size (fun _=>none):=Heap.Ns1.of_empty ⟨a1C,#[],_,g2,rfl,(fun e he=>absurd he (by simp)),fun _=>rfl⟩
 show wpAny _ _ (Builtin.ObjectAttr.storeInDict s.heap.objs.size (.str name s.toks) name v) _ _ (⟨G,s.gens,s.drawn,s.toks+1,s.os⟩:Shared)
 refine wpAny_bind (wpAny_pure (wpAny_bind (wpAny_nsSet1 (s:=⟨G,s.gens,s.drawn,s.toks+1,s.os⟩) g4 fun h' n2 s2=>?_)))
 obtain ⟨oD,esD,epD,hoD,hdD,hcD⟩:=n2.count (a3B (ns:=[]) name v fun _ q=>absurd rfl q)
 refine wpAny_bind (wpAny_lookBehind hoD (by rw [hdD]; exact pastItsLine_dict (a0n hcD (by rw [sizeLine_eq]; simp))) ?_)
 exact wpAny_pure (h h' ((s2.2 _ (a1g ng)).trans g1) n2 fun b o hb z=>(s2.2 b (fun q=>by rw [q] at z; exact absurd (Heap.lt_size z) (a1p _))).trans (g3 b o hb z))
theorem mP {e C N:Addr}{oe:Obj}{vs:Array Value}{up us:List Value}{names:Str->Option Value}{Q:Value->Shared->Prop}(c:dS s.heap C N up names)(T:OwnTail s.heap VE up)(he:s.heap.get? e=some oe)(hc:oe.cls=.ref C)(hf:oe.data=.fields vs){t0:Addr}(h0:vs[0]?=some (.ref t0))
  (hl:us.length<=sizeLine) (h:∀ h',h'.get? e=some (Obj.mapFields (·.setIfInBounds 0 (.ref s.heap.objs.size)) oe)->(∀ b o,b≠e->s.heap.get? b=some o->h'.get? b=some o)->Q .none { s with heap:=h' }) :
  wpAny (model prog w) A (call (.builtin "ValueError.__init__") (.ref e::us)) Q E s:=by
 obtain ⟨⟨nm,q,bs,hd,sn,sub,ab,col,dd,k0,k1,k2,k3,k5,hC⟩,hn⟩:=c
 obtain ⟨hp,g,d,t,os⟩:=s
 have B:=a1V
 have he':hp.get? e=some oe:=he
 refine wpAny_call (codeAny_call_builtin B.init.plain B.initEntry (wpAny_check_init_subU B T hC he hc ?_))
 have e1:=Heap.get?_push_of_some (h:=hp) { cls:=.type "tuple",data:=.seq us.toArray } he'
 unfold Builtin.«BaseException.__init__»
 wp_walk
 rw [hf]
 refine wpAny_pure ?_
 rw [h0]
 refine wpAny_pure ?_
 wp_walk
 rw [hf]
 dsimp only
 rw [if_pos (a0D.mp h0).1]
 refine wpAny_update e1 ?_
 have ng:hp.objs.size≠e:=a1W (Heap.lt_size he')
 have g1:((hp.push { cls:=.type "tuple",data:=.seq us.toArray }).update e (Obj.mapFields (·.setIfInBounds 0 (.ref hp.objs.size)))).get? e=some (Obj.mapFields (·.setIfInBounds 0 (.ref hp.objs.size)) oe):=Heap.get?_update_self _ e1 (Obj.isFreed_of_fields (Obj.data_mapFields hf _))
 wp_walk
 exact h _ g1 fun b o hb z=>by rw [Heap.get?_update_other _ _ (a1g hb)]; exact Heap.get?_push_of_some _ z
end
noncomputable def Tb (h:Heap)(e:Addr)(vs:Array Value):Prop :=
 vs[1]?=some .none\/∃ T oT ts,vs[1]?=some (.ref T)/\T≠e/\h.get? T=some oT/\oT.data=.fields ts/\ts[3]?=some .none
structure eI (fr:List Addr)(h h':Heap)(e:Addr)(oe:Obj)(vs:Array Value)(fl:Value):Prop where
 ex:∃ T oT ts,h'.get? e=some (Obj.mapFields (·.setIfInBounds 1 (.ref T)) oe)/\h.objs.size<=T/\h'.get? T=some oT/\oT.data=.fields ts/\ts[3]?=some fl
 keep:∀ b o,h.get? b=some o->b≠e->b ∉ fr->h'.get? b=some o
 slot:∀ b o,h.get? b=some o->b∈fr->∃ sl,h'.get? b=some { o with slots:=sl }
 there:∀ b o,h.get? b=some o->∃ o',h'.get? b=some o'
theorem dD (a:Addr):(Value.ref a != Value.none)=true:=by simp
theorem mZ (a:Addr):¬ ((Value.none==rawInt a)=true):=by simp [rawInt]
theorem rH {o:Obj}{ts:Array Value}(hd:o.data=.fields ts)(h3:ts[3]?=some .none):Obj.mapFields (·.setIfInBounds 3 Value.none) o=o:=by
 obtain ⟨a,b,c,d⟩:=o
 cases hd
 show ({ cls:=a,dict:=b,data:=.fields (ts.setIfInBounds 3 .none),slots:=d }:Obj)=_
 congr 2
 obtain ⟨hl,he⟩:=a0D.mp h3
 apply Array.ext
 ·simp
 ·intro i h1 h2
  rw [Array.getElem_setIfInBounds]
  split
  ·rename_i z; subst z; exact he.symm
  ·rfl
section
variable {M:Model}{s:Shared}{A:Around}{E:Value->Shared->Prop}
theorem gr {base:Heap}{env:Env}{outer:List Env}{L e:Addr}{oe:Obj}{vs:Array Value}{head:Value}{had:Bool}{Q:Unit->Shared->Prop}(hfr:A.frames=some (env::outer))(hl:s.heap.FunFrames base (env::outer))(hf:env.frame=some L)
  (he:s.heap.get? e=some oe) (hd:oe.data=.fields vs) (h1:1 < vs.size)
  (k:∀ h',(∃ T oT ts,h'.get? e=some (Obj.mapFields (·.setIfInBounds 1 (.ref T)) oe)/\s.heap.objs.size<=T/\h'.get? T=some oT/\oT.data=.fields ts/\ts[3]?=some (rawInt L)) ->
   (∀ b o,s.heap.get? b=some o->b≠e->b ∉ (env::outer).filterMap (·.frame)->h'.get? b=some o)->(∀ b o,s.heap.get? b=some o->b∈(env::outer).filterMap (·.frame)->∃ sl,h'.get? b=some { o with slots:=sl })->Q () { s with heap:=h' }) :
  wpAny M A (do let a <- frameOf env; let pl <- entryPlaceOf L had; let b <- EntryCells.newEntry head a .none (rawInt L) .none pl; setField (.ref e) 1 b) Q E s:=by
 have ne:e ∉ (env::outer).filterMap (·.frame):=fun z=>by
  obtain ⟨_,o,q,n⟩:=hl.mem z
  rw [he] at q; cases q; exact n vs hd
 refine wpAny_bind (wpAny_frameOf_fun hfr hl hf fun g1 z1=>wpAny_bind (wpAny_entryPlaceOf fun pl hpl=>?_))
 unfold EntryCells.newEntry newFields
 refine wpAny_bind (wpAny_newObj_type ?_ (IsPlace.sizeOk5 hpl _ _ _ _ _))
 have q1:g1.get? e=some oe:=(z1.2.1 e ne).trans he
 have sz:s.heap.objs.size<=g1.objs.size:=a3q z1.1.symm
 generalize hr:({ cls:=.type "traceback",dict:=none,data:=.fields ([head,.ref L,.none,rawInt L,.none]++(if pl.isEmpty then a0f 6 Value.none else pl)).toArray }:Obj)=rec
 have q2:=Heap.get?_push_of_some (h:=g1) rec q1
 have ng:g1.objs.size≠e:=a1W (Heap.lt_size q1)
 refine wpAny_setField (o:=oe) q2 hd h1 (k _ ⟨g1.objs.size,rec,_,Heap.get?_update_self _ q2 (Obj.isFreed_of_fields (Obj.data_mapFields hd _)),sz,?_,by rw [<- hr],?_⟩ ?_ ?_)
 ·rw [Heap.get?_update_other _ _ (a1g ng)]
  exact Heap.get?_push_size g1 (by rw [<- hr]; rfl)
 ·first | (simp; done) | (rcases hpl with rfl | ⟨_,_,_,_,_,_,_,rfl⟩<;>simp)
 ·intro b o q hb hn
  rw [Heap.get?_update_other _ _ (a1g hb)]
  exact Heap.get?_push_of_some _ ((z1.2.1 b hn).trans q)
 ·intro b o q hb
  obtain ⟨sl,z⟩:=z1.2.2 b o q
  refine ⟨sl,?_⟩
  rw [Heap.get?_update_other _ _ (fun z:e=b=>ne (by rw [z]; exact hb))]
  exact Heap.get?_push_of_some _ z
theorem jc {base:Heap}{env:Env}{outer:List Env}{L e:Addr}{oe:Obj}{vs:Array Value}{Q:Unit->Shared->Prop}(hfr:A.frames=some (env::outer))(hl:s.heap.FunFrames base (env::outer))(hf:env.frame=some L)
  (he:s.heap.get? e=some oe) (hd:oe.data=.fields vs) (ht:Tb s.heap e vs) (k:∀ h',eI ((env::outer).filterMap (·.frame)) s.heap h' e oe vs (rawInt L)->Q () { s with heap:=h' }) :
  wpAny M A (noteFrame (.ref e) env) Q E s:=by
 have nf:∀ b o,s.heap.get? b=some o->(∃ us,o.data=.fields us)->b ∉ (env::outer).filterMap (·.frame):=fun b o q ⟨us,n⟩ z=>by
  obtain ⟨_,o',q',n'⟩:=hl.mem z
  rw [q] at q'; cases q'; exact n' us n
 unfold noteFrame
 simp only [hf]
 rcases ht with h1 | ⟨T,oT,ts,h1,hT,hq,hdT,h3⟩
 ·refine wpAny_bind (wpAny_field he hd h1 ?_)
  rw [if_neg (by decide)]
  refine gr hfr hl hf he hd (a0D.mp h1).1 fun h' x1 x2 x3=>k h' ⟨x1,x2,x3,fun b o q=>?_⟩
  by_cases hb:b=e
  ·obtain ⟨_,_,_,z,_⟩:=x1; exact ⟨_,hb ▸ z⟩
  ·by_cases hn:b∈(env::outer).filterMap (·.frame)
   ·obtain ⟨sl,z⟩:=x3 b o q hn; exact ⟨_,z⟩
   ·exact ⟨o,x2 b o q hb hn⟩
 ·refine wpAny_bind (wpAny_field he hd h1 ?_)
  rw [if_pos (dD T)]
  refine wpAny_bind (wpAny_field hq hdT h3 ?_)
  rw [if_neg (mZ L)]
  refine wpAny_bind (wpAny_setField hq hdT (a0D.mp h3).1 ?_)
  have oth:∀ b,b≠T->(s.heap.update T (Obj.mapFields (·.setIfInBounds 3 Value.none))).get? b=s.heap.get? b:=fun b hb=>Heap.get?_update_other _ _ (a1g hb)
  have at_T:(s.heap.update T (Obj.mapFields (·.setIfInBounds 3 Value.none))).get? T=some oT:=by
   rw [Heap.get?_update_self (Obj.mapFields (·.setIfInBounds 3 Value.none)) hq (Obj.isFreed_of_fields (Obj.data_mapFields hdT _)),rH hdT h3]
  have all:∀ b o,s.heap.get? b=some o->(s.heap.update T (Obj.mapFields (·.setIfInBounds 3 Value.none))).get? b=some o:=fun b o q=>by
   by_cases z:b=T
   ·rw [z] at q ⊢; rw [hq] at q; cases q; exact at_T
   ·exact (oth b z).trans q
  have nT:∀ b o,s.heap.get? b=some o->(∀ us,o.data≠.fields us)->b≠T:=fun b o q n z=>by rw [z,hq] at q; cases q; exact n ts hdT
  have sz:(s.heap.update T (Obj.mapFields (·.setIfInBounds 3 Value.none))).objs.size=s.heap.objs.size:=by simp [Heap.update]
  refine gr (s:={ s with heap:=s.heap.update T (Obj.mapFields (·.setIfInBounds 3 Value.none)) }) hfr (hl.of_keeps fun b o q n=>⟨o,(oth b (nT b o q n)).trans q,rfl⟩) hf ((oth e (a1g hT)).trans he) hd (a0D.mp h1).1 fun h' x1 x2 x3=>k h' ⟨?_,?_,?_,?_⟩
  ·obtain ⟨T',o',t',y1,y2,y3⟩:=x1
   exact ⟨T',o',t',y1,by rw [<- sz]; exact y2,y3⟩
  ·intro b o q hb hn
   exact x2 b o (all b o q) hb hn
  ·intro b o q hb
   exact x3 b o (all b o q) hb
  ·intro b o q
   by_cases hb:b=e
   ·obtain ⟨_,_,_,z,_⟩:=x1; exact ⟨_,hb ▸ z⟩
   ·by_cases hn:b∈(env::outer).filterMap (·.frame)
    ·obtain ⟨sl,z⟩:=x3 b o (all b o q) hn; exact ⟨_,z⟩
    ·exact ⟨o,x2 b o (all b o q) hb hn⟩
theorem iN {fr:List Addr}{h0:Heap}{e:Addr}{oe:Obj}{vs:Array Value}{fl:Value}{Q:Unit->Shared->Prop}(hd:oe.data=.fields vs)(h1:1 < vs.size)(he:e < h0.objs.size)(hfr:∀ b∈fr,b < h0.objs.size)(n:eI fr h0 s.heap e oe vs fl)
  (k:∀ h',eI fr h0 h' e oe vs .none->Q () { s with heap:=h' }):wpAny M A (setFlight (.ref e) none) Q E s:=by
 obtain ⟨⟨T,oT,ts,y1,y2,y3,y4,y5⟩,n2,n3,n4⟩:=n
 have hd':=Obj.data_mapFields hd (·.setIfInBounds 1 (Value.ref T))
 unfold setFlight
 refine wpAny_bind (wpAny_field y1 hd' (x:=.ref T) (by simp [h1]) ?_)
 rw [if_pos (dD T)]
 have oth:∀ b,b≠T->(s.heap.update T (Obj.mapFields (·.setIfInBounds 3 ((none:Option Addr).elim Value.none fun f=>rawInt f)))).get? b=s.heap.get? b:=fun b hb=>Heap.get?_update_other _ _ (a1g hb)
 have hz:3 < ts.size:=(a0D.mp y5).1
 have low:∀ b o,h0.get? b=some o->b≠T:=fun b o q z=>absurd (Heap.lt_size q) (by rw [z]; exact Nat.not_lt.mpr y2)
 refine wpAny_setField y3 y4 hz (k _ ⟨⟨T,_,_,(oth e (a0K (a0l he y2))).trans y1,y2,Heap.get?_update_self _ y3 (Obj.isFreed_of_fields (Obj.data_mapFields y4 _)),Obj.data_mapFields y4 _,by simp [hz]⟩,?_,?_,?_⟩)
 ·intro b o q hb hn
  exact (oth b (low b o q)).trans (n2 b o q hb hn)
 ·intro b o q hb
  obtain ⟨sl,z⟩:=n3 b o q hb
  exact ⟨sl,(oth b (low b o q)).trans z⟩
 ·intro b o q
  obtain ⟨o',z⟩:=n4 b o q
  exact ⟨o',(oth b (low b o q)).trans z⟩
theorem ma {base:Heap}{env:Env}{outer:List Env}{L e:Addr}{oe:Obj}{vs:Array Value}{Q:Unit->Shared->Prop}(hfr:A.frames=some (env::outer))(hl:s.heap.FunFrames base (env::outer))(hf:env.frame=some L)
  (he:s.heap.get? e=some oe) (hd:oe.data=.fields vs) (h1:1 < vs.size) (ht:Tb s.heap e vs) (k:∀ h',eI ((env::outer).filterMap (·.frame)) s.heap h' e oe vs .none->Q () { s with heap:=h' }) :
  wpAny M A (leaving env (.ref e)) Q E s:=by
 unfold leaving
 refine wpAny_bind (jc hfr hl hf he hd ht fun h' n=>iN (s:={ s with heap:=h' }) hd h1 (Heap.lt_size he) (fun b z=>?_) n fun h'' n'=>k h'' n')
 obtain ⟨_,o,q,_⟩:=hl.mem z
 exact Heap.lt_size q
end
noncomputable def XOk (a C:Addr)(od:Option Addr)(n:Bool)(h:Heap):Prop:=∃ o vs t0,h.get? a=some o/\o.cls=.ref C/\o.dict=od/\o.data=.fields vs/\vs[0]?=some (.ref t0)/\1 < vs.size/\(n=true->vs[1]?=some .none)
noncomputable abbrev XO (a C:Addr)(od:Option Addr)(n:Bool):HO:=.ext (XOk a C od n)
theorem XOk.stay {a C:Addr}{od:Option Addr}{n:Bool}{h h':Heap}(x:XOk a C od n h)(k:∀ o,h.get? a=some o->h'.get? a=some o):XOk a C od n h' :=
 let ⟨o,vs,t0,e,r⟩:=x; ⟨o,vs,t0,k o e,r⟩
theorem XOk.ok {P:Program}{w:World}{H:Hp}{a C:Addr}{od:Option Addr}{n:Bool}{h:Heap}(x:XOk a C od n h):ObjOk P w H h a (XO a C od n) :=
 ⟨x,let ⟨o,_,_,e,_⟩:=x; ⟨o,e⟩,fun _ _ y k=>y.stay k⟩
noncomputable def Tr (lo:Nat)(H:Hp)(h:Heap)(a:Addr):Prop:=∃ oe vs,h.get? a=some oe/\oe.data=.fields vs /\
 (vs[1]?=some .none\/∃ T oT ts,vs[1]?=some (.ref T)/\T≠a/\h.get? T=some oT/\oT.data=.fields ts/\ts[3]?=some .none/\lo<=T/\H T=none)
noncomputable def CX1 (P:Program)(w:World):CXT:=fun outer H s E e s'=>∃ a C od H',e=.ref a/\s'.os=s.os/\AllBare s'.gens/\Un (frs outer) [] H H' s.heap s'.heap/\HOk P w H' s'.heap/\H' a=some (XO a C od false)/\Tr s.heap.objs.size H' s'.heap a/\E (.ref a) none H'
section
variable {P:Program}{w:World}{H:Hp}{h h':Heap}{a C:Addr}{od:Option Addr}{n:Bool}
theorem HOk.touch (ok:HOk P w H h)(ha:H a=some (XO a C od n))(k:∀ b u o,H b=some o->b≠a->h.get? b=some u->h'.get? b=some u)(x:XOk a C od n h'):HOk P w H h':=fun b o e=>by
 by_cases hb:b=a
 ·subst hb; rw [ha] at e; cases e; exact x.ok
 ·refine (ok b o e).stay (fun c u hc q=>?_) (fun _ z=>z) fun _ _ z=>z
  rcases hc with rfl | hc
  ·exact k c u o e hb q
  ·exact k c u _ hc (fun z=>by subst z; rw [ha] at hc; cases hc) q
end
theorem mQ {P:Program}{w:World}{K:a0a}{mg:Str->Option Value}{base:Heap}{N:List Str}{qual:Str}{scope:Scope}{f:Addr}{cd:Value}{A:Around}{outer:List Env}{s s':Shared}{H H':Hp}{E:XK}{pins:List (Addr×Obj)}{σ:L2.St}{a C:Addr}{od:Option Addr}
  (I:Inv (cJ (CX1 P w) P w K mg base N qual scope f cd A outer s H E) pins σ H' s') (ha:H' a=some (XO a C od false)) (t:Tr s.heap.objs.size H' s'.heap a) (q:E (.ref a) none H') :
  (cJ (CX1 P w) P w K mg base N qual scope f cd A outer s H E).xe (.ref a) s':=by
 obtain ⟨oe,vs,e1,e2,e3⟩:=t
 obtain ⟨⟨o,ws,t0,x1,x2,x3,x4,x5,x6,-⟩,-,-⟩:=I.hok a _ ha
 rw [e1] at x1; cases x1
 rw [e2] at x4; cases x4
 have hst:=I.stack
 have hfr:=I.ok.frames
 have free:=I.stkFree
 have na:a ∉ frs (envOfC qual scope s.heap.objs.size f cd::outer):=fun z=>by rw [free a z] at ha; cases ha
 show wpAny _ _ (leaving _ (.ref a)) _ _ _
 refine ma hfr hst rfl e1 e2 x6 ?_ fun h' n=>?_
 ·rcases e3 with z | ⟨T,oT,ts,y1,y2,y3,y4,y5,_⟩
  ·exact .inl z
  ·exact .inr ⟨T,oT,ts,y1,y2,y3,y4,y5⟩
 obtain ⟨⟨T',oT',ts',z1,z2,z3,z4,z5⟩,n2,n3,n4⟩:=n
 have hd':=Obj.data_mapFields e2 (·.setIfInBounds 1 (Value.ref T'))
 have low:s.heap.objs.size<=s'.heap.objs.size:=I.sz
 have xk:XOk a C od false h':=⟨_,_,t0,z1,by rw [Obj.cls_mapFields]; exact x2,by rw [<- x3]; obtain ⟨_,_,_,_⟩:=oe; cases e2; rfl,hd',by rw [a1e (by decide)]; exact x5,by rw [a1u]; exact x6,fun z=>by cases z⟩
 refine ⟨a,C,od,H',rfl,I.os,I.bare,?_,?_,ha,⟨_,_,z1,hd',.inr ⟨T',oT',ts',by simp [x6],?_,z3,z4,z5,a0n low z2,I.hok.fresh z2⟩⟩,q⟩
 ·have U:Un (frs outer) [] H H' s.heap s'.heap:=I.base
  refine ⟨fun b o e hb hn hx=>?_,fun b o e hb hm hx=>?_,U.free,fun b o e hx=>?_,U.tups,U.frzs,U.tbls⟩
  ·have g:=U.keep b o e hb hn hx
   refine n2 b o g (fun z=>?_) fun z=>?_
   ·have:=U.free b o e hb hx; rw [z,ha] at this; cases this
   ·obtain ⟨v,hv,hf⟩:=a06.mp z
    rcases a0W.mp hv with rfl | hv
    ·have:s.heap.objs.size=b:=a0L hf
     exact absurd (Heap.lt_size e) (by rw [this]; exact a1p _)
    ·exact hn (a06.mpr ⟨v,hv,hf⟩)
  ·obtain ⟨sl,g⟩:=U.slot b o e hb hm hx
   obtain ⟨v,hv,hf⟩:=a06.mp hm
   obtain ⟨sl',g'⟩:=n3 b _ g (a06.mpr ⟨v,a0e _ hv,hf⟩)
   exact ⟨sl',g'⟩
  ·obtain ⟨o',g⟩:=U.there b o e hx
   exact n4 b o' g
 ·refine HOk.touch I.hok ha (fun b u o hb hne g=>n2 b u g hne fun z=>?_) xk
  rw [free b z] at hb; cases hb
 ·exact fun z=>absurd (Heap.lt_size e1) (by rw [<- z]; exact Nat.not_lt.mpr z2)
structure XC (K:a0a)(C f:Addr)(up:List Value):Prop where
 ok:∀ h,K.In h->∃ N names,dS h C N up names/\OwnTail h VE up/\names "__init__"=some (.ref f)
 fn:∀ h,K.In h->∃ o,h.get? f=some o/\o.cls=.type "function"
 kp:a09 K (.ref C)=true
 sa:a0q K (.ref C) "__setattr__"=some (some (.builtin "object.__setattr__"))
 po:(a1r K C).any (fun cd=>b6 cd.mro)=true
 hd:a0V K C=true
section
variable {X:Cx}{pins:List (Addr×Obj)}{σ:L2.St}{H:Hp}{s:Shared}{a C f:Addr}{od:Option Addr}{n:Bool}{up:List Value}{A:Around}{E:Value->Shared->Prop}{fld:Str}
theorem XOk.weak {h:Heap}(x:XOk a C od n h):XOk a C od false h:=let ⟨o,vs,t0,e,e1,e2,e3,e4,e5,_⟩:=x; ⟨o,vs,t0,e,e1,e2,e3,e4,e5,fun z=>by cases z⟩
theorem Inv.xweak (I:Inv X pins σ H s)(e:H a=some (XO a C od n)):Inv X pins σ (upd H a (XO a C od false)) s:=by
 have x:XOk a C od n s.heap:=(I.hok a _ e).1
 exact I.write (x:=a) (e:=a) (t':=s.toks) (by rw [e]; exact a03) (.inl rfl) (fun _ _ _ z=>z) (let ⟨o,_,_,q,_⟩:=x; ⟨o,q⟩) x.weak.ok
theorem qf {y:V}{u:Value}{Q:Unit->Shared->Prop}(I:Inv X pins σ H s)(e:H a=some (XO a C none n))(c:XC X.K C f up)(ht:a1S X.K C fld=some none)(ry:RelV y u)
  (h:∀ dx s',H dx=none->dx≠a->Inv X pins σ (upd (upd H dx (.xd [(fld,y)])) a (XO a C (some dx) n)) s'->Q () s'):wpAny (model X.prog X.w) A (setAttr (.ref a) fld u) Q E s:=by
 obtain ⟨o,vs,t0,e0,e1,e2,e3,e4,e5,e6⟩:XOk a C none n s.heap:=(I.hok a _ e).1
 have lt:=Heap.lt_size e0
 refine pM I.kIn e0 e1 e2 e3 c.sa c.po ht c.hd fun h' x1 x2 x3=>h s.heap.objs.size _ (I.hok.fresh (a0m _)) (a1W lt) ?_
 obtain ⟨oD,es,ep,d1,d2,d3,d4,d5⟩:=x2
 have g1:(s.heap.push oD).get? s.heap.objs.size=some oD:=Heap.get?_push_size s.heap (by obtain ⟨_,_,_,_⟩:=oD; cases d2; rfl)
 have I1:=I.laid (a:=s.heap.objs.size) (o:=.xd [(fld,y)]) (h':=s.heap.push oD) (t':=s.toks) (fun b u q=>Heap.get?_push_of_some _ q) (a0m _) ⟨_,⟨oD,es,ep,g1,d2,d3,d4,d5⟩,fun g=>by
  show RelO (a0P g [(fld,y)]) (if g=fld then some u else none)
  by_cases q:g=fld
  ·rw [if_pos q,q]; simp [a0P]; exact ry
  ·rw [if_neg q]; unfold a0P; rw [show (g==fld)=false from beq_false_of_ne q]; exact a03⟩
 have na:a≠s.heap.objs.size:=a0K lt
 refine I1.write (x:=a) (e:=a) (t':=s.toks+2) (by rw [ag na,e]; exact a03) (.inl rfl) (fun b u hb q=>?_) ⟨_,x1⟩ (XOk.ok ⟨_,vs,t0,x1,e1,rfl,e3,e4,e5,e6⟩)
 by_cases hb2:b=s.heap.objs.size
 ·subst hb2
  have q':(s.heap.push oD).get? s.heap.objs.size=some u:=q
  rw [g1] at q'; cases q'; exact d1
 ·refine x3 b u hb ?_
  have q':(s.heap.push oD).get? b=some u:=q
  rcases Heap.get?_push_cases q' with z | z
  ·exact absurd z.1 hb2
  ·exact z
theorem mL {us:List Value}{Q:Value->Shared->Prop}(I:Inv X pins σ H s)(e:H a=some (XO a C od n))(c:XC X.K C f up)(hl:us.length<=sizeLine)
  (h:∀ s',Inv X pins σ H s'->Q .none s'):wpAny (model X.prog X.w) A (call (.builtin "ValueError.__init__") (.ref a::us)) Q E s:=by
 obtain ⟨o,vs,t0,e0,e1,e2,e3,e4,e5,e6⟩:XOk a C od n s.heap:=(I.hok a _ e).1
 obtain ⟨N,names,x,T,_⟩:=c.ok _ I.kIn
 refine mP x T e0 e1 e3 e4 hl fun h' x1 x2=>h _ ?_
 have hd':=Obj.data_mapFields e3 (·.setIfInBounds 0 (Value.ref s.heap.objs.size))
 have I1:=I.write (x:=a) (e:=a) (o:=XO a C od n) (h':=h') (t':=s.toks) (by rw [e]; exact a03) (.inl rfl) x2 ⟨_,x1⟩ (XOk.ok ⟨_,_,s.heap.objs.size,x1,by rw [Obj.cls_mapFields]; exact e1,by rw [<- e2]; obtain ⟨_,_,_,_⟩:=o; cases e3; rfl,hd',by simp [a2L Nat.zero_lt_one e5],by rw [a1u]; exact e5,fun z=>by rw [a1e (by decide)]; exact e6 z⟩)
 have same:upd H a (XO a C od n)=H:=by
  funext b
  by_cases q:b=a
  ·rw [q,ah,e]
  ·rw [ag q]
 rw [same] at I1
 exact I1
end
structure XB (K:a0a)(B:Addr):Prop where
 ga:a1b K (.ref B) "__getattribute__"=some (some (.builtin "type.__getattribute__"))
 rd:PySem.W.readsIn K B (.type "type")=true
 at_:PySem.W.findCls K (.ref B) (.type "type") "__init__"=some (.val (.builtin "ValueError.__init__"))
section
variable {X:Cx}{x fld:Str}{p pos pos' apos:Pos}{e o value:Expr}{es:List Expr}{t:TA}{ta tv:TE}{B C f:Addr}{up:List Value}{k:Nat}{fd:FuncData}{ps:List Str}{sp:Sp}{CX:CXT}{E:XK}
theorem lN {pl:Sem Bool}(b:XB X.K B)(hg:Gl X x)(hm:X.mg x=some (.ref B))(ha:PA X (e::es) t)(hdb:(x==("__debug__":Str))=false:=by decide)
  (hst:starEach (e::es) X.env=(false,eval e X.env)::starEach es X.env:=by rfl) (hpl:(backTo pos (starEach es X.env)).any (·.1)=false:=by rfl)
  (ht:eval (.Call (.Attribute (.Name x p) "__init__" apos) (e::es) [] pos) X.env=(do
   let ov <- eval (.Name x p) X.env
   standAt apos.atName
   let (f,first) <- holding [ov] (getMethod ov "__init__" pl)
   callWith pos f first (backTo pos (starEach (e::es) X.env)) (backToKw pos (keywordEach [] X.env))):=by rfl) :
  PE X (.Call (.Attribute (.Name x p) "__init__" apos) (e::es) [] pos) fun σ H Q=>t σ H fun vs H1=>∃ a C od n ws f up,vs=.ref a::ws/\ws.length<=sizeLine/\H1 a=some (XO a C od n)/\XC X.K C f up/\Q .non H1:=by
 intro pins s σ H Q I h
 refine PySem.W.methodCall_KW (pl:=pl) (bS I hg hm ?_ hdb) ht
 refine PySem.W.method_cls I.kIn b.ga (PySem.W.cls_value I.kIn b.rd b.at_ (by decide +kernel) ?_)
 have I':=I.tok (s.toks+1)
 refine a1E (thn (ha pos pins _ σ H _ I' h) fun us s1 ⟨vs,H1,I1,r,a,C,od,n,ws,f,up,ev,hl,ea,c,q⟩=>?_) hst hpl
 subst ev
 cases r with
 | cons r1 r2 =>
  cases r1
  exact mL I1 ea c (by rw [<- r2.length]; exact hl) fun s' I2=>⟨.non,H1,I2,rfl,q⟩
theorem oZ (ha:PE X o ta)(hv:PE X value tv)(hs:swapsWith value (some (.Attribute o fld pos')) pos.line X.env=pure false):PS X (.Assign [.Attribute o fld pos'] value pos)
  fun D σ H=>tv σ H fun y H1=>ta σ H1 fun x H2=>∃ a C n f up,x=.ref a/\H2 a=some (XO a C none n)/\XC X.K C f up/\a1S X.K C fld=some none/\∀ dx,H2 dx=none->dx≠a->D.nx σ (upd (upd H2 dx (.xd [(fld,y)])) a (XO a C (some dx) n)):=by
 intro pins s σ H D I h
 refine plainObj_wpAny_Assign_Attribute (thn (hv pins s σ H _ I h) fun u s1 ⟨y,H1,I1,ry,q⟩=>thn (ha pins s1 σ H1 _ I1 q) fun ov s2 ⟨x,H2,I2,rx,a,C,n,f,up,ex,ea,c,tk,q2⟩=>?_) hs
 subst ex
 obtain rfl:ov=Value.ref a:=rx
 exact qf I2 ea c tk ry fun dx s3 h1 h2 I3=>⟨σ,_,I3,q2 dx h1 h2⟩
theorem ke {pins:List (Addr×Obj)}{σ:L2.St}{H:Hp}{s:Shared}{Q:VK}{us:List Value}{vs:List V}(c:XC X.K C f up)(F:ba X.prog X.w X.K X.mg X.base CX k f fd ps sp)(hr:Room (k+1) X.A)(hb:Binds X.K fd ps [])
  (hx:dQ CX X E) (I:Inv X pins σ H s) (r:Vals vs us) (hl:vs.length<=sizeLine)
  (h:∀ a,H a=none->sp (.ref a::vs) (upd H a (XO a C none true)) (fun v H2=>v=.non/\Q (.ref a) H2) E) :
  wpAny (model X.prog X.w) X.A (call (.ref C) us) (EP X pins σ Q) X.xe s:=by
 obtain ⟨N,names,xc,T,hi⟩:=c.ok _ I.kIn
 obtain ⟨oI,hf,hc⟩:=c.fn _ I.kIn
 have hq:=h (s.heap.objs.size+1) (I.hok.fresh (a22 _))
 refine lF (t:=s.toks) (g:=s.gens) (d:=s.drawn) (os:=s.os) xc T hi hf hc (by rw [<- r.length]; exact hl) fun h' m=>?_
 obtain ⟨t0,m1,m2,m3⟩:=m.there
 have I1:=I.laid (a:=s.heap.objs.size+1) (o:=XO (s.heap.objs.size+1) C none true) (h':=h') (t':=s.toks) m.keeps (a22 _) (XOk.ok ⟨_,_,t0,m1,rfl,rfl,rfl,rfl,by simp,fun _=>rfl⟩)
 have r2:Vals (V.ref (s.heap.objs.size+1)::vs) (Value.ref (s.heap.objs.size+1)::us):=.cons rfl r
 have hn:(Value.ref (s.heap.objs.size+1)::us++[]).length=ps.length:=by
  rw [a0F,<- r2.length]
  exact F.len _ _ _ _ hq
 have bd:=hb { s with heap:=h' } (Value.ref (s.heap.objs.size+1)::us) I1.kIn hn
 rw [a0F] at bd
 refine wpAny_call (codeAny_mono (F.run _ X.stack _ _ ⟨Value.ref (s.heap.objs.size+1)::us,[]⟩ (Value.ref (s.heap.objs.size+1)::us) _ _ E (hr.make C us []) (I1.env0.make C us []) bd r2 hq) fun r s' z=>?_)
 cases r with
 | error e=>exact hx pins σ _ _ e s' I1 z
 | ok fl =>
  cases fl with
  | ret u =>
   obtain ⟨v,H',I3,rv,ev,q3⟩:=I1.after z
   subst ev
   exact ⟨rv,⟨V.ref (s.heap.objs.size+1),H',I3,rfl,q3⟩⟩
  | next=>exact a0N z
  | brk=>exact a0N z
  | cont=>exact a0N z
theorem kO (c:XC X.K C f up)(F:ba X.prog X.w X.K X.mg X.base CX k f fd ps sp)(hr:Room (k+1) X.A)(hg:Gl X x)(hm:X.mg x=some (.ref C))(hb:Binds X.K fd ps [])(hx:dQ CX X E)
  (ha:PA X (e::es) t) (hdb:(x==("__debug__":Str))=false:=by decide) (he:starEach (e::es) X.env=(false,eval e X.env)::starEach es X.env:=by rfl) (hpl:(backTo pos (starEach es X.env)).any (·.1)=false:=by rfl) :
  PE X (.Call (.Name x p) (e::es) [] pos) fun σ H Q=>t σ H fun vs H1=>vs.length<=sizeLine/\∀ a,H1 a=none->sp (.ref a::vs) (upd H1 a (XO a C none true)) (fun v H2=>v=.non/\Q (.ref a) H2) E:=by
 intro pins s σ H Q I h
 refine wpAny_Call_Name_kw (bS I hg hm ?_ hdb)
 refine a1Y (h₀:=X.base) I.ok.mod.kin c.kp (thn (ha pos pins s σ H _ I h) fun us s1 ⟨vs,H1,I1,r,hl,q⟩=>⟨I1.kIn,?_⟩) he hpl
 exact ke c F hr hb hx I1 r hl q
end
section
variable {X:Cx}{lit:Str}{k:Nat}{p1 p2 pos:Pos}{e:Expr}{te:TE}
theorem pY (hl:lit.length<=1000)(he:PE X e te):PE X (.JoinedStr [.Constant (.str lit) k p1,.FormattedValue e (-1) none p2] pos) fun σ H Q=>te σ H fun v H1=>∃ n:Int,v=.int n/\n.natAbs.log2 < 1920/\∀ y,Q (.str y) H1:=by
 intro pins s σ H Q I h
 refine JoinedStr_many (joinParts_cons (Calls.Constant_str ⟨?_,joinParts_cons (FormattedValue_plain (thn (he pins _ σ H _ (I.tok _) h) fun u s1 ⟨v,H1,I1,r,n,ev,hn,q⟩=>?_))⟩))
 ·show (Str.empty++lit).length<=sizeLine
  rw [strLen_append,sizeLine_eq]
  show 0+lit.length<=_
  omega
 ·subst ev
  obtain ⟨t,rfl⟩:=r
  refine formatField_int_small hn ⟨?_,joinParts_nil ⟨.str _,H1,(I1.tok _).tok _,⟨_,rfl⟩,q _⟩ ?_⟩
  all_goals
   have z:=int_text_length_le (k:=1920) (by decide) hn
   rw [strLen_append,strLen_append,PySem.ofString_length,sizeLine_eq]
   have:Str.empty.length=0:=rfl
   omega
end
section
variable {M:Model}{s:Shared}{A:Around}{env:Env}{E:Value->Shared->Prop}
theorem jK {x:Sem Value}{Q:Flow->Shared->Prop}(hh:A.handled=none)
  (h:wpAny M A x (fun v s₁=>∃ e C N up names od vs sl,v=.ref e/\dS s₁.heap C N up names/\up.contains (.type "BaseException")=true/\s₁.heap.get? e=some { cls:=.ref C,dict:=od,data:=.fields vs,slots:=sl }/\vs[1]?=some .none/\E (.ref e) s₁) E s) :
  wpAny M A (raiseStmt env (some x) none) Q E s:=by
 unfold raiseStmt
 refine wpAny_bind (wpAny_mono h (fun v s₁ ⟨e,C,N,up,names,od,vs,sl,ev,c,hb,he,h1,hE⟩=>?_) fun _ _ x=>x)
 subst ev
 obtain ⟨⟨nm,q,bs,hd,sn,sub,ab,col,dd,k0,k1,k2,k3,k5,hC⟩,hn⟩:=c
 obtain ⟨hp,g,d,tk,os⟩:=s₁
 have up':(Value.ref C::up).contains (.type "BaseException")=true:=by rw [a07,hb,a1G]
 repeat (first | with_reducible refine wpAny_loadPart_at he ?_ | with_reducible refine wpAny_loadPart_at hC ?_ | (with_reducible refine wpAny_isSubtype_exc hC ?_; rw [up']) | wp_step)
 rw [h1]
 refine wpAny_pure ?_
 rw [if_neg (by decide)]
 exact wpAny_pure (wpAny_raiseNew_none hh hE)
end
noncomputable def xw (X:Cx)(σ:L2.St):VK:=fun v H=>∀ (pins:List (Addr×Obj)) (s:Shared) (a C:Addr) (od:Option Addr),v=.ref a->H a=some (XO a C od false)->Inv X pins σ H s->Tr X.s₀.heap.objs.size H s.heap a->X.xe (.ref a) s
section
variable {X:Cx}{pos:Pos}{e:Expr}{te:TE}
theorem fK:∀ {l:List Value},b6 l=true->l.contains (.type "BaseException")=true
 | .ref c::r,q=>by rw [a07,fK (l:=r) q,a1G]
 | [],q=>by cases q
 | .type n::r,q=>by rw [show Value.type n::r=VE from beq_iff_eq.mp q]; decide +kernel
 | .none::r,q=>by cases (show Value.none::r=VE from beq_iff_eq.mp q)
 | .bool _::r,q=>by cases (show _::r=VE from beq_iff_eq.mp q)
 | .int _ _::r,q=>by cases (show _::r=VE from beq_iff_eq.mp q)
 | .float _ _::r,q=>by cases (show _::r=VE from beq_iff_eq.mp q)
 | .str _ _::r,q=>by cases (show _::r=VE from beq_iff_eq.mp q)
 | .bytes _ _::r,q=>by cases (show _::r=VE from beq_iff_eq.mp q)
 | .builtin _::r,q=>by cases (show _::r=VE from beq_iff_eq.mp q)
 | .ellipsis::r,q=>by cases (show _::r=VE from beq_iff_eq.mp q)
 | .notImplemented::r,q=>by cases (show _::r=VE from beq_iff_eq.mp q)
theorem ky (hc:X.calm=true)(he:PE X e te):PS X (.Raise (some e) none pos) fun D σ H=>te σ H fun v H1=>∃ a C od f up,v=.ref a/\H1 a=some (XO a C od true)/\XC X.K C f up/\b6 up=true/\xw X σ (.ref a) (upd H1 a (XO a C od false)):=by
 intro pins s σ H D I h
 rw [arm_exec_Raise]
 refine wpAny_bind (wpAny_standAt ?_)
 refine jK (I.ok.hd hc) ?_
 show wpAny _ _ (do let v <- eval e X.env; standAt pos; pure v) _ _ _
 refine wpAny_bind (thn (he pins s σ H _ I h) fun u s1 ⟨v,H1,I1,r,a,C,od,f,up,ev,ea,c,hu,q⟩=>wpAny_bind (wpAny_standAt (wpAny_pure ?_)))
 subst ev
 obtain rfl:u=Value.ref a:=r
 obtain ⟨o,vs,t0,e0,e1,e2,e3,e4,e5,e6⟩:XOk a C od true s1.heap:=(I1.hok a _ ea).1
 obtain ⟨N,names,xc,_,_⟩:=c.ok _ I1.kIn
 obtain ⟨oc,oo,od',osl⟩:=o
 dsimp only at e1 e2 e3
 subst e1 e2 e3
 exact ⟨a,C,N,up,names,oo,vs,osl,rfl,xc,fK hu,e0,e6 rfl,q pins s1 a C oo rfl ah (Inv.xweak I1 ea) ⟨_,vs,e0,rfl,.inl (e6 rfl)⟩⟩
end
section
variable {X:Cx}{pins:List (Addr×Obj)}{σ:L2.St}{H:Hp}{s:Shared}{M:Model}{A:Around}{E:Value->Shared->Prop}{i:Nat}{x:Str}
theorem ua {v:V}{Q:Unit->Shared->Prop}(I:Inv X pins σ H s)(hN:X.N.Nodup)(hi:X.N[i]?=some x)(hk:X.env.scope.names.lookup x=some .local)(hv:σ[i]?=some (some v))
  (h:∀ s',Inv X pins (σ.set i none) H s'->Q () s'):wpAny M A (deleteName X.env x) Q E s:=by
 obtain ⟨m,hn,hl⟩:=id I.loc
 have hcls:(X.env.scope.kind==.class || (X.env.scope.kind==.module&&X.env.locals != X.env.globals))=false:=by rw [I.ok.kind]; rfl
 have hko:X.env.kindOf x=some .local:=hk
 have hm:∃ u,m x=some u:=by
  obtain ⟨u,_,q⟩:=hl i x v hi hv (.inl hk)
  rcases q with ⟨_,q⟩ | ⟨z,_⟩
  ·exact ⟨u,q⟩
  ·rw [hko] at z; rcases z with z | z<;>cases z
 obtain ⟨u,hu⟩:=hm
 unfold deleteName
 rw [hko]
 dsimp only
 rw [hcls]
 refine wpAny_bind (wpAny_nsDel_keeps hn fun h' v' hn' hs=>?_)
 rw [hu]
 refine wpAny_pure (h _ ⟨I.ok,I.os,I.bare,⟨fun b o e n hb hx=>?_,fun b o e n hb hx=>?_,I.base.free,fun b o e hx=>?_,I.base.tups,I.base.frzs,I.base.tbls⟩,⟨_,hn',fun j y w e1 e2 e3=>?_⟩,fun y c e=>?_,I.free,I.freeC,fun p hp=>?_,fun b ob e=>?_,by simpa using I.len⟩)
 ·exact (hs.2 b (a0K (a0l (Heap.lt_size e) I.ok.above))).trans (I.base.keep b o e n hb hx)
 ·obtain ⟨sl,e1⟩:=I.base.slot b o e n hb hx
  exact ⟨sl,(hs.2 b (a0K (a0l (Heap.lt_size e) I.ok.above))).trans e1⟩
 ·obtain ⟨o',e1⟩:=I.base.there b o e hx
  exact ⟨o',(hs.2 b (a0K (a0l (Heap.lt_size e) I.ok.above))).trans e1⟩
 ·by_cases hj:j=i
  ·rw [hj] at e2
   by_cases hl':i < σ.length
   ·rw [a02 hl'] at e2; cases e2
   ·rw [List.getElem?_eq_none (by rw [a1T]; omega)] at e2; cases e2
  ·rw [a0T (a1g hj)] at e2
   obtain ⟨u',r',q⟩:=hl j y w e1 e2 e3
   refine ⟨u',r',?_⟩
   rcases q with ⟨k,e⟩ | ⟨k,c,e,z⟩
   ·refine .inl ⟨k,?_⟩
    have:y≠x:=fun e=>hj (dC hN e1 (e ▸ hi))
    show (if y=x then v' else m y)=some u'
    rw [if_neg this]; exact e
   ·exact .inr ⟨k,c,e,z.sameBut hs (I.cne y c e)⟩
 ·obtain ⟨w',z⟩:=I.cell y c e
  exact ⟨w',z.sameBut hs (I.cne y c e)⟩
 ·obtain ⟨e,n,ne,nf,d⟩:=I.pin p hp
  exact ⟨(hs.2 p.1 ne).trans e,n,ne,nf,d⟩
 ·refine (I.hok b ob e).stay (fun c w' hc q=>(hs.2 c ?_).trans q) (fun _ q=>q) fun _ _ q=>q
  rintro rfl
  rcases hc with rfl | hc
  ·rw [I.free] at e; cases e
  ·rw [I.free] at hc; cases hc
theorem bQ {pos:Pos}{Q:Unit->Shared->Prop}(I:Inv X pins σ H s)(hN:X.N.Nodup)(hi:X.N[i]?=some x)(hk:X.env.scope.names.lookup x=some .local)
  (h:∀ s',Inv X pins (σ.set i none) H s'->Q () s'):wpAny M A (do bindName X.env x .none; unbindBehindTheSuite X.env x pos) Q E s:=by
 have hl:i < σ.length:=by rw [I.len]; exact (a0y.mp hi).1
 refine wpAny_bind (wpAny_bindName (cN (v:=.non) I hN hi (.inl hk) rfl (fun s' I'=>?_) (.inr hk)))
 unfold unbindBehindTheSuite unbindName
 refine wpAny_onRaise (wpAny_bind (wpAny_point (wpAny_bind (ua I' hN hi hk (v:=.non) (a02 hl) fun s'' I''=>wpAny_point (h s'' ?_)))))
 rw [List.set_set] at I''
 exact I''
end
section
variable {M:Model}{h:Heap}{A:Around}{g:Array GenState}{d:Drawn}{t:Nat}{os:OsState}{E:Value->Shared->Prop}
theorem jT {e C B N N':Addr}{up up':List Value}{names names':Str->Option Value}{oe:Obj}{Q:Bool->Shared->Prop}(c:dS h C N up names)(b:dS h B N' up' names')(hb:up'.contains (.type "BaseException")=true)(hu:up.contains (.ref B)=true)
  (he:h.get? e=some oe) (hc:oe.cls=.ref C) (k:Q true ⟨h,g,d,t,os⟩):wpAny M A (excMatches (.ref e) (.ref B)) Q E ⟨h,g,d,t,os⟩:=by
 obtain ⟨⟨a1,a2,a3,a4,a5,a6,a7,a8,a9,b1,b2,b3,b4,b5,hC⟩,-⟩:=c
 obtain ⟨⟨c1,c2,c3,c4,c5,c6,c7,c8,c9,d1,d2,d3,d4,d5,hB⟩,-⟩:=b
 have y1:(Value.ref B::up').contains (.type "BaseException")=true:=by rw [a07,hb,a1G]
 have y2:(Value.ref C::up).contains (.ref B)=true:=by rw [a07,hu,a1G]
 have f:=tc_notTuple
 unfold excMatches
 repeat (first | (with_reducible refine wpAny_loadPart_at he ?_; rw [hc]) | with_reducible refine wpAny_loadPart_at hB ?_ | (with_reducible refine wpAny_isSubtype_exc hB ?_; rw [y1]) | (with_reducible refine wpAny_isSubtype_exc hC ?_; rw [y2]) | wp_step)
 exact k
end
noncomputable abbrev hx (X:Cx)(a:Addr):Cx:={ X with A:=X.A.mark (some (.ref a)),calm:=false,xe:=fun _ _=>False }
section
variable {X:Cx}{pins:List (Addr×Obj)}{σ:L2.St}{H:Hp}{s:Shared}{a C:Addr}{od:Option Addr}
theorem Inv.hx (I:Inv X pins σ H s)(a:Addr):Inv (hx X a) pins σ H s :=
 ⟨⟨I.ok.mod,I.ok.kind,I.ok.glob,I.ok.blt,I.ok.above,I.ok.inj,I.ok.has,I.ok.cab,(fun z=>by cases z),I.ok.frames,I.ok.stk,I.ok.exf,I.ok.bs,I.ok.bsz,I.ok.noex,I.ok.exfs,I.ok.funs,I.ok.frf⟩,I.os,I.bare,I.base,I.loc,I.cell,I.free,I.freeC,I.pin,I.hok,I.len⟩
theorem Inv.unhx (c:X.Ok)(I:Inv (L3.hx X a) pins σ H s):Inv X pins σ H s:=⟨c,I.os,I.bare,I.base,I.loc,I.cell,I.free,I.freeC,I.pin,I.hok,I.len⟩
theorem Inv.noted {h':Heap}{oe:Obj}{vs:Array Value}{fl:Value}(I:Inv X pins σ H s)(ha:H a=some (XO a C od false))(e1:s.heap.get? a=some oe)(e2:oe.data=.fields vs)(n:eI (frs X.stack) s.heap h' a oe vs fl):Inv X pins σ H { s with heap:=h' }:=by
 obtain ⟨⟨T',oT',ts',z1,z2,z3,z4,z5⟩,n2,n3,n4⟩:=n
 obtain ⟨⟨o,ws,t0,x1,x2,x3,x4,x5,x6,-⟩,-,-⟩:=I.hok a _ ha
 rw [e1] at x1; cases x1
 rw [e2] at x4; cases x4
 have hd':=Obj.data_mapFields e2 (·.setIfInBounds 1 (Value.ref T'))
 refine I.call' (s':={ s with heap:=h' }) (ch:=[]) rfl ⟨fun b o e hb hn hx=>n2 b o e (fun z=>?_) hn,fun b o e hb hm hx=>n3 b o e hm,fun b o e hb hx=>hb,fun b o e hx=>n4 b o e,fun _ _ z=>z,fun _ _ _ z=>z,fun b ps z=>⟨#[],by rw [z]; simp⟩⟩ ?_ I.bare (fun b z=>absurd z (by simp))
 ·rw [z,ha] at hb; cases hb
 ·refine HOk.touch I.hok ha (fun b u o hb hne g=>n2 b u g hne fun z=>?_) ⟨_,_,t0,z1,by rw [Obj.cls_mapFields]; exact x2,by rw [<- x3]; obtain ⟨_,_,_,_⟩:=oe; cases e2; rfl,hd',by rw [a1e (by decide)]; exact x5,by rw [a1u]; exact x6,fun z=>by cases z⟩
  rw [I.stkFree b z] at hb; cases hb
end
noncomputable abbrev tx (X:Cx)(E:Value->Shared->Prop)(pn:List (Addr×Obj)):Cx:={ X with xe:=E,pn:=pn }
section
variable {X:Cx}{pins pins':List (Addr×Obj)}{σ:L2.St}{H:Hp}{s:Shared}{E:Value->Shared->Prop}
theorem Inv.tx (I:Inv X pins σ H s)(E:Value->Shared->Prop):Inv (L3.tx X E (X.pn++pins)) [] σ H s :=
 ⟨⟨I.ok.mod,I.ok.kind,I.ok.glob,I.ok.blt,I.ok.above,I.ok.inj,I.ok.has,I.ok.cab,I.ok.hd,I.ok.frames,I.ok.stk,I.ok.exf,I.ok.bs,I.ok.bsz,I.ok.noex,I.ok.exfs,I.ok.funs,I.ok.frf⟩,I.os,I.bare,I.base,I.loc,I.cell,I.free,I.freeC,fun p hp=>I.pin p (by rw [a0F] at hp; exact hp),I.hok,I.len⟩
theorem Inv.untx (c:X.Ok)(I:Inv (L3.tx X E (X.pn++pins)) pins' σ H s):Inv X pins σ H s:=⟨c,I.os,I.bare,I.base,I.loc,I.cell,I.free,I.freeC,fun p hp=>I.pin p (a0Z _ hp),I.hok,I.len⟩
theorem SP.untx {D:bp}{f:Flow}(c:X.Ok)(h:SP (L3.tx X E (X.pn++pins)) pins' D f s):SP X pins D f s:=by
 cases f with
 | next=>obtain ⟨σ',H',I,q⟩:=h; exact ⟨σ',H',Inv.untx c I,q⟩
 | brk=>obtain ⟨σ',H',I,q⟩:=h; exact ⟨σ',H',Inv.untx c I,q⟩
 | cont=>obtain ⟨σ',H',I,q⟩:=h; exact ⟨σ',H',Inv.untx c I,q⟩
 | ret u=>obtain ⟨v,σ',H',I,r,q⟩:=h; exact ⟨v,σ',H',Inv.untx c I,r,q⟩
theorem fT {M:Model}{A:Around}{E:Value->Shared->Prop}{a T:Addr}{oe oT:Obj}{vs ts:Array Value}{Q:Unit->Shared->Prop}(e1:s.heap.get? a=some oe)(e2:oe.data=.fields vs)(e3:vs[1]?=some (.ref T))(e4:s.heap.get? T=some oT)(e5:oT.data=.fields ts)(e6:ts[3]?=some .none)
  (k:∀ h',(∀ b o,s.heap.get? b=some o->h'.get? b=some o)->Q () { s with heap:=h' }):wpAny M A (setFlight (.ref a) none) Q E s:=by
 unfold setFlight
 refine wpAny_bind (wpAny_field e1 e2 e3 ?_)
 rw [if_pos (dD T)]
 refine wpAny_setField e4 e5 (a0D.mp e6).1 (k _ fun b o q=>?_)
 by_cases z:b=T
 ·rw [z] at q ⊢
  rw [e4] at q; cases q
  show (s.heap.update T (Obj.mapFields (·.setIfInBounds 3 Value.none))).get? T=_
  rw [Heap.get?_update_self (Obj.mapFields (·.setIfInBounds 3 Value.none)) e4 (Obj.isFreed_of_fields (Obj.data_mapFields e5 _)),rH e5 e6]
 ·rw [Heap.get?_update_other _ _ (a1g z)]; exact q
end
section
variable {X:Cx}{pos pos' p:Pos}{i:Nat}{x cn:Str}{B fB:Addr}{upB:List Value}{body suite:List Stmt}{b₀:Stmt}{tb:(L2.St->VK)->TS}{th:Addr->TS}
theorem oy (hst:X.stack=X.env::X.outer)(hf:X.env.frame=some X.env.locals)(hN:X.N.Nodup)(hi:X.N[i]?=some x)(hk:X.env.scope.names.lookup x=some .local)(hg:Gl X cn)(hm:X.mg cn=some (.ref B))
  (cb:∀ h,X.K.In h->∃ N' names',dS h B N' upB names') (hub:b6 upB=true) (hb:∀ E' pn,PSs (L3.tx X E' pn) body (tb (xw (L3.tx X E' pn)))) (hs:∀ a,PSs (hx X a) (b₀::suite) (th a)) (hdb:(cn==("__debug__":Str))=false:=by decide)
  (mono:∀ W W' D σ H,(∀ σ v H,W σ v H->W' σ v H)->tb W D σ H->tb W' D σ H) :
  PS X (.Try body [.ExceptHandler (some (.Name cn p)) (some x) (b₀::suite) pos'] [] [] pos) fun D σ H =>
   tb (fun σ1 v H1=>∃ a C od f up,v=.ref a/\H1 a=some (XO a C od false)/\XC X.K C f up/\up.contains (.ref B)=true/\th a { nx:=fun σ2 H2=>D.nx (σ2.set i none) H2,rt:=D.rt,bk:=fun σ2 H2=>D.bk (σ2.set i none) H2,ct:=fun σ2 H2=>D.ct (σ2.set i none) H2 } (σ1.set i (some v)) H1) D σ H:=by
 intro pins s σ H D I h
 refine wpAny_Try_except ?_
 generalize hE:(fun (e:Value) (s₁:Shared)=>wpAny (model X.prog X.w) X.A (noteFrame e X.env) (fun _ s₂=>wpAny (model X.prog X.w) X.A (setFlight e none) (fun _ s₃=>wpAny (model X.prog X.w) X.A (handleBy e X.env [.ExceptHandler (some (.Name cn p)) (some x) (b₀::suite) pos']) (SP X pins D) X.xe s₃) X.xe s₂) X.xe s₁)=E'
 refine thn (hb E' (X.pn++pins) [] s σ H D (Inv.tx I E') (mono _ _ D σ H ?_ h)) fun fl s' q=>?_
 ·rintro σ1 v H1 ⟨a,C,od,f,up,rfl,ha,c,hu,ht⟩ pins' s1 a' C' od' ev ha' I1 tr
  cases ev
  rw [ha] at ha'
  subst hE
  obtain ⟨oe,vs,e1,e2,e3⟩:=tr
  have J:Inv X pins σ1 H1 s1:=Inv.untx I.ok I1
  obtain ⟨⟨o,ws,t0,x1,x2,x3,x4,x5,x6,-⟩,-,-⟩:=J.hok a _ ha
  rw [e1] at x1; cases x1
  rw [e2] at x4; cases x4
  have hl:=J.stack
  rw [hst] at hl
  have hfr:=J.ok.frames
  rw [hst] at hfr
  have tbx:Tb s1.heap a vs:=by
   rcases e3 with z | ⟨T,oT,ts,y1,y2,y3,y4,y5,_⟩
   ·exact .inl z
   ·exact .inr ⟨T,oT,ts,y1,y2,y3,y4,y5⟩
  show wpAny _ _ (noteFrame (.ref a) X.env) _ _ _
  refine jc hfr hl hf e1 e2 tbx fun h2 n2=>iN (s:={ s1 with heap:=h2 }) e2 x6 (Heap.lt_size e1) (fun b z=>by obtain ⟨_,o,q,_⟩:=hl.mem z; exact Heap.lt_size q) n2 fun h3 n3=>?_
  have n3':eI (frs X.stack) s1.heap h3 a oe vs .none:=by rw [hst]; exact n3
  have J3:Inv X pins σ1 H1 { s1 with heap:=h3 }:=Inv.noted J ha e1 e2 n3'
  obtain ⟨⟨T',oT',ts',z1,z2,z3,z4,z5⟩,-,-,-⟩:=n3
  have hd':=Obj.data_mapFields e2 (·.setIfInBounds 1 (Value.ref T'))
  refine wpAny_handleBy_cons (codeAny_handlers_test (bS (X:=L3.hx X a) (Inv.hx J3 a) hg hm ?_ hdb)) (by intro q; cases q)
  obtain ⟨N1,names1,c1,_,_⟩:=c.ok _ J3.kIn
  obtain ⟨N2,names2,c2⟩:=cb _ J3.kIn
  refine jT (h:=h3) c1 c2 (fK hub) hu z1 (by rw [Obj.cls_mapFields]; exact x2) ?_
  show codeAny _ _ _ _ _
  refine codeAny_handlers_suite_as (fT (s:={ s1 with heap:=h3 }) z1 hd' (by simp [x6]) z3 z4 z5 fun h4 k4=>?_)
  have J4:Inv X pins σ1 H1 { s1 with heap:=h4 }:=J3.kept (t':=s1.toks) k4
  refine cN (X:=L3.hx X a) (v:=.ref a) (Inv.hx J4 a) hN hi (.inl hk) rfl (fun s5 I5=>?_) (.inr hk)
  refine wpAny_mono (hs a pins s5 _ H1 _ I5 ht) (fun fl s6 q=>?_) fun _ _ z=>a0N z
  show wpAny _ _ (do bindName X.env x .none; unbindBehindTheSuite X.env x pos') _ _ _
  cases fl with
  | next=>obtain ⟨σ',H',I6,q⟩:=q; exact bQ (Inv.unhx I.ok I6) hN hi hk fun s7 I7=>⟨_,H',I7,q⟩
  | brk=>obtain ⟨σ',H',I6,q⟩:=q; exact bQ (Inv.unhx I.ok I6) hN hi hk fun s7 I7=>⟨_,H',I7,q⟩
  | cont=>obtain ⟨σ',H',I6,q⟩:=q; exact bQ (Inv.unhx I.ok I6) hN hi hk fun s7 I7=>⟨_,H',I7,q⟩
  | ret u=>obtain ⟨v,σ',H',I6,r,q⟩:=q; exact bQ (Inv.unhx I.ok I6) hN hi hk fun s7 I7=>⟨v,_,H',I7,r,q⟩
 ·have q:=SP.untx I.ok q
  cases fl with
  | next=>exact wpAny_execs_nil q
  | brk=>exact q
  | cont=>exact q
  | ret u=>exact q
end
theorem slot_bga:Slot "ValueError" "__getattribute__" "BaseException.__getattribute__":=PySem.F.excAttr_ValueError.ga
section
variable {prog:Program}{w:World}{A:Around}{E:Value->Shared->Prop}{s:Shared}{K:a0a}
structure XG (K:a0a)(C:Addr):Prop where
 ga:a0q K (.ref C) "__getattribute__"=some (some (.builtin "BaseException.__getattribute__"))
 hk:a0q K (.ref C) "__getattr__"=some none
 sub:a3d K (.ref C) (.type "BaseException")=some true
theorem l6 {e C:Addr}{oe:Obj}{od:Option Obj}{name:Str}{tk:Tok}{fill expr:Bool}{Q:Value->Shared->Prop}(X:K.In s.heap)(J:a00 s.heap e oe C od)(c:XG K C)
  (h:wpAny (model prog w) A.in1 (Builtin.«object.__getattribute__» ⟨[.ref e,.str name tk],[]⟩) (fun fin s'=>match fin with | .done (.ret v)=>wpAny (model prog w) A (a23 v) Q E s' | _=>False) (fun _ _=>False) s) :
  wpAny (model prog w) A (getAttrBy (.ref e) (.str name tk) fill expr) Q E s:=by
 have ty:=J.type (M:=model prog w)
 refine wpAny_holding (wpAny_bind (ty _ _ _ _ (fun _ _ e=>e) (wpAny_bind (a2r X c.ga _ _ _ _ (fun _ _ e=>e) ?_))))
 dsimp only
 rw [show (Value.builtin "BaseException.__getattribute__"==Value.builtin "object.__getattribute__")=false from by decide +kernel,a27,if_neg (by decide)]
 refine wpAny_bind (PySem.W.looks_hook X (r:=none) (by rw [if_pos (show onTheHeap (Value.ref C)=true from rfl)]; exact c.hk) _ _ _ _ (fun _ _ e=>e) (wpAny_bind (wpAny_attempt (wpAny_holding ?_))))
 unfold callGetattribute
 rw [show (expr&&onTheHeap (Value.builtin "BaseException.__getattribute__"))=false from a27 _,if_neg (by decide)]
 unfold boundAndCalled
 rw [slot_bga.bind]
 refine wpAny_bind (wpAny_pure ?_)
 show wpAny _ _ (call (.builtin "BaseException.__getattribute__") [.ref e,.str name tk]) _ _ _
 refine wpAny_call (codeAny_call_builtin slot_bga.plain PySem.F.entry_bexc_ga ?_)
 refine @a2B (model prog w) _ _ s "BaseException.__getattribute__" "BaseException" "__getattribute__" (.ref e) [.str name tk] [] _ (by decide +kernel) (by decide +kernel) (ty.andThen (PySem.W.looks_subIn X c.sub)) (PySem.F.args_bexc_ga (.ref e) (.str name tk)) ?_
 refine wpAny_mono h (fun fin s' z=>?_) fun _ _ z=>z.elim
 rcases fin with (_ | _ | _ | _) | _<;>first | exact a0N z | exact z
theorem pw {e C:Addr}{oe:Obj}{od:Option Obj}{name:Str}{v:Value}{expr:Bool}{Q:Value->Shared->Prop}(X:K.In s.heap)(J:a00 s.heap e oe C od)(c:XG K C)
  (hf:a24 K C od name=some (.value v)) (hh:a2P v=true) (h:Q v { s with toks:=s.toks+1 }):wpAny (model prog w) A (getAttr (.ref e) name expr) Q E s:=by
 refine wpAny_bind (wpAny_mkText (l6 (s:={ s with toks:=s.toks+1 }) X J c ?_))
 have ty:=J.type (M:=model prog w)
 have fd:=a2C (M:=model prog w) X J hf
 refine wpAny_bind (wpAny_pure (wpAny_bind (wpAny_pure (wpAny_bind (a0G (s:={ s with toks:=s.toks+1 }) ty (wpAny_bind (a0G (s:={ s with toks:=s.toks+1 }) fd ?_)))))))
 refine wpAny_pure ?_
 show wpAny _ _ (a23 v) _ _ _
 rw [PySem.W.handedOut_of hh]
 exact wpAny_pure h
theorem jm {e C:Addr}{oe od:Obj}{Q:Option Value->Shared->Prop}(X:K.In s.heap)(J:a00 s.heap e oe C (some od))(c:XG K C)(hd:a0V K C=true)
  (ha:a0q K (.ref C) "__class__"=some (some (.builtin "object.__class__"))) (hn:a1b K (.builtin "object.__class__") "__get__"=some (some (.builtin "getset_descriptor.__get__"))) (htk:a1x K (.builtin "object.__class__")=some true) (hm:a1y K C (.type "object")=some true)
  (h:Q (some (.ref C)) { s with toks:=s.toks+1 }):wpAny (model prog w) A (getAttr? (.ref e) "__class__") Q E s:=by
 have hf:a24 K C (some od) "__class__"=some (.bind (.builtin "getset_descriptor.__get__") (.builtin "object.__class__")):=PySem.W.findObj_data (by obtain ⟨cd,hc,_⟩:=a1k hd; rw [hc]; rfl) ha hn htk
 unfold getAttr? getAttrBy?
 refine wpAny_bind (wpAny_mkText (wpAny_bind (wpAny_attempt (l6 (s:={ s with toks:=s.toks+1 }) X J c ?_))))
 have ty:=J.type (M:=model prog w)
 have fd:=a2C (M:=model prog w) X J hf
 refine wpAny_bind (wpAny_pure (wpAny_bind (wpAny_pure (wpAny_bind (a0G (s:={ s with toks:=s.toks+1 }) ty (wpAny_bind (a0G (s:={ s with toks:=s.toks+1 }) fd ?_)))))))
 show wpAny _ _ (holding [.builtin "object.__class__"] (call (.builtin "getset_descriptor.__get__") [.builtin "object.__class__",.ref e,.ref C]) >>= ret) _ _ _
 refine wpAny_bind (wpAny_holding (wpAny_call (PySem.W.class_get (s:={ s with toks:=s.toks+1 }) (ox:=oe) (od:=some od) X J hm ?_)))
 exact wpAny_pure (PySem.W.handed_on rfl (wpAny_pure h))
theorem je {e C:Addr}{oe od:Obj}(c:XG K C)(hd:a0V K C=true)
  (ha:a0q K (.ref C) "__class__"=some (some (.builtin "object.__class__"))) (hn:a1b K (.builtin "object.__class__") "__get__"=some (some (.builtin "getset_descriptor.__get__"))) (htk:a1x K (.builtin "object.__class__")=some true) (hm:a1y K C (.type "object")=some true) :
  PySem.W.KitX K (.ref e) (.ref C) (fun h=>a00 h e oe C (some od)) where
 ty:=fun _ _ _ J=>J.type
 it:=fun _ _ X _=>by
  obtain ⟨cd,hc,_⟩:=a1k hd
  unfold a1r at hc
  split at hc
  ·rename_i ho
   intro A' Q' E' s' k q
   unfold isType loadHead
   exact wpAny_bind (wpAny_loadPart (k _ _ (X C _ ho)) (wpAny_pure q))
  ·cases hc
 ne:=fun h tp dd its n sl X z=>by
  obtain ⟨cd,hc,_⟩:=a1k hd
  refine Bool.eq_false_iff.mpr fun q=>?_
  have q':C=tp:=Value.ref.inj (beq_iff_eq.mp q)
  subst q'
  unfold a1r at hc
  split at hc
  ·rename_i ho
   cases (X _ _ ho).symm.trans z
  ·cases hc
 ca:=fun X J k=>jm X J c hd ha hn htk hm k
end
structure XF (K:a0a)(C:Addr):Prop where
 xc:∃ f up,XC K C f up/\b6 up=true
 xg:XG K C
 hd:a0V K C=true
 ca:a0q K (.ref C) "__class__"=some (some (.builtin "object.__class__"))
 cg:a1b K (.builtin "object.__class__") "__get__"=some (some (.builtin "getset_descriptor.__get__"))
 ct:a1x K (.builtin "object.__class__")=some true
 mo:a1y K C (.type "object")=some true
noncomputable def XNm (K:a0a)(c:Nat)(C:Addr):Prop:=c=C/\XF K C
section
variable {X:Cx}{pins:List (Addr×Obj)}{σ:L2.St}{H:Hp}{s:Shared}{a C dx:Addr}{n:Bool}{fs:List (Str×V)}{fld:Str}{v:V}{A:Around}{E:Value->Shared->Prop}
theorem qe {b:Bool}{Q:Value->Shared->Prop}(I:Inv X pins σ H s)(e:H a=some (XO a C (some dx) n))(d:H dx=some (.xd fs))(c:XF X.K C)(ha:a0q X.K (.ref C) fld=some none)(l:fs.lookup fld=some v)
  (h:∀ u s',Inv X pins σ H s'->RelV v u->Q u s'):wpAny (model X.prog X.w) A (getAttr (.ref a) fld b) Q E s:=by
 obtain ⟨o,vs,t0,e0,e1,e2,e3,e4,e5,e6⟩:XOk a C (some dx) n s.heap:=(I.hok a _ e).1
 obtain ⟨mA,ns,r⟩:∃ mA,s.heap.Ns1 dx mA/\∀ f,RelO (fs.lookup f) (mA f):=I.hok dx _ d
 obtain ⟨u,hu,ru⟩:=RelO.some_of (v:=v) (o:=mA fld) (by rw [<- l]; exact r fld)
 obtain ⟨od,ho,hl⟩:=bU ns
 have J:a00 s.heap a o C (some od):=⟨e0,e1,by unfold a12; rw [e3],by rw [e2]; exact ho⟩
 exact pw I.kIn J c.xg (PySem.W.findObj_own c.hd ha rfl (by rw [hl,hu])) (j3 ru) (h u _ (I.tok _) ru)
theorem vq {cv:Value}{b:Bool}{Q:Value->Shared->Prop}(I:Inv X pins σ H s)(e:H a=some (XO a C (some dx) n))(d:H dx=some (.xd fs))(c:XF X.K C)(k:a0O X.K (.ref C) cv=some b)
  (h:∀ tk,Q (.bool b) { s with toks:=tk }):wpAny (model X.prog X.w) A (call (.builtin "isinstance") [.ref a,cv]) Q E s:=by
 obtain ⟨o,vs,t0,e0,e1,e2,e3,e4,e5,e6⟩:XOk a C (some dx) n s.heap:=(I.hok a _ e).1
 obtain ⟨mA,ns,r⟩:∃ mA,s.heap.Ns1 dx mA/\∀ f,RelO (fs.lookup f) (mA f):=I.hok dx _ d
 obtain ⟨od,ho,hl⟩:=bU ns
 have J:a00 s.heap a o C (some od):=⟨e0,e1,by unfold a12; rw [e3],by rw [e2]; exact ho⟩
 exact a0J (je c.xg c.hd c.ca c.cg c.ct c.mo) I.kIn J k (fun z=>nomatch z) h
end
section
variable {X:Cx}{e:Expr}{fld:Str}{pos:Pos}{ta:TE}
theorem pX (he:PE X e ta)(hb:attributeBase e fld X.env (eval e X.env)=eval e X.env):PE X (.Attribute e fld pos) fun σ H Q=>ta σ H fun x H1=>∃ a C dx n fs v,x=.ref a/\H1 a=some (XO a C (some dx) n)/\H1 dx=some (.xd fs)/\XF X.K C/\a0q X.K (.ref C) fld=some none/\fs.lookup fld=some v/\Q v H1:=by
 intro pins s σ H Q I h
 refine nW hb (thn (he pins s σ H _ I h) fun u s1 ⟨x,H1,I1,rx,a,C,dx,n,fs,v,ex,ea,ed,c,ha,l,q⟩=>?_)
 subst ex
 obtain rfl:u=Value.ref a:=rx
 exact qe I1 ea ed c ha l fun u' s2 I2 ru=>⟨v,H1,I2,ru,q⟩
end
end L3

namespace M
open PySem (Str)
inductive T where
 | non | bl (b:Bool) | int (i:Int) | str (x:Str) | tup (ts:List T) | lst (ts:List T) | dct (ks:List (Int ⊕ Str)) (vs:List T) | ins (c:Nat) (fs:List Str) (vs:List T)
 | scr (ns:List Int)
 | gone
 deriving Inhabited
inductive Md where
 | s | d | o (m:Md)
 deriving DecidableEq,Inhabited
noncomputable def Md.kid:Md->Md
 | .s=>.s | .d=>.d | .o m=>m
noncomputable def Md.up:Md->Md
 | .d=>.d | m=>.o m
noncomputable def Md.meet:Md->Md->Md
 | .s,_=>.s | .d,m=>m | .o _,.s=>.s | .o a,.d=>.o a | .o a,.o b=>.o (a.meet b)
noncomputable def Md.le:Md->Md->Bool
 | .s,_=>true
 | .o a,.o b=>a.le b
 | .o _,.d=>true
 | .d,.d=>true
 | _,_=>false
noncomputable abbrev W:=Md×T
noncomputable abbrev Env:=List (Option W)
noncomputable def LIM:Nat:=16777215
noncomputable def T.leaf:T->Bool
 | .non | .bl _ | .int _ | .str _ | .scr _=>true
 | _=>false
noncomputable def T.isG:T->Bool
 | .gone=>true
 | .dct _ _=>true
 | _=>false
noncomputable def T.isH:T->Bool
 | .gone=>true
 | .dct _ _=>true
 | .ins _ _ _=>true
 | _=>false
noncomputable def T.isN:T->Bool
 | .non=>true
 | _=>false
noncomputable def leaves (ts:List T):Bool:=ts.all T.leaf
inductive Op where
 | add | sub | mul | fdiv | mod | pow | neg | eq | ne | lt | le | gt | ge | is | isnot | isin | notin | ix | sl | sl1 | sl2 | sl3
 | len | isI (cs:List String) | max1 | maxZ | min1 | count | fdivN | modN | intS | apd | mulS | listS | list | tuple | sum | all | any | max | min | int | str | rng | sorted | join | split | abs | dict | get | lzip | isB | isnB | lower | inS | ninS | inX | ninX | leS | catT | dnew | sortedD | sortedS | lenSet | countS | repr | ixD | revL
 | isX (cs:List Nat) | att (fld:Str) | getK (tab:List (Str×Int)) (d:Option Int) | mk (c:Nat) (fld:Str) (fk:Nat)
  deriving DecidableEq,Inhabited
inductive Ik where
 | seq | rng | enm | zip | sq2 | zip3 | chr | enmT
 deriving DecidableEq,Inhabited
inductive E where
 | var (i:Nat) | mv (i:Nat) | io (i:Nat) | cst (t:T) | glb (x:Str) (t:T)
 | tup (es:List E) | lst (h:Bool) (es:List E) | op (o:Op) (h:Bool) (es:List E) | wk (m:Md) (e:E)
 | and (a b:E) | or (a b:E) | not (a:E) | ifx (c a b:E) | chain (o p:Op) (a b c:E)
 | call (f:Nat) (es:List E) | comp (h:Bool) (k:Ik) (src:List E) (tg:List Nat) (cnd:Option E) (elt:E)
 | pop (i:Nat) (es:List E) | lenV (i:Nat) | ixV (i j:Nat) | popN (i:Nat) (e:E) | compV (h:Bool) (i t:Nat) (c e:E)
 | tupA (es:List E) | qx (vs ls:List Nat) (e:E) | mvP (i:Nat) (p:List Nat)
 | callT (tab:List (Str×Nat)) (k:E) (es:List E) | inT (neg:Bool) (ks:List Str) (e:E) | ixT (tab:List (Str×T)) (e:E) | getT (tab:List (Str×T)) (e:E)
 deriving Inhabited
inductive X where
 | q (vs ls:List Nat) | l (vs:List Nat)
 deriving Inhabited
inductive S where
 | asg (x:X) (i:Nat) (e:E) | asgT (x:X) (is:List Nat) (e:E) | setI (x:X) (i:Nat) (k e:E) | setK (x:X) (i:Nat) (k e:E) | setS (x:X) (i:Nat) (k e:E) | insF (x:X) (i:Nat) (e:E) | revS (i:Nat) | apN (i k l:Nat) | insN (i k l:Nat) | apC (i k:Nat) (cs:List T) | popI (i k:Nat) | clrA (i j:Nat)
 | exp (x:X) (e:E) | app (x:X) (i:Nat) (e:E) | ext (x:X) (i:Nat) (e:E)
 | ret (vs:List Nat) (e:E) | retN | ite (x:X) (c:E) (a b:List S)
 | forS (vs ls:List Nat) (k:Ik) (src:List E) (tg:List Nat) (body:List S) | forU (k:Ik) (src:List E) (tg:List Nat) (body:List S) | whl (x:X) (c:E) (body:List S)
 | brk | pas | stop | tri (body:List S)
 | asgC (vs:List Nat) (i f:Nat) (es:List E) | expC (vs:List Nat) (f:Nat) (es:List E) | retC (vs:List Nat) (f:Nat) (es:List E) | raise (c:Nat) (fld:Str) (fk:Nat) (x:X) (e:E) | tryC (cs:List Nat) (body:List S) (i:Nat) (h:List S)
 deriving Inhabited
structure Fn where
 ps:Nat
 ns:Nat
 io:List Nat
 body:List S
inductive Res (α:Type) where
 | ok (a:α) | ex (t:T) | no
noncomputable def Res.bind {α β:Type}:Res α->(α->Res β)->Res β
 | .ok a,f=>f a
 | .ex t,_=>.ex t
 | .no,_=>.no
noncomputable def ofO {α:Type}:Option α->Res α
 | some a=>.ok a
 | none=>.no
inductive Fl where
 | nx (η:Env) | rt (w:W) (η:Env) | bk (η:Env) | ex (t:T) (η:Env) | no
noncomputable def truth:T->Option Bool
 | .non=>some false | .bl b=>some b | .int i=>some (i != 0) | .str x=>some (x.cps.size != 0) | .tup ts=>some (!ts.isEmpty) | .lst ts=>some (!ts.isEmpty) | .dct _ _=>none | .ins ..=>none | .scr ns=>some (!ns.isEmpty) | .gone=>none
noncomputable def b2i:Bool->Int
 | true=>1 | false=>0
mutual
noncomputable def eqT:T->T->Bool
 | .non,.non=>true
 | .bl a,.bl b=>a==b
 | .bl a,.int i=>b2i a==i
 | .int i,.bl a=>i==b2i a
 | .int i,.int j=>i==j
 | .str x,.str y=>x==y
 | .tup ts,.tup us=>eqTs ts us
 | .lst ts,.lst us=>eqTs ts us
 | _,_=>false
noncomputable def eqTs:List T->List T->Bool
 | [],[]=>true
 | t::ts,u::us=>eqT t u&&eqTs ts us
 | _,_=>false
end
mutual
noncomputable def dp:T->Nat
 | .tup ts=>dps ts+1
 | .lst ts=>dps ts+1
 | .scr _=>1000
 | .dct _ _=>1000
 | .ins _ _ _=>1000
 | .gone=>1000
 | _=>0
noncomputable def dps:List T->Nat
 | []=>0
 | t::ts=>max (dp t) (dps ts)
end
noncomputable def sOk (x:Str):Bool:=x.cps.all (· < 0x110000)&&decide (x.cps.size<=LIM)
noncomputable def kOk:Int ⊕ Str->Bool
 | .inl _=>true
 | .inr x=>sOk x
noncomputable def wm:T->Option (Int ⊕ Str)
 | .int n=>some (.inl n)
 | .str x=>some (.inr x)
 | _=>none
noncomputable def kH:List (Int ⊕ Str)->Option (List Str)
 | []=>some []
 | .inr x::ks=>(kH ks).map (x::·)
 | .inl _::_=>none
noncomputable def qV (q:Int ⊕ Str):List (Int ⊕ Str)->List T->Option T
 | y::ys,v::vs=>if y=q then some v else qV q ys vs
 | _,_=>none
noncomputable def ixN (n:Nat)(i:Int):Option Nat:=if 0<=i then (if i < n then some i.toNat else none) else if -(n:Int)<=i then some (i+n).toNat else none
noncomputable def atI {α:Type}(xs:List α)(i:Int):Option α:=(ixN xs.length i).bind fun j=>xs[j]?
noncomputable def sIx (n d:Nat):Option Int->Nat
 | none=>d
 | some i=>if i < 0 then (i+n).toNat else min i.toNat n
noncomputable def cut {α:Type}(xs:List α)(lo hi:Option Int):List α:=(xs.drop (sIx xs.length 0 lo)).take (sIx xs.length xs.length hi-sIx xs.length 0 lo)
noncomputable def T.ty:T->String
 | .non=>"NoneType" | .bl _=>"bool" | .int _=>"int" | .str _=>"str" | .tup _=>"tuple" | .lst _=>"list" | .dct ..=>"dict" | .ins ..=>"object" | .scr _=>"list" | .gone=>"gone"
noncomputable def yj (c:String)(t:T):Bool:=t.ty==c || (t.ty=="bool"&&c=="int")
noncomputable def cP:List T->Option (List Int)
 | []=>some []
 | .int i::ts=>(cP ts).map (i::·)
 | _::_=>none
noncomputable def dh:List T->Option (List Bool)
 | []=>some []
 | .bl b::ts=>(dh ts).map (b::·)
 | _::_=>none
noncomputable def eC:W->Option (List T)
 | (_,.tup ts)=>some ts
 | (_,.lst ts)=>some ts
 | _=>none
noncomputable def gq:T->Bool
 | .non | .bl _ | .int _ | .str _=>true
 | _=>false
noncomputable def isStr:T->Bool
 | .str _=>true
 | _=>false
noncomputable def i8:T->Bool
 | .non | .bl _ | .int _ | .str _ | .lst _ | .tup _=>true
 | _=>false
noncomputable def xu (c:Nat):Nat:=if 65<=c/\c<=90 then c+32 else c
noncomputable def rX:List Int->Int
 | []=>0
 | [n]=>n
 | n::ns=>max n (rX ns)
noncomputable def wU:List Int->Int
 | []=>0
 | [n]=>n
 | n::ns=>min n (wU ns)
noncomputable def xZ (x:Int):List Int->List Int
 | []=>[x]
 | y::ys=>if x<=y then x::y::ys else y::xZ x ys
noncomputable def ri:List Int->List Int
 | []=>[]
 | x::xs=>xZ x (ri xs)
noncomputable def strsOf:List T->Option (List Str)
 | []=>some []
 | .str x::ts=>(strsOf ts).map (x::·)
 | _::_=>none
noncomputable def zY (ks:List Str)(x:Str):List Str:=if ks.contains x then ks else ks++[x]
noncomputable def rV (l:List Str):List Str:=l.foldl zY []
noncomputable def ltS (x y:Str):Bool:=decide (x.cps.toList < y.cps.toList)
noncomputable def w8 (x:Str):List Str->List Str
 | []=>[x]
 | y::ys=>if ltS y x then y::w8 x ys else x::y::ys
noncomputable def gi:List Str->List Str
 | []=>[]
 | x::xs=>w8 x (gi xs)
noncomputable def spl (c:Nat):List Nat->List Nat->List (List Nat)
 | acc,[]=>[acc]
 | acc,x::xs=>if x=c then acc::spl c [] xs else spl c (acc++[x]) xs
noncomputable def splS (x:Str):List Str:=(spl 32 [] x.cps.toList).map fun l=>⟨l.toArray⟩
noncomputable def yM (l:List Nat):Nat:=l.foldl (fun a c=>a * 10+(c-48)) 0
noncomputable def vD (x:Str):Int:=match x.cps.toList with
 | 45::cs=>-((yM cs:Nat):Int)
 | cs=>((yM cs:Nat):Int)
noncomputable def xn (i:Int):Str:=Str.ofString (toString i)
noncomputable def wH:List T->List T->List T
 | t::ts,u::us=>.tup [t,u]::wH ts us
 | _,_=>[]
noncomputable def newL (h:Bool)(m:Md)(ts:List T):Option W:=if h then (if leaves ts then some (.d,.lst ts) else none) else some (m.up,.lst ts)
noncomputable def fits (n:Nat):Bool:=decide (n<=LIM)
mutual
noncomputable def datT:T->a3t
 | .bl b=>.bool b
 | .int i=>.int i
 | .str x=>.str x
 | .tup ts=>.tuple (datTs ts)
 | .lst ts=>.list (datTs ts)
 | _=>.none
noncomputable def datTs:List T->List a3t
 | []=>[]
 | t::ts=>datT t::datTs ts
end
mutual
noncomputable def rOk:T->Bool
 | .non | .bl _=>true
 | .int i=>decide (i.natAbs < 10000000000000000000)
 | .str x=>decide ((a13 x).length<=100)&&sOk (a13 x)
 | .tup ts=>rOks ts
 | .lst ts=>rOks ts
 | _=>false
noncomputable def rOks:List T->Bool
 | []=>true
 | t::ts=>rOk t&&rOks ts
end
mutual
noncomputable def szR:T->Nat
 | .tup ts=>szRs ts+4
 | .lst ts=>szRs ts+4
 | _=>100
noncomputable def szRs:List T->Nat
 | []=>0
 | t::ts=>szR t+2+szRs ts
end
noncomputable def fldOk:Nat->Md->T->Bool
 | 0,_,.int n=>decide (n.natAbs.log2 < 1920)
 | 1,.s,.tup ts=>decide (dp (.tup ts)<=64)&&rOk (.tup ts)&&fits (szR (.tup ts))
 | 2,_,.str _=>true
 | _,_,_=>false
noncomputable def lfM (t:T):Md:=if t.leaf=true then .d else .s
noncomputable def getI:Option Int->Option Int->T
 | some i,_=>.int i
 | none,some i=>.int i
 | none,none=>.non
noncomputable def oSem:Op->Bool->List W->Option W
 | .add,h,[(m,a),(n,b)]=>match a,b with
  | .int i,.int j=>some (.d,.int (i+j))
  | .str x,.str y=>if fits (x.cps.size+y.cps.size) then some (.d,.str (x++y)) else none
  | .lst ts,.lst us=>if fits (ts.length+us.length) then newL h (m.kid.meet n.kid) (ts++us) else none
  | .tup ts,.tup us=>if fits (ts.length+us.length)&&!ts.isEmpty then some (.s,.tup (ts++us)) else none
  | _,_=>none
 | .sub,_,[(_,.int i),(_,.int j)]=>some (.d,.int (i-j))
 | .mul,h,[(m,a),(_,b)]=>match a,b with
  | .int i,.int j=>if (decide (i.natAbs < 18446744073709551616)) || (decide (j.natAbs < 18446744073709551616)) then some (.d,.int (i * j)) else none
  | .lst ts,.int k=>if decide (k.natAbs < 4611686018427387904)&&fits (ts.length * k.toNat) then newL h .s (a0f k.toNat ts).flatten else none
  | _,_=>none
 | .fdiv,_,[(_,.int i),(_,.int j)]=>if decide (0 < j)&&decide (j < 1073741824) then some (.d,.int (i / j)) else none
 | .mod,_,[(_,.int i),(_,.int j)]=>if decide (0 < j) then some (.d,.int (i % j)) else none
 | .pow,_,[(_,.int i),(_,.int j)]=>if decide (0<=j)&&decide (j<=1000000)&&decide (i.natAbs < 18446744073709551616) then some (.d,.int (i ^ j.toNat)) else none
 | .fdivN,_,[(_,.int i),(_,.int j)]=>if (j != 0)&&decide (j.natAbs < 18446744073709551616) then some (.d,.int (i.fdiv j)) else none
 | .modN,_,[(_,.int i),(_,.int j)]=>if j != 0 then some (.d,.int (i.fmod j)) else none
 | .neg,_,[(_,.int i)]=>some (.d,.int (-i))
 | .eq,_,[(_,a),(_,b)]=>if decide (dp a<=64)&&decide (dp b<=64) then some (.d,.bl (eqT a b)) else none
 | .ne,_,[(_,a),(_,b)]=>if decide (dp a<=64)&&decide (dp b<=64) then some (.d,.bl (!eqT a b)) else none
 | .lt,_,[(_,.int i),(_,.int j)]=>some (.d,.bl (decide (i < j)))
 | .le,_,[(_,.int i),(_,.int j)]=>some (.d,.bl (decide (i<=j)))
 | .gt,_,[(_,.int i),(_,.int j)]=>some (.d,.bl (decide (j < i)))
 | .ge,_,[(_,.int i),(_,.int j)]=>some (.d,.bl (decide (j<=i)))
 | .is,_,[(_,a),(_,.non)]=>if a.isG then none else some (.d,.bl a.isN)
 | .isnot,_,[(_,a),(_,.non)]=>if a.isG then none else some (.d,.bl (!a.isN))
 | .ix,_,[(m,a),(_,.int i)]=>match a with
  | .lst ts=>(atI ts i).map fun t=>(m.kid,t)
  | .tup ts=>(atI ts i).map fun t=>(m.kid,t)
  | .str x=>(atI x.cps.toList i).map fun c=>(.d,.str ⟨#[c]⟩)
  | .scr ns=>(atI ns i).map fun n=>(.d,.int n)
  | _=>none
 | .sl,h,[(m,.lst ts)]=>newL h m.kid ts
 | .sl1,h,[(m,.lst ts),(_,.int i)]=>newL h m.kid (cut ts (some i) none)
 | .sl2,h,[(m,.lst ts),(_,.int i)]=>newL h m.kid (cut ts none (some i))
 | .sl3,h,[(m,.lst ts),(_,.int i),(_,.int j)]=>newL h m.kid (cut ts (some i) (some j))
 | .sl2,_,[(_,.scr ns),(_,.int i)]=>some (.d,.lst ((cut ns none (some i)).map T.int))
 | .sl1,_,[(_,.scr ns),(_,.int i)]=>some (.d,.lst ((cut ns (some i) none).map T.int))
 | .sl,_,[(_,.scr ns)]=>some (.d,.lst (ns.map T.int))
 | .sl1,_,[(_,.tup ts),(_,.int i)]=>some (.s,.tup (cut ts (some i) none))
 | .sl2,_,[(_,.tup ts),(_,.int i)]=>some (.s,.tup (cut ts none (some i)))
 | .sl3,_,[(_,.tup ts),(_,.int i),(_,.int j)]=>some (.s,.tup (cut ts (some i) (some j)))
 | .len,_,[(_,a)]=>match a with
  | .lst ts=>some (.d,.int ts.length)
  | .tup ts=>some (.d,.int ts.length)
  | .str x=>some (.d,.int x.cps.size)
  | .scr ns=>some (.d,.int ns.length)
  | _=>none
 | .isX cs,_,[(_,.ins c _ _)]=>some (.d,.bl (cs.contains c))
 | .isX _,_,[(_,.non)]=>some (.d,.bl false)
 | .att fld,_,[(_,.ins _ [g] [t])]=>if (g==fld)=true then some (lfM t,t) else none
 | .getK tab d,_,[(_,.str x)]=>some (.d,getI (tab.lookup x) d)
 | .mk c fld fk,_,[(m,t)]=>if fldOk fk m t=true then some (.s,.ins c [fld] [t]) else none
 | .isI cs,_,[(_,a)]=>if a.isH then none else some (.d,.bl (cs.any fun c=>yj c a))
 | .list,h,[(m,a)]=>match a with
  | .lst ts=>newL h m.kid ts
  | .tup ts=>newL h m.kid ts
  | .scr ns=>some (.d,.lst (ns.map T.int))
  | _=>none
 | .tuple,_,[(m,a)]=>match a with
  | .lst ts=>some (m.kid.up,.tup ts)
  | .tup ts=>some (m,.tup ts)
  | _=>none
 | .sum,_,[(_,.lst ts)]=>(cP ts).map fun ns=>(.d,.int ns.sum)
 | .all,_,[(_,.lst ts)]=>(dh ts).map fun bs=>(.d,.bl (bs.all id))
 | .any,_,[(_,.lst ts)]=>(dh ts).map fun bs=>(.d,.bl (bs.any id))
 | .max,_,[(_,.int i),(_,.int j)]=>some (.d,.int (if j > i then j else i))
 | .min,_,[(_,.int i),(_,.int j)]=>some (.d,.int (if j < i then j else i))
 | .rng,_,[(_,.int i),(_,.int j)]=>if decide (i.natAbs < 4611686018427387904)&&decide (j.natAbs < 4611686018427387904)&&fits (j-i).toNat then some (.d,.lst ((a0X (j-i).toNat).map fun (k:Nat)=>T.int (i+k))) else none
 | .isin,_,[(_,a),(n,b)]=>(eC (n,b)).bind fun ts=>if gq a&&ts.all gq then some (.d,.bl (ts.any fun t=>eqT t a)) else none
 | .notin,_,[(_,a),(n,b)]=>(eC (n,b)).bind fun ts=>if gq a&&ts.all gq then some (.d,.bl (!ts.any fun t=>eqT t a)) else none
 | .int,_,[(_,.int i)]=>some (.d,.int i)
 | .int,_,[(_,.bl b)]=>some (.d,.int (b2i b))
 | .abs,_,[(_,.int i)]=>some (.d,.int i.natAbs)
 | .maxZ,_,[(_,.lst ts)]=>(cP ts).bind fun ns=>some (.d,.int (if ns.isEmpty then 0 else rX ns))
 | .max1,_,[(_,.lst ts)]=>(cP ts).bind fun ns=>if ns.isEmpty then none else some (.d,.int (rX ns))
 | .min1,_,[(_,.lst ts)]=>(cP ts).bind fun ns=>if ns.isEmpty then none else some (.d,.int (wU ns))
 | .sorted,_,[(_,.lst ts)]=>(cP ts).bind fun ns=>if decide (ns.length < 64) then some (.d,.lst ((ri ns).map T.int)) else none
 | .str,_,[(_,.int i)]=>if decide (i.natAbs < 10000000000000000000) then some (.d,.str (xn i)) else none
 | .intS,_,[(_,.str x)]=>if decide ((vD x).natAbs < 10000000000000000000)&&(xn (vD x)==x) then some (.d,.int (vD x)) else none
 | .join,_,[(_,.str z),(_,.lst ts)]=>(strsOf ts).bind fun ss=>if sOk (Str.join z ss)&&decide ((ss.map fun s=>s.cps.size+z.cps.size).sum<=LIM) then some (.d,.str (Str.join z ss)) else none
 | .split,_,[(_,.str z),(_,.str y)]=>if (y==Str.ofString " ")&&decide (z.cps.size+2<=LIM)&&(splS z).all sOk then some (.d,.lst ((splS z).map T.str)) else none
 | .mulS,_,[(_,.str x),(_,.int k)]=>if decide (0<=k)&&decide (k<=100)&&decide (x.cps.size<=1000) then some (.d,.str ⟨(a0f k.toNat x.cps.toList).flatten.toArray⟩) else none
 | .listS,_,[(_,.str x)]=>some (.d,.lst (x.cps.toList.map fun c=>T.str ⟨#[c]⟩))
 | .apd,_,[(m,.lst ts),(_,_)]=>if m==.s then none else if decide (ts.length < LIM) then some (.d,.non) else none
 | .count,_,[(_,.lst ts),(_,.bl b)]=>(dh ts).map fun bs=>(.d,.int (bs.count b))
 | .lower,_,[(_,.str x)]=>if x.cps.toList.all (fun c=>decide (c < 128)) then some (.d,.str ⟨x.cps.map xu⟩) else none
 | .inS,_,[(_,.str x),(_,.str y)]=>some (.d,.bl (!(a0Y y x 0 y.length 1).isEmpty))
 | .ninS,_,[(_,.str x),(_,.str y)]=>some (.d,.bl (!(!(a0Y y x 0 y.length 1).isEmpty)))
 | .inX,_,[(_,a),(_,.tup ts)]=>if ts.all isStr&&i8 a then some (.d,.bl (ts.any fun t=>eqT t a)) else none
 | .ninX,_,[(_,a),(_,.tup ts)]=>if ts.all isStr&&i8 a then some (.d,.bl (!ts.any fun t=>eqT t a)) else none
 | .catT,_,[(_,.tup ts),(_,.tup us)]=>if fits (ts.length+us.length) then some (.s,.tup (ts++us)) else none
 | .dnew,_,[]=>some (.d,.dct [] [])
 | .lenSet,_,[(_,.tup ts)]=>(strsOf ts).bind fun ss=>if decide (ss.length < 1000) then some (.d,.int (rV ss).length) else none
 | .countS,_,[(_,.lst ts),(_,.str x)]=>(strsOf ts).bind fun ss=>some (.d,.int (ss.count x))
 | .sortedS,_,[(_,.lst ts)]=>(strsOf ts).bind fun ss=>if decide (ss.length < 64) then some (.d,.lst ((gi ss).map T.str)) else none
 | .sortedD,_,[(_,.dct ks _)]=>(kH ks).bind fun ss=>if decide (ss.length < 64) then some (.d,.lst ((gi ss).map T.str)) else none
 | .ixD,_,[(.s,.dct ks vs),(_,k)]=>(wm k).bind fun q=>(qV q ks vs).map fun t=>(.s,t)
 | .revL,_,[(.s,.lst ts)]=>some (.o .s,.lst ts.reverse)
 | .repr,_,[(_,t)]=>if decide (dp t<=64)&&rOk t&&fits (szR t) then some (.d,.str (datT t).shown) else none
 | .leS,_,[(_,.str x),(_,.str y)]=>some (.d,.bl (!decide (y.cps.toList < x.cps.toList)))
 | .isB,_,[(_,.bl a),(_,.bl b)]=>some (.d,.bl (a==b))
 | .isnB,_,[(_,.bl a),(_,.bl b)]=>some (.d,.bl (!(a==b)))
 | .lzip,_,[(m,a),(n,b)]=>(eC (m,a)).bind fun ts=>(eC (n,b)).bind fun us=>some ((m.kid.meet n.kid).up.up,.lst (wH ts us))
 | _,_,_=>none
noncomputable def rd:Env->Nat->Option W
 | [],_=>none
 | o::_,0=>o
 | _::η,i+1=>rd η i
noncomputable def wr:Env->Nat->Option W->Env
 | [],_,_=>[]
 | _::η,0,w=>w::η
 | o::η,i+1,w=>o::wr η i w
noncomputable abbrev put (η:Env)(i:Nat)(w:W):Env:=wr η i (some w)
noncomputable abbrev del (η:Env)(i:Nat):Env:=wr η i none
noncomputable def look:W->Option W
 | (.s,t)=>some (.s,t)
 | (_,t)=>if t.leaf=true then some (.d,t) else none
noncomputable def toS:Option W->Option W
 | some (_,t)=>some (.s,t)
 | none=>none
noncomputable def share:List Nat->Env->Env
 | [],η=>η
 | i::is,η=>share is (wr η i (toS (rd η i)))
noncomputable def lfO:Option W->Option W
 | some (_,t)=>if t.leaf=true then some (.d,t) else none
 | none=>none
noncomputable def dH:Env->Env
 | []=>[]
 | _::η=>none::dH η
noncomputable def ik:List Nat->Env->Env->Env
 | [],_,η=>η
 | i::is,η0,η=>ik is η0 (wr η i (toS (rd η0 i)))
noncomputable def dN:List Nat->Env->Env->Env
 | [],_,η=>η
 | i::is,η0,η=>dN is η0 (wr η i (lfO (rd η0 i)))
noncomputable def cL (vs ls:List Nat)(η:Env):Env:=dN ls η (ik vs η (dH η))
noncomputable def after (m:Md)(vs:List Nat)(η:Env):Env:=match m with
 | .d=>η
 | _=>share vs η
noncomputable def aV:List Nat->List W->Env->Option Env
 | [],[],η=>some η
 | i::is,w::ws,η=>aV is ws (put η i w)
 | _,_,_=>none
noncomputable def i2 (m:Md):Nat->List T->List (List W)
 | _,[]=>[]
 | i,t::ts=>[(.d,.int i),(m,t)]::i2 m (i+1) ts
noncomputable def xa (m n:Md):List T->List T->List (List W)
 | t::ts,u::us=>[(m,t),(n,u)]::xa m n ts us
 | _,_=>[]
noncomputable def kr:List T->Option (List (List W))
 | []=>some []
 | .tup [x,y]::ts=>(kr ts).map ([(.s,x),(.s,y)]::·)
 | _::_=>none
noncomputable def lz:List T->List T->List T->List (List W)
 | t::ts,u::us,v::vs=>[(.s,t),(.s,u),(.s,v)]::lz ts us vs
 | _,_,_=>[]
noncomputable def bw:Ik->List W->Option (List (List W))
 | .seq,[(_,.lst ts)]=>some (ts.map fun t=>[(.s,t)])
 | .seq,[(_,.tup ts)]=>some (ts.map fun t=>[(.s,t)])
 | .seq,[(_,.scr ns)]=>some (ns.map fun n=>[(.d,.int n)])
 | .rng,[(_,.int n)]=>if decide (n.natAbs < 4611686018427387904)&&fits n.toNat then some ((a0X n.toNat).map fun (k:Nat)=>[(.d,.int k)]) else none
 | .rng,[(_,.int i),(_,.int j)]=>if decide (i.natAbs < 4611686018427387904)&&decide (j.natAbs < 4611686018427387904)&&fits (j-i).toNat then some ((a0X (j-i).toNat).map fun (k:Nat)=>[(.d,.int (i+k))]) else none
 | .rng,[(_,.int i),(_,.int j),(_,.int c)]=>if decide (i.natAbs < 4611686018427387904)&&decide (j.natAbs < 4611686018427387904)&&decide (c=-1)&&fits (i-j).toNat then some ((a0X (i-j).toNat).map fun (k:Nat)=>[(.d,.int (i-k))]) else none
 | .enm,[(_,.lst ts)]=>some (i2 .s 0 ts)
 | .enmT,[(_,.tup ts)]=>some (i2 .s 0 ts)
 | .zip,[(m,a),(n,b)]=>(eC (m,a)).bind fun ts=>(eC (n,b)).bind fun us=>some (xa .s .s ts us)
 | .sq2,[(_,.lst ts)]=>kr ts
 | .zip3,[(_,.lst ts),(_,.lst us),(_,.lst vs)]=>some (lz ts us vs)
 | .chr,[(_,.str x)]=>some (x.cps.toList.map fun c=>[(.d,.str ⟨#[c]⟩)])
 | _,_=>none
noncomputable abbrev Call:=Nat->List W->Res (W×List W)
noncomputable abbrev RE:=Res (W×Env)
noncomputable def lf (m:Md)(t:T):Md:=if t.leaf=true then .d else m
noncomputable def eh:List W->Md
 | []=>.d
 | w::ws=>(lf w.1 w.2).meet (eh ws)
noncomputable def trees:List W->List T
 | []=>[]
 | w::ws=>w.2::trees ws
noncomputable def aC:List Nat->Env->Env
 | [],η=>η
 | i::is,η=>aC is (del η i)
noncomputable def ios:List E->List Nat
 | []=>[]
 | .io i::es=>i::ios es
 | _::es=>ios es
noncomputable def putAll:List Nat->List W->Env->Env
 | i::is,w::ws,η=>putAll is ws (put η i w)
 | _,_,η=>η
noncomputable def eW:W->List W->Option (W×W)
 | (.s,_),_=>none
 | (m,.lst ts),[]=>(ts.getLast?).map fun t=>((m.kid,t),(m,.lst ts.dropLast))
 | (m,.lst (t::ts)),[(_,.int 0)]=>some ((m.kid,t),(m,.lst ts))
 | _,_=>none
noncomputable def el:W->W->Option W
 | (.s,_),_=>none
 | (m,.lst ts),(n,t)=>if ts.length < LIM then some ((m.kid.meet (lf n t)).up,.lst (ts++[t])) else none
 | _,_=>none
noncomputable def tK:W->W->Option W
 | (.s,_),_=>none
 | (m,.lst ts),(n,.lst us)=>if ts.length+us.length<=LIM then some ((m.kid.meet n.kid).up,.lst (ts++us)) else none
 | _,_=>none
noncomputable def ju (k:Int ⊕ Str)(t:T):List (Int ⊕ Str)->List T->List (Int ⊕ Str)×List T
 | [],_=>([k],[t])
 | y::ys,v::vs=>if y=k then (y::ys,t::vs) else ((y::(ju k t ys vs).1),(v::(ju k t ys vs).2))
 | y::ys,[]=>(y::ys,[])
noncomputable def yi:W->W->W->Option W
 | (.s,_),_,_=>none
 | (m,.dct ks vs),(_,k),(_,t)=>(wm k).bind fun q=>if decide (ks.length < LIM)&&gq t then some (m,.dct (ju q t ks vs).1 (ju q t ks vs).2) else none
 | _,_,_=>none
noncomputable def xq:W->W->W->Option W
 | (.s,_),_,_=>none
 | (m,.dct ks vs),(_,k),(_,t)=>(wm k).bind fun q=>if decide (ks.length < LIM) then some (.o .s,.dct (ju q t ks vs).1 (ju q t ks vs).2) else none
 | _,_,_=>none
noncomputable def zE:W->W->Option W
 | (.s,_),_=>none
 | (m,.lst ts),(_,t)=>if decide (ts.length < LIM)&&leaves ts&&t.leaf then some (m,.lst (t::ts)) else none
 | _,_=>none
noncomputable def Av:W->Option W
 | (.s,_)=>none
 | (m,.lst ts)=>if decide (ts.length < LIM)&&leaves ts then some (m,.lst ts.reverse) else none
 | _=>none
noncomputable def apU (ts:List T)(q:Nat)(t:T):Option T->Option W
 | some (.lst us)=>if decide (us.length < LIM)&&t.leaf then some (.d,.lst (ts.set q (.lst (us++[t])))) else none
 | _=>none
noncomputable def zN:Option W->Option W->Option W->Option W
 | some (.d,.lst ts),some (_,.int j),some (_,t)=>(ixN ts.length j).bind fun q=>apU ts q t ts[q]?
 | _,_,_=>none
noncomputable def ym:Option W->Option W->Option W->Option W
 | some (.s,_),_,_=>none
 | some (m,.lst ts),some (_,.int j),some (_,t)=>if decide (0<=j)&&decide (j.toNat<=ts.length)&&decide (ts.length < 1000)&&leaves ts&&t.leaf then some (m,.lst (ts.take j.toNat++t::ts.drop j.toNat)) else none
 | _,_,_=>none
noncomputable def AA (ts:List T)(q:Nat)(cs:List T):Option T->Option W
 | some (.lst us)=>if decide (us.length < LIM)&&leaves cs&&decide (cs.length<=100) then some (.d,.lst (ts.set q (.lst (us++[.tup cs])))) else none
 | _=>none
noncomputable def Au (cs:List T):Option W->Option W->Option W
 | some (.d,.lst ts),some (_,.int j)=>(ixN ts.length j).bind fun q=>AA ts q cs ts[q]?
 | _,_=>none
noncomputable def zh (ts:List T)(q:Nat):Option T->Option W
 | some (.lst us)=>if us.isEmpty then none else some (.d,.lst (ts.set q (.lst us.dropLast)))
 | _=>none
noncomputable def w5:Option W->Option W->Option W
 | some (.d,.lst ts),some (_,.int j)=>(ixN ts.length j).bind fun q=>zh ts q ts[q]?
 | _,_=>none
noncomputable def isL:T->Bool
 | .lst _=>true
 | _=>false
noncomputable def AE:Option W->Option W
 | some (.d,.lst ts)=>if ts.all isL then some (.d,.lst (ts.map fun _=>.lst [])) else none
 | _=>none
noncomputable def qY:W->W->Option (W×W)
 | (.s,_),_=>none
 | (m,.lst ts),(_,.int j)=>if decide (0<=j)&&decide (j < 1000)&&leaves ts then (ts[j.toNat]?).map fun t=>((.d,t),(m,.lst (ts.eraseIdx j.toNat))) else none
 | _,_=>none
noncomputable def gA:W->W->W->Option W
 | (.s,_),_,_=>none
 | (m,.lst ts),(_,.int j),(n,t)=>(ixN ts.length j).map fun k=>((m.kid.meet (lf n t)).up,.lst (ts.set k t))
 | _,_,_=>none
noncomputable def cz:Option W->Res Unit
 | some (_,.lst _)=>.ok ()
 | _=>.no
noncomputable def uu:W->Option (List W)
 | (m,.tup ts)=>some (ts.map fun t=>(m.kid,t))
 | _=>none
noncomputable def ret {α:Type}(η:Env)(o:Option α):Res (α×Env):=match o with
 | some a=>.ok (a,η)
 | none=>.no
noncomputable def onB {α:Type}:T->(Env->Res α)->(Env->Res α)->Env->Res α
 | .bl true,f,_,η=>f η
 | .bl false,_,g,η=>g η
 | _,_,_,_=>.no
noncomputable def onT {α:Type}(f g:Env->Res α)(p:W×Env):Res α:=match truth p.1.2 with
 | some true=>f p.2
 | some false=>g p.2
 | none=>.no
noncomputable def okW {α:Type}(a:α)(η:Env):Res (α×Env):=.ok (a,η)
noncomputable def iq (p:List W×Env):RE:=.ok (((eh p.1).up,.tup (trees p.1)),p.2)
noncomputable def l8 (h:Bool)(p:List W×Env):RE:=.ok ((if h then (eh p.1).up else .o .s,.lst (trees p.1)),p.2)
noncomputable def kWk (m:Md)(p:W×Env):RE:=ret p.2 (if m.le p.1.1 then some (m,p.1.2) else none)
noncomputable def kOp (o:Op)(h:Bool)(p:List W×Env):RE:=ret p.2 (oSem o h p.1)
noncomputable def mz (f:Env->RE)(p:W×Env):RE:=onT f (okW p.1) p
noncomputable def kOr (f:Env->RE)(p:W×Env):RE:=onT (okW p.1) f p
noncomputable def ll (p:W×Env):RE:=ret p.2 ((truth p.1.2).map fun b=>(.d,.bl (!b)))
noncomputable def kC3 (q:Op)(y:W)(z:W×Env):RE:=ret z.2 (oSem q false [y,z.1])
noncomputable def iZ {α β:Type}(f:Env->Res (α×Env))(k:α×Env->Res β)(η:Env):Res β:=(f η).bind k
noncomputable def kC2 (o q:Op)(fc:Env->RE)(x:W)(y:W×Env):RE:=(ret y.2 (oSem o false [x,y.1])).bind fun k=>onB k.1.2 (iZ fc (kC3 q y.1)) (okW (.d,.bl false)) k.2
noncomputable def kC1 (o q:Op)(fb fc:Env->RE)(x:W×Env):RE:=(fb x.2).bind (kC2 o q fc x.1)
noncomputable def gj (is:List Nat)(η:Env)(r:W×List W):RE:=.ok (r.1,putAll is r.2 η)
noncomputable def dz (C:Call)(f:Nat)(is:List Nat)(p:List W×Env):RE:=(C f p.1).bind (gj is p.2)
noncomputable def f9 (p:W×Env):Res (Option W×Env):=.ok (some p.1,p.2)
noncomputable def fQ (f:Env->RE)(η:Env):Res (Option W×Env):=(f η).bind f9
noncomputable def fO (c f:Env->RE)(η:Env):Res (Option W×Env):=(c η).bind (onT (fQ f) (okW none))
noncomputable def b8 (tg:List Nat)(f:Env->Res (Option W×Env)):List (List W)->Env->List W->Res (List W×Env)
 | [],η,acc=>.ok (acc,η)
 | ws::r,η,acc=>(ofO (aV tg ws η)).bind fun η1=>(f η1).bind fun p=>b8 tg f r (aC tg p.2) (acc++p.1.toList)
noncomputable def okD (w:W):Bool:=w.1==.d || w.2.leaf
noncomputable def gT (h:Bool)(q:List W×Env):RE:=ret q.2 (if h then (if q.1.all okD then some (.d,.lst (trees q.1)) else none) else some (.o .s,.lst (trees q.1)))
noncomputable def dF (h:Bool)(k:Ik)(tg:List Nat)(f:Env->Res (Option W×Env))(p:List W×Env):RE:=(ret (aC tg p.2) (bw k p.1)).bind fun t=>(b8 tg f t.1 t.2 []).bind (gT h)
noncomputable def vwT:Option W->Option (List T)
 | some (.s,_)=>none
 | some (_,.lst ts)=>if leaves ts then some ts else none
 | _=>none
noncomputable def kV2 (i:Nat)(w:Option W)(p:W×Env):RE:=.ok (p.1,wr p.2 i w)
noncomputable def kV1 (h:Bool)(i t:Nat)(f:Env->Res (Option W×Env))(η:Env)(ts:List T):RE:=((b8 [t] f (ts.map fun u=>[(.s,u)]) (aC [t] (del η i)) []).bind (gT h)).bind (kV2 i (rd η i))
noncomputable def f7 (f:Env->Res (List W×Env))(η:Env)(k:List W×Env->RE)(_:Unit):RE:=(f η).bind k
noncomputable def kl (i:Nat)(p:List W×Env):RE:=(ofO ((rd p.2 i).bind fun w=>eW w p.1)).bind fun r=>.ok (r.1,put p.2 i r.2)
noncomputable def zg:Option W->Option W->Option W
 | some (.o .s,.lst ts),some (_,.int j)=>(atI ts j).map fun t=>(.s,t)
 | some (.s,.lst ts),some (_,.int j)=>(atI ts j).map fun t=>(.s,t)
 | _,_=>none
noncomputable def kP (f:Env->RE)(η:Env)(k:W×Env->RE)(_:Unit):RE:=(f η).bind k
noncomputable def nA (i:Nat)(p:W×Env):RE:=(ofO ((rd p.2 i).bind fun w=>qY w p.1)).bind fun r=>.ok (r.1,put p.2 i r.2)
noncomputable def iK (w:W)(q:List W×Env):Res (List W×Env):=.ok (w::q.1,q.2)
noncomputable def aM (f:Env->Res (List W×Env))(p:W×Env):Res (List W×Env):=(f p.2).bind (iK p.1)
noncomputable def lG:List Nat->Md->T->Option (W×T)
 | [],m,t=>some ((m,t),.gone)
 | j::p,m,.lst ts=>(ts[j]?).bind fun t=>(lG p m.kid t).map fun r=>(r.1,.lst (ts.set j r.2))
 | j::p,m,.tup ts=>(ts[j]?).bind fun t=>(lG p m.kid t).map fun r=>(r.1,.tup (ts.set j r.2))
 | _::_,_,_=>none
noncomputable def qW (p:List Nat)(w:W):Option (W×W):=(lG p w.1 w.2).map fun r=>(r.1,(w.1,r.2))
noncomputable def xR (i:Nat)(η:Env)(r:W×W):RE:=.ok (r.1,put η i r.2)
noncomputable def kTab {α:Type}(tab:List (Str×α))(f:α->Env->RE)(p:W×Env):RE:=match p.1.2 with
 | .str x=>match tab.lookup x with
  | some a=>f a p.2
  | none=>.no
 | _=>.no
noncomputable def kCT (C:Call)(fa:Env->Res (List W×Env))(is:List Nat)(j:Nat)(η:Env):RE:=(fa η).bind (dz C j is)
noncomputable def kIn (neg:Bool)(ks:List Str)(p:W×Env):RE:=match p.1.2 with
 | .str x=>.ok ((.d,.bl (ks.contains x != neg)),p.2)
 | _=>.no
noncomputable def okS (t:T)(η:Env):RE:=.ok ((.s,t),η)
noncomputable def pe (tab:List (Str×T))(p:W×Env):RE:=match p.1.2 with
 | .str x=>.ok ((.s,(tab.lookup x).getD .non),p.2)
 | _=>.no
noncomputable def kX (vs:List Nat)(η:Env)(p:W×Env):RE:=.ok ((lf p.1.1 p.1.2,p.1.2),after (lf p.1.1 p.1.2) vs η)
noncomputable def kIo (i:Nat)(p:List W×Env):Res (List W×Env):=(ofO (rd p.2 i)).bind fun w=>.ok (w::p.1,del p.2 i)
section
variable (C:Call)
mutual
noncomputable def evE:E->Env->RE
 | .var i,η=>ret η ((rd η i).bind look)
 | .mv i,η=>ret (del η i) (rd η i)
 | .io i,η=>ret (del η i) (rd η i)
 | .cst t,η=>.ok ((.d,t),η)
 | .glb _ t,η=>.ok ((.s,t),η)
 | .tup es,η=>(evL es η).bind iq
 | .lst h es,η=>(evL es η).bind (l8 h)
 | .wk m e,η=>(evE e η).bind (kWk m)
 | .op o h es,η=>(evL es η).bind (kOp o h)
 | .and a b,η=>(evE a η).bind (mz (evE b))
 | .or a b,η=>(evE a η).bind (kOr (evE b))
 | .not a,η=>(evE a η).bind ll
 | .ifx c a b,η=>(evE c η).bind (onT (evE a) (evE b))
 | .chain o q a b c,η=>(evE a η).bind (kC1 o q (evE b) (evE c))
 | .call f es,η=>(evA es η).bind (dz C f (ios es))
 | .comp h k src tg none elt,η=>(evL src η).bind (dF h k tg (fQ (evE elt)))
 | .comp h k src tg (some c) elt,η=>(evL src η).bind (dF h k tg (fO (evE c) (evE elt)))
 | .pop i es,η=>(cz (rd η i)).bind (f7 (evL es) η (kl i))
 | .lenV i,η=>ret η ((rd η i).bind fun w=>oSem .len false [w])
 | .ixV i j,η=>ret η (zg (rd η i) (rd η j))
 | .compV h i t c e,η=>(ofO (vwT (rd η i))).bind (kV1 h i t (fO (evE c) (evE e)) η)
 | .popN i e,η=>(cz (rd η i)).bind (kP (evE e) η (nA i))
 | .tupA es,η=>(evA es η).bind iq
 | .qx vs ls e,η=>(evE e (cL vs ls η)).bind (kX vs η)
 | .mvP i p,η=>(ofO ((rd η i).bind (qW p))).bind (xR i η)
 | .callT tab k es,η=>(evE k η).bind (kTab tab (kCT C (evA es) (ios es)))
 | .inT neg ks e,η=>(evE e η).bind (kIn neg ks)
 | .ixT tab e,η=>(evE e η).bind (kTab tab okS)
 | .getT tab e,η=>(evE e η).bind (pe tab)
noncomputable def evL:List E->Env->Res (List W×Env)
 | [],η=>.ok ([],η)
 | e::es,η=>(evE e η).bind (aM (evL es))
noncomputable def evA:List E->Env->Res (List W×Env)
 | [],η=>.ok ([],η)
 | .io i::es,η=>(evA es η).bind (kIo i)
 | e::es,η=>(evE e η).bind (aM (evA es))
end
noncomputable def kT (η:Env)(p:W×Env):Res (Bool×Env):=ret η (truth p.1.2)
noncomputable def kT2 (p:W×Env):Res (Bool×Env):=ret p.2 (truth p.1.2)
noncomputable def evX:X->E->Env->RE
 | .q vs ls,e,η=>(evE C e (cL vs ls η)).bind (kX vs η)
 | .l vs,e,η=>evE C e (share vs η)
noncomputable def evT:X->E->Env->Res (Bool×Env)
 | .q vs ls,e,η=>(evE C e (cL vs ls η)).bind (kT η)
 | .l vs,e,η=>(evE C e (share vs η)).bind kT2
noncomputable def Fl.of {α:Type}(η:Env):Res α->(α->Fl)->Fl
 | .ok a,f=>f a
 | .ex _,_=>.no
 | .no,_=>.no
noncomputable def Fl.seq:Fl->(Env->Fl)->Fl
 | .nx η,f=>f η
 | z,_=>z
noncomputable def Fl.turn:Fl->(Env->Fl)->Fl
 | .nx η,f=>f η
 | .bk η,_=>.nx η
 | z,_=>z
noncomputable def onF:Bool->(Env->Fl)->(Env->Fl)->Env->Fl
 | true,f,_,η=>f η
 | false,_,g,η=>g η
noncomputable def dA (tg:List Nat)(f:Env->Fl):List (List W)->Env->Fl
 | [],η=>.nx η
 | ws::r,η=>Fl.of η (ofO (aV tg ws η)) fun η1=>Fl.turn (f η1) (dA tg f r)
noncomputable def kIf (f g:Env->Fl)(p:Bool×Env):Fl:=onF p.1 f g p.2
noncomputable def q5 (f:Env->Fl)(g:Env->Fl)(η:Env):Fl:=Fl.turn (f η) g
noncomputable def sk (c:Env->Res (Bool×Env))(f:Env->Fl):Nat->Env->Fl
 | 0,_=>.no
 | n+1,η=>Fl.of η (c η) (kIf (q5 f (sk c f n)) .nx)
noncomputable def xh:Nat:=1000000000000
noncomputable def nxO (η:Env):Option Env->Fl
 | some η=>.nx η
 | none=>.no
noncomputable def qz (i:Nat)(p:W×Env):Fl:=.nx (put p.2 i p.1)
noncomputable def iU (is:List Nat)(p:W×Env):Fl:=nxO p.2 ((uu p.1).bind fun ws=>aV is ws p.2)
noncomputable def kD (i:Nat)(p:W×Env):Fl:=nxO p.2 (((rd p.2 i).bind fun w=>el w p.1).map fun w=>put p.2 i w)
noncomputable def sE (i:Nat)(p:W×Env):Fl:=nxO p.2 (((rd p.2 i).bind fun w=>tK w p.1).map fun w=>put p.2 i w)
noncomputable def rS (i:Nat)(x:W)(q:W×Env):Fl:=nxO q.2 (((rd q.2 i).bind fun w=>gA w q.1 x).map fun w=>put q.2 i w)
noncomputable def kI (i:Nat)(x:W)(q:W×Env):Fl:=nxO q.2 (((rd q.2 i).bind fun w=>yi w q.1 x).map fun w=>put q.2 i w)
noncomputable def lC (i:Nat)(f:Env->RE)(η:Env)(p:W×Env):Fl:=Fl.of η (f p.2) (kI i p.1)
noncomputable def r9 (i:Nat)(x:W)(q:W×Env):Fl:=nxO q.2 (((rd q.2 i).bind fun w=>xq w q.1 x).map fun w=>put q.2 i w)
noncomputable def zr (i:Nat)(f:Env->RE)(η:Env)(p:W×Env):Fl:=Fl.of η (f p.2) (r9 i p.1)
noncomputable def Aw (i:Nat)(p:W×Env):Fl:=nxO p.2 (((rd p.2 i).bind fun w=>zE w p.1).map fun w=>put p.2 i w)
noncomputable def sP (i:Nat)(f:Env->RE)(η:Env)(p:W×Env):Fl:=Fl.of η (f p.2) (rS i p.1)
noncomputable def hV (f:Env->RE)(η:Env)(k:W×Env->Fl)(_:Unit):Fl:=Fl.of η (f η) k
noncomputable def kNx (p:W×Env):Fl:=.nx p.2
noncomputable def kRt (p:W×Env):Fl:=.rt p.1 p.2
noncomputable def iV (tg:List Nat)(f:Env->Fl)(t:List (List W)×Env):Fl:=dA tg f t.1 t.2
noncomputable def oq (vs:List Nat)(k:Ik)(tg:List Nat)(f:Env->Fl)(η:Env)(p:List W×Env):Fl:=Fl.of η (ret (share vs η) (bw k p.1)) (iV tg f)
noncomputable def xD (k:Ik)(tg:List Nat)(f:Env->Fl)(p:List W×Env):Fl:=Fl.of p.2 (ret p.2 (bw k p.1)) (iV tg f)
noncomputable def outC (k:W->Env->Fl)(η:Env):Res (W×List W)->Fl
 | .ok (w,[])=>k w η
 | .ex t=>.ex t η
 | _=>.no
noncomputable def kC (f:Nat)(k:W->Env->Fl)(p:List W×Env):Fl:=outC k p.2 (C f p.1)
noncomputable def kAsgC (i:Nat)(w:W)(η:Env):Fl:=.nx (put η i w)
noncomputable def k8 (_:W)(η:Env):Fl:=.nx η
noncomputable def kRaise (c:Nat)(fld:Str)(fk:Nat)(p:W×Env):Fl:=if fldOk fk p.1.1 p.1.2=true then .ex (.ins c [fld] [p.1.2]) p.2 else .no
noncomputable def Fl.drop (i:Nat):Fl->Fl
 | .nx η=>.nx (del η i)
 | .rt w η=>.rt w (del η i)
 | _=>.no
noncomputable def Fl.caught (cs:List Nat)(i:Nat)(h:Env->Fl):Fl->Fl
 | .ex (.ins c fs vs) η=>if cs.contains c=true then Fl.drop i (h (put η i (.s,.ins c fs vs))) else .no
 | .ex _ _=>.no
 | z=>z
mutual
noncomputable def evS:S->Env->Fl
 | .asg x i e,η=>Fl.of η (evX C x e η) (qz i)
 | .asgT x is e,η=>Fl.of η (evX C x e η) (iU is)
 | .setI x i k e,η=>Fl.of η (evX C x e η) (sP i (evX C x k) η)
 | .setK x i k e,η=>Fl.of η (evX C x e η) (lC i (evX C x k) η)
 | .setS x i k e,η=>Fl.of η (evX C x e η) (zr i (evX C x k) η)
 | .insF x i e,η=>Fl.of η (cz (rd η i)) (hV (evX C x e) η (Aw i))
 | .revS i,η=>nxO η (((rd η i).bind Av).map fun w=>put η i w)
 | .apN i k l,η=>nxO η ((zN (rd η i) (rd η k) (rd η l)).map fun w=>put η i w)
 | .insN i k l,η=>nxO η ((ym (rd η i) (rd η k) (rd η l)).map fun w=>put η i w)
 | .apC i k cs,η=>nxO η ((Au cs (rd η i) (rd η k)).map fun w=>put η i w)
 | .popI i k,η=>nxO η ((w5 (rd η i) (rd η k)).map fun w=>put η i w)
 | .clrA i j,η=>nxO η ((AE (rd η i)).map fun w=>put (del η j) i w)
 | .exp x e,η=>Fl.of η (evX C x e η) kNx
 | .app x i e,η=>Fl.of η (cz (rd η i)) (hV (evX C x e) η (kD i))
 | .ext x i e,η=>Fl.of η (cz (rd η i)) (hV (evX C x e) η (sE i))
 | .ret vs e,η=>Fl.of η (evE C e (share vs η)) kRt
 | .retN,η=>.rt (.d,.non) η
 | .ite x c a b,η=>Fl.of η (evT C x c η) (kIf (evSs a) (evSs b))
 | .forS vs ls k src tg body,η=>Fl.of η (evL C src (cL vs ls η)) (oq vs k tg (evSs body) η)
 | .forU k src tg body,η=>Fl.of η (evL C src η) (xD k tg (evSs body))
 | .whl x c body,η=>sk (evT C x c) (evSs body) xh η
 | .brk,η=>.bk η
 | .pas,η=>.nx η
 | .stop,_=>.no
 | .tri body,η=>evSs body η
 | .asgC vs i f es,η=>Fl.of η (evL C es (share vs η)) (kC C f (kAsgC i))
 | .expC vs f es,η=>Fl.of η (evL C es (share vs η)) (kC C f k8)
 | .retC vs f es,η=>Fl.of η (evL C es (share vs η)) (kC C f .rt)
 | .raise c fld fk x e,η=>Fl.of η (evX C x e η) (kRaise c fld fk)
 | .tryC cs body i h,η=>Fl.caught cs i (evSs h) (evSs body η)
noncomputable def evSs:List S->Env->Fl
 | [],η=>.nx η
 | s::r,η=>Fl.seq (evS s η) (evSs r)
end
end
noncomputable def backs:List Nat->Env->Option (List W)
 | [],_=>some []
 | i::is,η=>(rd η i).bind fun w=>(backs is η).bind fun ws=>some (w::ws)
noncomputable def mV (w:W)(b:List W):Res (W×List W):=.ok (w,b)
noncomputable def Fl.out (io:List Nat):Fl->Res (W×List W)
 | .nx η=>(ofO (backs io η)).bind (mV (.d,.non))
 | .rt w η=>(ofO (backs io η)).bind (mV w)
 | .ex t _=>.ex t
 | _=>.no
noncomputable def runF (C:Call)(f:Fn)(ws:List W):Res (W×List W) :=
 if ws.length=f.ps then Fl.out f.io (evSs C f.body (ws.map some++a0f f.ns none)) else .no
noncomputable abbrev Ah:=List Fn
noncomputable def ug (n:Nat):List W->Res (W×List W)
 | [(m,t)]=>if (lf m t==.d&&(decide (dp t<=n)&&decide (dp t<=64)))=true then .ok ((.d,.non),[]) else .no
 | _=>.no
noncomputable def qZ:List Nat->List T->List T
 | [],_=>[]
 | n::ns,ts=>.lst (ts.take n)::qZ ns (ts.drop n)
noncomputable def ml:List T->Option (List Nat)
 | []=>some []
 | .int (.ofNat n)::ts=>(ml ts).map (n::·)
 | _::_=>none
noncomputable def zl:List W->Res (W×List W)
 | [(_,.lst ls),(m,.lst ts)]=>(ofO (ml ls)).bind fun ns=>.ok ((m.kid.up.up,.lst (qZ ns ts)),[])
 | _=>.no
noncomputable def callR (P:Ah)(s r:Nat):Nat->Call
 | 0=>fun _ _=>.no
 | n+1=>fun f ws=>if f=s then ug n ws else if f=r then zl ws else (ofO P[f]?).bind fun d=>runF (callR P s r n) d ws
noncomputable abbrev zf:Fn:={ ps:=0,ns:=0,io:=[],body:=[.stop] }
theorem vx (C:Call)(i:Nat)(η:Env):evE C (.var i) η=ret η ((rd η i).bind look):=rfl
theorem tw (C:Call)(i:Nat)(η:Env):evE C (.mv i) η=ret (del η i) (rd η i):=rfl
theorem sd (C:Call)(i:Nat)(η:Env):evE C (.io i) η=ret (del η i) (rd η i):=rfl
theorem u6 (C:Call)(t:T)(η:Env):evE C (.cst t) η=.ok ((.d,t),η):=rfl
theorem vW (C:Call)(es:List E)(η:Env):evE C (.tup es) η=(evL C es η).bind iq:=rfl
theorem vA (C:Call)(h:Bool)(es:List E)(η:Env):evE C (.lst h es) η=(evL C es η).bind (l8 h):=rfl
theorem vV (C:Call)(o:Op)(h:Bool)(es:List E)(η:Env):evE C (.op o h es) η=(evL C es η).bind (kOp o h):=rfl
theorem nY (C:Call)(a:E)(b:E)(η:Env):evE C (.and a b) η=(evE C a η).bind (mz (evE C b)):=rfl
theorem qv (C:Call)(a:E)(b:E)(η:Env):evE C (.or a b) η=(evE C a η).bind (kOr (evE C b)):=rfl
theorem qa (C:Call)(a:E)(η:Env):evE C (.not a) η=(evE C a η).bind ll:=rfl
theorem qO (C:Call)(c:E)(a:E)(b:E)(η:Env):evE C (.ifx c a b) η=(evE C c η).bind (onT (evE C a) (evE C b)):=rfl
theorem nN (C:Call)(o:Op)(q:Op)(a:E)(b:E)(c:E)(η:Env):evE C (.chain o q a b c) η=(evE C a η).bind (kC1 o q (evE C b) (evE C c)):=rfl
theorem qK (C:Call)(f:Nat)(es:List E)(η:Env):evE C (.call f es) η=(evA C es η).bind (dz C f (ios es)):=rfl
theorem qd (C:Call)(h:Bool)(k:Ik)(src:List E)(tg:List Nat)(elt:E)(η:Env):evE C (.comp h k src tg none elt) η=(evL C src η).bind (dF h k tg (fQ (evE C elt))):=rfl
theorem qo (C:Call)(h:Bool)(k:Ik)(src:List E)(tg:List Nat)(c:E)(elt:E)(η:Env):evE C (.comp h k src tg (some c) elt) η=(evL C src η).bind (dF h k tg (fO (evE C c) (evE C elt))):=rfl
theorem pP (C:Call)(i:Nat)(es:List E)(η:Env):evE C (.pop i es) η=(cz (rd η i)).bind (f7 (evL C es) η (kl i)):=rfl
theorem jH (C:Call)(neg:Bool)(ks:List Str)(e:E)(η:Env):evE C (.inT neg ks e) η=(evE C e η).bind (kIn neg ks):=rfl
theorem jo (C:Call)(tab:List (Str×T))(e:E)(η:Env):evE C (.ixT tab e) η=(evE C e η).bind (kTab tab okS):=rfl
theorem jG (C:Call)(neg:Bool)(ks:List Str)(e:E)(es:List E)(η:Env):evA C (.inT neg ks e::es) η=(evE C (.inT neg ks e) η).bind (aM (evA C es)):=rfl
theorem kb (C:Call)(tab:List (Str×T))(e:E)(es:List E)(η:Env):evA C (.ixT tab e::es) η=(evE C (.ixT tab e) η).bind (aM (evA C es)):=rfl
theorem t4 {α:Type}(tab:List (Str×α))(f:α->Env->RE)(m:Md)(x:Str)(η:Env):kTab tab f ((m,.str x),η)=(match tab.lookup x with | some a=>f a η | none=>.no):=rfl
theorem vJ (h:Bool)(m n:Md)(ts:List T)(i:Int):oSem .sl2 h [(m,.lst ts),(n,.int i)]=newL h m.kid (cut ts none (some i)):=rfl
theorem uF (h:Bool)(m n:Md)(ts:List T)(i:Int):oSem .sl1 h [(m,.lst ts),(n,.int i)]=newL h m.kid (cut ts (some i) none):=rfl
theorem uN (h:Bool)(m n:Md)(ts:List T)(k:Int):oSem .mul h [(m,.lst ts),(n,.int k)]=if decide (k.natAbs < 4611686018427387904)&&fits (ts.length * k.toNat) then newL h .s (a0f k.toNat ts).flatten else none:=rfl
noncomputable def lkM:Md->Md
 | .s=>.s | _=>.d
theorem Ay:lkM .s=.s:=rfl
theorem AH:lkM .d=.d:=rfl
theorem Ax (m:Md):lkM (.o m)=.d:=rfl
theorem xE (m:Md)(i:Int):look (m,.int i)=some (lkM m,.int i):=by cases m<;>rfl
theorem yF (m:Md)(b:Bool):look (m,.bl b)=some (lkM m,.bl b):=by cases m<;>rfl
theorem zp (m:Md)(x:Str):look (m,.str x)=some (lkM m,.str x):=by cases m<;>rfl
theorem xB (m:Md):look (m,.non)=some (lkM m,.non):=by cases m<;>rfl
theorem sv (m n k:Md)(ts us vs:List T):bw .zip3 [(m,.lst ts),(n,.lst us),(k,.lst vs)]=some (lz ts us vs):=rfl
theorem Ao (neg:Bool)(ks:List Str)(m:Md)(x:Str)(η:Env):kIn neg ks ((m,.str x),η)=.ok ((.d,.bl (ks.contains x != neg)),η):=rfl
theorem uk (C:Call)(η:Env):evA C [] η=.ok ([],η):=rfl
theorem rZ (C:Call)(i:Nat)(es:List E)(η:Env):evA C (.io i::es) η=(evA C es η).bind (kIo i):=rfl
theorem jI (C:Call)(i:Nat)(es:List E)(η:Env):evA C (.var i::es) η=(evE C (.var i) η).bind (aM (evA C es)):=rfl
theorem lK (C:Call)(i:Nat)(es:List E)(η:Env):evA C (.mv i::es) η=(evE C (.mv i) η).bind (aM (evA C es)):=rfl
theorem jU (C:Call)(t:T)(es:List E)(η:Env):evA C (.cst t::es) η=(evE C (.cst t) η).bind (aM (evA C es)):=rfl
theorem jR (C:Call)(l:List E)(es:List E)(η:Env):evA C (.tup l::es) η=(evE C (.tup l) η).bind (aM (evA C es)):=rfl
theorem jB (C:Call)(h:Bool)(l:List E)(es:List E)(η:Env):evA C (.lst h l::es) η=(evE C (.lst h l) η).bind (aM (evA C es)):=rfl
theorem lq (C:Call)(o:Op)(h:Bool)(l:List E)(es:List E)(η:Env):evA C (.op o h l::es) η=(evE C (.op o h l) η).bind (aM (evA C es)):=rfl
theorem jw (C:Call)(a b:E)(es:List E)(η:Env):evA C (.and a b::es) η=(evE C (.and a b) η).bind (aM (evA C es)):=rfl
theorem k7 (C:Call)(a b:E)(es:List E)(η:Env):evA C (.or a b::es) η=(evE C (.or a b) η).bind (aM (evA C es)):=rfl
theorem j5 (C:Call)(a:E)(es:List E)(η:Env):evA C (.not a::es) η=(evE C (.not a) η).bind (aM (evA C es)):=rfl
theorem jS (C:Call)(c a b:E)(es:List E)(η:Env):evA C (.ifx c a b::es) η=(evE C (.ifx c a b) η).bind (aM (evA C es)):=rfl
theorem gZ (C:Call)(f:Nat)(l:List E)(es:List E)(η:Env):evA C (.call f l::es) η=(evE C (.call f l) η).bind (aM (evA C es)):=rfl
theorem ka (C:Call)(i:Nat)(l:List E)(es:List E)(η:Env):evA C (.pop i l::es) η=(evE C (.pop i l) η).bind (aM (evA C es)):=rfl
theorem um {C:Call}{e:E}{es:List E}{η:Env}(he:∀ i,e≠.io i):evA C (e::es) η=(evE C e η).bind (aM (evA C es)):=by
 cases e with
 | io i=>exact absurd rfl (he i)
 | _=>rfl
theorem qk (C:Call)(η:Env):evL C ([]) η=.ok ([],η):=rfl
theorem pZ (C:Call)(e:E)(es:List E)(η:Env):evL C (e::es) η=(evE C e η).bind (aM (evL C es)):=rfl
theorem pI (C:Call)(x:X)(i:Nat)(e:E)(η:Env):evS C (.asg x i e) η=Fl.of η (evX C x e η) (qz i):=rfl
theorem oX (C:Call)(x:X)(is:List Nat)(e:E)(η:Env):evS C (.asgT x is e) η=Fl.of η (evX C x e η) (iU is):=rfl
theorem iE (C:Call)(x:X)(i:Nat)(k:E)(e:E)(η:Env):evS C (.setK x i k e) η=Fl.of η (evX C x e η) (lC i (evX C x k) η):=rfl
theorem nS (C:Call)(x:X)(i:Nat)(k:E)(e:E)(η:Env):evS C (.setI x i k e) η=Fl.of η (evX C x e η) (sP i (evX C x k) η):=rfl
theorem qD (C:Call)(x:X)(e:E)(η:Env):evS C (.exp x e) η=Fl.of η (evX C x e η) kNx:=rfl
theorem oQ (C:Call)(x:X)(i:Nat)(e:E)(η:Env):evS C (.app x i e) η=Fl.of η (cz (rd η i)) (hV (evX C x e) η (kD i)):=rfl
theorem oJ (C:Call)(x:X)(i:Nat)(e:E)(η:Env):evS C (.ext x i e) η=Fl.of η (cz (rd η i)) (hV (evX C x e) η (sE i)):=rfl
theorem oW (C:Call)(vs:List Nat)(e:E)(η:Env):evS C (.ret vs e) η=Fl.of η (evE C e (share vs η)) kRt:=rfl
theorem qg (C:Call)(η:Env):evS C (.retN) η=.rt (.d,.non) η:=rfl
theorem qH (C:Call)(x:X)(c:E)(a:List S)(b:List S)(η:Env):evS C (.ite x c a b) η=Fl.of η (evT C x c η) (kIf (evSs C a) (evSs C b)):=rfl
theorem nX (C:Call)(vs:List Nat)(ls:List Nat)(k:Ik)(src:List E)(tg:List Nat)(body:List S)(η:Env):evS C (.forS vs ls k src tg body) η=Fl.of η (evL C src (cL vs ls η)) (oq vs k tg (evSs C body) η):=rfl
theorem ph (C:Call)(x:X)(c:E)(body:List S)(η:Env):evS C (.whl x c body) η=sk (evT C x c) (evSs C body) xh η:=rfl
theorem n8 (C:Call)(η:Env):evS C (.brk) η=.bk η:=rfl
theorem nL (C:Call)(η:Env):evS C (.pas) η=.nx η:=rfl
theorem kF (C:Call)(η:Env):evSs C ([]) η=.nx η:=rfl
theorem lD (C:Call)(s:S)(r:List S)(η:Env):evSs C (s::r) η=Fl.seq (evS C s η) (evSs C r):=rfl
theorem pd (C:Call)(vs:List Nat)(ls:List Nat)(e:E)(η:Env):evX C (.q vs ls) e η=(evE C e (cL vs ls η)).bind (kX vs η):=rfl
theorem oB (C:Call)(vs:List Nat)(e:E)(η:Env):evX C (.l vs) e η=evE C e (share vs η):=rfl
theorem pQ (C:Call)(vs:List Nat)(ls:List Nat)(e:E)(η:Env):evT C (.q vs ls) e η=(evE C e (cL vs ls η)).bind (kT η):=rfl
theorem pj (C:Call)(vs:List Nat)(e:E)(η:Env):evT C (.l vs) e η=(evE C e (share vs η)).bind kT2:=rfl
theorem vk {α β:Type}(a:α)(f:α->Res β):(Res.ok a).bind f=f a:=rfl
theorem Ae {α:Type}(η:Env)(a:α)(f:α->Fl):Fl.of η (.ok a) f=f a:=rfl
theorem ui (η:Env)(f:Env->Fl):Fl.seq (.nx η) f=f η:=rfl
theorem vX (w:W)(η:Env)(f:Env->Fl):Fl.seq (.rt w η) f=.rt w η:=rfl
theorem vg (η:Env)(f:Env->Fl):Fl.seq (.bk η) f=.bk η:=rfl
theorem qq (η:Env)(f:Env->Fl):Fl.turn (.nx η) f=f η:=rfl
theorem pA (w:W)(η:Env)(f:Env->Fl):Fl.turn (.rt w η) f=.rt w η:=rfl
theorem oY (η:Env)(f:Env->Fl):Fl.turn (.bk η) f=.nx η:=rfl
theorem vd {α:Type}(f g:Env->Res α)(η:Env):onB (.bl true) f g η=f η:=rfl
theorem tY {α:Type}(f g:Env->Res α)(η:Env):onB (.bl false) f g η=g η:=rfl
theorem sL {α:Type}(f g:Env->Res α)(m:Md)(b:Bool)(η:Env):onT f g ((m,.bl b),η)=onB (.bl b) f g η:=by cases b<;>rfl
theorem tD {α:Type}(f g:Env->Res α)(m:Md)(η:Env):onT f g ((m,.bl true),η)=f η:=rfl
theorem tQ {α:Type}(f g:Env->Res α)(m:Md)(η:Env):onT f g ((m,.bl false),η)=g η:=rfl
theorem uT (f g:Env->Fl)(η:Env):onF true f g η=f η:=rfl
theorem tZ (f g:Env->Fl)(η:Env):onF false f g η=g η:=rfl
theorem xt {α:Type}(a:α):ofO (some a)=.ok a:=rfl
theorem w6 {α:Type}(η:Env)(a:α):ret η (some a)=.ok (a,η):=rfl
theorem zo (o:Option W)(η:Env):rd (o::η) 0=o:=rfl
theorem wW (o:Option W)(η:Env)(i:Nat):rd (o::η) (i+1)=rd η i:=rfl
theorem zi (o w:Option W)(η:Env):wr (o::η) 0 w=w::η:=rfl
theorem yZ (o w:Option W)(η:Env)(i:Nat):wr (o::η) (i+1) w=o::wr η i w:=rfl
theorem oH (t:T):look (.s,t)=some (.s,t):=rfl
theorem nV (m:Md)(i:Int):(look (.d,.int i))=some (.d,.int i):=rfl
theorem nP (m:Md)(b:Bool):(look (.d,.bl b))=some (.d,.bl b):=rfl
theorem o6 (x:Str):(look (.d,.str x))=some (.d,.str x):=rfl
theorem oE:(look (.d,.non))=some (.d,.non):=rfl
theorem wV (m:Md)(t:T):toS (some (m,t))=some (.s,t):=rfl
theorem tm:toS none=none:=rfl
theorem k9 (η:Env):share [] η=η:=rfl
theorem nG (i:Nat)(is:List Nat)(η:Env):share (i::is) η=share is (wr η i (toS (rd η i))):=rfl
theorem mF:dH []=[]:=rfl
theorem kY (o:Option W)(η:Env):dH (o::η)=none::dH η:=rfl
theorem s8 (vs ls:List Nat)(η:Env):cL vs ls η=dN ls η (ik vs η (dH η)):=rfl
theorem qG (η0 η:Env):ik [] η0 η=η:=rfl
theorem pN (i:Nat)(is:List Nat)(η0 η:Env):ik (i::is) η0 η=ik is η0 (wr η i (toS (rd η0 i))):=rfl
theorem mD (η0 η:Env):dN [] η0 η=η:=rfl
theorem mW (i:Nat)(is:List Nat)(η0 η:Env):dN (i::is) η0 η=dN is η0 (wr η i (lfO (rd η0 i))):=rfl
theorem zk (m:Md)(i:Int):lfO (some (m,.int i))=some (.d,.int i):=rfl
theorem wM (m:Md)(b:Bool):lfO (some (m,.bl b))=some (.d,.bl b):=rfl
theorem yn (m:Md)(x:Str):lfO (some (m,.str x))=some (.d,.str x):=rfl
theorem yp (m:Md):lfO (some (m,.non))=some (.d,.non):=rfl
theorem kq (vs:List Nat)(η:Env):after .d vs η=η:=rfl
theorem kB (vs:List Nat)(η:Env):after .s vs η=share vs η:=rfl
theorem lT (m:Md)(vs:List Nat)(η:Env):after (.o m) vs η=share vs η:=rfl
theorem tG (m:Md)(i:Int):lf m (.int i)=.d:=rfl
theorem uW (m:Md)(b:Bool):lf m (.bl b)=.d:=rfl
theorem sH (m:Md)(x:Str):lf m (.str x)=.d:=rfl
theorem tS (m:Md):lf m .non=.d:=rfl
theorem tO (m:Md)(ts:List T):lf m (.lst ts)=m:=rfl
theorem uO (m:Md)(ts:List T):lf m (.tup ts)=m:=rfl
theorem wy (t:T):lf .d t=.d:=by unfold lf; split<;>rfl
theorem vZ (m:Md):Md.s.le m=true:=by cases m<;>rfl
theorem pB:Md.d.le .d=true:=rfl
theorem oz (m:Md):(Md.o m).le .d=true:=rfl
theorem o8 (m n:Md):(Md.o m).le (.o n)=m.le n:=rfl
theorem sj (h:Bool)(m n:Md)(i j:Int):oSem .add h [(m,.int i),(n,.int j)]=some (.d,.int (i+j)):=rfl
theorem nD (h:Bool)(m n:Md)(ts us:List T):oSem .add h [(m,.lst ts),(n,.lst us)]=if fits (ts.length+us.length) then newL h (m.kid.meet n.kid) (ts++us) else none:=rfl
theorem nv (h:Bool)(m n:Md)(x y:Str):oSem .add h [(m,.str x),(n,.str y)]=if fits (x.cps.size+y.cps.size) then some (.d,.str (x++y)) else none:=rfl
theorem kz (h:Bool)(m n:Md)(ts us:List T):oSem .add h [(m,.tup ts),(n,.tup us)]=if fits (ts.length+us.length)&&!ts.isEmpty then some (.s,.tup (ts++us)) else none:=rfl
theorem xl (h:Bool)(m n:Md)(i j:Int):oSem .sub h [(m,.int i),(n,.int j)]=some (.d,.int (i-j)):=rfl
theorem lO (h:Bool)(m n:Md)(i j:Int):oSem .mul h [(m,.int i),(n,.int j)]=if (decide (i.natAbs < 18446744073709551616)) || (decide (j.natAbs < 18446744073709551616)) then some (.d,.int (i * j)) else none:=rfl
theorem kn (h:Bool)(m n:Md)(i j:Int):oSem .fdiv h [(m,.int i),(n,.int j)]=if decide (0 < j)&&decide (j < 1073741824) then some (.d,.int (i / j)) else none:=rfl
theorem rE (h:Bool)(m n:Md)(i j:Int):oSem .mod h [(m,.int i),(n,.int j)]=if decide (0 < j) then some (.d,.int (i % j)) else none:=rfl
theorem ya (h:Bool)(m:Md)(i:Int):oSem .neg h [(m,.int i)]=some (.d,.int (-i)):=rfl
theorem yN (h:Bool)(m n:Md)(a b:T)(ha:dp a<=64)(hb:dp b<=64):oSem .ne h [(m,a),(n,b)]=some (.d,.bl (!eqT a b)):=by
 show (if _ then _ else _)=_
 rw [decide_eq_true ha,decide_eq_true hb]; rfl
theorem u9 (h:Bool)(m n:Md)(i j:Int):oSem .eq h [(m,.int i),(n,.int j)]=some (.d,.bl (i==j)):=rfl
theorem vT (h:Bool)(m n:Md)(x y:Str):oSem .eq h [(m,.str x),(n,.str y)]=some (.d,.bl (x==y)):=rfl
theorem vH (h:Bool)(m n:Md)(a b:Bool):oSem .eq h [(m,.bl a),(n,.bl b)]=some (.d,.bl (a==b)):=rfl
theorem wo (h:Bool)(m n:Md)(i j:Int):oSem .ne h [(m,.int i),(n,.int j)]=some (.d,.bl (!(i==j))):=rfl
theorem tV (h:Bool)(m n:Md)(x y:Str):oSem .ne h [(m,.str x),(n,.str y)]=some (.d,.bl (!(x==y))):=rfl
theorem uX (h:Bool)(m n:Md)(a b:Bool):oSem .ne h [(m,.bl a),(n,.bl b)]=some (.d,.bl (!(a==b))):=rfl
theorem AJ (h:Bool)(m n:Md)(i j:Int):oSem .lt h [(m,.int i),(n,.int j)]=some (.d,.bl (decide (i < j))):=rfl
theorem zG (h:Bool)(m n:Md)(i j:Int):oSem .le h [(m,.int i),(n,.int j)]=some (.d,.bl (decide (i<=j))):=rfl
theorem Aq (h:Bool)(m n:Md)(i j:Int):oSem .gt h [(m,.int i),(n,.int j)]=some (.d,.bl (decide (j < i))):=rfl
theorem Ac (h:Bool)(m n:Md)(i j:Int):oSem .ge h [(m,.int i),(n,.int j)]=some (.d,.bl (decide (j<=i))):=rfl
theorem zt (h:Bool)(m n:Md)(a:T):oSem .is h [(m,a),(n,.non)]=if a.isG then none else some (.d,.bl a.isN):=rfl
theorem xK (h:Bool)(m n:Md)(ts:List T)(i:Int):oSem .ix h [(m,.lst ts),(n,.int i)]=(atI ts i).map fun t=>(m.kid,t):=rfl
theorem zq (h:Bool)(m n:Md)(ts:List T)(i:Int):oSem .ix h [(m,.tup ts),(n,.int i)]=(atI ts i).map fun t=>(m.kid,t):=rfl
theorem vU (h:Bool)(m:Md)(ts:List T):oSem .len h [(m,.lst ts)]=some (.d,.int ts.length):=rfl
theorem tR (h:Bool)(m:Md)(ts:List T):oSem .len h [(m,.tup ts)]=some (.d,.int ts.length):=rfl
theorem wu (h:Bool)(m:Md)(ns:List Int):oSem .len h [(m,.scr ns)]=some (.d,.int ns.length):=rfl
theorem xj (h:Bool)(m n:Md)(ns:List Int)(i:Int):oSem .ix h [(m,.scr ns),(n,.int i)]=(atI ns i).map fun n=>(.d,.int n):=rfl
theorem wR (h:Bool)(m n:Md)(ns:List Int)(i:Int):oSem .sl2 h [(m,.scr ns),(n,.int i)]=some (.d,.lst ((cut ns none (some i)).map T.int)):=rfl
theorem wt (m:Md)(ns:List Int):lf m (.scr ns)=.d:=rfl
theorem yr (m:Md)(ns:List Int):lfO (some (m,.scr ns))=some (.d,.scr ns):=rfl
theorem qr (ns:List Int):look (.d,.scr ns)=some (.d,.scr ns):=rfl
theorem ti (h:Bool)(m:Md)(x:Str):oSem .len h [(m,.str x)]=some (.d,.int x.cps.size):=rfl
theorem xA (cs:List Nat)(h:Bool)(m:Md)(c:Nat)(fs:List Str)(vs:List T):oSem (.isX cs) h [(m,.ins c fs vs)]=some (.d,.bl (cs.contains c)):=rfl
theorem vn (cs:List Nat)(h:Bool)(m:Md):oSem (.isX cs) h [(m,.non)]=some (.d,.bl false):=rfl
theorem so (fld g:Str)(c:Nat)(h:Bool)(m:Md)(ts:List T):oSem (.att fld) h [(m,.ins c [g] [.tup ts])]=if (g==fld)=true then some (.s,.tup ts) else none:=rfl
theorem vc (fld g:Str)(c:Nat)(h:Bool)(m:Md)(x:Str):oSem (.att fld) h [(m,.ins c [g] [.str x])]=if (g==fld)=true then some (.d,.str x) else none:=rfl
theorem vN (tab:List (Str×Int))(d:Option Int)(h:Bool)(m:Md)(x:Str):oSem (.getK tab d) h [(m,.str x)]=some (.d,getI (tab.lookup x) d):=rfl
theorem AB (c:Nat)(fld:Str)(fk:Nat)(h:Bool)(m:Md)(t:T):oSem (.mk c fld fk) h [(m,t)]=if fldOk fk m t=true then some (.s,.ins c [fld] [t]) else none:=rfl
theorem yP (fld g:Str)(c:Nat)(h:Bool)(m:Md)(n:Int):oSem (.att fld) h [(m,.ins c [g] [.int n])]=if (g==fld)=true then some (.d,.int n) else none:=rfl
theorem zj (c:Nat)(fs:List Str)(vs:List T):T.isG (.ins c fs vs)=false:=rfl
theorem xy (c:Nat)(fs:List Str)(vs:List T):T.isN (.ins c fs vs)=false:=rfl
theorem xP:T.isH .non=false:=rfl
theorem zM (b:Bool):T.isH (.bl b)=false:=rfl
theorem yJ (i:Int):T.isH (.int i)=false:=rfl
theorem w4 (x:Str):T.isH (.str x)=false:=rfl
theorem xY (ts:List T):T.isH (.tup ts)=false:=rfl
theorem yx (ts:List T):T.isH (.lst ts)=false:=rfl
theorem xV (ns:List Int):T.isH (.scr ns)=false:=rfl
theorem yv:T.isG .non=false:=rfl
theorem Af (b:Bool):T.isG (.bl b)=false:=rfl
theorem xN (i:Int):T.isG (.int i)=false:=rfl
theorem wZ (x:Str):T.isG (.str x)=false:=rfl
theorem xI (ts:List T):T.isG (.tup ts)=false:=rfl
theorem xm (ts:List T):T.isG (.lst ts)=false:=rfl
theorem yC (ns:List Int):T.isG (.scr ns)=false:=rfl
theorem xo:T.isN .non=true:=rfl
theorem zV (b:Bool):T.isN (.bl b)=false:=rfl
theorem xr (i:Int):T.isN (.int i)=false:=rfl
theorem yh (x:Str):T.isN (.str x)=false:=rfl
theorem yy (ts:List T):T.isN (.tup ts)=false:=rfl
theorem xX (ts:List T):T.isN (.lst ts)=false:=rfl
theorem qB (h:Bool)(m:Md)(x:Str):oSem .lower h [(m,.str x)]=if x.cps.toList.all (fun c=>decide (c < 128)) then some (.d,.str ⟨x.cps.map xu⟩) else none:=rfl
theorem yQ (h:Bool)(m n:Md)(x y:Str):oSem .inS h [(m,.str x),(n,.str y)]=some (.d,.bl (!(a0Y y x 0 y.length 1).isEmpty)):=rfl
theorem vS (h:Bool)(m n:Md)(x y:Str):oSem .ninS h [(m,.str x),(n,.str y)]=some (.d,.bl (!(!(a0Y y x 0 y.length 1).isEmpty))):=rfl
theorem yk (h:Bool)(m n:Md)(a:T)(ts:List T):oSem .inX h [(m,a),(n,.tup ts)]=if ts.all isStr&&i8 a then some (.d,.bl (ts.any fun t=>eqT t a)) else none:=rfl
theorem uz (h:Bool)(m n:Md)(a:T)(ts:List T):oSem .ninX h [(m,a),(n,.tup ts)]=if ts.all isStr&&i8 a then some (.d,.bl (!ts.any fun t=>eqT t a)) else none:=rfl
theorem wJ (h:Bool)(m n:Md)(x y:Str):oSem .leS h [(m,.str x),(n,.str y)]=some (.d,.bl (!decide (y.cps.toList < x.cps.toList))):=rfl
theorem su (h:Bool)(m n:Md)(ts us:List T):oSem .catT h [(m,.tup ts),(n,.tup us)]=if fits (ts.length+us.length) then some (.s,.tup (ts++us)) else none:=rfl
theorem nh (h:Bool)(m:Md)(ts:List T):oSem .lenSet h [(m,.tup ts)]=(strsOf ts).bind fun ss=>if decide (ss.length < 1000) then some (.d,.int (rV ss).length) else none:=rfl
theorem mn (h:Bool)(m n:Md)(ts:List T)(x:Str):oSem .countS h [(m,.lst ts),(n,.str x)]=(strsOf ts).bind fun ss=>some (.d,.int (ss.count x)):=rfl
theorem wB (h:Bool):oSem .dnew h []=some (.d,.dct [] []):=rfl
theorem jl (h:Bool)(m:Md)(ts:List T):oSem .sortedS h [(m,.lst ts)]=(strsOf ts).bind fun ss=>if decide (ss.length < 64) then some (.d,.lst ((gi ss).map T.str)) else none:=rfl
theorem j2 (h:Bool)(m:Md)(ks:List (Int ⊕ Str))(vs:List T):oSem .sortedD h [(m,.dct ks vs)]=(kH ks).bind fun ss=>if decide (ss.length < 64) then some (.d,.lst ((gi ss).map T.str)) else none:=rfl
theorem sF (m:Md)(ts:List T):bw .enmT [(m,.tup ts)]=some (i2 .s 0 ts):=rfl
theorem yY (m:Md)(x:Str):bw .chr [(m,.str x)]=some (x.cps.toList.map fun c=>[(.d,.str ⟨#[c]⟩)]):=rfl
theorem wj (h:Bool)(m n:Md)(z:Str)(ts:List T):oSem .join h [(m,.str z),(n,.lst ts)]=(strsOf ts).bind fun ss=>if sOk (Str.join z ss)&&decide ((ss.map fun s=>s.cps.size+z.cps.size).sum<=LIM) then some (.d,.str (Str.join z ss)) else none:=rfl
theorem qm (h:Bool)(m n:Md)(z y:Str):oSem .split h [(m,.str z),(n,.str y)]=if (y==Str.ofString " ")&&decide (z.cps.size+2<=LIM)&&(splS z).all sOk then some (.d,.lst ((splS z).map T.str)) else none:=rfl
theorem iG (C:Call)(vs:List Nat)(i f:Nat)(es:List E)(η:Env):evS C (.asgC vs i f es) η=Fl.of η (evL C es (share vs η)) (kC C f (kAsgC i)):=rfl
theorem ie (C:Call)(vs:List Nat)(f:Nat)(es:List E)(η:Env):evS C (.expC vs f es) η=Fl.of η (evL C es (share vs η)) (kC C f k8):=rfl
theorem iw (C:Call)(vs:List Nat)(f:Nat)(es:List E)(η:Env):evS C (.retC vs f es) η=Fl.of η (evL C es (share vs η)) (kC C f .rt):=rfl
theorem gO (C:Call)(c:Nat)(fld:Str)(fk:Nat)(x:X)(e:E)(η:Env):evS C (.raise c fld fk x e) η=Fl.of η (evX C x e η) (kRaise c fld fk):=rfl
theorem g6 (C:Call)(cs:List Nat)(body:List S)(i:Nat)(h:List S)(η:Env):evS C (.tryC cs body i h) η=Fl.caught cs i (evSs C h) (evSs C body η):=rfl
theorem As (C:Call)(f:Nat)(k:W->Env->Fl)(ws:List W)(η:Env):kC C f k (ws,η)=outC k η (C f ws):=rfl
theorem uj (k:W->Env->Fl)(η:Env)(w:W):outC k η (.ok (w,[]))=k w η:=rfl
theorem sC (k:W->Env->Fl)(η:Env)(t:T):outC k η (.ex t)=.ex t η:=rfl
theorem nQ (i:Nat)(w:W)(η:Env):kAsgC i w η=.nx (put η i w):=rfl
theorem og (w:W)(η:Env):k8 w η=.nx η:=rfl
theorem mx (c:Nat)(fld:Str)(m:Md)(n:Int)(η:Env):kRaise c fld 0 ((m,.int n),η)=if decide (n.natAbs.log2 < 1920)=true then .ex (.ins c [fld] [.int n]) η else .no:=rfl
theorem k6 (cs:List Nat)(i:Nat)(h:Env->Fl)(c:Nat)(fs:List Str)(vs:List T)(η:Env):Fl.caught cs i h (.ex (.ins c fs vs) η)=if cs.contains c=true then Fl.drop i (h (put η i (.s,.ins c fs vs))) else .no:=rfl
theorem j6 (cs:List Nat)(i:Nat)(h:Env->Fl)(η:Env):Fl.caught cs i h (.nx η)=.nx η:=rfl
theorem ki (cs:List Nat)(i:Nat)(h:Env->Fl)(w:W)(η:Env):Fl.caught cs i h (.rt w η)=.rt w η:=rfl
theorem tM (i:Nat)(η:Env):Fl.drop i (.nx η)=.nx (del η i):=rfl
theorem ot (i:Nat)(w:W)(η:Env):Fl.drop i (.rt w η)=.rt w (del η i):=rfl
theorem pR (h:Bool)(m n:Md)(i j:Int):oSem .fdivN h [(m,.int i),(n,.int j)]=if (j != 0)&&decide (j.natAbs < 18446744073709551616) then some (.d,.int (i.fdiv j)) else none:=rfl
theorem uP (h:Bool)(m n:Md)(i j:Int):oSem .modN h [(m,.int i),(n,.int j)]=if j != 0 then some (.d,.int (i.fmod j)) else none:=rfl
theorem ve (h:Bool)(m:Md)(ts:List T):oSem .tuple h [(m,.lst ts)]=some (m.kid.up,.tup ts):=rfl
theorem wD (h:Bool)(m n k:Md)(ts:List T)(i j:Int):oSem .sl3 h [(m,.lst ts),(n,.int i),(k,.int j)]=newL h m.kid (cut ts (some i) (some j)):=rfl
theorem ux (m:Md)(ts:List T):newL true m ts=if leaves ts then some (.d,.lst ts) else none:=rfl
theorem vt (m:Md)(ts:List T):newL false m ts=some (m.up,.lst ts):=rfl
theorem tJ (m:Md)(ts:List T):bw .seq [(m,.lst ts)]=some (ts.map fun t=>[(.s,t)]):=rfl
theorem vL (m:Md)(ts:List T):bw .seq [(m,.tup ts)]=some (ts.map fun t=>[(.s,t)]):=rfl
theorem tU (m n o:Md)(i j c:Int):bw .rng [(m,.int i),(n,.int j),(o,.int c)]=if decide (i.natAbs < 4611686018427387904)&&decide (j.natAbs < 4611686018427387904)&&decide (c=-1)&&fits (i-j).toNat then some ((a0X (i-j).toNat).map fun (k:Nat)=>[(.d,.int (i-k))]) else none:=rfl
theorem kW (m:Md)(n:Int):bw .rng [(m,.int n)]=if decide (n.natAbs < 4611686018427387904)&&fits n.toNat then some ((a0X n.toNat).map fun (k:Nat)=>[(.d,.int k)]) else none:=rfl
theorem lu (η:Env):aV [] [] η=some η:=rfl
theorem kx (i:Nat)(is:List Nat)(w:W)(ws:List W)(η:Env):aV (i::is) (w::ws) η=aV is ws (put η i w):=rfl
theorem wQ {α β:Type}(f:α->β)(a:α):(some a).map f=some (f a):=rfl
theorem mm (b:Bool):truth (.bl b)=some b:=rfl
theorem m6 (i:Int):truth (.int i)=some (i != 0):=rfl
theorem qi {α β:Type}(a:α)(f:α->Option β):(some a).bind f=f a:=rfl
theorem oU:Md.s.kid=.s:=rfl
theorem oC:Md.d.kid=.d:=rfl
theorem o9 (m:Md):(Md.o m).kid=m:=rfl
theorem vB:Md.s.up=.o .s:=rfl
theorem sJ:Md.d.up=.d:=rfl
theorem uH (m:Md):(Md.o m).up=.o (.o m):=rfl
theorem l3 (m:Md):Md.s.meet m=.s:=by cases m<;>rfl
theorem cD (m:Md):Md.d.meet m=m:=by cases m<;>rfl
theorem j1 (m:Md):(Md.o m).meet .s=.s:=rfl
theorem jt (m:Md):(Md.o m).meet .d=.o m:=rfl
theorem j7 (m n:Md):(Md.o m).meet (.o n)=.o (m.meet n):=rfl
theorem uS (n:Md)(ts:List T)(t:T):el (.d,.lst ts) (n,t)=if ts.length < LIM then some ((lf n t).up,.lst (ts++[t])) else none:=by show (if _ then some ((Md.d.meet _).up,_) else none)=_; rw [cD]
theorem v5 (m n:Md)(ts:List T)(t:T):el (.o m,.lst ts) (n,t)=if ts.length < LIM then some ((m.meet (lf n t)).up,.lst (ts++[t])) else none:=rfl
theorem uR (n:Md)(ts us:List T):tK (.d,.lst ts) (n,.lst us)=if ts.length+us.length<=LIM then some (n.kid.up,.lst (ts++us)) else none:=by show (if _ then some ((Md.d.meet _).up,_) else none)=_; rw [cD]
theorem t7 (m n:Md)(ts us:List T):tK (.o m,.lst ts) (n,.lst us)=if ts.length+us.length<=LIM then some ((m.meet n.kid).up,.lst (ts++us)) else none:=rfl
theorem tX (l n:Md)(ts:List T)(t:T)(j:Int):gA (.d,.lst ts) (l,.int j) (n,t)=(ixN ts.length j).map fun k=>((lf n t).up,.lst (ts.set k t)):=by show ((ixN ts.length j).map fun k=>((Md.d.meet _).up,_))=_; rw [cD]
theorem uE (m l n:Md)(ts:List T)(t:T)(j:Int):gA (.o m,.lst ts) (l,.int j) (n,t)=(ixN ts.length j).map fun k=>((m.meet (lf n t)).up,.lst (ts.set k t)):=rfl
theorem t8 (m:Md)(ts:List T):cz (some (m,.lst ts))=.ok ():=rfl
theorem uL (m:Md)(ts:List T):uu (m,.tup ts)=some (ts.map fun t=>(m.kid,t)):=rfl
theorem xS (η η':Env):nxO η (some η')=.nx η':=rfl
theorem nE (η:Env):backs [] η=some []:=rfl
theorem lW (i:Nat)(is:List Nat)(η:Env):backs (i::is) η=(rd η i).bind fun w=>(backs is η).bind fun ws=>some (w::ws):=rfl
theorem sU (io:List Nat)(η:Env):Fl.out io (.nx η)=(ofO (backs io η)).bind (mV (.d,.non)):=rfl
theorem vh (io:List Nat)(w:W)(η:Env):Fl.out io (.rt w η)=(ofO (backs io η)).bind (mV w):=rfl
theorem x_run (C:Call)(f:Fn)(ws:List W)(h:ws.length=f.ps):runF C f ws=Fl.out f.io (evSs C f.body (ws.map some++a0f f.ns none)):=if_pos h
theorem at0 {α:Type}(a:α)(l:List α):atI (a::l) 0=some a:=by simp [atI,ixN]
theorem atN {α:Type}{xs:List α}{i:Int}{n:Nat}{a:α}(hi:i=n)(h:xs[n]?=some a):atI xs i=some a:=by
 subst hi
 have:=(a0y.mp h).1
 rw [atI,ixN,if_pos (by omega),if_pos (by omega)]
 exact h
theorem at1 {α:Type}(a b:α)(l:List α):atI (a::b::l) 1=some b:=atN (n:=1) rfl rfl
theorem at2 {α:Type}(a b c:α)(l:List α):atI (a::b::c::l) 2=some c:=atN (n:=2) rfl rfl
theorem at3 {α:Type}(a b c d:α)(l:List α):atI (a::b::c::d::l) 3=some d:=atN (n:=3) rfl rfl
theorem at4 {α:Type}(a b c d e:α)(l:List α):atI (a::b::c::d::e::l) 4=some e:=atN (n:=4) rfl rfl
end M

namespace MR
open L2 L3 M
open PySem (Addr Str sizeLine)
noncomputable abbrev Fp:=Addr->Prop
noncomputable def ScrR (K:a0a)(H:Hp)(a:Addr)(ns:List Int):Prop:=(∃ o,H a=some (.frz o (.lst (ns.map V.int))))\/SqL K (fun _=>none) a (ns.map V.int)
theorem ScrR.sq {K:a0a}{H:Hp}{a:Addr}{ns:List Int}(h:ScrR K H a ns):SqL K H a (ns.map V.int):=by
 rcases h with ⟨o,h⟩ | ((h | ⟨o,h⟩) | h)
 ·exact .inl (.inr ⟨o,h⟩)
 ·cases h
 ·cases h
 ·exact .inr h
theorem ScrR.keep {K:a0a}{H H':Hp}{a:Addr}{ns:List Int}(s:∀ a o u,H a=some (.frz o u)->H' a=some (.frz o u))(h:ScrR K H a ns):ScrR K H' a ns:=h.imp (fun ⟨o,e⟩=>⟨o,s a o _ e⟩) id
noncomputable def LstR (K:a0a)(Z:Fp)(H:Hp)(G:Fp)(a:Addr)(xs:List V):Md->Prop
 | .s=>Z a/\H a=some (.lst xs)
 | _=>G a/\H a=some (.lst xs)
noncomputable def mkD (ks:List (Int ⊕ Str))(xs:List V):List (Key×V):=ks.zip xs
noncomputable def DctR (Z:Fp)(H:Hp)(G:Fp)(a:Addr)(o:HO):Md->Prop
 | .s=>Z a/\H a=some o
 | _=>G a/\H a=some o
noncomputable def dmd:Md->Md
 | .d=>.d
 | _=>.s
mutual
noncomputable def Rep (K:a0a)(Z:Fp)(H:Hp):Md->T->V->Fp->Prop
 | _,.non,v,_=>v=.non
 | _,.bl b,v,_=>v=.bl b
 | _,.int i,v,_=>v=.int i
 | _,.str x,v,_=>v=.str x/\sOk x=true
 | m,.tup ts,v,G=>∃ a xs,v=.ref a/\SqT K H a xs/\xs.length<=LIM/\RepL K Z H m.kid ts xs G
 | m,.lst ts,v,G=>∃ a xs,v=.ref a/\xs.length<=LIM/\LstR K Z H G a xs m/\RepL K Z H m.kid ts xs (fun b=>G b/\b≠a)
 | m,.dct ks vs,v,G=>∃ a xs,v=.ref a/\ks.length<=LIM/\DctR Z H G a (.dK (mkD ks xs)) m/\(ks.Nodup/\∀ k∈ks,kOk k=true)/\vs.length=ks.length/\RepL K Z H (dmd m) vs xs (fun _=>False)
 | m,.ins c fs vs,v,_=>m≠.d/\∃ a dx C xs,v=.ref a/\Z a/\Z dx/\H a=some (XO a C (some dx) false)/\H dx=some (.xd (fs.zip xs))/\fs.length=vs.length/\XNm K c C/\RepL K Z H .s vs xs (fun _=>False)
 | _,.gone,_,_=>True
 | _,.scr ns,v,_=>∃ a,v=.ref a/\ns.length<=LIM/\ScrR K H a ns
noncomputable def RepL (K:a0a)(Z:Fp)(H:Hp):Md->List T->List V->Fp->Prop
 | _,[],xs,_=>xs=[]
 | m,t::ts,xs,G=>∃ x r G1 G2,xs=x::r/\(∀ a,G1 a->G a)/\(∀ a,G2 a->G a)/\(∀ a,G1 a->¬ G2 a)/\Rep K Z H m t x G1/\RepL K Z H m ts r G2
end
section
variable {K:a0a}{Z Z':Fp}{H H':Hp}{m:Md}{t:T}{ts:List T}{v:V}{xs:List V}{G G':Fp}
theorem LstR.mono {a:Addr}(w:∀ a,G a->G' a)(h:LstR K Z H G a xs m):LstR K Z H G' a xs m:=by
 cases m with
 | s=>exact h
 | d=>exact ⟨w _ h.1,h.2⟩
 | o m=>exact ⟨w _ h.1,h.2⟩
theorem DctR.mono {a:Addr}{o:HO}(w:∀ a,G a->G' a)(h:DctR Z H G a o m):DctR Z H G' a o m:=by
 cases m with
 | s=>exact h
 | d=>exact ⟨w _ h.1,h.2⟩
 | o m=>exact ⟨w _ h.1,h.2⟩
mutual
theorem Rep.mono:∀ {m:Md} {t:T} {v:V} {G G':Fp},(∀ a,G a->G' a)->Rep K Z H m t v G->Rep K Z H m t v G'
 | _,.non,_,_,_,_,h=>h
 | _,.bl _,_,_,_,_,h=>h
 | _,.int _,_,_,_,_,h=>h
 | _,.str _,_,_,_,_,h=>h
 | m,.tup ts,v,G,G',w,⟨a,xs,e,q,l,r⟩=>⟨a,xs,e,q,l,RepL.mono w r⟩
 | m,.lst ts,v,G,G',w,⟨a,xs,e,l,q,r⟩=>⟨a,xs,e,l,q.mono w,RepL.mono (fun b hb=>⟨w b hb.1,hb.2⟩) r⟩
 | m,.dct ks vs,v,G,G',w,⟨a,xs,e,l,q,n,hl,r⟩=>⟨a,xs,e,l,q.mono w,n,hl,r⟩
 | _,.ins _ _ _,_,_,_,_,h=>h
 | _,.gone,_,_,_,_,h=>h
 | _,.scr _,_,_,_,_,h=>h
theorem RepL.mono:∀ {m:Md} {ts:List T} {xs:List V} {G G':Fp},(∀ a,G a->G' a)->RepL K Z H m ts xs G->RepL K Z H m ts xs G'
 | _,[],_,_,_,_,h=>h
 | m,t::ts,xs,G,G',w,⟨x,r,G1,G2,e,h1,h2,hd,p,q⟩=>⟨x,r,G1,G2,e,fun a ha=>w a (h1 a ha),fun a ha=>w a (h2 a ha),hd,p,q⟩
end
noncomputable def Stay (Z:Fp)(H H':Hp):Prop:=(∀ a o,Z a->H a=some o->H' a=some o)/\(∀ a xs,Rd H a (.tup xs)->Rd H' a (.tup xs))/\∀ a o u,H a=some (.frz o u)->H' a=some (.frz o u)
theorem Stay.sqt (s:Stay Z H H'){a:Addr}(h:SqT K H a xs):SqT K H' a xs:=by
 rcases h with h | h
 ·exact .inl (s.2.1 a xs h)
 ·exact .inr h
theorem LstR.keep {a:Addr}(s:Stay Z H H')(z:∀ a,Z a->Z' a)(g:∀ a o,G a->H a=some o->H' a=some o)(h:LstR K Z H G a xs m):LstR K Z' H' G a xs m:=by
 cases m with
 | s=>exact ⟨z _ h.1,s.1 _ _ h.1 h.2⟩
 | d=>exact ⟨h.1,g _ _ h.1 h.2⟩
 | o m=>exact ⟨h.1,g _ _ h.1 h.2⟩
theorem DctR.keep {a:Addr}{o:HO}(s:Stay Z H H')(z:∀ a,Z a->Z' a)(g:∀ a o,G a->H a=some o->H' a=some o)(h:DctR Z H G a o m):DctR Z' H' G a o m:=by
 cases m with
 | s=>exact ⟨z _ h.1,s.1 _ _ h.1 h.2⟩
 | d=>exact ⟨h.1,g _ _ h.1 h.2⟩
 | o m=>exact ⟨h.1,g _ _ h.1 h.2⟩
mutual
theorem Rep.keep (s:Stay Z H H')(z:∀ a,Z a->Z' a):∀ {m:Md} {t:T} {v:V} {G:Fp},(∀ a o,G a->H a=some o->H' a=some o)->Rep K Z H m t v G->Rep K Z' H' m t v G
 | _,.non,_,_,_,h=>h
 | _,.bl _,_,_,_,h=>h
 | _,.int _,_,_,_,h=>h
 | _,.str _,_,_,_,h=>h
 | m,.tup ts,v,G,g,⟨a,xs,e,q,l,r⟩=>⟨a,xs,e,s.sqt q,l,RepL.keep s z g r⟩
 | m,.lst ts,v,G,g,⟨a,xs,e,l,q,r⟩=>⟨a,xs,e,l,q.keep s z g,RepL.keep s z (fun b o hb=>g b o hb.1) r⟩
 | m,.dct ks vs,v,G,g,⟨a,xs,e,l,q,n,hl,r⟩=>⟨a,xs,e,l,q.keep s z g,n,hl,RepL.keep s z (fun _ _ hb=>hb.elim) r⟩
 | _,.ins _ _ _,_,_,_,⟨ne,a,dx,C,xs,e,z1,z2,h1,h2,l,n,r⟩=>⟨ne,a,dx,C,xs,e,z _ z1,z _ z2,s.1 _ _ z1 h1,s.1 _ _ z2 h2,l,n,RepL.keep s z (fun _ _ hb=>hb.elim) r⟩
 | _,.gone,_,_,_,h=>h
 | _,.scr _,_,_,_,⟨a,e,l,q⟩=>⟨a,e,l,q.keep s.2.2⟩
theorem RepL.keep (s:Stay Z H H')(z:∀ a,Z a->Z' a):∀ {m:Md} {ts:List T} {xs:List V} {G:Fp},(∀ a o,G a->H a=some o->H' a=some o)->RepL K Z H m ts xs G->RepL K Z' H' m ts xs G
 | _,[],_,_,_,h=>h
 | m,t::ts,xs,G,g,⟨x,r,G1,G2,e,h1,h2,hd,p,q⟩=>⟨x,r,G1,G2,e,h1,h2,hd,Rep.keep s z (fun a o ha=>g a o (h1 a ha)) p,RepL.keep s z (fun a o ha=>g a o (h2 a ha)) q⟩
end
theorem eB (Z:Fp)(H:Hp):Stay Z H H:=⟨fun _ _ _ h=>h,fun _ _ h=>h,fun _ _ _ h=>h⟩
theorem Rep.zmono (z:∀ a,Z a->Z' a)(h:Rep K Z H m t v G):Rep K Z' H m t v G:=h.keep (eB Z H) z fun _ _ _ q=>q
theorem RepL.zmono (z:∀ a,Z a->Z' a)(h:RepL K Z H m ts xs G):RepL K Z' H m ts xs G:=h.keep (eB Z H) z fun _ _ _ q=>q
theorem RepL.length:∀ {ts:List T} {xs:List V} {G:Fp},RepL K Z H m ts xs G->xs.length=ts.length
 | [],_,_,h=>by rw [show _=[] from h]; rfl
 | _::_,_,_,⟨x,r,G1,G2,e,_,_,_,_,q⟩=>by rw [e,a0g,a0g,RepL.length q]
theorem RepL.get:∀ {ts:List T} {xs:List V} {G:Fp} {i:Nat} {t:T},RepL K Z H m ts xs G->ts[i]?=some t->∃ x,xs[i]?=some x/\Rep K Z H m t x G
 | [],_,_,_,_,_,e=>by simp at e
 | _::_,_,_,0,_,⟨x,r,G1,G2,e,h1,_,_,p,_⟩,e2=>by
  rw [a2a] at e2; cases e2
  exact ⟨x,by rw [e]; rfl,p.mono h1⟩
 | _::_,_,_,i+1,_,⟨x,r,G1,G2,e,_,h2,_,_,q⟩,e2=>by
  rw [a0Q] at e2
  obtain ⟨y,hy,p⟩:=RepL.get q e2
  exact ⟨y,by rw [e,a0Q]; exact hy,p.mono h2⟩
theorem RepL.append:∀ {ts us:List T} {xs ys:List V} {G1 G2 G:Fp},(∀ a,G1 a->G a)->(∀ a,G2 a->G a)->(∀ a,G1 a->¬ G2 a)->RepL K Z H m ts xs G1->RepL K Z H m us ys G2->RepL K Z H m (ts++us) (xs++ys) G
 | [],us,xs,ys,G1,G2,G,w1,w2,d,h,k=>by rw [show xs=[] from h]; exact k.mono w2
 | t::ts,us,xs,ys,G1,G2,G,w1,w2,d,⟨x,r,A,B,e,h1,h2,hd,p,q⟩,k=>by
  rw [e]
  refine ⟨x,r++ys,A,fun a=>B a\/G2 a,rfl,fun a ha=>w1 a (h1 a ha),fun a ha=>ha.elim (fun z=>w1 a (h2 a z)) (w2 a),fun a ha hb=>hb.elim (hd a ha) (d a (h1 a ha)),p,?_⟩
  exact RepL.append (fun a z=>.inl z) (fun a z=>.inr z) (fun a ha=>d a (h2 a ha)) q k
theorem RepL.one {x:V}(p:Rep K Z H m t x G):RepL K Z H m [t] [x] G:=⟨x,[],G,fun _=>False,rfl,fun _ h=>h,fun _ h=>h.elim,fun _ _ h=>h,p,rfl⟩
theorem RepL.take:∀ {ts:List T} {xs:List V} {G:Fp} (n:Nat),RepL K Z H m ts xs G->RepL K Z H m (ts.take n) (xs.take n) G
 | [],_,_,n,h=>by rw [show _=[] from h,a3e,a3e]; rfl
 | _::_,_,_,0,h=>rfl
 | _::_,_,_,n+1,⟨x,r,A,B,e,h1,h2,hd,p,q⟩=>by rw [e]; exact ⟨x,r.take n,A,B,rfl,h1,h2,hd,p,RepL.take n q⟩
theorem RepL.drop:∀ {ts:List T} {xs:List V} {G:Fp} (n:Nat),RepL K Z H m ts xs G->RepL K Z H m (ts.drop n) (xs.drop n) G
 | [],_,_,n,h=>by rw [show _=[] from h,a3f,a3f]; rfl
 | _::_,_,_,0,h=>h
 | _::_,_,_,n+1,⟨x,r,A,B,e,h1,h2,hd,p,q⟩=>by rw [e]; exact (RepL.drop n q).mono h2
theorem Rep.leaf {m':Md}(hs:∀ a o u,H a=some (.frz o u)->H' a=some (.frz o u))(hl:t.leaf=true)(h:Rep K Z H m t v G):Rep K Z' H' m' t v G':=by
 cases t with
 | non=>exact h
 | bl _=>exact h
 | int _=>exact h
 | str _=>exact h
 | scr _=>obtain ⟨a,e,l,q⟩:=h; exact ⟨a,e,l,q.keep hs⟩
 | _=>cases hl
theorem RepL.leaves {m':Md}(hs:∀ a o u,H a=some (.frz o u)->H' a=some (.frz o u)):∀ {ts:List T} {xs:List V} {G G':Fp},leaves ts=true->RepL K Z H m ts xs G->RepL K Z' H' m' ts xs G'
 | [],_,_,_,_,h=>h
 | t::ts,_,_,G',hl,⟨x,r,A,B,e,h1,h2,hd,p,q⟩=>by
  have h':(t.leaf&&ts.all T.leaf)=true:=hl
  rw [a0h] at h'
  exact ⟨x,r,fun _=>False,fun _=>False,e,fun _ z=>z.elim,fun _ z=>z.elim,fun _ z=>z.elim,p.leaf hs h'.1,RepL.leaves hs h'.2 q⟩
noncomputable def no:Fp:=fun _=>False
mutual
theorem Rep.sh:∀ {m:Md} {t:T} {v:V} {G:Fp},Rep K Z H m t v G->Rep K (fun a=>Z a\/G a) H .s t v no
 | _,.non,_,_,h=>h
 | _,.bl _,_,_,h=>h
 | _,.int _,_,_,h=>h
 | _,.str _,_,_,h=>h
 | m,.tup ts,v,G,⟨a,xs,e,q,l,r⟩=>⟨a,xs,e,q,l,RepL.sh r⟩
 | m,.lst ts,v,G,⟨a,xs,e,l,q,r⟩=>⟨a,xs,e,l,by
   cases m with
   | s=>exact ⟨.inl q.1,q.2⟩
   | d=>exact ⟨.inr q.1,q.2⟩
   | o m=>exact ⟨.inr q.1,q.2⟩,(RepL.zmono (fun b hb=>hb.elim .inl fun z=>.inr z.1) (RepL.sh r)).mono fun _ z=>z.elim⟩
 | m,.dct ks vs,v,G,⟨a,xs,e,l,q,n,hl,r⟩=>⟨a,xs,e,l,by
   cases m with
   | s=>exact ⟨.inl q.1,q.2⟩
   | d=>exact ⟨.inr q.1,q.2⟩
   | o m=>exact ⟨.inr q.1,q.2⟩,n,hl,RepL.zmono (fun b hb=>hb.elim .inl fun z=>z.elim) (RepL.sh r)⟩
 | _,.ins _ _ _,_,_,⟨ne,a,dx,C,xs,e,z1,z2,h1,h2,l,n,r⟩=>⟨(fun z=>by cases z),a,dx,C,xs,e,.inl z1,.inl z2,h1,h2,l,n,RepL.zmono (fun b hb=>hb.elim .inl fun z=>z.elim) (RepL.sh r)⟩
 | _,.gone,_,_,h=>h
 | _,.scr _,_,_,h=>h
theorem RepL.sh:∀ {m:Md} {ts:List T} {xs:List V} {G:Fp},RepL K Z H m ts xs G->RepL K (fun a=>Z a\/G a) H .s ts xs no
 | _,[],_,_,h=>h
 | m,t::ts,xs,G,⟨x,r,G1,G2,e,h1,h2,hd,p,q⟩=>⟨x,r,no,no,e,fun _ z=>z,fun _ z=>z,fun _ z _=>z,Rep.zmono (fun b hb=>hb.imp id (h1 b)) (Rep.sh p),RepL.zmono (fun b hb=>hb.imp id (h2 b)) (RepL.sh q)⟩
end
theorem zR:∀ a:Md,a.le .d=true
 | .s=>rfl | .d=>rfl | .o _=>rfl
theorem fx:∀ a:Md,a.le a=true
 | .s=>rfl | .d=>rfl | .o a=>fx a
theorem fW:∀ {a b c:Md},a.le b=true->b.le c=true->a.le c=true
 | .s,_,.s,_,_=>rfl
 | .s,_,.d,_,_=>rfl
 | .s,_,.o _,_,_=>rfl
 | .o a,.o b,.o c,h,k=>fW (a:=a) (b:=b) (c:=c) h k
 | .o a,.o b,.d,h,k=>rfl
 | .o a,.d,.d,h,k=>rfl
 | .d,.d,.d,_,_=>rfl
 | .d,.s,_,h,_=>by cases h
 | .d,.o _,_,h,_=>by cases h
 | .o _,.s,_,h,_=>by cases h
 | .o _,.o _,.s,_,k=>by cases k
 | .o _,.d,.s,_,k=>by cases k
 | .o _,.d,.o _,_,k=>by cases k
 | .d,.d,.s,_,k=>by cases k
 | .d,.d,.o _,_,k=>by cases k
theorem cy:∀ a b:Md,(a.meet b).le a=true/\(a.meet b).le b=true
 | .s,.s=>⟨rfl,rfl⟩
 | .s,.d=>⟨rfl,rfl⟩
 | .s,.o _=>⟨rfl,rfl⟩
 | .d,.s=>⟨rfl,rfl⟩
 | .d,.d=>⟨rfl,rfl⟩
 | .d,.o b=>⟨rfl,fx b⟩
 | .o _,.s=>⟨rfl,rfl⟩
 | .o a,.d=>⟨fx a,rfl⟩
 | .o a,.o b=>cy a b
theorem lB:∀ {a b:Md},a.le b=true->a.kid.le b.kid=true
 | .s,.s,_=>rfl
 | .s,.d,_=>rfl
 | .s,.o _,_=>by first | rfl | exact (by cases ‹Md›<;>rfl)
 | .o a,.o b,h=>h
 | .o a,.d,_=>zR a
 | .d,.d,_=>rfl
 | .d,.s,h=>by cases h
 | .d,.o _,h=>by cases h
 | .o _,.s,h=>by cases h
theorem dw:∀ a:Md,a.up.kid=a
 | .s=>rfl | .d=>rfl | .o _=>rfl
theorem cT (a:Md):a.up≠.s:=by cases a<;>intro h<;>cases h
theorem LstR.own {a:Addr}(hm:m≠.s):LstR K Z H G a xs m ↔ G a/\H a=some (.lst xs):=by
 cases m with
 | s=>exact absurd rfl hm
 | d=>exact Iff.rfl
 | o m=>exact Iff.rfl
noncomputable abbrev bD (Z G G':Fp):Fp:=fun a=>Z a\/(G a/\¬ G' a)
mutual
theorem Rep.weak:∀ {m m':Md} {t:T} {v:V} {G:Fp},m'.le m=true->Rep K Z H m t v G->∃ G',(∀ a,G' a->G a)/\Rep K (bD Z G G') H m' t v G'
 | m,m',.non,_,G,_,h=>⟨G,fun _ z=>z,h⟩
 | m,m',.bl _,_,G,_,h=>⟨G,fun _ z=>z,h⟩
 | m,m',.int _,_,G,_,h=>⟨G,fun _ z=>z,h⟩
 | m,m',.str _,_,G,_,h=>⟨G,fun _ z=>z,h⟩
 | m,m',.scr _,_,G,_,h=>⟨G,fun _ z=>z,h⟩
 | m,m',.tup ts,v,G,hm,⟨a,xs,e,q,l,r⟩=>by
  obtain ⟨G',h1,h2⟩:=RepL.weak (lB hm) r
  exact ⟨G',h1,a,xs,e,q,l,h2⟩
 | m,m',.lst ts,v,G,hm,h=>by
  cases m' with
  | s=>exact ⟨no,fun _ z=>z.elim,(Rep.sh h).zmono fun a ha=>ha.imp id fun z=>⟨z,fun q=>q⟩⟩
  | d =>
   cases m with
   | s=>cases hm
   | o _=>cases hm
   | d=>exact ⟨G,fun _ z=>z,h.zmono fun _ z=>.inl z⟩
  | o k =>
   have hne:m≠.s:=by rintro rfl; cases hm
   obtain ⟨a,xs,e,l,q,r⟩:=h
   rw [LstR.own hne] at q
   obtain ⟨G',h1,h2⟩:=RepL.weak (lB hm) r
   refine ⟨fun b=>G' b\/b=a,fun b hb=>hb.elim (fun z=>(h1 b z).1) (fun z=>z ▸ q.1),a,xs,e,l,⟨.inr rfl,q.2⟩,?_⟩
   refine (h2.zmono fun b hb=>?_).mono fun b hb=>⟨.inl hb,(h1 b hb).2⟩
   rcases hb with z | ⟨⟨z1,z2⟩,z3⟩
   ·exact .inl z
   ·exact .inr ⟨z1,fun q=>q.elim z3 z2⟩
 | m,m',.dct ks vs,v,G,hm,h=>by
  cases m' with
  | s=>exact ⟨no,fun _ z=>z.elim,(Rep.sh h).zmono fun a ha=>ha.imp id fun z=>⟨z,fun q=>q⟩⟩
  | d =>
   cases m with
   | s=>cases hm
   | o _=>cases hm
   | d=>exact ⟨G,fun _ z=>z,h.zmono fun _ z=>.inl z⟩
  | o k =>
   obtain ⟨a,xs,e,l,q,n,hl,r⟩:=h
   cases m with
   | s=>cases hm
   | d=>exact ⟨G,fun _ z=>z,a,xs,e,l,q,n,hl,RepL.zmono (fun b hb=>hb.elim .inl fun z=>z.elim) (RepL.sh r)⟩
   | o k'=>exact ⟨G,fun _ z=>z,a,xs,e,l,q,n,hl,RepL.zmono (fun b hb=>.inl hb) r⟩
 | m,m',.ins _ _ _,v,G,hm,⟨ne,a,dx,C,xs,e,z1,z2,h1,h2,l,n,r⟩=>⟨G,fun _ z=>z,(fun z=>ne (by subst z; cases m<;>first | rfl | cases hm)),a,dx,C,xs,e,.inl z1,.inl z2,h1,h2,l,n,RepL.zmono (fun b hb=>.inl hb) r⟩
 | m,m',.gone,_,G,_,h=>⟨G,fun _ z=>z,h⟩
theorem RepL.weak:∀ {m m':Md} {ts:List T} {xs:List V} {G:Fp},m'.le m=true->RepL K Z H m ts xs G->∃ G',(∀ a,G' a->G a)/\RepL K (bD Z G G') H m' ts xs G'
 | m,m',[],_,G,_,h=>⟨G,fun _ z=>z,h⟩
 | m,m',t::ts,xs,G,hm,⟨x,r,G1,G2,e,h1,h2,hd,p,q⟩=>by
  obtain ⟨A,a1,a2⟩:=Rep.weak hm p
  obtain ⟨B,b1,b2⟩:=RepL.weak hm q
  refine ⟨fun b=>A b\/B b,fun b hb=>hb.elim (fun z=>h1 b (a1 b z)) (fun z=>h2 b (b1 b z)),x,r,A,B,e,fun _ z=>.inl z,fun _ z=>.inr z,fun b za zb=>hd b (a1 b za) (b1 b zb),?_,?_⟩
  ·refine a2.zmono fun b hb=>hb.imp id fun z=>⟨h1 b z.1,fun q=>q.elim z.2 fun w=>hd b z.1 (b1 b w)⟩
  ·refine b2.zmono fun b hb=>hb.imp id fun z=>⟨h2 b z.1,fun q=>q.elim (fun w=>hd b (a1 b w) z.1) z.2⟩
end
noncomputable def RepW (K:a0a)(Z:Fp)(H:Hp):List W->List V->Fp->Prop
 | [],xs,_=>xs=[]
 | w::ws,xs,G=>∃ x r G1 G2,xs=x::r/\(∀ a,G1 a->G a)/\(∀ a,G2 a->G a)/\(∀ a,G1 a->¬ G2 a)/\Rep K Z H w.1 w.2 x G1/\RepW K Z H ws r G2
theorem RepW.length:∀ {ws:List W} {xs:List V} {G:Fp},RepW K Z H ws xs G->xs.length=ws.length
 | [],_,_,h=>by rw [show _=[] from h]; rfl
 | _::_,_,_,⟨x,r,G1,G2,e,_,_,_,_,q⟩=>by rw [e,a0g,a0g,RepW.length q]
theorem RepW.one {w:W}{x:V}(p:Rep K Z H w.1 w.2 x G):RepW K Z H [w] [x] G:=⟨x,[],G,no,rfl,fun _ h=>h,fun _ h=>h.elim,fun _ _ h=>h,p,rfl⟩
theorem dZ:∀ {ws:List W} {w:W},w∈ws->(eh ws).le (lf w.1 w.2)=true
 | u::ws,w,h=>by
  rcases a0W.mp h with z | z
  ·subst z; exact (cy _ _).1
  ·exact fW (cy _ _).2 (dZ z)
theorem Rep.lf (h:Rep K Z H m t v G):Rep K Z H (M.lf m t) t v G:=by
 unfold M.lf
 split
 ·rename_i hl; exact h.leaf (fun _ _ _ q=>q) hl
 ·exact h
theorem RepW.to {N:Md}:∀ {ws:List W} {xs:List V} {G:Fp},(∀ w∈ws,N.le (M.lf w.1 w.2)=true)->RepW K Z H ws xs G->∃ G',(∀ a,G' a->G a)/\RepL K (bD Z G G') H N (trees ws) xs G'
 | [],_,G,_,h=>⟨G,fun _ z=>z,h⟩
 | w::ws,xs,G,hm,⟨x,r,G1,G2,e,h1,h2,hd,p,q⟩=>by
  obtain ⟨A,a1,a2⟩:=Rep.weak (hm w a0c) p.lf
  obtain ⟨B,b1,b2⟩:=RepW.to (fun u hu=>hm u (a0e _ hu)) q
  refine ⟨fun b=>A b\/B b,fun b hb=>hb.elim (fun z=>h1 b (a1 b z)) (fun z=>h2 b (b1 b z)),x,r,A,B,e,fun _ z=>.inl z,fun _ z=>.inr z,fun b za zb=>hd b (a1 b za) (b1 b zb),?_,?_⟩
  ·refine a2.zmono fun b hb=>hb.imp id fun z=>⟨h1 b z.1,fun q=>q.elim z.2 fun w=>hd b z.1 (b1 b w)⟩
  ·refine b2.zmono fun b hb=>hb.imp id fun z=>⟨h2 b z.1,fun q=>q.elim (fun w=>hd b (a1 b w) z.1) z.2⟩
end
noncomputable def OO:=List V ⊕ List (Key×V)
noncomputable def OO.ho:OO->HO
 | .inl xs=>.lst xs
 | .inr kvs=>.dK kvs
noncomputable def Own (Z:Fp)(H:Hp)(F:Fp):Prop:=∀ a,F a->¬ Z a/\∃ xs:OO,H a=some xs.ho
theorem nq {xs:List V}{ys:OO}(e:some (HO.tup xs)=some ys.ho):False:=by cases ys<;>cases e
theorem ir {o:PySem.Obj}{u:HO}{ys:OO}(e:some (HO.frz o u)=some ys.ho):False:=by cases ys<;>cases e
structure Step (Z:Fp)(H:Hp)(F:Fp)(Z':Fp)(H':Hp)(F':Fp):Prop where
 keep:∀ a o,H a=some o->¬ F a->H' a=some o
 zm:∀ a,Z a->Z' a
 zn:∀ a,Z' a->Z a\/F a\/H a=none
 fn:∀ a,F' a->F a\/H a=none
 al:∀ a,H a≠none->H' a≠none
 za:(∀ a,Z a->H a≠none)->∀ a,Z' a->H' a≠none
section
variable {K:a0a}{Z Z1 Z2 Z':Fp}{H H1 H2 H':Hp}{F F1 F2 F' R G:Fp}
theorem Step.refl (Z:Fp)(H:Hp)(F:Fp):Step Z H F Z H F:=⟨fun _ _ h _=>h,fun _ h=>h,fun _ h=>.inl h,fun _ h=>.inl h,fun _ h=>h,fun z=>z⟩
theorem Step.trans (s:Step Z H F Z1 H1 F1)(t:Step Z1 H1 F1 Z2 H2 F2):Step Z H F Z2 H2 F2 where
 keep:=fun a o h n=>t.keep a o (s.keep a o h n) fun q=>(s.fn a q).elim n fun z=>by rw [h] at z; cases z
 zm:=fun a h=>t.zm a (s.zm a h)
 zn:=fun a h=>by
  rcases t.zn a h with q | q | q
  ·exact s.zn a q
  ·exact .inr (s.fn a q)
  ·exact .inr (.inr (by
    cases e:H a with
    | none=>rfl
    | some o=>exact absurd q (s.al a (by rw [e]; simp))))
 fn:=fun a h=>by
  rcases t.fn a h with q | q
  ·exact s.fn a q
  ·exact .inr (by
    cases e:H a with
    | none=>rfl
    | some o=>exact absurd q (s.al a (by rw [e]; simp)))
 al:=fun a h=>t.al a (s.al a h)
 za:=fun z=>t.za (s.za z)
theorem Step.frame (R:Fp)(s:Step Z H F Z' H' F'):Step Z H (fun a=>F a\/R a) Z' H' (fun a=>F' a\/R a) where
 keep:=fun a o h n=>s.keep a o h fun q=>n (.inl q)
 zm:=s.zm
 zn:=fun a h=>(s.zn a h).imp id fun q=>q.imp .inl id
 fn:=fun a h=>h.elim (fun q=>(s.fn a q).imp .inl id) fun q=>.inl (.inr q)
 al:=s.al
 za:=s.za
theorem Step.mono (s:Step Z H F Z' H' F')(h1:∀ a,F a->F1 a)(h2:∀ a,F2 a->F' a):Step Z H F1 Z' H' F2 where
 keep:=fun a o h n=>s.keep a o h fun q=>n (h1 a q)
 zm:=s.zm
 zn:=fun a h=>(s.zn a h).imp id fun q=>q.imp (h1 a) id
 fn:=fun a h=>(s.fn a (h2 a h)).imp (h1 a) id
 al:=s.al
 za:=s.za
theorem Own.stay (o:Own Z H F)(s:Step Z H F Z' H' F'):Stay Z H H':=by
 refine ⟨fun a u hz h=>s.keep a u h fun q=>(o a q).1 hz,fun a xs h=>?_,fun a u v h=>s.keep a _ h fun q=>?_⟩
 ·rcases h with h | ⟨u,h⟩
  ·refine .inl (s.keep a _ h fun q=>?_)
   obtain ⟨_,ys,e⟩:=o a q
   rw [h] at e; exact nq e
  ·refine .inr ⟨u,s.keep a _ h fun q=>?_⟩
   obtain ⟨_,ys,e⟩:=o a q
   rw [h] at e; exact ir e
 ·obtain ⟨_,ys,e⟩:=o a q
  rw [h] at e; exact ir e
theorem Rep.frame {m:Md}{t:T}{v:V}(o:Own Z H F)(s:Step Z H F Z' H' F')(d:∀ a,G a->¬ F a)(h:Rep K Z H m t v G):Rep K Z' H' m t v G:=h.keep (o.stay s) s.zm fun a u ha e=>s.keep a u e (d a ha)
theorem Own.frame (o:Own Z H G)(s:Step Z H F Z' H' F')(d:∀ a,G a->¬ F a):Own Z' H' G/\∀ a,G a->¬ F' a:=by
 refine ⟨fun a ha=>?_,fun a ha q=>?_⟩
 ·obtain ⟨nz,xs,e⟩:=o a ha
  refine ⟨fun q=>?_,xs,s.keep a _ e (d a ha)⟩
  rcases s.zn a q with z | z | z
  ·exact nz z
  ·exact d a ha z
  ·rw [e] at z; cases z
 ·obtain ⟨nz,xs,e⟩:=o a ha
  rcases s.fn a q with z | z
  ·exact d a ha z
  ·rw [e] at z; cases z
end
noncomputable abbrev Fps:=Nat->Fp
noncomputable def tot (Fs:Fps):Fp:=fun a=>∃ i,Fs i a
structure Gd (Z:Fp)(H:Hp)(Fs:Fps):Prop where
 own:Own Z H (tot Fs)
 dis:∀ i j a,Fs i a->Fs j a->i=j
 zal:∀ a,Z a->H a≠none
structure Cf where
 sl:Nat->Option Nat
 pv:Nat->Option V
noncomputable def Az (K:a0a)(sl:Cf)(Z:Fp)(H:Hp)(η:Env)(σ:L2.St)(Fs:Fps):Prop :=
 ∀ i m t,rd η i=some (m,t)->∃ v,Rep K Z H m t v (Fs i)/\(∀ j,sl.sl i=some j->σ[j]?=some (some v))/\∀ u,sl.pv i=some u->v=u
structure At (K:a0a)(sl:Cf)(σ:L2.St)(Z:Fp)(H:Hp)(Fs:Fps)(η:Env)(G:Fp):Prop where
 gd:Gd Z H Fs
 env:Az K sl Z H η σ Fs
 own:Own Z H G
 dis:∀ a,G a->¬ tot Fs a
 lk:∀ i u j,sl.pv i=some u->sl.sl i=some j->σ[j]?=some (some u)
 ln:∀ i j,sl.sl i=some j->j < σ.length
section
variable {K:a0a}{sl:Cf}{σ:L2.St}{Z Z':Fp}{H H':Hp}{Fs Fs':Fps}{η η':Env}{G G' R:Fp}
theorem At.frame (a:At K sl σ Z H Fs η R)(b:At K sl σ Z' H' Fs' η' G)(s:Step Z H (tot Fs) Z' H' (fun c=>tot Fs' c\/G c)) :
  At K sl σ Z' H' Fs' η' (fun c=>R c\/G c)/\Step Z H (fun c=>tot Fs c\/R c) Z' H' (fun c=>tot Fs' c\/(R c\/G c))/\∀ c,R c->¬ G c:=by
 have o:=a.own.frame s a.dis
 refine ⟨⟨b.gd,b.env,fun c hc=>hc.elim (o.1 c) (b.own c),fun c hc=>hc.elim (fun z q=>o.2 c z (.inl q)) (b.dis c),b.lk,b.ln⟩,(s.frame R).mono (fun _ z=>z) fun c hc=>?_,fun c z q=>o.2 c z (.inr q)⟩
 rcases hc with z | z | z
 ·exact .inl (.inl z)
 ·exact .inr z
 ·exact .inl (.inr z)
end
end MR
namespace MR
open L2 L3 M
open PySem (Addr Str sizeLine)
section
variable {K:a0a}{sl:Cf}{sf:Nat->Option Nat}{C:Call}{σ:L2.St}{Z Z' Z1:Fp}{H H' H1:Hp}{Fs Fs' Fs1:Fps}{η η' η1:Env}{G G' R F:Fp}
theorem At.mono (a:At K sl σ Z H Fs η G)(h:∀ c,G' c->G c):At K sl σ Z H Fs η G':=⟨a.gd,a.env,fun c hc=>a.own c (h c hc),fun c hc=>a.dis c (h c hc),a.lk,a.ln⟩
theorem At.bare (a:At K sl σ Z H Fs η G):At K sl σ Z H Fs η no:=a.mono fun _ z=>z.elim
noncomputable def wE (K:a0a)(sl:Nat->Option Nat)(C:Call)(e:E):TE:=fun σ H Q=>∃ pv Z Fs η w η',At K ⟨sl,pv⟩ σ Z H Fs η no/\evE C e η=.ok (w,η') /\
 ∀ v Z' H' Fs' G,At K ⟨sl,pv⟩ σ Z' H' Fs' η' G->Rep K Z' H' w.1 w.2 v G->Step Z H (tot Fs) Z' H' (fun a=>tot Fs' a\/G a)->Q v H'
noncomputable def wL (K:a0a)(sl:Nat->Option Nat)(C:Call)(es:List E):TA:=fun σ H Q=>∃ pv Z Fs η ws η',At K ⟨sl,pv⟩ σ Z H Fs η no/\evL C es η=.ok (ws,η') /\
 ∀ vs Z' H' Fs' G,At K ⟨sl,pv⟩ σ Z' H' Fs' η' G->RepW K Z' H' ws vs G->Step Z H (tot Fs) Z' H' (fun a=>tot Fs' a\/G a)->Q vs H'
theorem gc {e:E}{w:W}{Q:VK}(A:At K sl σ Z H Fs η R)(ev:evE C e η=.ok (w,η'))
  (k:∀ v Z' H' Fs' G,At K sl σ Z' H' Fs' η' (fun c=>R c\/G c)->Rep K Z' H' w.1 w.2 v G->(∀ c,R c->¬ G c)->Step Z H (tot Fs) Z' H' (fun a=>tot Fs' a\/G a) ->
   Step Z H (fun c=>tot Fs c\/R c) Z' H' (fun c=>tot Fs' c\/(R c\/G c))->Q v H'):wE K sl.sl C e σ H Q :=
 ⟨sl.pv,Z,Fs,η,w,η',A.bare,ev,fun v Z' H' Fs' G B r s=>by
  obtain ⟨h1,h2,h3⟩:=A.frame B s
  exact k v Z' H' Fs' G h1 r h3 s h2⟩
theorem xT {es:List E}{ws:List W}{Q:List V->Hp->Prop}(A:At K sl σ Z H Fs η R)(ev:evL C es η=.ok (ws,η'))
  (k:∀ vs Z' H' Fs' G,At K sl σ Z' H' Fs' η' (fun c=>R c\/G c)->RepW K Z' H' ws vs G->(∀ c,R c->¬ G c)->Step Z H (tot Fs) Z' H' (fun a=>tot Fs' a\/G a) ->
   Step Z H (fun c=>tot Fs c\/R c) Z' H' (fun c=>tot Fs' c\/(R c\/G c))->Q vs H'):wL K sl.sl C es σ H Q :=
 ⟨sl.pv,Z,Fs,η,ws,η',A.bare,ev,fun v Z' H' Fs' G B r s=>by
  obtain ⟨h1,h2,h3⟩:=A.frame B s
  exact k v Z' H' Fs' G h1 r h3 s h2⟩
theorem aa {α β:Type}{r:Res α}{f:α->Res β}{b:β}(h:r.bind f=.ok b):∃ a,r=.ok a/\f a=.ok b:=by
 cases r with
 | ok a=>exact ⟨a,rfl,h⟩
 | ex t=>cases h
 | no=>cases h
theorem ak {α:Type}{η:Env}{o:Option α}{b:α×Env}(h:ret η o=.ok b):∃ a,o=some a/\b=(a,η):=by
 cases o with
 | none=>cases h
 | some a=>exact ⟨a,rfl,by cases h; rfl⟩
theorem bK {α:Type}{o:Option α}{b:α}(h:ofO o=.ok b):o=some b:=by
 cases o with
 | none=>cases h
 | some a=>cases h; rfl
theorem aj {e:E}{es:List E}{ws:List W}(h:evL C (e::es) η=.ok (ws,η')):∃ w η1 us,evE C e η=.ok (w,η1)/\evL C es η1=.ok (us,η')/\ws=w::us:=by
 obtain ⟨⟨w,η1⟩,h1,h2⟩:=aa (show (evE C e η).bind (aM (evL C es))=_ from h)
 obtain ⟨⟨us,η2⟩,h3,h4⟩:=aa (show (evL C es η1).bind (iK w)=_ from h2)
 cases h4
 exact ⟨w,η1,us,h1,h3,rfl⟩
theorem dR {e:E}{es:List E}{ws:List W}(he:∀ i,e≠.io i)(h:evA C (e::es) η=.ok (ws,η')):∃ w η1 us,evE C e η=.ok (w,η1)/\evA C es η1=.ok (us,η')/\ws=w::us:=by
 rw [um he] at h
 obtain ⟨⟨w,η1⟩,h1,h2⟩:=aa h
 obtain ⟨⟨us,η2⟩,h3,h4⟩:=aa (show (evA C es η1).bind (iK w)=_ from h2)
 cases h4
 exact ⟨w,η1,us,h1,h3,rfl⟩
theorem i6 {i:Nat}{es:List E}{ws:List W}(h:evA C (.io i::es) η=.ok (ws,η')):∃ us η1 w,evA C es η=.ok (us,η1)/\rd η1 i=some w/\ws=w::us/\η'=del η1 i:=by
 obtain ⟨⟨us,η1⟩,h1,h2⟩:=aa (show (evA C es η).bind (kIo i)=_ from h)
 obtain ⟨w,h3,h4⟩:=aa (show (ofO (rd η1 i)).bind (fun w=>.ok (w::us,del η1 i))=_ from h2)
 cases h4
 exact ⟨us,η1,w,h1,bK h3,rfl,rfl⟩
theorem yt (e:E):(∃ i,e=.io i)\/∀ i,e≠.io i:=by
 cases e with
 | io i=>exact .inl ⟨i,rfl⟩
 | _=>exact .inr fun _ z=>by cases z
theorem p6 {e:E}{es:List E}(σ:L2.St)(H:Hp)(Q:List V->Hp->Prop)(h:wL K sf C (e::es) σ H Q):mi (wE K sf C e) (wL K sf C es) σ H Q:=by
 obtain ⟨pv,Z,Fs,η,ws,η',A,ev,k⟩:=h
 obtain ⟨w,η1,us,h1,h2,rfl⟩:=aj ev
 refine gc A h1 fun x Z1 H1 Fs1 G1 A1 r1 _ s1 _=>?_
 have A1':=A1.mono (G':=G1) fun _ z=>.inr z
 refine xT A1' h2 fun xs Z2 H2 Fs2 G2 A2 r2 d2 s2 t2=>?_
 refine k (x::xs) Z2 H2 Fs2 _ A2 ⟨x,xs,G1,G2,rfl,fun _ z=>.inl z,fun _ z=>.inr z,d2,r1.frame A1.gd.own s2 A1'.dis,r2⟩ ?_
 exact s1.trans t2
theorem r8 (σ:L2.St)(H:Hp)(Q:List V->Hp->Prop)(h:wL K sf C [] σ H Q):sD σ H Q:=by
 obtain ⟨pv,Z,Fs,η,ws,η',A,ev,k⟩:=h
 cases ev
 exact k [] Z H Fs no A rfl ((Step.refl _ _ _).mono (fun _ z=>z) fun a ha=>ha.elim id fun z=>z.elim)
noncomputable def Out (K:a0a)(Z:Fp)(H:Hp)(G:Fp)(w:W)(Q:VK):Prop:=∀ v Z' H' G',Rep K Z' H' w.1 w.2 v G'->Own Z' H' G'->Step Z H G Z' H' G'->Q v H'
theorem At.op (A:At K sl σ Z H Fs η G)(o:Own Z' H' G')(s:Step Z H G Z' H' G'):At K sl σ Z' H' Fs η G'/\Step Z H (fun c=>tot Fs c\/G c) Z' H' (fun c=>tot Fs c\/G' c):=by
 have d:∀ a,tot Fs a->¬ G a:=fun a h q=>A.dis a q h
 have f:=A.gd.own.frame s d
 refine ⟨⟨⟨f.1,A.gd.dis,s.za A.gd.zal⟩,fun i m t e=>?_,o,fun a ha q=>f.2 a q ha,A.lk,A.ln⟩,?_⟩
 ·obtain ⟨v,r,hv⟩:=A.env i m t e
  exact ⟨v,r.frame A.own s fun a ha=>d a ⟨i,ha⟩,hv⟩
 ·refine (s.frame (tot Fs)).mono (fun _ z=>z.symm) fun _ z=>z.symm
theorem aY {w:W}{Q:VK}(A:At K sl σ Z1 H1 Fs1 η1 G)(s:Step Z H F Z1 H1 (fun a=>tot Fs1 a\/G a))
  (k:∀ v Z' H' Fs' G,At K sl σ Z' H' Fs' η1 G->Rep K Z' H' w.1 w.2 v G->Step Z H F Z' H' (fun a=>tot Fs' a\/G a)->Q v H'):Out K Z1 H1 G w Q:=fun v Z' H' G' r o t=>by
 obtain ⟨B,u⟩:=A.op o t
 exact k v Z' H' Fs1 G' B r (s.trans u)
noncomputable def Loc (K:a0a)(n:Nat)(o:Op)(h:Bool)(r:List V->Hp->VK->Prop):Prop:=∀ (ws:List W) (w:W) (xs:List V) (Z:Fp) (H:Hp) (G:Fp) (Q:VK),ws.length=n->oSem o h ws=some w->RepW K Z H ws xs G->Own Z H G->(∀ a,Z a->H a≠none)->Out K Z H G w Q->r xs H Q
theorem bj {o:Op}{h:Bool}{es:List E}{w:W}(e:evE C (.op o h es) η=.ok (w,η')):∃ ws,evL C es η=.ok (ws,η')/\oSem o h ws=some w:=by
 obtain ⟨⟨ws,η1⟩,h1,h2⟩:=aa (show (evL C es η).bind (kOp o h)=_ from e)
 obtain ⟨a,h3,h4⟩:=ak (show ret η1 (oSem o h ws)=_ from h2)
 cases h4
 exact ⟨ws,h1,h3⟩
theorem dn:∀ {es:List E} {η η':Env} {ws:List W},evL C es η=.ok (ws,η')->ws.length=es.length
 | [],_,_,_,h=>by cases h; rfl
 | e::es,_,_,_,h=>by
  obtain ⟨w,η1,us,_,h2,rfl⟩:=aj h
  rw [a0g,a0g,dn h2]
theorem rO {n:Nat}{o:Op}{h:Bool}{es:List E}{r:List V->Hp->VK->Prop}(l:Loc K n o h r)(hn:es.length=n)(σ:L2.St)(H:Hp)(Q:VK)(hw:wE K sf C (.op o h es) σ H Q):tCB r (wL K sf C es) σ H Q:=by
 obtain ⟨pv,Z,Fs,η,w,η',A,ev,k⟩:=hw
 obtain ⟨ws,h1,h2⟩:=bj ev
 exact ⟨pv,Z,Fs,η,ws,η',A,h1,fun vs Z' H' Fs' G B r s=>l ws w vs Z' H' G Q ((dn h1).trans hn) h2 r B.own B.gd.zal (aY B s k)⟩
theorem tj {o:Op}{h:Bool}{a:E}{r:V->Hp->VK->Prop}(l:Loc K 1 o h fun xs H Q=>∀ x,xs=[x]->r x H Q)(σ:L2.St)(H:Hp)(Q:VK)(hw:wE K sf C (.op o h [a]) σ H Q):tUn r (wE K sf C a) σ H Q:=by
 obtain ⟨pv,Z,Fs,η,w,η',A,ev,k⟩:=hw
 obtain ⟨ws,h1,h2⟩:=bj ev
 obtain ⟨wa,η1,us,e1,e2,rfl⟩:=aj h1
 cases e2
 refine ⟨pv,Z,Fs,η,wa,η',A,e1,fun x Z' H' Fs' G B r s=>l [wa] w [x] Z' H' G Q rfl h2 (RepW.one r) B.own B.gd.zal (aY B s k) x rfl⟩
theorem aL {o:Op}{h:Bool}{a b:E}{r:R2}(l:Loc K 2 o h fun xs H Q=>∀ x y,xs=[x,y]->r x y H Q)(σ:L2.St)(H:Hp)(Q:VK)(hw:wE K sf C (.op o h [a,b]) σ H Q):tOp r (wE K sf C a) (wE K sf C b) σ H Q:=by
 obtain ⟨pv,Z,Fs,η,w,η',A,ev,k⟩:=hw
 obtain ⟨ws,h1,h2⟩:=bj ev
 obtain ⟨wa,η1,us,e1,e2,rfl⟩:=aj h1
 obtain ⟨wb,η2,us,e3,e4,rfl⟩:=aj e2
 cases e4
 refine gc A e1 fun x Z1 H1 Fs1 G1 A1 r1 _ s1 _=>?_
 have A1':=A1.mono (G':=G1) fun _ z=>.inr z
 refine gc A1' e3 fun y Z2 H2 Fs2 G2 A2 r2 d2 s2 t2=>?_
 exact l [wa,wb] w [x,y] Z2 H2 _ Q rfl h2 ⟨x,[y],G1,G2,rfl,fun _ z=>.inl z,fun _ z=>.inr z,d2,r1.frame A1.gd.own s2 A1'.dis,RepW.one r2⟩ A2.own A2.gd.zal (aY A2 (s1.trans t2) k) x y rfl
theorem bc:Own Z H no:=fun _ z=>z.elim
theorem Step.drop:Step Z H G Z H no:=(Step.refl Z H G).mono (fun _ z=>z) fun _ z=>z.elim
section
variable {Q:VK}{m:Md}{ts:List T}{xs:List V}
theorem aO {i:Int}(k:Out K Z H G (m,.int i) Q):Q (.int i) H:=k _ Z H no rfl bc .drop
theorem bz {b:Bool}(k:Out K Z H G (m,.bl b) Q):Q (.bl b) H:=k _ Z H no rfl bc .drop
theorem fo {x:Str}(k:Out K Z H G (m,.str x) Q)(h:sOk x=true):Q (.str x) H:=k _ Z H no ⟨rfl,h⟩ bc .drop
theorem ef {t:T}{v:V}(o:Own Z H G)(k:Out K Z H G (m,t) Q)(r:Rep K Z H m t v G):Q v H:=k v Z H G r o (.refl _ _ _)
theorem gE {p:Addr}{o:HO}(hp:H p=none):Stay Z H (upd H p o):=by
 have ne:∀ {a u},H a=some u->a≠p:=fun {a u} e z=>by subst z; rw [hp] at e; cases e
 refine ⟨fun a u _ e=>?_,fun a xs e=>?_,fun a u v e=>?_⟩
 ·rw [ag (ne e)]; exact e
 ·rcases e with e | ⟨u,e⟩
  ·exact .inl (by rw [ag (ne e)]; exact e)
  ·exact .inr ⟨u,by rw [ag (ne e)]; exact e⟩
 ·rw [ag (ne e)]; exact e
theorem dM {p:Addr}{o:HO}(hp:H p=none)(ow:Own Z H G)(hg:∀ a,G' a->G a\/a=p)(z:Fp)(hz:∀ a,Z a->z a)(hz':∀ a,z a->Z a\/G a):Step Z H G z (upd H p o) G':=by
 have ne:∀ {a u},H a=some u->a≠p:=fun {a u} e q=>by subst q; rw [hp] at e; cases e
 have al:∀ a,H a≠none->upd H p o a≠none:=fun a h=>by
  by_cases e:a=p
  ·rw [e,ah]; simp
  ·rw [ag e]; exact h
 refine ⟨fun a u e _=>by rw [ag (ne e)]; exact e,hz,fun a h=>(hz' a h).imp id .inl,fun a h=>(hg a h).imp id fun e=>by rw [e]; exact hp,al,fun q a h=>al a ?_⟩
 rcases hz' a h with c | c
 ·exact q a c
 ·obtain ⟨_,xs,e⟩:=ow a c
  rw [e]; simp
theorem bW {p:Addr}(ow:Own Z H G)(za:∀ a,Z a->H a≠none)(hg:∀ a,G' a->G a)(hl:xs.length<=LIM)(r:RepL K (bD Z G G') H m.kid ts xs G')(hm:m≠.s)(k:Out K Z H G (m,.lst ts) Q)(hp:H p=none):Q (.ref p) (upd H p (.lst xs)):=by
 have ne:∀ {a u},H a=some u->a≠p:=fun {a u} e q=>by subst q; rw [hp] at e; cases e
 have np:∀ a,G' a->a≠p:=fun a h=>by obtain ⟨_,ys,e⟩:=ow a (hg a h); exact ne e
 refine k _ (bD Z G G') _ (fun a=>G' a\/a=p) ⟨p,xs,rfl,hl,(LstR.own hm).mpr ⟨.inr rfl,ah⟩,?_⟩ ?_ (dM hp ow (fun a h=>h.imp (hg a) id) _ (fun a h=>.inl h) fun a h=>h.imp id a2Y)
 ·refine (r.keep (gE hp) (fun _ z=>z) fun a u _ e=>by rw [ag (ne e)]; exact e).mono fun a h=>⟨.inl h,np a h⟩
 ·rintro a (h | h)
  ·obtain ⟨nz,ys,e⟩:=ow a (hg a h)
   exact ⟨fun z=>z.elim nz fun q=>q.2 h,ys,by rw [ag (ne e)]; exact e⟩
  ·subst h
   refine ⟨fun z=>z.elim (fun q=>za a q hp) fun q=>?_,.inl xs,ah⟩
   obtain ⟨_,ys,e⟩:=ow a q.1
   rw [hp] at e; cases e
theorem iI {p:Addr}(ow:Own Z H G)(hg:∀ a,G' a->G a)(hl:xs.length<=LIM)(r:RepL K (bD Z G G') H m.kid ts xs G')(k:Out K Z H G (m,.tup ts) Q)(hp:H p=none):Q (.ref p) (upd H p (.tup xs)):=by
 have ne:∀ {a u},H a=some u->a≠p:=fun {a u} e q=>by subst q; rw [hp] at e; cases e
 refine k _ (bD Z G G') _ G' ⟨p,xs,rfl,.inl (.inl ah),hl,?_⟩ ?_ (dM hp ow (fun a h=>.inl (hg a h)) _ (fun a h=>.inl h) fun a h=>h.imp id a2Y)
 ·exact r.keep (gE hp) (fun _ z=>z) fun a u _ e=>by rw [ag (ne e)]; exact e
 ·intro a h
  obtain ⟨nz,ys,e⟩:=ow a (hg a h)
  exact ⟨fun z=>z.elim nz fun q=>q.2 h,ys,by rw [ag (ne e)]; exact e⟩
theorem f6 {v:V}{H':Hp}(ow:Own Z H G)(hg:∀ a,G' a->G a)(hl:xs.length<=LIM)(r:RepL K (bD Z G G') H m.kid ts xs G')(k:Out K Z H G (m,.tup ts) Q)(same:∀ b o,H b=some o->H' b=some o)(hv:∃ c,v=.ref c/\SqT K H' c xs):Q v H':=by
 obtain ⟨c,rfl,hs⟩:=hv
 have al:∀ a,H a≠none->H' a≠none:=fun a h=>by
  cases e:H a with
  | none=>exact absurd e h
  | some o=>rw [same a o e]; simp
 refine k _ (bD Z G G') _ G' ⟨c,xs,rfl,hs,hl,?_⟩ (fun a h=>?_) ⟨fun a o e _=>same a o e,fun a h=>.inl h,fun a h=>h.imp id fun q=>.inl q.1,fun a h=>.inl (hg a h),al,fun q a h=>al a ?_⟩
 ·refine r.keep ⟨fun a o _ e=>same a o e,fun a ys e=>?_,fun a o u e=>same a _ e⟩ (fun _ z=>z) fun a u _ e=>same a u e
  rcases e with e | ⟨u,e⟩
  ·exact .inl (same a _ e)
  ·exact .inr ⟨u,same a _ e⟩
 ·obtain ⟨nz,ys,e⟩:=ow a (hg a h)
  exact ⟨fun z=>z.elim nz fun q=>q.2 h,ys,same a _ e⟩
 ·rcases h with h | h
  ·exact q a h
  ·obtain ⟨_,ys,e⟩:=ow a h.1
   rw [e]; simp
theorem dU {p:Addr}{h:Bool}{w:W}(ow:Own Z H G)(za:∀ a,Z a->H a≠none)(hl:xs.length<=LIM)(r:∃ G',(∀ a,G' a->G a)/\RepL K (bD Z G G') H m ts xs G')(hn:newL h m ts=some w)(k:Out K Z H G w Q)(hp:H p=none):Q (.ref p) (upd H p (.lst xs)):=by
 obtain ⟨G',hg,r⟩:=r
 unfold newL at hn
 split at hn
 ·split at hn
  ·rename_i hlv
   cases hn
   refine bW (m:=.d) (G':=no) ow za (fun _ z=>z.elim) hl ?_ (by simp) k hp
   exact r.leaves (fun _ _ _ e=>e) hlv
  ·cases hn
 ·cases hn
  exact bW (m:=m.up) ow za hg hl (by rw [dw]; exact r) (cT m) k hp
end
end
end MR
namespace MR
open L2 L3 M
open PySem (Addr Str sizeLine)
section
variable {K:a0a}{h:Bool}
theorem ek {α β:Type}{ws:List α}{x y:β}(e:ws.length=[x,y].length):∃ a b,ws=[a,b]:=by
 match ws,e with
 | [a,b],_=>exact ⟨a,b,rfl⟩
theorem yG {α β:Type}{ws:List α}{x:β}(e:ws.length=[x].length):∃ a,ws=[a]:=by
 match ws,e with
 | [a],_=>exact ⟨a,rfl⟩
theorem b7 {Z:Fp}{H:Hp}{G:Fp}{u w:W}{x y:V}(r:RepW K Z H [u,w] [x,y] G):∃ G1 G2,(∀ a,G1 a->G a)/\(∀ a,G2 a->G a)/\(∀ a,G1 a->¬ G2 a)/\Rep K Z H u.1 u.2 x G1/\Rep K Z H w.1 w.2 y G2:=by
 obtain ⟨x',r',G1,G2,e,h1,h2,d,p,y',r2,G3,G4,e2,h3,h4,d2,q,z⟩:=r
 cases e; cases e2
 exact ⟨G1,G3,h1,fun a ha=>h2 a (h3 a ha),fun a ha hb=>d a ha (h3 a hb),p,q⟩
theorem rJ {Z:Fp}{H:Hp}{G:Fp}{w:W}{x:V}(r:RepW K Z H [w] [x] G):Rep K Z H w.1 w.2 x G:=by
 obtain ⟨x',r',G1,G2,e,h1,h2,d,p,z⟩:=r
 cases e
 exact p.mono h1
theorem bY {ws:List W}{xs:List V}{Z:Fp}{H:Hp}{G:Fp}{w:W}(hw:ws=[w])(r:RepW K Z H ws xs G):∃ x,xs=[x]/\Rep K Z H w.1 w.2 x G:=by
 subst hw
 obtain ⟨x,hx⟩:=yG (x:=()) (show xs.length=[()].length from r.length)
 subst hx
 exact ⟨x,rfl,rJ r⟩
theorem mS {n:Nat}(h:n<=LIM):n < sizeLine:=a1Z h (by decide)
theorem LIM_le {n:Nat}(h:n<=LIM):n<=sizeLine:=a2j (mS h)
theorem bX {n:Nat}(h:fits n=true):n<=LIM:=of_decide_eq_true h
theorem rf {o:Op}{C:Int->Int->Prop}{g:Int->Int->T}(inv:∀ {u v w:W},oSem o h [u,v]=some w->∃ m n i j,u=(m,.int i)/\v=(n,.int j)/\C i j/\w=(.d,g i j))(gv:Int->Int->V)(hg:∀ {Z:Fp} {H:Hp} {G:Fp} {Q:VK} {i j:Int},Out K Z H G (.d,g i j) Q->Q (gv i j) H) :
  Loc K 2 o h fun xs H Q=>∀ x y,xs=[x,y]->rI C gv x y H Q:=by
 intro ws w xs Z H G Q hn e r ow za k x y hx
 subst hx
 obtain ⟨u,v,rfl⟩:=ek r.length.symm
 obtain ⟨m,n,i,j,rfl,rfl,c,rfl⟩:=inv e
 obtain ⟨G1,G2,_,_,_,r1,r2⟩:=b7 r
 exact ⟨i,j,r1,r2,c,hg k⟩
theorem fg {o:Op}{g:Int->Int->T}(inv:∀ {u v w:W},oSem o h [u,v]=some w->∃ m n i j,u=(m,.int i)/\v=(n,.int j)/\w=(.d,g i j))(gv:Int->Int->V)(hg:∀ {Z:Fp} {H:Hp} {G:Fp} {Q:VK} {i j:Int},Out K Z H G (.d,g i j) Q->Q (gv i j) H) :
  Loc K 2 o h fun xs H Q=>∀ x y,xs=[x,y]->rI0 gv x y H Q:=by
 intro ws w xs Z H G Q hn e r ow za k x y hx
 subst hx
 obtain ⟨u,v,rfl⟩:=ek r.length.symm
 obtain ⟨m,n,i,j,rfl,rfl,rfl⟩:=inv e
 obtain ⟨G1,G2,_,_,_,r1,r2⟩:=b7 r
 exact ⟨i,j,r1,r2,hg k⟩
theorem qL {u v w:W}(e:oSem .sub h [u,v]=some w):∃ m n i j,u=(m,.int i)/\v=(n,.int j)/\w=(.d,.int (i-j)):=by
 obtain ⟨m,a⟩:=u; obtain ⟨n,b⟩:=v
 cases a<;>first | (cases e; done) | (cases b<;>first | (cases e; exact ⟨_,_,_,_,rfl,rfl,rfl⟩) | cases e)
theorem kG {u v w:W}(e:oSem .lt h [u,v]=some w):∃ m n i j,u=(m,.int i)/\v=(n,.int j)/\w=(.d,.bl (decide (i < j))):=by
 obtain ⟨m,a⟩:=u; obtain ⟨n,b⟩:=v
 cases a<;>first | (cases e; done) | (cases b<;>first | (cases e; exact ⟨_,_,_,_,rfl,rfl,rfl⟩) | cases e)
theorem lE {u v w:W}(e:oSem .gt h [u,v]=some w):∃ m n i j,u=(m,.int i)/\v=(n,.int j)/\w=(.d,.bl (decide (j < i))):=by
 obtain ⟨m,a⟩:=u; obtain ⟨n,b⟩:=v
 cases a<;>first | (cases e; done) | (cases b<;>first | (cases e; exact ⟨_,_,_,_,rfl,rfl,rfl⟩) | cases e)
theorem mT {u v w:W}(e:oSem .ge h [u,v]=some w):∃ m n i j,u=(m,.int i)/\v=(n,.int j)/\w=(.d,.bl (decide (j<=i))):=by
 obtain ⟨m,a⟩:=u; obtain ⟨n,b⟩:=v
 cases a<;>first | (cases e; done) | (cases b<;>first | (cases e; exact ⟨_,_,_,_,rfl,rfl,rfl⟩) | cases e)
theorem mN {u v w:W}(e:oSem .fdiv h [u,v]=some w):∃ m n i j,u=(m,.int i)/\v=(n,.int j)/\vf i j/\w=(.d,.int (i / j)):=by
 obtain ⟨m,a⟩:=u; obtain ⟨n,b⟩:=v
 cases a<;>first | (cases e; done) | (cases b<;>try (cases e; done))
 rename_i i j
 rw [kn] at e
 split at e
 ·rename_i hc
  rw [a0h,decide_eq_true_eq,decide_eq_true_eq] at hc
  cases e
  exact ⟨_,_,_,_,rfl,rfl,hc,rfl⟩
 ·cases e
theorem qp {u v w:W}(e:oSem .mod h [u,v]=some w):∃ m n i j,u=(m,.int i)/\v=(n,.int j)/\(0 < j)/\w=(.d,.int (i % j)):=by
 obtain ⟨m,a⟩:=u; obtain ⟨n,b⟩:=v
 cases a<;>first | (cases e; done) | (cases b<;>try (cases e; done))
 rename_i i j
 rw [rE] at e
 split at e
 ·rename_i hc
  rw [decide_eq_true_eq] at hc
  cases e
  exact ⟨_,_,_,_,rfl,rfl,hc,rfl⟩
 ·cases e
theorem oS:Loc K 2 .sub h fun xs H Q=>∀ x y,xs=[x,y]->rI0 (fun i j=>.int (i-j)) x y H Q:=fg qL _ fun k=>aO k
theorem vE:Loc K 2 .lt h fun xs H Q=>∀ x y,xs=[x,y]->rI0 (fun i j=>.bl (decide (i < j))) x y H Q:=fg kG _ fun k=>bz k
theorem tP:Loc K 2 .gt h fun xs H Q=>∀ x y,xs=[x,y]->rI0 (fun i j=>.bl (decide (j < i))) x y H Q:=fg lE _ fun k=>bz k
theorem uU:Loc K 2 .ge h fun xs H Q=>∀ x y,xs=[x,y]->rI0 (fun i j=>.bl (decide (j<=i))) x y H Q:=fg mT _ fun k=>bz k
theorem m7:Loc K 2 .fdiv h fun xs H Q=>∀ x y,xs=[x,y]->rI vf (fun i j=>.int (i / j)) x y H Q:=rf mN _ fun k=>aO k
theorem qJ:Loc K 2 .mod h fun xs H Q=>∀ x y,xs=[x,y]->rI (fun _ j=>0 < j) (fun i j=>.int (i % j)) x y H Q:=rf qp _ fun k=>aO k
theorem oM:Loc K 1 .neg h fun xs H Q=>∀ x,xs=[x]->rU (fun i=>.int (-i)) x H Q:=by
 intro ws w xs Z H G Q hn e r ow za k x hx
 subst hx
 obtain ⟨⟨m,a⟩,rfl⟩:=yG r.length.symm
 cases a<;>first | (cases e; exact ⟨_,rJ r,aO k⟩) | cases e
theorem bA {Z:Fp}{H:Hp}{G:Fp}{m:Md}{ts:List T}{v:V}(r:Rep K Z H m (.lst ts) v G):∃ a xs,v=.ref a/\H a=some (.lst xs)/\xs.length<=LIM/\RepL K Z H m.kid ts xs G:=by
 obtain ⟨a,xs,e,l,q,p⟩:=r
 exact ⟨a,xs,e,by cases m<;>exact q.2,l,p.mono fun _ z=>z.1⟩
theorem cu {Z:Fp}{H:Hp}{G:Fp}{m:Md}{ts:List T}{v:V}(r:Rep K Z H m (.tup ts) v G):∃ a xs,v=.ref a/\SqT K H a xs/\xs.length<=LIM/\RepL K Z H m.kid ts xs G:=r
theorem gS {Z:Fp}{H:Hp}{G G1 G2:Fp}{m n:Md}{ts us:List T}{xs ys:List V}(w1:∀ a,G1 a->G a)(w2:∀ a,G2 a->G a)(d:∀ a,G1 a->¬ G2 a)(r1:RepL K Z H m ts xs G1)(r2:RepL K Z H n us ys G2) :
  ∃ G',(∀ a,G' a->G a)/\RepL K (bD Z G G') H (m.meet n) (ts++us) (xs++ys) G':=by
 obtain ⟨A,a1,a2⟩:=RepL.weak (cy m n).1 r1
 obtain ⟨B,b1,b2⟩:=RepL.weak (cy m n).2 r2
 refine ⟨fun b=>A b\/B b,fun b hb=>hb.elim (fun z=>w1 b (a1 b z)) fun z=>w2 b (b1 b z),RepL.append (fun _ z=>.inl z) (fun _ z=>.inr z) (fun b za zb=>d b (a1 b za) (b1 b zb)) (a2.zmono fun b hb=>?_) (b2.zmono fun b hb=>?_)⟩
 ·exact hb.imp id fun z=>⟨w1 b z.1,fun q=>q.elim z.2 fun w=>d b z.1 (b1 b w)⟩
 ·exact hb.imp id fun z=>⟨w2 b z.1,fun q=>q.elim (fun w=>d b (a1 b w) z.1) z.2⟩
theorem bu {p q:Str}(h1:sOk p=true)(h2:sOk q=true)(hl:p.cps.size+q.cps.size<=LIM):sOk (p++q)=true:=by
 unfold sOk at *
 rw [a0h] at *
 refine ⟨?_,decide_eq_true ?_⟩
 ·show Array.all (p.cps++q.cps) _=true
  rw [Array.all_append,a0h]
  exact ⟨h1.1,h2.1⟩
 ·show (p.cps++q.cps).size<=LIM
  rw [a2K]
  exact hl
theorem qE (rT:R2)(hT:∀ {Z:Fp} {H:Hp} {G:Fp} {Q:VK} {a b:Addr} {xs ys:List V} {ts:List T},SqT K H a xs->SqT K H b ys->xs≠[]->xs.length+ys.length<=LIM->Own Z H G->(∃ G',(∀ a,G' a->G a)/\RepL K (bD Z G G') H .s ts (xs++ys) G')->Out K Z H G (.s,.tup ts) Q->rT (.ref a) (.ref b) H Q) :
  Loc K 2 .add h fun xs H Q=>∀ x y,xs=[x,y]->rI0 (fun i j=>.int (i+j)) x y H Q\/(∃ i j,x=.str i/\y=.str j/\i.length+j.length<=sizeLine/\Q (.str (i++j)) H)\/yz x y H Q\/rT x y H Q:=by
 intro ws w xs Z H G Q hn e r ow za k x y hx
 subst hx
 obtain ⟨⟨m,a⟩,⟨n,b⟩,rfl⟩:=ek r.length.symm
 obtain ⟨G1,G2,w1,w2,d,r1,r2⟩:=b7 r
 cases a<;>first | (cases e; done) | (cases b<;>try (cases e; done))
 ·cases e
  exact .inl ⟨_,_,r1,r2,aO k⟩
 ·rename_i p q
  rw [nv] at e
  split at e
  ·rename_i hf
   cases e
   refine .inr (.inl ⟨p,q,r1.1,r2.1,LIM_le (bX hf),fo k ?_⟩)
   exact bu r1.2 r2.2 (bX hf)
  ·cases e
 ·rename_i ts us
  rw [kz] at e
  split at e
  ·rename_i hf
   cases e
   rw [a0h] at hf
   obtain ⟨a,xs,rfl,hs,hl,p⟩:=cu r1
   obtain ⟨b,ys,rfl,hs2,hl2,p2⟩:=cu r2
   have hlen:=bX hf.1
   have e1:=p.length
   have e2:=p2.length
   refine .inr (.inr (.inr (hT hs hs2 ?_ (by omega) ow ?_ k)))
   ·rintro rfl
    cases ts with
    | nil=>simp at hf
    | cons _ _=>simp at e1
   ·refine ⟨no,fun _ z=>z.elim,RepL.append (G1:=no) (G2:=no) (fun _ z=>z) (fun _ z=>z) (fun _ z _=>z) ((RepL.sh p).zmono fun b hb=>?_) ((RepL.sh p2).zmono fun b hb=>?_)⟩
    ·exact hb.imp id fun z=>⟨w1 b z,fun q=>q⟩
    ·exact hb.imp id fun z=>⟨w2 b z,fun q=>q⟩
  ·cases e
 ·rename_i ts us
  rw [nD] at e
  split at e
  ·rename_i hf
   obtain ⟨a,xs,rfl,hs,hl,p⟩:=bA r1
   obtain ⟨b,ys,rfl,hs2,hl2,p2⟩:=bA r2
   have hlen:=bX hf
   have e1:=p.length
   have e2:=p2.length
   have hl3:(xs++ys).length<=LIM:=by rw [a0d]; omega
   refine .inr (.inr (.inl ⟨a,b,xs,ys,rfl,rfl,hs,hs2,LIM_le (by omega),fun q hq=>?_⟩))
   exact dU ow za hl3 (gS w1 w2 d p p2) e k hq
  ·cases e
theorem pE:Loc K 2 .mul h fun xs H Q=>∀ x y,xs=[x,y]->rI CMul (fun i j=>.int (i * j)) x y H Q\/y9 x y H Q:=by
 intro ws w xs Z H G Q hn e r ow za k x y hx
 subst hx
 obtain ⟨⟨m,a⟩,⟨n,b⟩,rfl⟩:=ek r.length.symm
 obtain ⟨G1,G2,w1,w2,d,r1,r2⟩:=b7 r
 cases a<;>first | (cases e; done) | (cases b<;>try (cases e; done))
 ·rename_i i j
  rw [lO] at e
  split at e
  ·rename_i hc
   cases e
   refine .inl ⟨i,j,r1,r2,?_,aO k⟩
   rw [Bool.or_eq_true,decide_eq_true_eq,decide_eq_true_eq] at hc
   have h64:(2:Int) ^ 64=18446744073709551616:=by decide
   unfold CMul
   rw [h64]
   omega
  ·cases e
 ·rename_i ts j
  have e':(if decide (j.natAbs < 4611686018427387904)&&fits (ts.length * j.toNat) then newL h .s (a0f j.toNat ts).flatten else none)=some w:=e
  split at e'
  ·rename_i hc
   rw [a0h,decide_eq_true_eq] at hc
   obtain ⟨a,xs,rfl,hs,hl,p⟩:=bA r1
   have hlen:=bX hc.2
   have e1:=p.length
   have hl3:((a0f j.toNat xs).flatten).length<=LIM:=by
    rw [List.length_flatten,a2D,List.sum_replicate_nat,e1,a3p]; exact hlen
   refine .inr ⟨a,j,xs,rfl,r2,hs,by omega,by omega,LIM_le (by rw [e1]; exact hlen),fun q hq=>?_⟩
   refine dU ow za hl3 ⟨no,fun _ z=>z.elim,?_⟩ e' k hq
   have ps:=(RepL.sh p).zmono (Z':=bD Z G no) fun b hb=>hb.imp id fun z=>⟨w1 b z,fun q=>q⟩
   generalize j.toNat=c
   induction c with
   | zero=>exact rfl
   | succ c ih=>exact RepL.append (fun _ z=>z) (fun _ z=>z) (fun _ z _=>z) ps ih
  ·cases e'
theorem mr {Z:Fp}{H:Hp}{G:Fp}{m:Md}{ts:List T}{xs:List V}{i:Int}{t:T}(p:RepL K Z H m ts xs G)(e:M.atI ts i=some t):∃ x,L2.atI xs i=some x/\Rep K Z H m t x G:=by
 unfold M.atI at e
 have hn:M.ixN ts.length i=L2.ixN xs.length i:=by rw [p.length]; rfl
 cases e1:M.ixN ts.length i with
 | none=>rw [e1] at e; cases e
 | some j =>
  rw [e1] at e
  obtain ⟨x,hx,r⟩:=p.get (show ts[j]?=some t from e)
  refine ⟨x,?_,r⟩
  unfold L2.atI
  rw [<- hn,e1]
  exact hx
theorem pV {x:Str}{c:Nat}(h:sOk x=true)(hc:c∈x.cps.toList):sOk ⟨#[c]⟩=true:=by
 unfold sOk at *
 rw [a0h] at *
 refine ⟨?_,rfl⟩
 have h1:=h.1
 rw [a1z] at h1
 have h2:=h1 c (Array.mem_def.mpr hc)
 rw [a1z]
 intro y hy
 have:y=c:=by simpa using hy
 rw [this]; exact h2
theorem fH {x:Str}(h:sOk x=true):x.cps.size<=LIM:=by
 unfold sOk at h
 rw [a0h,decide_eq_true_eq] at h
 exact h.2
theorem wd:Loc K 2 .ix h fun xs H Q=>∀ x y,xs=[x,y]->(∃ p xs i v,x=.ref p/\y=.int i/\(SqL K H p xs\/SqT K H p xs)/\L2.atI xs i=some v/\Q v H)\/(∃ z i c,x=.str z/\y=.int i/\z.length<=sizeLine/\L2.atI z.cps.toList i=some c/\Q (.str ⟨#[c]⟩) H):=by
 intro ws w xs Z H G Q hn e r ow za k x y hx
 subst hx
 obtain ⟨⟨m,a⟩,⟨n,b⟩,rfl⟩:=ek r.length.symm
 obtain ⟨G1,G2,w1,w2,d,r1,r2⟩:=b7 r
 cases b with
 | int i =>
  cases a with
  | lst ts =>
   obtain ⟨a,xs,rfl,hs,hl,p⟩:=bA r1
   have e':(M.atI ts i).map (fun t=>(m.kid,t))=some w:=e
   cases e1:M.atI ts i with
   | none=>rw [e1] at e'; cases e'
   | some t =>
    rw [e1] at e'; cases e'
    obtain ⟨v,hv,rv⟩:=mr p e1
    exact .inl ⟨a,xs,i,v,rfl,r2,.inl (.inl (.inl hs)),hv,ef ow k (rv.mono w1)⟩
  | tup ts =>
   obtain ⟨a,xs,rfl,hs,hl,p⟩:=cu r1
   have e':(M.atI ts i).map (fun t=>(m.kid,t))=some w:=e
   cases e1:M.atI ts i with
   | none=>rw [e1] at e'; cases e'
   | some t =>
    rw [e1] at e'; cases e'
    obtain ⟨v,hv,rv⟩:=mr p e1
    exact .inl ⟨a,xs,i,v,rfl,r2,.inr hs,hv,ef ow k (rv.mono w1)⟩
  | str z =>
   have e':(M.atI z.cps.toList i).map (fun c=>((.d,.str ⟨#[c]⟩):W))=some w:=e
   cases e1:M.atI z.cps.toList i with
   | none=>rw [e1] at e'; cases e'
   | some c =>
    rw [e1] at e'; cases e'
    refine .inr ⟨z,i,c,r1.1,r2,LIM_le (fH r1.2),e1,fo k (pV r1.2 ?_)⟩
    unfold M.atI at e1
    cases e2:M.ixN z.cps.toList.length i with
    | none=>rw [e2] at e1; cases e1
    | some j=>rw [e2] at e1; exact a2q e1
  | scr ns =>
   obtain ⟨a,rfl,hL,hs⟩:=r1
   have e':(M.atI ns i).map (fun n=>((.d,.int n):W))=some w:=e
   cases e1:M.atI ns i with
   | none=>rw [e1] at e'; cases e'
   | some n =>
    rw [e1] at e'; cases e'
    refine .inl ⟨a,_,i,.int n,rfl,r2,.inl hs.sq,?_,aO k⟩
    unfold M.atI at e1
    unfold L2.atI
    rw [a0b]
    cases e2:M.ixN ns.length i with
    | none=>rw [e2] at e1; cases e1
    | some j =>
     rw [e2] at e1
     rw [show L2.ixN ns.length i=some j from e2]
     show (ns.map V.int)[j]?=_
     rw [a0A,show ns[j]?=some n from e1]
     rfl
  | _=>cases e
 | _=>cases a<;>cases e
theorem pS:Loc K 1 .len h fun xs H Q=>∃ x n,xs=[x]/\(match x with
  | .str y=>y.length<=sizeLine/\n=y.length
  | .byt y=>y.size<=sizeLine/\n=y.size
  | .ref p=>(∃ xs,SqL K H p xs/\n=xs.length)\/∃ xs,SqT K H p xs/\n=xs.length
  | _=>False)/\Q (.int (n:Nat)) H:=by
 intro ws w xs Z H G Q hn e r ow za k
 match ws,hn with
 | [(m,a)],_ =>
  obtain ⟨x,rfl,r1⟩:=bY rfl r
  cases a with
  | lst ts =>
   obtain ⟨a,xs,hx,hs,hl,p⟩:=bA r1
   cases e
   refine ⟨x,ts.length,rfl,?_,aO k⟩
   rw [show x=.ref a from hx]
   exact .inl ⟨xs,.inl (.inl hs),p.length.symm⟩
  | tup ts =>
   obtain ⟨a,xs,hx,hs,hl,p⟩:=cu r1
   cases e
   refine ⟨x,ts.length,rfl,?_,aO k⟩
   rw [show x=.ref a from hx]
   exact .inr ⟨xs,hs,p.length.symm⟩
  | str z =>
   cases e
   refine ⟨x,z.length,rfl,?_,aO k⟩
   rw [show x=.str z from r1.1]
   exact ⟨LIM_le (fH r1.2),rfl⟩
  | scr ns =>
   obtain ⟨a,hx,hL,hs⟩:=r1
   cases e
   refine ⟨x,ns.length,rfl,?_,aO k⟩
   rw [show x=.ref a from hx]
   exact .inl ⟨_,hs.sq,by rw [a0b]⟩
  | _=>cases e
theorem kM {Z:Fp}{H:Hp}{G:Fp}{m:Md}:∀ ns:List Int,RepL K Z H m (ns.map T.int) (ns.map V.int) G
 | []=>rfl
 | n::ns=>⟨.int n,ns.map V.int,no,no,rfl,fun _ z=>z.elim,fun _ z=>z.elim,fun _ z=>z.elim,rfl,kM ns⟩
end
end MR
namespace MR
open L2 L3 M
open PySem (Addr Str sizeLine)
section
variable {K:a0a}{sl:Cf}{sf:Nat->Option Nat}{C:Call}{σ:L2.St}{Z Z' Z1:Fp}{H H' H1:Hp}{Fs Fs' Fs1:Fps}{η η' η1:Env}{G G' R F:Fp}
mutual
theorem Rep.sany:∀ {t:T} {v:V} {G G':Fp},Rep K Z H .s t v G->Rep K Z H .s t v G'
 | .non,_,_,_,h=>h
 | .bl _,_,_,_,h=>h
 | .int _,_,_,_,h=>h
 | .str _,_,_,_,h=>h
 | .scr _,_,_,_,h=>h
 | .tup ts,_,_,_,⟨a,xs,e,q,l,r⟩=>⟨a,xs,e,q,l,RepL.sany r⟩
 | .lst ts,_,_,_,⟨a,xs,e,l,q,r⟩=>⟨a,xs,e,l,q,RepL.sany r⟩
 | .dct _ _,_,_,_,⟨a,xs,e,l,q,n,hl,r⟩=>⟨a,xs,e,l,q,n,hl,r⟩
 | .ins _ _ _,_,_,_,h=>h
 | .gone,_,_,_,h=>h
theorem RepL.sany:∀ {ts:List T} {xs:List V} {G G':Fp},RepL K Z H .s ts xs G->RepL K Z H .s ts xs G'
 | [],_,_,_,h=>h
 | t::ts,xs,_,_,⟨x,r,G1,G2,e,h1,h2,hd,p,q⟩=>⟨x,r,no,no,e,fun _ z=>z.elim,fun _ z=>z.elim,fun _ z=>z.elim,Rep.sany p,RepL.sany q⟩
end
theorem aT:∀ (η:Env) (i j:Nat) (o:Option W),rd (wr η i o) j=if j=i/\i < η.length then o else rd η j
 | [],i,j,o=>by simp [wr,rd]
 | p::η,0,0,o=>by simp [wr,rd]
 | p::η,0,j+1,o=>by simp [wr,rd]
 | p::η,i+1,0,o=>by simp [wr,rd]
 | p::η,i+1,j+1,o=>by
  show rd (wr η i o) j=_
  rw [aT η i j o]
  simp [rd]
theorem cO:∀ {η:Env} {i:Nat} {w:W},rd η i=some w->i < η.length
 | [],_,_,h=>by cases h
 | _::_,0,_,_=>by simp
 | _::η,i+1,_,h=>by have:=cO (η:=η) (i:=i) h; simp; exact this
theorem cV (h:∀ a,F a->G a):Step Z H G Z H F:=(Step.refl Z H G).mono (fun _ z=>z) h
theorem sR {i j:Nat}(hs:sf i=some j)(σ:L2.St)(H:Hp)(Q:VK)(h:wE K sf C (.var i) σ H Q):pU j σ H Q:=by
 obtain ⟨pv,Z,Fs,η,w,η',A,ev,k⟩:=h
 obtain ⟨w',e1,e2⟩:=ak (show ret η ((rd η i).bind look)=_ from ev)
 cases e2
 cases e3:rd η i with
 | none=>rw [e3] at e1; cases e1
 | some u =>
  rw [e3] at e1
  obtain ⟨m,t⟩:=u
  obtain ⟨v,r,hv⟩:=A.env i m t e3
  refine ⟨v,hv.1 j hs,k v Z H Fs no A ?_ (cV fun a ha=>ha.elim id fun z=>z.elim)⟩
  cases m with
  | s=>cases e1; exact r.sany
  | d =>
   have e1':(if t.leaf=true then some (Md.d,t) else none)=some w:=e1
   split at e1'
   ·rename_i hl; cases e1'; exact r.leaf (fun _ _ _ q=>q) hl
   ·cases e1'
  | o m =>
   have e1':(if t.leaf=true then some (Md.d,t) else none)=some w:=e1
   split at e1'
   ·rename_i hl; cases e1'; exact r.leaf (fun _ _ _ q=>q) hl
   ·cases e1'
noncomputable def AF (Fs:Fps)(i:Nat):Fps:=fun j a=>j≠i/\Fs j a
theorem vY {e:E}{i j:Nat}(he:∀ η,evE C e η=ret (del η i) (rd η i))(hs:sf i=some j)(σ:L2.St)(H:Hp)(Q:VK)(h:wE K sf C e σ H Q):pU j σ H Q:=by
 obtain ⟨pv,Z,Fs,η,w,η',A,ev,k⟩:=h
 rw [he] at ev
 obtain ⟨w',e1,e2⟩:=ak ev
 cases e2
 obtain ⟨m,t⟩:=w
 obtain ⟨v,r,hv⟩:=A.env i m t e1
 refine ⟨v,hv.1 j hs,k v Z H (AF Fs i) (Fs i) ⟨⟨fun a ⟨l,h1,h2⟩=>A.gd.own a ⟨l,h2⟩,fun l l' a h1 h2=>A.gd.dis l l' a h1.2 h2.2,A.gd.zal⟩,fun l m' t' e=>?_,fun a ha=>A.gd.own a ⟨i,ha⟩,fun a ha ⟨l,h1,h2⟩=>h1 (A.gd.dis l i a h2 ha),A.lk,A.ln⟩ r (cV fun a ha=>ha.elim (fun ⟨l,h1,h2⟩=>⟨l,h2⟩) fun z=>⟨i,z⟩)⟩
 rw [aT] at e
 split at e
 ·cases e
 ·rename_i hne
  obtain ⟨v',r',hv'⟩:=A.env l m' t' e
  have hli:l≠i:=fun z=>hne ⟨z,cO e1⟩
  exact ⟨v',r'.mono fun a ha=>⟨hli,ha⟩,hv'⟩
theorem dI {t:T}{v:V}(hv:∀ {Z:Fp} {H:Hp},Rep K Z H .d t v no)(σ:L2.St)(H:Hp)(Q:VK)(h:wE K sf C (.cst t) σ H Q):tC v σ H Q:=by
 obtain ⟨pv,Z,Fs,η,w,η',A,ev,k⟩:=h
 cases ev
 exact k v Z H Fs no A hv (cV fun a ha=>ha.elim id fun z=>z.elim)
theorem u7 {es:List E}(hn:es.length<=LIM)(σ:L2.St)(H:Hp)(Q:VK)(h:wE K sf C (.tup es) σ H Q):wO (wL K sf C es) σ H Q:=by
 obtain ⟨pv,Z,Fs,η,w,η',A,ev,k⟩:=h
 obtain ⟨⟨ws,η1⟩,h1,h2⟩:=aa (show (evL C es η).bind iq=_ from ev)
 cases h2
 refine ⟨pv,Z,Fs,η,ws,_,A,h1,fun vs Z' H' Fs' G B r s=>?_⟩
 have hl:vs.length<=LIM:=by rw [r.length,dn h1]; exact hn
 obtain ⟨G',g1,g2⟩:=RepW.to (fun u hu=>dZ hu) r
 refine ⟨LIM_le hl,fun p hp=>iI (m:=(eh ws).up) B.own g1 hl (by rw [dw]; exact g2) (aY B s k) hp⟩
theorem uv {b:Bool}{es:List E}(hn:es.length<=LIM)(σ:L2.St)(H:Hp)(Q:VK)(h:wE K sf C (.lst b es) σ H Q):xO (wL K sf C es) σ H Q:=by
 obtain ⟨pv,Z,Fs,η,w,η',A,ev,k⟩:=h
 obtain ⟨⟨ws,η1⟩,h1,h2⟩:=aa (show (evL C es η).bind (l8 b)=_ from ev)
 cases h2
 refine ⟨pv,Z,Fs,η,ws,_,A,h1,fun vs Z' H' Fs' G B r s=>?_⟩
 have hl:vs.length<=LIM:=by rw [r.length,dn h1]; exact hn
 refine ⟨LIM_le hl,fun p hp=>?_⟩
 cases b with
 | true =>
  obtain ⟨G',g1,g2⟩:=RepW.to (fun u hu=>dZ hu) r
  exact bW (m:=(eh ws).up) B.own B.gd.zal g1 hl (by rw [dw]; exact g2) (cT _) (aY B s k) hp
 | false =>
  obtain ⟨G',g1,g2⟩:=RepW.to (N:=.s) (fun u hu=>by cases lf u.1 u.2<;>rfl) r
  exact bW (m:=.o .s) B.own B.gd.zal g1 hl g2 (by simp) (aY B s k) hp
noncomputable def wT (K:a0a)(sl:Nat->Option Nat)(C:Call)(e:E):TT:=fun σ H Q=>∃ pv Z Fs η w η' b,At K ⟨sl,pv⟩ σ Z H Fs η no/\evE C e η=.ok (w,η')/\truth w.2=some b /\
 ∀ Z' H' Fs',At K ⟨sl,pv⟩ σ Z' H' Fs' η' no->Step Z H (tot Fs) Z' H' (tot Fs')->Q b H'
noncomputable def TrV (K:a0a)(x:V)(H:Hp)(k:Bool):Prop :=
 match x with
 | .non=>k=false
 | .bl b=>k=b
 | .int i=>k=(i != 0)
 | .str y=>y.length<=sizeLine/\k=((y.length:Int) != 0)
 | .ref p=>(∃ xs,SqL K H p xs/\k=!xs.isEmpty)\/(∃ xs,SqT K H p xs/\k=!xs.isEmpty)
 | _=>False
theorem bO {α β:Type}{xs:List α}{ys:List β}(h:xs.length=ys.length):xs.isEmpty=ys.isEmpty:=by
 cases xs<;>cases ys<;>first | rfl | simp at h
theorem jF {m:Md}{t:T}{v:V}{b:Bool}(e:truth t=some b)(r:Rep K Z H m t v G):TrV K v H b:=by
 cases t with
 | non=>cases e; rw [show v=_ from r]; rfl
 | bl c=>cases e; rw [show v=_ from r]; rfl
 | int i=>cases e; rw [show v=_ from r]; rfl
 | str x =>
  cases e; rw [show v=_ from r.1]
  refine ⟨LIM_le (fH r.2),?_⟩
  show (x.cps.size != 0)=(((x.cps.size:Nat):Int) != 0)
  cases x.cps.size with
  | zero=>rfl
  | succ n=>simp; omega
 | tup ts =>
  obtain ⟨a,xs,rfl,hs,hl,p⟩:=cu r
  cases e
  exact .inr ⟨xs,hs,by rw [bO p.length]⟩
 | lst ts =>
  obtain ⟨a,xs,rfl,hs,hl,p⟩:=bA r
  cases e
  exact .inl ⟨xs,.inl (.inl hs),by rw [bO p.length]⟩
 | scr ns =>
  obtain ⟨a,rfl,hL,hs⟩:=r
  cases e
  exact .inl ⟨_,hs.sq,by rw [bO (a0b ..)]⟩
 | dct _ _=>cases e
 | ins _ _ _=>cases e
 | gone=>cases e
theorem jX {e:E}{w:W}{b:Bool}{Q:Bool->Hp->Prop}(A:At K sl σ Z H Fs η no)(ev:evE C e η=.ok (w,η'))(ht:truth w.2=some b)(k:∀ Z' H' Fs',At K sl σ Z' H' Fs' η' no->Step Z H (tot Fs) Z' H' (tot Fs')->Q b H'):wT K sl.sl C e σ H Q:=⟨sl.pv,Z,Fs,η,w,η',b,A,ev,ht,k⟩
theorem br {α:Type}{f g:Env->Res α}{p:W×Env}{r:α}(h:onT f g p=.ok r):∃ b,truth p.1.2=some b/\(if b=true then f p.2 else g p.2)=.ok r:=by
 unfold onT at h
 split at h
 ·rename_i e; exact ⟨true,e,h⟩
 ·rename_i e; exact ⟨false,e,h⟩
 ·cases h
theorem uI {e:E}(σ:L2.St)(H:Hp)(Q:Bool->Hp->Prop)(h:wT K sf C (.not e) σ H Q):yO (wT K sf C e) σ H Q:=by
 obtain ⟨pv,Z,Fs,η,w,η',b,A,ev,ht,k⟩:=h
 obtain ⟨⟨u,η1⟩,h1,h2⟩:=aa (show (evE C e η).bind ll=_ from ev)
 obtain ⟨w',e1,e2⟩:=ak (show ret η1 ((truth u.2).map fun b=>((.d,.bl (!b)):W))=_ from h2)
 cases e2
 cases e3:truth u.2 with
 | none=>rw [e3] at e1; cases e1
 | some c =>
  rw [e3] at e1; cases e1
  have:b=!c:=by cases ht; rfl
  subst this
  exact jX A h1 e3 k
theorem uG {a b:E}(σ:L2.St)(H:Hp)(Q:Bool->Hp->Prop)(h:wT K sf C (.and a b) σ H Q):yK (wT K sf C a) (wT K sf C b) σ H Q:=by
 obtain ⟨pv,Z,Fs,η,w,η',c,A,ev,ht,k⟩:=h
 obtain ⟨⟨u,η1⟩,h1,h2⟩:=aa (show (evE C a η).bind (mz (evE C b))=_ from ev)
 obtain ⟨d,h3,h4⟩:=br (show onT (evE C b) (okW u) (u,η1)=_ from h2)
 refine jX A h1 h3 fun Z1 H1 Fs1 A1 s1=>?_
 cases d with
 | true=>rw [if_pos rfl] at h4 ⊢; exact jX A1 h4 ht fun Z2 H2 Fs2 A2 s2=>k Z2 H2 Fs2 A2 (s1.trans s2)
 | false =>
  rw [if_neg a0t] at h4 ⊢
  cases h4
  cases (h3.symm.trans ht)
  exact k Z1 H1 Fs1 A1 s1
theorem y0 {a b:E}(σ:L2.St)(H:Hp)(Q:Bool->Hp->Prop)(h:wT K sf C (.or a b) σ H Q):tOr (wT K sf C a) (wT K sf C b) σ H Q:=by
 obtain ⟨pv,Z,Fs,η,w,η',c,A,ev,ht,k⟩:=h
 obtain ⟨⟨u,η1⟩,h1,h2⟩:=aa (show (evE C a η).bind (kOr (evE C b))=_ from ev)
 obtain ⟨d,h3,h4⟩:=br (show onT (okW u) (evE C b) (u,η1)=_ from h2)
 refine jX A h1 h3 fun Z1 H1 Fs1 A1 s1=>?_
 cases d with
 | false=>rw [if_neg a0t] at h4 ⊢; exact jX A1 h4 ht fun Z2 H2 Fs2 A2 s2=>k Z2 H2 Fs2 A2 (s1.trans s2)
 | true =>
  rw [if_pos rfl] at h4 ⊢
  cases h4
  cases (h3.symm.trans ht)
  exact k Z1 H1 Fs1 A1 s1
theorem wx {c a b:E}(σ:L2.St)(H:Hp)(Q:VK)(h:wE K sf C (.ifx c a b) σ H Q):tIf (wT K sf C c) (wE K sf C a) (wE K sf C b) σ H Q:=by
 obtain ⟨pv,Z,Fs,η,w,η',A,ev,k⟩:=h
 obtain ⟨⟨u,η1⟩,h1,h2⟩:=aa (show (evE C c η).bind (onT (evE C a) (evE C b))=_ from ev)
 obtain ⟨d,h3,h4⟩:=br h2
 refine jX A h1 h3 fun Z1 H1 Fs1 A1 s1=>?_
 cases d with
 | true=>rw [if_pos rfl] at h4 ⊢; exact ⟨pv,Z1,Fs1,η1,w,η',A1,h4,fun v Z' H' Fs' G B r s=>k v Z' H' Fs' G B r (s1.trans s)⟩
 | false=>rw [if_neg a0t] at h4 ⊢; exact ⟨pv,Z1,Fs1,η1,w,η',A1,h4,fun v Z' H' Fs' G B r s=>k v Z' H' Fs' G B r (s1.trans s)⟩
end
end MR
namespace MR
open L2 L3 M
open PySem (Addr Str sizeLine)
section
variable {K:a0a}{sl:Cf}{sf:Nat->Option Nat}{C:Call}{σ:L2.St}{Z Z' Z1:Fp}{H H' H1:Hp}{Fs Fs' Fs1:Fps}{η η' η1:Env}{G G' R F:Fp}
structure Wk (K:a0a)(J:It)(Z:Fp)(H0:Hp)(ts:List (List W)):Prop where
 go:∀ H i,Stay Z H0 H->i < ts.length->J.go i H
 stop:∀ H i,Stay Z H0 H->ts.length<=i->J.stop i H
 len:ts.length<=LIM
noncomputable def mY (K:a0a)(J:It)(Z:Fp)(H0:Hp)(ts:List (List W)):Prop :=
 ∀ H i x H',Stay Z H0 H->i < ts.length->J.yld i H x H'->H'=H/\∃ w,ts[i]?=some [w]/\Rep K Z H w.1 w.2 x no
noncomputable def Ap (K:a0a)(J:It)(Z:Fp)(H0:Hp)(ts:List (List W)):Prop :=
 ∀ H i x H',Stay Z H0 H->i < ts.length->J.yld i H x H'->∃ p y z u w,x=.ref p/\(∀ b o,H b=some o->H' b=some o)/\SqT K H' p [y,z]/\ts[i]?=some [u,w]/\Rep K Z H u.1 u.2 y no/\Rep K Z H w.1 w.2 z no
theorem nF (same:∀ b o,H b=some o->H' b=some o):Stay Z H H':=by
 refine ⟨fun a o _ e=>same a o e,fun a ys e=>?_,fun a o u e=>same a _ e⟩
 rcases e with e | ⟨u,e⟩
 ·exact .inl (same a _ e)
 ·exact .inr ⟨u,same a _ e⟩
theorem lM (same:∀ a o,H a=some o->H' a=some o):Step Z H G Z H' G:=by
 have al:∀ a,H a≠none->H' a≠none:=fun a h=>by
  cases e:H a with
  | none=>exact absurd e h
  | some o=>rw [same a o e]; simp
 exact ⟨fun a o h _=>same a o h,fun _ h=>h,fun _ h=>.inl h,fun _ h=>.inl h,al,fun z a h=>al a (z a h)⟩
noncomputable def Yld (K:a0a)(J:It)(Z:Fp)(H0:Hp)(ts:List (List W)):Nat->Prop
 | 1=>mY K J Z H0 ts
 | 2=>Ap K J Z H0 ts
 | _=>False
noncomputable def wI (K:a0a)(sl:Nat->Option Nat)(C:Call)(n:Nat)(k:Ik)(src:List E):TI:=fun σ H R=>∃ pv Z Fs η ws η' ts,At K ⟨sl,pv⟩ σ Z H Fs η no/\evL C src η=.ok (ws,η')/\bw k ws=some ts /\
 ∀ J Z' H' Fs',At K ⟨sl,pv⟩ σ Z' H' Fs' η' no->Step Z H (tot Fs) Z' H' (tot Fs')->Wk K J Z' H' ts->Yld K J Z' H' ts n->R J H'
theorem At.freeze (A:At K sl σ Z H Fs η G):At K sl σ (fun a=>Z a\/G a) H Fs η no:=by
 refine ⟨⟨fun a ha=>⟨fun z=>z.elim (A.gd.own a ha).1 fun q=>A.dis a q ha,(A.gd.own a ha).2⟩,A.gd.dis,fun a h=>h.elim (A.gd.zal a) fun q=>?_⟩,fun i m t e=>?_,bc,fun _ z=>z.elim,A.lk,A.ln⟩
 ·obtain ⟨_,xs,e⟩:=A.own a q
  rw [e]; simp
 ·obtain ⟨v,r,h⟩:=A.env i m t e
  exact ⟨v,r.zmono fun a h=>.inl h,h⟩
theorem bx (o:Own Z' H' G)(s:Step Z H F Z' H' (fun a=>F' a\/G a)):Step Z H F (fun a=>Z' a\/G a) H' F' where
 keep:=s.keep
 zm:=fun a h=>.inl (s.zm a h)
 zn:=fun a h=>h.elim (s.zn a) fun q=>.inr (s.fn a (.inr q))
 fn:=fun a h=>s.fn a (.inl h)
 al:=s.al
 za:=fun z a h=>h.elim (s.za z a) fun q=>by
  obtain ⟨_,xs,e⟩:=o a q
  rw [e]; simp
theorem fm {a:Addr}{xs:List V}{H0:Hp}(s:Stay Z H0 H)(hz:Z a)(h:H0 a=some (.lst xs)):SqL K H a xs:=.inl (.inl (s.1 a _ hz h))
theorem oG {a:Addr}{xs:List V}{ts:List T}(hL:xs.length<=LIM)(hz:Z a)(h:H a=some (.lst xs))(r:RepL K Z H .s ts xs no):Wk K (Itl K a) Z H (ts.map fun t=>[(.s,t)])/\mY K (Itl K a) Z H (ts.map fun t=>[(.s,t)]):=by
 have hl:=r.length
 refine ⟨⟨fun H' i s hi=>?_,fun H' i s hi=>?_,by rw [a0b]; omega⟩,fun H' i x H'' s hi y=>?_⟩
 ·rw [a0b] at hi
  exact ⟨xs,xs[i]'(by omega),fm s hz h,by simp⟩
 ·rw [a0b] at hi
  exact ⟨xs,fm s hz h,by omega⟩
 ·rw [a0b] at hi
  obtain ⟨rfl,y⟩:=y
  have hx:=y xs (fm s hz h)
  obtain ⟨x',hx',rx⟩:=r.get (show ts[i]?=some ts[i] by simp)
  rw [hx] at hx'; cases hx'
  refine ⟨rfl,(.s,ts[i]),by rw [a0A,show ts[i]?=some ts[i] by simp]; rfl,rx.keep s (fun _ z=>z) fun _ _ z=>z.elim⟩
theorem uC {a:Addr}{xs:List V}{ts:List T}(hL:xs.length<=LIM)(h:SqT K H a xs)(r:RepL K Z H .s ts xs no):Wk K (Itt K a) Z H (ts.map fun t=>[(.s,t)])/\mY K (Itt K a) Z H (ts.map fun t=>[(.s,t)]):=by
 have hl:=r.length
 refine ⟨⟨fun H' i s hi=>?_,fun H' i s hi=>?_,by rw [a0b]; omega⟩,fun H' i x H'' s hi y=>?_⟩
 ·rw [a0b] at hi
  exact ⟨xs,xs[i]'(by omega),s.sqt h,by simp⟩
 ·rw [a0b] at hi
  exact ⟨xs,s.sqt h,by omega⟩
 ·rw [a0b] at hi
  obtain ⟨rfl,y⟩:=y
  have hx:=y xs (s.sqt h)
  obtain ⟨x',hx',rx⟩:=r.get (show ts[i]?=some ts[i] by simp)
  rw [hx] at hx'; cases hx'
  refine ⟨rfl,(.s,ts[i]),by rw [a0A,show ts[i]?=some ts[i] by simp]; rfl,rx.keep s (fun _ z=>z) fun _ _ z=>z.elim⟩
theorem uc {lo:Int}{n:Nat}(hL:n<=LIM):Wk K (Itr lo n) Z H ((a0X n).map fun (k:Nat)=>[(.d,.int (lo+k))])/\mY K (Itr lo n) Z H ((a0X n).map fun (k:Nat)=>[(.d,.int (lo+k))]):=by
 refine ⟨⟨fun H' i s hi=>by show i < n; simpa using hi,fun H' i s hi=>by show n<=i; simpa using hi,by simpa using hL⟩,fun H' i x H'' s hi y=>?_⟩
 obtain ⟨rfl,rfl⟩:=y
 refine ⟨rfl,(.d,.int (lo+i)),?_,rfl⟩
 rw [a0b,List.length_range] at hi
 rw [a0A,List.getElem?_range hi]
 rfl
theorem ib {a:Addr}{ns:List Int}{H0:Hp}(s:Stay Z H0 H)(h:ScrR K H0 a ns):SqL K H a (ns.map V.int):=(h.keep s.2.2).sq
theorem uQ {a:Addr}{ns:List Int}(hL:ns.length<=LIM)(h:ScrR K H a ns):Wk K (Itl K a) Z H (ns.map fun n=>[(.d,.int n)])/\mY K (Itl K a) Z H (ns.map fun n=>[(.d,.int n)]):=by
 refine ⟨⟨fun H' i s hi=>?_,fun H' i s hi=>?_,by rw [a0b]; exact hL⟩,fun H' i x H'' s hi y=>?_⟩
 ·rw [a0b] at hi
  exact ⟨_,(ns.map V.int)[i]'(by rw [a0b]; exact hi),ib s h,by simp⟩
 ·rw [a0b] at hi
  exact ⟨_,ib s h,by rw [a0b]; exact hi⟩
 ·rw [a0b] at hi
  obtain ⟨rfl,y⟩:=y
  have hx:=y _ (ib s h)
  refine ⟨rfl,(.d,.int ns[i]),by rw [a0A,show ns[i]?=some ns[i] by simp]; rfl,?_⟩
  rw [a0A,show ns[i]?=some ns[i] by simp] at hx
  exact (a0L hx).symm
theorem v7 {e:E}(σ:L2.St)(H:Hp)(R:It->Hp->Prop)(h:wI K sf C 1 .seq [e] σ H R):rC K (wE K sf C e) σ H R\/yU K (wE K sf C e) σ H R:=by
 obtain ⟨pv,Z,Fs,η,ws,η',ts,A,ev,ht,k⟩:=h
 obtain ⟨⟨m,a⟩,η1,us,e1,e2,rfl⟩:=aj ev
 cases e2
 cases a with
 | lst ts' =>
  cases ht
  refine .inl ⟨pv,Z,Fs,η,_,_,A,e1,fun v Z' H' Fs' G B r s=>?_⟩
  obtain ⟨a,xs,rfl,l,q,p⟩:=Rep.sh r
  obtain ⟨w1,w2⟩:=oG l q.1 q.2 p.sany
  exact ⟨a,rfl,⟨xs,.inl (.inl q.2)⟩,k _ _ H' Fs' B.freeze (bx B.own s) w1 w2⟩
 | tup ts' =>
  cases ht
  refine .inr ⟨pv,Z,Fs,η,_,_,A,e1,fun v Z' H' Fs' G B r s=>?_⟩
  obtain ⟨a,xs,rfl,q,l,p⟩:=Rep.sh r
  obtain ⟨w1,w2⟩:=uC l q p.sany
  exact ⟨a,rfl,⟨xs,q⟩,k _ _ H' Fs' B.freeze (bx B.own s) w1 w2⟩
 | scr ns =>
  cases ht
  refine .inl ⟨pv,Z,Fs,η,_,_,A,e1,fun v Z' H' Fs' G B r s=>?_⟩
  obtain ⟨a,rfl,hl,q⟩:=r
  obtain ⟨w1,w2⟩:=uQ (Z:=fun a=>Z' a\/G a) hl q
  exact ⟨a,rfl,⟨_,q.sq⟩,k _ _ H' Fs' B.freeze (bx B.own s) w1 w2⟩
 | _=>cases ht
theorem p62:(2:Int) ^ 62=4611686018427387904:=by decide
theorem n5 {e:E}(σ:L2.St)(H:Hp)(R:It->Hp->Prop)(h:wI K sf C 1 .rng [e] σ H R):rW (wL K sf C [e]) σ H R:=by
 obtain ⟨pv,Z,Fs,η,ws,η',ts,A,ev,ht,k⟩:=h
 refine ⟨pv,Z,Fs,η,ws,η',A,ev,fun vs Z' H' Fs' G B r s=>?_⟩
 obtain ⟨⟨m,a⟩,η1,us,e1,e2,rfl⟩:=aj ev
 cases e2
 obtain ⟨x,rfl,r1⟩:=bY rfl r
 cases a with
 | int n =>
  rw [kW] at ht
  split at ht
  ·rename_i hc
   rw [a0h,decide_eq_true_eq] at hc
   cases ht
   refine ⟨n,by rw [show x=_ from r1],by rw [p62]; omega,by rw [p62]; omega,?_⟩
   obtain ⟨w1,w2⟩:=uc (K:=K) (Z:=fun a=>Z' a\/G a) (H:=H') (lo:=0) (n:=n.toNat) (bX hc.2)
   have hz:∀ k:Nat,(0:Int)+(k:Int)=k:=fun k=>by omega
   simp only [hz] at w1 w2
   exact k _ _ H' Fs' B.freeze (bx B.own s) w1 w2
  ·cases ht
 | _=>cases ht
end
end MR
namespace MR
open L2 L3 M
open PySem (Addr Str sizeLine)
section
variable {K:a0a}{sl:Cf}{sf sg:Nat->Option Nat}{C:Call}{σ σ2:L2.St}{Z Z' Z1:Fp}{H H' H1:Hp}{Fs Fs' Fs1:Fps}{η η' η1:Env}{G G' R F:Fp}{tg is:List Nat}{pv val:Nat->Option V}
theorem aK:∀ (tg:List Nat) (η:Env) (i:Nat),rd (aC tg η) i=if i∈tg then none else rd η i
 | [],η,i=>by simp [aC]
 | t::tg,η,i=>by
  show rd (aC tg (wr η t none)) i=_
  rw [aK tg,aT]
  by_cases h1:i∈tg
  ·simp [h1]
  ·by_cases h2:i=t
   ·subst h2
    rw [if_neg h1,if_pos a0c]
    split
    ·rfl
    ·rename_i hn
     cases e:rd η i with
     | none=>rfl
     | some w=>exact absurd ⟨rfl,cO e⟩ hn
   ·rw [if_neg h1,if_neg (show ¬ i∈t::tg by simp [h1,h2]),if_neg (show ¬ (i=t/\t < η.length) from fun h=>h2 h.1)]
noncomputable def Nn (η η':Env):Prop:=∀ i,rd η i=none->rd η' i=none
theorem Nn.refl (η:Env):Nn η η:=fun _ h=>h
theorem Nn.trans {a b c:Env}(h:Nn a b)(k:Nn b c):Nn a c:=fun i e=>k i (h i e)
theorem fP (η:Env)(j:Nat):Nn η (del η j):=fun i e=>by
 rw [aT]; split
 ·rfl
 ·exact e
theorem il {η:Env}{j:Nat}{w:W}(h:rd η j≠none):Nn η (put η j w):=fun i e=>by
 rw [aT]; split
 ·rename_i hc; rw [<- hc.1] at h; exact absurd e h
 ·exact e
theorem cW:∀ {is:List Nat} {ws:List W} {η0 η:Env},(∀ i∈is,rd η0 i≠none)->Nn η0 η->Nn η0 (putAll is ws η)
 | [],_,_,_,_,h=>h
 | _::_,[],_,_,_,h=>h
 | i::is,w::ws,η0,η,hi,h=>by
  show Nn η0 (putAll is ws (put η i w))
  refine cW (fun j hj=>hi j (a0e _ hj)) fun j e=>?_
  rw [aT]; split
  ·rename_i hc; rw [hc.1] at e; exact absurd e (hi i a0c)
  ·exact h j e
theorem cG {f:Env->Res (Option W×Env)}(hf:∀ {η o η'},f η=.ok (o,η')->Nn η η'):∀ {ts:List (List W)} {η η':Env} {acc ws:List W},(∀ i∈tg,rd η i=none)->b8 tg f ts η acc=.ok (ws,η')->Nn η η'
 | [],η,η',acc,ws,_,h=>by cases h; exact Nn.refl _
 | t::ts,η,η',acc,ws,ht,h=>by
  obtain ⟨η1,h1,h2⟩:=aa (show (ofO (aV tg t η)).bind (fun η1=>(f η1).bind fun p=>b8 tg f ts (aC tg p.2) (acc++p.1.toList))=_ from h)
  obtain ⟨⟨o,η2⟩,h3,h4⟩:=aa h2
  have hb:∀ {tg:List Nat} {t:List W} {η η1:Env},aV tg t η=some η1->∀ i,i ∉ tg->rd η1 i=rd η i:=fun {tg}=>by
   induction tg with
   | nil=>intro t η η1 h i hi; cases t with
    | nil=>cases h; rfl
    | cons _ _=>cases h
   | cons j tg ih=>intro t η η1 h i hi; cases t with
    | nil=>cases h
    | cons w t =>
     have:=ih (show aV tg t (put η j w)=some η1 from h) i (fun z=>hi (a0e _ z))
     rw [this,aT,if_neg fun z=>hi (by rw [z.1]; exact a0c)]
  have e1:=hb (bK h1)
  have hd:∀ i,rd η i=none->rd (aC tg η2) i=none:=fun i e=>by
   rw [aK]
   split
   ·rfl
   ·rename_i hi
    exact hf h3 i (by rw [e1 i hi]; exact e)
  exact Nn.trans (b:=aC tg η2) hd (cG hf (fun i hi=>by rw [aK,if_pos hi]) h4)
theorem At.pin (A:At K ⟨sf,pv⟩ σ Z H Fs η G):∃ val,(∀ i u,pv i=some u->val i=some u)/\At K ⟨sf,val⟩ σ Z H Fs η G/\∀ i m t,rd η i=some (m,t)->val i≠none:=by
 have ch:∀ i,∃ o:Option V,(∀ u,pv i=some u->o=some u)/\(∀ u j,o=some u->sf i=some j->σ[j]?=some (some u))/\∀ m t,rd η i=some (m,t)->∃ v,o=some v/\Rep K Z H m t v (Fs i)/\(∀ j,sf i=some j->σ[j]?=some (some v)):=fun i=>by
  cases e:rd η i with
  | none=>exact ⟨pv i,fun _ h=>h,fun u j h hs=>A.lk i u j h hs,fun _ _ h=>by cases h⟩
  | some w =>
   obtain ⟨m,t⟩:=w
   obtain ⟨v,r,h1,h2⟩:=A.env i m t e
   refine ⟨some v,fun u h=>by rw [h2 u h],fun u j h hs=>?_,fun m' t' h=>by cases h; exact ⟨v,rfl,r,h1⟩⟩
   cases h
   exact h1 j hs
 obtain ⟨val,hval⟩:=Classical.axiomOfChoice ch
 refine ⟨val,fun i u h=>(hval i).1 u h,⟨A.gd,fun i m t e=>?_,A.own,A.dis,fun i u j h hs=>(hval i).2.1 u j h hs,A.ln⟩,fun i m t e=>?_⟩
 ·obtain ⟨v,h1,r,h2⟩:=(hval i).2.2 m t e
  exact ⟨v,r,h2,fun u hu=>by rw [show val i=some u from hu] at h1; cases h1; rfl⟩
 ·obtain ⟨v,h1,r,h2⟩:=(hval i).2.2 m t e
  rw [h1]; simp
theorem At.unpin (h:∀ i u,pv i=some u->val i=some u)(A:At K ⟨sf,val⟩ σ Z H Fs η G):At K ⟨sf,pv⟩ σ Z H Fs η G :=
 ⟨A.gd,fun i m t e=>let ⟨v,r,h1,h2⟩:=A.env i m t e; ⟨v,r,h1,fun u hu=>h2 u (h i u hu)⟩,A.own,A.dis,fun i u j hu hs=>A.lk i u j (h i u hu) hs,A.ln⟩
noncomputable def inV (val:Nat->Option V)(tg:List Nat):Nat->Option V:=fun i=>if i∈tg then none else val i
end
section
variable {C:Call}
theorem dt:∀ (vs:List Nat) (η:Env),Nn η (M.share vs η)
 | [],η=>fun _ e=>e
 | v::vs,η=>Nn.trans (b:=wr η v (toS (rd η v))) (fun i e=>by
   rw [aT]; split
   ·rename_i hc; rw [<- hc.1,e]; rfl
   ·exact e) (dt vs _)
theorem km (m:Md)(vs:List Nat)(η:Env):Nn η (after m vs η):=by
 cases m with
 | d=>exact fun _ e=>e
 | s=>exact dt vs η
 | o _=>exact dt vs η
theorem d9 {α:Type}{tab:List (Str×α)}{f:α->Env->RE}{p:W×Env}{r:W×Env}(h:kTab tab f p=.ok r):∃ x a,p.1.2=.str x/\tab.lookup x=some a/\f a p.2=.ok r:=by
 unfold kTab at h
 split at h
 ·rename_i x hx
  split at h
  ·rename_i a ha; exact ⟨x,a,hx,ha,h⟩
  ·cases h
 ·cases h
theorem fC {neg:Bool}{ks:List Str}{p r:W×Env}(h:kIn neg ks p=.ok r):∃ x,p.1.2=.str x/\r.2=p.2/\r.1=(.d,.bl (ks.contains x != neg)):=by
 unfold kIn at h
 split at h
 ·rename_i x hx; cases h; exact ⟨x,hx,rfl,rfl⟩
 ·cases h
theorem lZ {tab:List (Str×T)}{p r:W×Env}(h:pe tab p=.ok r):∃ x,p.1.2=.str x/\r.2=p.2/\r.1=(.s,(tab.lookup x).getD .non):=by
 unfold pe at h
 split at h
 ·rename_i x hx; cases h; exact ⟨x,hx,rfl,rfl⟩
 ·cases h
mutual
theorem ai:∀ (e:E) {η η':Env} {w:W},evE C e η=.ok (w,η')->Nn η η'
 | .var i,η,η',w,h=>by obtain ⟨_,_,e⟩:=ak (show ret η ((rd η i).bind look)=_ from h); cases e; exact Nn.refl _
 | .mv i,η,η',w,h=>by obtain ⟨_,_,e⟩:=ak (show ret (del η i) (rd η i)=_ from h); cases e; exact fP _ _
 | .io i,η,η',w,h=>by obtain ⟨_,_,e⟩:=ak (show ret (del η i) (rd η i)=_ from h); cases e; exact fP _ _
 | .cst t,η,η',w,h=>by cases h; exact Nn.refl _
 | .glb _ t,η,η',w,h=>by cases h; exact Nn.refl _
 | .tup es,η,η',w,h=>by
  obtain ⟨⟨ws,η1⟩,h1,h2⟩:=aa (show (evL C es η).bind iq=_ from h)
  cases h2; exact cm es h1
 | .lst b es,η,η',w,h=>by
  obtain ⟨⟨ws,η1⟩,h1,h2⟩:=aa (show (evL C es η).bind (l8 b)=_ from h)
  cases h2; exact cm es h1
 | .wk m e,η,η',w,h=>by
  obtain ⟨⟨u,η1⟩,h1,h2⟩:=aa (show (evE C e η).bind (kWk m)=_ from h)
  obtain ⟨_,_,e3⟩:=ak (show ret η1 _=_ from h2)
  cases e3; exact ai e h1
 | .op o b es,η,η',w,h=>by
  obtain ⟨ws,h1,h2⟩:=bj h
  exact cm es h1
 | .and a b,η,η',w,h=>by
  obtain ⟨⟨u,η1⟩,h1,h2⟩:=aa (show (evE C a η).bind (mz (evE C b))=_ from h)
  obtain ⟨d,h3,h4⟩:=br (show onT (evE C b) (okW u) (u,η1)=_ from h2)
  cases d with
  | true=>rw [if_pos rfl] at h4; exact (ai a h1).trans (ai b h4)
  | false=>rw [if_neg a0t] at h4; cases h4; exact ai a h1
 | .or a b,η,η',w,h=>by
  obtain ⟨⟨u,η1⟩,h1,h2⟩:=aa (show (evE C a η).bind (kOr (evE C b))=_ from h)
  obtain ⟨d,h3,h4⟩:=br (show onT (okW u) (evE C b) (u,η1)=_ from h2)
  cases d with
  | false=>rw [if_neg a0t] at h4; exact (ai a h1).trans (ai b h4)
  | true=>rw [if_pos rfl] at h4; cases h4; exact ai a h1
 | .not a,η,η',w,h=>by
  obtain ⟨⟨u,η1⟩,h1,h2⟩:=aa (show (evE C a η).bind ll=_ from h)
  obtain ⟨_,_,e3⟩:=ak (show ret η1 _=_ from h2)
  cases e3; exact ai a h1
 | .ifx c a b,η,η',w,h=>by
  obtain ⟨⟨u,η1⟩,h1,h2⟩:=aa (show (evE C c η).bind (onT (evE C a) (evE C b))=_ from h)
  obtain ⟨d,h3,h4⟩:=br h2
  cases d with
  | true=>rw [if_pos rfl] at h4; exact (ai c h1).trans (ai a h4)
  | false=>rw [if_neg a0t] at h4; exact (ai c h1).trans (ai b h4)
 | .chain o q a b c,η,η',w,h=>by
  obtain ⟨⟨x,η1⟩,h1,h2⟩:=aa (show (evE C a η).bind (kC1 o q (evE C b) (evE C c))=_ from h)
  obtain ⟨⟨y,η2⟩,h3,h4⟩:=aa (show (evE C b η1).bind (kC2 o q (evE C c) x)=_ from h2)
  obtain ⟨⟨k,η3⟩,h5,h6⟩:=aa (show (ret η2 (oSem o false [x,y])).bind (fun k=>onB k.1.2 (iZ (evE C c) (kC3 q y)) (okW (.d,.bl false)) k.2)=_ from h4)
  obtain ⟨k',_,e5⟩:=ak h5
  have e6:η3=η2:=congrArg a2p e5
  have n2:=(ai a h1).trans (ai b h3)
  have h6':onB k.2 (iZ (evE C c) (kC3 q y)) (okW (.d,.bl false)) η2=.ok (w,η'):=by rw [<- e6]; exact h6
  generalize k.2=kk at h6'
  cases kk with
  | bl b =>
   cases b with
   | true =>
    obtain ⟨⟨z,η4⟩,h7,h8⟩:=aa (show (evE C c η2).bind (kC3 q y)=_ from h6')
    obtain ⟨z',_,e8⟩:=ak (show ret η4 (oSem q false [y,z])=_ from h8)
    have e9:η'=η4:=congrArg a2p e8
    rw [e9]
    exact n2.trans (ai c h7)
   | false=>cases h6'; exact n2
  | _=>cases h6'
 | .call f es,η,η',w,h=>by
  obtain ⟨⟨ws,η1⟩,h1,h2⟩:=aa (show (evA C es η).bind (dz C f (ios es))=_ from h)
  obtain ⟨⟨u,us⟩,h3,h4⟩:=aa (show (C f ws).bind (gj (ios es) η1)=_ from h2)
  cases h4
  exact cW (dY es h1) (cR es h1)
 | .comp b k src tg none elt,η,η',w,h=>by
  obtain ⟨⟨ws,η1⟩,h1,h2⟩:=aa (show (evL C src η).bind (dF b k tg (fQ (evE C elt)))=_ from h)
  obtain ⟨⟨ts,η2⟩,h3,h4⟩:=aa (show (ret (aC tg η1) (bw k ws)).bind (fun t=>(b8 tg (fQ (evE C elt)) t.1 t.2 []).bind (gT b))=_ from h2)
  obtain ⟨_,_,e3⟩:=ak h3
  have e4:η2=aC tg η1:=congrArg a2p e3
  subst e4
  obtain ⟨⟨us,η3⟩,h5,h6⟩:=aa (show (b8 tg (fQ (evE C elt)) ts (aC tg η1) []).bind (gT b)=_ from h4)
  obtain ⟨_,_,e6⟩:=ak (show ret η3 _=_ from h6)
  have e7:η'=η3:=congrArg a2p e6
  subst e7
  refine (cm src h1).trans (Nn.trans (b:=aC tg η1) (fun i e=>by rw [aK]; split<;>first | rfl | exact e) (cG (fun {η o η'} hf=>?_) (fun i hi=>by rw [aK,if_pos hi]) h5))
  obtain ⟨⟨u,η4⟩,h7,h8⟩:=aa (show (evE C elt η).bind f9=_ from hf)
  cases h8
  exact ai elt h7
 | .comp b k src tg (some c) elt,η,η',w,h=>by
  obtain ⟨⟨ws,η1⟩,h1,h2⟩:=aa (show (evL C src η).bind (dF b k tg (fO (evE C c) (evE C elt)))=_ from h)
  obtain ⟨⟨ts,η2⟩,h3,h4⟩:=aa (show (ret (aC tg η1) (bw k ws)).bind (fun t=>(b8 tg (fO (evE C c) (evE C elt)) t.1 t.2 []).bind (gT b))=_ from h2)
  obtain ⟨_,_,e3⟩:=ak h3
  have e4:η2=aC tg η1:=congrArg a2p e3
  subst e4
  obtain ⟨⟨us,η3⟩,h5,h6⟩:=aa (show (b8 tg (fO (evE C c) (evE C elt)) ts (aC tg η1) []).bind (gT b)=_ from h4)
  obtain ⟨_,_,e6⟩:=ak (show ret η3 _=_ from h6)
  have e7:η'=η3:=congrArg a2p e6
  subst e7
  refine (cm src h1).trans (Nn.trans (b:=aC tg η1) (fun i e=>by rw [aK]; split<;>first | rfl | exact e) (cG (fun {η o η'} hf=>?_) (fun i hi=>by rw [aK,if_pos hi]) h5))
  obtain ⟨⟨u,η4⟩,h7,h8⟩:=aa (show (evE C c η).bind (onT (fQ (evE C elt)) (okW none))=_ from hf)
  obtain ⟨d,h9,h10⟩:=br h8
  cases d with
  | true =>
   rw [if_pos rfl] at h10
   obtain ⟨⟨u2,η5⟩,h11,h12⟩:=aa (show (evE C elt η4).bind f9=_ from h10)
   cases h12
   exact (ai c h7).trans (ai elt h11)
  | false =>
   rw [if_neg a0t] at h10
   cases h10
   exact ai c h7
 | .pop i es,η,η',w,h=>by
  obtain ⟨_,_,h0⟩:=aa (show (cz (rd η i)).bind (f7 (evL C es) η (kl i))=_ from h)
  obtain ⟨⟨ws,η1⟩,h1,h2⟩:=aa (show (evL C es η).bind (kl i)=_ from h0)
  obtain ⟨r,h3,h4⟩:=aa (show (ofO ((rd η1 i).bind fun w=>eW w ws)).bind (fun r=>.ok (r.1,put η1 i r.2))=_ from h2)
  cases h4
  refine (cm es h1).trans (il ?_)
  have:=bK h3
  intro e; rw [e] at this; cases this
 | .lenV i,η,η',w,h=>by obtain ⟨_,_,e⟩:=ak (show ret η ((rd η i).bind fun w=>oSem .len false [w])=_ from h); cases e; exact Nn.refl _
 | .ixV i j,η,η',w,h=>by obtain ⟨_,_,e⟩:=ak (show ret η (zg (rd η i) (rd η j))=_ from h); cases e; exact Nn.refl _
 | .compV b i t c e,η,η',w,h=>by
  obtain ⟨ts,h1,h2⟩:=aa (show (ofO (vwT (rd η i))).bind (kV1 b i t (fO (evE C c) (evE C e)) η)=_ from h)
  obtain ⟨⟨u,η1⟩,h3,h4⟩:=aa (show ((b8 [t] (fO (evE C c) (evE C e)) (ts.map fun u=>[(.s,u)]) (aC [t] (del η i)) []).bind (gT b)).bind (kV2 i (rd η i))=_ from h2)
  obtain ⟨⟨us,η2⟩,h5,h6⟩:=aa h3
  obtain ⟨_,_,e6⟩:=ak (show ret η2 _=_ from h6)
  cases e6
  cases h4
  have nc:Nn (aC [t] (del η i)) η1:=by
   refine cG (fun {η o η'} hf=>?_) (fun j hj=>by rw [aK,if_pos hj]) h5
   obtain ⟨⟨u,η4⟩,h7,h8⟩:=aa (show (evE C c η).bind (onT (fQ (evE C e)) (okW none))=_ from hf)
   obtain ⟨d,h9,h10⟩:=br h8
   cases d with
   | true =>
    rw [if_pos rfl] at h10
    obtain ⟨⟨u2,η5⟩,h11,h12⟩:=aa (show (evE C e η4).bind f9=_ from h10)
    cases h12
    exact (ai c h7).trans (ai e h11)
   | false =>
    rw [if_neg a0t] at h10
    cases h10
    exact ai c h7
  intro j e
  rw [aT]
  split
  ·rename_i hc
   rw [<- hc.1]; exact e
  ·refine nc j ?_
   rw [aK]
   split
   ·rfl
   ·exact fP η i j e
 | .popN i e,η,η',w,h=>by
  obtain ⟨_,_,h0⟩:=aa (show (cz (rd η i)).bind (kP (evE C e) η (nA i))=_ from h)
  obtain ⟨⟨u,η1⟩,h1,h2⟩:=aa (show (evE C e η).bind (nA i)=_ from h0)
  obtain ⟨r,h3,h4⟩:=aa (show (ofO ((rd η1 i).bind fun w=>qY w u)).bind (fun r=>.ok (r.1,put η1 i r.2))=_ from h2)
  cases h4
  refine (ai e h1).trans (il ?_)
  have:=bK h3
  intro e; rw [e] at this; cases this
 | .tupA es,η,η',w,h=>by
  obtain ⟨⟨ws,η1⟩,h1,h2⟩:=aa (show (evA C es η).bind iq=_ from h)
  cases h2; exact cR es h1
 | .qx vs ls e,η,η',w,h=>by
  obtain ⟨⟨u,η1⟩,h1,h2⟩:=aa (show (evE C e (cL vs ls η)).bind (kX vs η)=_ from h)
  cases h2
  exact km _ vs η
 | .mvP i p,η,η',w,h=>by
  obtain ⟨r,h1,h2⟩:=aa (show (ofO ((rd η i).bind (qW p))).bind (xR i η)=_ from h)
  cases h2
  refine il fun e=>?_
  have:=bK h1
  rw [e] at this; cases this
 | .callT tab k es,η,η',w,h=>by
  obtain ⟨⟨u,η1⟩,h1,h2⟩:=aa (show (evE C k η).bind (kTab tab (kCT C (evA C es) (ios es)))=_ from h)
  obtain ⟨x,j,_,_,h3⟩:=d9 h2
  obtain ⟨⟨ws,η2⟩,h4,h5⟩:=aa (show (evA C es η1).bind (dz C j (ios es))=_ from h3)
  obtain ⟨⟨r,bs⟩,h6,h7⟩:=aa (show (C j ws).bind (gj (ios es) η2)=_ from h5)
  cases h7
  exact (ai k h1).trans (cW (dY es h4) (cR es h4))
 | .inT neg ks e,η,η',w,h=>by
  obtain ⟨⟨u,η1⟩,h1,h2⟩:=aa (show (evE C e η).bind (kIn neg ks)=_ from h)
  obtain ⟨x,_,e2,_⟩:=fC h2
  cases e2; exact ai e h1
 | .ixT tab e,η,η',w,h=>by
  obtain ⟨⟨u,η1⟩,h1,h2⟩:=aa (show (evE C e η).bind (kTab tab okS)=_ from h)
  obtain ⟨x,j,_,_,h3⟩:=d9 h2
  cases h3; exact ai e h1
 | .getT tab e,η,η',w,h=>by
  obtain ⟨⟨u,η1⟩,h1,h2⟩:=aa (show (evE C e η).bind (pe tab)=_ from h)
  obtain ⟨x,_,e2,_⟩:=lZ h2
  cases e2; exact ai e h1
theorem cm:∀ (es:List E) {η η':Env} {ws:List W},evL C es η=.ok (ws,η')->Nn η η'
 | [],η,η',ws,h=>by cases h; exact Nn.refl _
 | e::es,η,η',ws,h=>by
  obtain ⟨w,η1,us,h1,h2,_⟩:=aj h
  exact (ai e h1).trans (cm es h2)
theorem cR:∀ (es:List E) {η η':Env} {ws:List W},evA C es η=.ok (ws,η')->Nn η η'
 | [],η,η',ws,h=>by cases h; exact Nn.refl _
 | e::es,η,η',ws,h=>by
  rcases yt e with ⟨i,hi⟩ | he
  ·subst hi
   obtain ⟨us,η1,w,h1,_,_,h4⟩:=i6 h
   rw [h4]
   exact (cR es h1).trans (fP _ _)
  ·obtain ⟨w,η1,us,h1,h2,_⟩:=dR he h
   exact (ai e h1).trans (cR es h2)
theorem dY:∀ (es:List E) {η η':Env} {ws:List W},evA C es η=.ok (ws,η')->∀ i∈ios es,rd η i≠none
 | [],_,_,_,_,i,hi=>by simp [ios] at hi
 | e::es,η,η',ws,h,i,hi=>by
  rcases yt e with ⟨j,hj⟩ | he
  ·subst hj
   obtain ⟨us,η1,w,h1,h2,_,_⟩:=i6 h
   rcases a0W.mp (show i∈j::ios es from hi) with z | z
   ·subst z
    exact fun z=>by rw [cR es h1 i z] at h2; cases h2
   ·exact dY es h1 i z
  ·obtain ⟨w,η1,us,h1,h2,_⟩:=dR he h
   have hi':i∈ios es:=by
    cases e with
    | io j=>exact absurd rfl (he j)
    | _=>exact hi
   exact fun z=>dY es h2 i hi' (ai e h1 i z)
end
end
section
variable {K:a0a}{sl:Cf}{sf sg:Nat->Option Nat}{C:Call}{σ σ2:L2.St}{Z Z' Z1:Fp}{H H' H1:Hp}{Fs Fs' Fs1:Fps}{η η' η1 ηb:Env}{G G' R F:Fp}{tg is:List Nat}{pv val:Nat->Option V}
noncomputable def j8 (Fs:Fps)(tg:List Nat):Fps:=fun j a=>j ∉ tg/\Fs j a
theorem gB {a:Addr}(h:tot (j8 Fs tg) a):tot Fs a:=let ⟨j,_,h2⟩:=h; ⟨j,h2⟩
end
end MR
namespace MR
open L2 L3 M
open PySem (Addr Str sizeLine)
section
variable {K:a0a}{sf sg:Nat->Option Nat}{C:Call}{tg is:List Nat}
theorem j9 {α:Type}{l:List α}{i:Nat}{a:α}(h:l[i]?=some a):l.drop i=a::l.drop (i+1):=by
 obtain ⟨h1,h2⟩:=a0y.mp h
 rw [List.drop_eq_getElem_cons h1,h2]
end
end MR
namespace MR
open L2 L3 M
open PySem (Addr Str sizeLine)
section
variable {K:a0a}{sl:Cf}{sf sg:Nat->Option Nat}{C:Call}{σ σ2:L2.St}{Z Z' Z1:Fp}{H H' H1:Hp}{Fs Fs' Fs1:Fps}{η η' η1 ηb:Env}{G G' G1 R F:Fp}{tg is:List Nat}{pv val:Nat->Option V}
noncomputable def ip (Fs:Fps)(i:Nat)(G:Fp):Fps:=fun j a=>(j=i/\G a)\/(j≠i/\Fs j a)
theorem aD {i:Nat}{a:Addr}(h:tot (ip Fs i G) a):tot Fs a\/G a:=by
 obtain ⟨j,h | h⟩:=h
 ·exact .inr h.2
 ·exact .inl ⟨j,h.2⟩
theorem At.put {i:Nat}{w:W}{x:V}(A:At K sl σ Z H Fs η G)(r:Rep K Z H w.1 w.2 x G1)(h1:∀ a,G1 a->G a)(h2:∀ a,R a->G a)(hd:∀ a,R a->¬ G1 a)(hl:∀ j,sl.sl i=some j->σ[j]?=some (some x))(hp:∀ u,sl.pv i=some u->x=u) :
  At K sl σ Z H (ip Fs i G1) (M.put η i w) R:=by
 refine ⟨⟨fun a h=>(aD h).elim (A.gd.own a) fun q=>A.own a (h1 a q),fun j k a hj hk=>?_,A.gd.zal⟩,fun j m t e=>?_,fun a h=>A.own a (h2 a h),fun a h q=>(aD q).elim (A.dis a (h2 a h)) (hd a h),A.lk,A.ln⟩
 ·rcases hj with ⟨rfl,hj⟩ | ⟨nj,hj⟩
  ·rcases hk with ⟨rfl,_⟩ | ⟨nk,hk⟩
   ·rfl
   ·exact absurd ⟨k,hk⟩ (A.dis a (h1 a hj))
  ·rcases hk with ⟨rfl,hk⟩ | ⟨nk,hk⟩
   ·exact absurd ⟨j,hj⟩ (A.dis a (h1 a hk))
   ·exact A.gd.dis j k a hj hk
 ·rw [aT] at e
  split at e
  ·rename_i hc
   cases e
   obtain ⟨rfl,_⟩:=hc
   exact ⟨x,r.mono fun a h=>.inl ⟨rfl,h⟩,hl,hp⟩
  ·rename_i hc
   obtain ⟨v,r',h'⟩:=A.env j m t e
   by_cases hj:j=i
   ·subst hj
    exact absurd ⟨rfl,cO e⟩ hc
   ·exact ⟨v,r'.mono fun a h=>.inr ⟨hj,h⟩,h'⟩
noncomputable def wA (K:a0a)(sl:Nat->Option Nat)(C:Call)(es:List E):TA:=fun σ H Q=>∃ pv Z Fs η ws η',At K ⟨sl,pv⟩ σ Z H Fs η no/\evA C es η=.ok (ws,η') /\
 ∀ vs Z' H' Fs' G,At K ⟨sl,pv⟩ σ Z' H' Fs' η' G->RepW K Z' H' ws vs G->Step Z H (tot Fs) Z' H' (fun a=>tot Fs' a\/G a)->(∀ (k i:Nat) (u:V),es[k]?=some (.io i)->pv i=some u->vs[k]?=some u)->Q vs H'
theorem vF (σ:L2.St)(H:Hp)(Q:List V->Hp->Prop)(h:wA K sf C [] σ H Q):sD σ H Q:=by
 obtain ⟨pv,Z,Fs,η,ws,η',A,ev,k⟩:=h
 cases ev
 exact k [] Z H Fs no A rfl ((Step.refl _ _ _).mono (fun _ z=>z) fun a ha=>ha.elim id fun z=>z.elim) fun k i u h _=>by simp at h
theorem zB {es:List E}{ws:List W}{Q:List V->Hp->Prop}(A:At K sl σ Z H Fs η R)(ev:evA C es η=.ok (ws,η'))
  (k:∀ vs Z' H' Fs' G,At K sl σ Z' H' Fs' η' (fun c=>R c\/G c)->RepW K Z' H' ws vs G->(∀ c,R c->¬ G c)->Step Z H (tot Fs) Z' H' (fun a=>tot Fs' a\/G a) ->
   Step Z H (fun c=>tot Fs c\/R c) Z' H' (fun c=>tot Fs' c\/(R c\/G c))->(∀ (k i:Nat) (u:V),es[k]?=some (.io i)->sl.pv i=some u->vs[k]?=some u)->Q vs H'):wA K sl.sl C es σ H Q :=
 ⟨sl.pv,Z,Fs,η,ws,η',A.bare,ev,fun v Z' H' Fs' G B r s hio=>by
  obtain ⟨h1,h2,h3⟩:=A.frame B s
  exact k v Z' H' Fs' G h1 r h3 s h2 hio⟩
theorem l9 {e:E}{es:List E}(he:∀ i,e≠.io i)(σ:L2.St)(H:Hp)(Q:List V->Hp->Prop)(h:wA K sf C (e::es) σ H Q):mi (wE K sf C e) (wA K sf C es) σ H Q:=by
 obtain ⟨pv,Z,Fs,η,ws,η',A,ev,k⟩:=h
 obtain ⟨w,η1,us,h1,h2,rfl⟩:=dR he ev
 refine gc A h1 fun x Z1 H1 Fs1 G1 A1 r1 _ s1 _=>?_
 have A1':=A1.mono (G':=G1) fun _ z=>.inr z
 refine zB A1' h2 fun xs Z2 H2 Fs2 G2 A2 r2 d2 s2 t2 hio=>?_
 refine k (x::xs) Z2 H2 Fs2 _ A2 ⟨x,xs,G1,G2,rfl,fun _ z=>.inl z,fun _ z=>.inr z,d2,r1.frame A1.gd.own s2 A1'.dis,r2⟩ (s1.trans t2) fun k i u h hu=>?_
 cases k with
 | zero=>exact absurd (a0L h) (he i)
 | succ k=>exact hio k i u h hu
noncomputable def atV (io:List Nat)(vs:List V):List V:=io.filterMap fun i=>vs[i]?
noncomputable def spC (K:a0a)(C:Call)(f:Nat)(io:List Nat):List V->Hp->VK->Prop:=fun vs H Q=>∃ Z ws G w bs,RepW K Z H ws vs G/\Own Z H G/\(∀ a,Z a->H a≠none)/\C f ws=.ok (w,bs) /\
 ∀ v Z' H' G1 G2,Rep K Z' H' w.1 w.2 v G1->RepW K Z' H' bs (atV io vs) G2->(∀ a,G1 a->¬ G2 a)->Own Z' H' (fun a=>G1 a\/G2 a)->Step Z H G Z' H' (fun a=>G1 a\/G2 a)->Q v H'
noncomputable def dJ:List E->Nat->List Nat
 | [],_=>[]
 | .io _::es,n=>n::dJ es (n+1)
 | _::es,n=>dJ es (n+1)
theorem rK {vs:List V}:∀ {es:List E} {n:Nat},(∀ (k i:Nat) (u:V),es[k]?=some (.io i)->pv i=some u->vs[n+k]?=some u)->(∀ i∈ios es,pv i≠none)->(ios es).filterMap pv=atV (dJ es n) vs
 | [],_,_,_=>rfl
 | e::es,n,h,hv=>by
  have rest:(∀ i∈ios es,pv i≠none)->(ios es).filterMap pv=atV (dJ es (n+1)) vs:=fun q=>rK (fun k i u hk hu=>by have:=h (k+1) i u hk hu; rw [show n+(k+1)=n+1+k by omega] at this; exact this) q
  cases e with
  | io i =>
   cases hu:pv i with
   | none=>exact absurd hu (hv i (by simp [ios]))
   | some u =>
    have h0:=h 0 i u rfl hu
    rw [Nat.add_zero] at h0
    show (i::ios es).filterMap pv=(n::dJ es (n+1)).filterMap fun i=>vs[i]?
    rw [a0U,a0U,hu,h0]
    exact congrArg (u::·) (rest fun j hj=>hv j (by simp [ios,hj]))
  | _=>exact rest fun j hj=>hv j hj
theorem At.putAll:∀ {is:List Nat} {bs:List W} {Fs:Fps} {η:Env} {G2:Fp},At K ⟨sf,val⟩ σ Z H Fs η (fun a=>R a\/G2 a)->(∀ a,R a->¬ G2 a)->RepW K Z H bs (is.filterMap val) G2->(∀ i∈is,val i≠none)->∃ Fs',At K ⟨sf,val⟩ σ Z H Fs' (M.putAll is bs η) R/\∀ a,tot Fs' a->tot Fs a\/G2 a
 | [],bs,Fs,η,G2,A,_,_,_=>⟨Fs,A.mono fun _ z=>.inl z,fun _ z=>.inl z⟩
 | i::is,[],Fs,η,G2,A,_,_,_=>⟨Fs,A.mono fun _ z=>.inl z,fun _ z=>.inl z⟩
 | i::is,b::bs,Fs,η,G2,A,hd,r,hv=>by
  cases hu:val i with
  | none=>exact absurd hu (hv i a0c)
  | some u =>
   rw [a0U,hu] at r
   obtain ⟨x,r',A1,A2,e,a1,a2,ad,p,q⟩:=r
   cases e
   have B:=At.put (i:=i) (R:=fun a=>R a\/A2 a) (G1:=A1) A p (fun a h=>.inr (a1 a h)) (fun a h=>h.imp id (a2 a)) (fun a h q=>h.elim (fun z=>hd a z (a1 a q)) fun z=>ad a q z) (fun j hj=>A.lk i u j hu hj) (fun u' hu'=>by rw [show val i=some u' from hu'] at hu; cases hu; rfl)
   obtain ⟨Fs',B1,B2⟩:=At.putAll (is:=is) (bs:=bs) B (fun a h q=>hd a h (a2 a q)) q fun j hj=>hv j (a0e _ hj)
   exact ⟨Fs',B1,fun a h=>(B2 a h).elim (fun z=>(aD z).imp id (a1 a)) fun z=>.inr (a2 a z)⟩
theorem qA {f:Nat}{es:List E}{io:List Nat}(hio:dJ es 0=io\/ios es=[])(σ:L2.St)(H:Hp)(Q:VK)(h:wE K sf C (.call f es) σ H Q):wA K sf C es σ H fun vs H1=>spC K C f io vs H1 Q:=by
 obtain ⟨pv,Z,Fs,η,w,η',A,ev,k⟩:=h
 obtain ⟨⟨ws,η1⟩,h1,h2⟩:=aa (show (evA C es η).bind (dz C f (ios es))=_ from ev)
 obtain ⟨⟨u,bs⟩,h3,h4⟩:=aa (show (C f ws).bind (gj (ios es) η1)=_ from h2)
 cases h4
 obtain ⟨val,v1,A2,v2⟩:=A.pin
 have hvn:∀ i∈ios es,val i≠none:=fun i hi=>by
  cases e:rd η i with
  | none=>exact absurd e (dY es h1 i hi)
  | some q=>exact v2 i q.1 q.2 e
 refine ⟨val,Z,Fs,η,ws,η1,A2,h1,fun vs Z1 H1 Fs1 G B r s hv=>?_⟩
 refine ⟨Z1,ws,G,u,bs,r,B.own,B.gd.zal,h3,fun v Z2 H2 G1 G2 r1 r2 d o st=>?_⟩
 obtain ⟨B2,s2⟩:=B.op o st
 have fin:∃ Fs',At K ⟨sf,val⟩ σ Z2 H2 Fs' (M.putAll (ios es) bs η1) G1/\∀ a,tot Fs' a->tot Fs1 a\/G2 a:=by
  rcases hio with e | e
  ·have e2:=rK (pv:=val) (es:=es) (n:=0) (vs:=vs) (fun k i u' hk hu=>by rw [a1v]; exact hv k i u' hk hu) hvn
   rw [e] at e2
   rw [<- e2] at r2
   exact At.putAll B2 d r2 hvn
  ·rw [e]
   exact ⟨Fs1,B2.mono fun _ z=>.inl z,fun _ z=>.inl z⟩
 obtain ⟨Fs',B3,hF⟩:=fin
 refine k v Z2 H2 Fs' G1 (B3.unpin v1) r1 ((s.trans s2).mono (fun _ z=>z) fun a ha=>?_)
 rcases ha with z | z
 ·exact (hF a z).imp id .inr
 ·exact .inr (.inl z)
end
end MR
namespace MR
open L2 L3 M
open PySem (Addr Str sizeLine)
section
variable {K:a0a}{sl:Cf}{sf sg:Nat->Option Nat}{C:Call}{σ σ2:L2.St}{Z Z' Z1:Fp}{H H' H1:Hp}{Fs Fs' Fs1:Fps}{η η' η1 ηb:Env}{G G' G1 R F F':Fp}{tg is vs ls:List Nat}{pv val:Nat->Option V}
theorem mU (o:Option W):toS (toS o)=toS o:=by
 cases o with
 | none=>rfl
 | some w=>rfl
theorem gN:∀ (vs:List Nat) (η:Env) (i:Nat),rd (share vs η) i=if i∈vs then toS (rd η i) else rd η i
 | [],η,i=>by simp [share]
 | v::vs,η,i=>by
  show rd (share vs (wr η v (toS (rd η v)))) i=_
  rw [gN vs,aT]
  by_cases h2:i=v
  ·subst h2
   rw [if_pos (show i∈i::vs from a0c)]
   by_cases hl:i < η.length
   ·rw [if_pos (show i=i/\i < η.length from ⟨rfl,hl⟩)]
    split
    ·exact mU _
    ·rfl
   ·have e:rd η i=none:=by
     cases e:rd η i with
     | none=>rfl
     | some w=>exact absurd (cO e) hl
    rw [if_neg (show ¬ (i=i/\i < η.length) from fun h=>hl h.2),e]
    split<;>rfl
  ·rw [if_neg (show ¬ (i=v/\v < η.length) from fun h=>h2 h.1)]
   by_cases h1:i∈vs
   ·rw [if_pos h1,if_pos (a0e _ h1)]
   ·rw [if_neg h1,if_neg (by simp [h1,h2])]
theorem gR:∀ (η:Env) (i:Nat),rd (dH η) i=none
 | [],_=>rfl
 | _::_,0=>rfl
 | _::η,i+1=>gR η i
theorem i5:∀ (vs:List Nat) (η0 η:Env) (i:Nat) (w:W),rd (ik vs η0 η) i=some w->rd η i=some w\/(i∈vs/\toS (rd η0 i)=some w)
 | [],_,_,_,_,h=>.inl h
 | v::vs,η0,η,i,w,h=>by
  rcases i5 vs η0 (wr η v (toS (rd η0 v))) i w h with e | e
  ·rw [aT] at e
   split at e
   ·rename_i hc; obtain ⟨rfl,_⟩:=hc; exact .inr ⟨a0c,e⟩
   ·exact .inl e
  ·exact .inr ⟨a0e _ e.1,e.2⟩
theorem fV:∀ (vs:List Nat) (η0 η:Env) (i:Nat) (w:W),rd (dN vs η0 η) i=some w->rd η i=some w\/lfO (rd η0 i)=some w
 | [],_,_,_,_,h=>.inl h
 | v::vs,η0,η,i,w,h=>by
  rcases fV vs η0 (wr η v (lfO (rd η0 v))) i w h with e | e
  ·rw [aT] at e
   split at e
   ·rename_i hc; obtain ⟨rfl,_⟩:=hc; exact .inr e
   ·exact .inl e
  ·exact .inr e
theorem qu {i:Nat}{w:W}(h:rd (cL vs ls η) i=some w):∃ m t,rd η i=some (m,t)/\((i∈vs/\w=(.s,t))\/(t.leaf=true/\w=(.d,t))):=by
 rcases fV ls η _ i w h with e | e
 ·rcases i5 vs η _ i w e with e | ⟨hi,e⟩
  ·rw [gR] at e; cases e
  ·cases q:rd η i with
   | none=>rw [q] at e; cases e
   | some u=>rw [q] at e; cases e; exact ⟨u.1,u.2,rfl,.inl ⟨hi,rfl⟩⟩
 ·cases q:rd η i with
  | none=>rw [q] at e; cases e
  | some u =>
   rw [q] at e
   obtain ⟨m,t⟩:=u
   have e':(if t.leaf=true then some ((.d,t):W) else none)=some w:=e
   split at e'
   ·rename_i hl; cases e'; exact ⟨m,t,rfl,.inr ⟨hl,rfl⟩⟩
   ·cases e'
noncomputable def bG (Fs:Fps)(vs:List Nat):Fp:=fun a=>∃ i,i∈vs/\Fs i a
noncomputable def lQ:Fps:=fun _ _=>False
theorem bF {a:Addr}(h:bG Fs vs a):tot Fs a:=let ⟨i,_,h⟩:=h; ⟨i,h⟩
theorem fw {a:Addr}(h:tot lQ a):False:=let ⟨_,h⟩:=h; h
theorem At.quiet (A:At K sl σ Z H Fs η no):At K sl σ (fun a=>Z a\/bG Fs vs a) H lQ (cL vs ls η) no:=by
 refine ⟨⟨fun a h=>(fw h).elim,fun _ _ _ h=>h.elim,fun a h=>h.elim (A.gd.zal a) fun q=>?_⟩,fun i m t e=>?_,bc,fun _ z=>z.elim,A.lk,A.ln⟩
 ·obtain ⟨_,xs,e⟩:=A.gd.own a (bF q)
  rw [e]; simp
 ·obtain ⟨m',t',e1,e2⟩:=qu e
  obtain ⟨v,r,h⟩:=A.env i m' t' e1
  rcases e2 with ⟨hi,e2⟩ | ⟨hl,e2⟩
  ·cases e2
   exact ⟨v,(r.sh.zmono fun a h=>h.imp id fun q=>⟨i,hi,q⟩).sany,h⟩
  ·cases e2
   exact ⟨v,r.leaf (fun _ _ _ q=>q) hl,h⟩
mutual
theorem Rep.dany:∀ {t:T} {v:V} {G:Fp},Rep K Z H .d t v G->Rep K Z' H .d t v G
 | .non,_,_,h=>h
 | .bl _,_,_,h=>h
 | .int _,_,_,h=>h
 | .str _,_,_,h=>h
 | .scr _,_,_,h=>h
 | .tup ts,_,_,⟨a,xs,e,q,l,r⟩=>⟨a,xs,e,q,l,RepL.dany r⟩
 | .lst ts,_,_,⟨a,xs,e,l,q,r⟩=>⟨a,xs,e,l,q,RepL.dany r⟩
 | .dct _ _,_,_,⟨a,xs,e,l,q,n,hl,r⟩=>⟨a,xs,e,l,q,n,hl,RepL.dany r⟩
 | .ins _ _ _,_,_,h=>absurd rfl h.1
 | .gone,_,_,h=>h
theorem RepL.dany:∀ {ts:List T} {xs:List V} {G:Fp},RepL K Z H .d ts xs G->RepL K Z' H .d ts xs G
 | [],_,_,h=>h
 | t::ts,xs,_,⟨x,r,G1,G2,e,h1,h2,hd,p,q⟩=>⟨x,r,G1,G2,e,h1,h2,hd,Rep.dany p,RepL.dany q⟩
end
theorem cf (A:At K sl σ Z H Fs η no)(B:Own Z' H' G)(zal:∀ a,Z' a->H' a≠none)(s:Step (fun a=>Z a\/bG Fs vs a) H F Z' H' (fun a=>F' a\/G a))(hF:∀ a,¬ F a) :
  At K sl σ (fun a=>Z' a/\¬ bG Fs vs a) H' Fs η G/\Step Z H (tot Fs) (fun a=>Z' a/\¬ bG Fs vs a) H' (fun a=>tot Fs a\/G a):=by
 have keep:∀ a o,H a=some o->H' a=some o:=fun a o e=>s.keep a o e (hF a)
 have zz:∀ a,Z a->Z' a/\¬ bG Fs vs a:=fun a h=>⟨s.zm a (.inl h),fun q=>(A.gd.own a (bF q)).1 h⟩
 have nz:∀ a,tot Fs a->¬ (Z' a/\¬ bG Fs vs a):=fun a h q=>by
  obtain ⟨nz,xs,e⟩:=A.gd.own a h
  rcases s.zn a q.1 with z | z | z
  ·exact z.elim nz q.2
  ·exact hF a z
  ·rw [e] at z; cases z
 have gd:∀ a,G a->¬ tot Fs a:=fun a h q=>by
  obtain ⟨_,xs,e⟩:=A.gd.own a q
  rcases s.fn a (.inr h) with z | z
  ·exact hF a z
  ·rw [e] at z; cases z
 refine ⟨⟨⟨fun a h=>?_,A.gd.dis,fun a h=>zal a h.1⟩,fun i m t e=>?_,fun a h=>⟨fun q=>(B a h).1 q.1,(B a h).2⟩,gd,A.lk,A.ln⟩,⟨fun a o e _=>keep a o e,zz,fun a h=>?_,fun a h=>?_,s.al,fun _ a h=>zal a h.1⟩⟩
 ·obtain ⟨_,xs,e⟩:=A.gd.own a h
  exact ⟨nz a h,xs,keep a _ e⟩
 ·obtain ⟨v,r,h⟩:=A.env i m t e
  refine ⟨v,r.keep ⟨fun a o _ e=>keep a o e,fun a xs e=>?_,fun a o u e=>keep a _ e⟩ zz fun a o _ e=>keep a o e,h⟩
  rcases e with e | ⟨u,e⟩
  ·exact .inl (keep a _ e)
  ·exact .inr ⟨u,keep a _ e⟩
 ·rcases s.zn a h.1 with z | z | z
  ·exact z.elim .inl fun q=>absurd q h.2
  ·exact (hF a z).elim
  ·exact .inr (.inr z)
 ·rcases h with h | h
  ·exact .inl h
  ·exact (s.fn a (.inr h)).elim (fun z=>(hF a z).elim) .inr
theorem At.share (A:At K sl σ Z H Fs η G):At K sl σ (fun a=>Z a\/bG Fs vs a) H (j8 Fs vs) (M.share vs η) G/\∀ {Z0 H0 F0},Step Z0 H0 F0 Z H (fun a=>tot Fs a\/G a)->Step Z0 H0 F0 (fun a=>Z a\/bG Fs vs a) H (fun a=>tot (j8 Fs vs) a\/G a):=by
 refine ⟨⟨⟨fun a h=>?_,fun i j a h1 h2=>A.gd.dis i j a h1.2 h2.2,fun a h=>h.elim (A.gd.zal a) fun q=>?_⟩,fun i m t e=>?_,fun a h=>⟨fun z=>z.elim (A.own a h).1 fun q=>A.dis a h (bF q),(A.own a h).2⟩,fun a h q=>A.dis a h (gB q),A.lk,A.ln⟩,fun {Z0 H0 F0} s=>⟨s.keep,fun a h=>.inl (s.zm a h),fun a h=>h.elim (s.zn a) fun q=>.inr (s.fn a (.inl (bF q))),fun a h=>s.fn a (h.imp gB id),s.al,fun z a h=>h.elim (s.za z a) fun q=>?_⟩⟩
 ·obtain ⟨i,hi,h'⟩:=h
  obtain ⟨nz,xs,e⟩:=A.gd.own a ⟨i,h'⟩
  exact ⟨fun z=>z.elim nz fun ⟨j,hj,q⟩=>hi (A.gd.dis i j a h' q ▸ hj),xs,e⟩
 ·obtain ⟨_,xs,e⟩:=A.gd.own a (bF q)
  rw [e]; simp
 ·rw [gN] at e
  split at e
  ·rename_i hi
   cases q:rd η i with
   | none=>rw [q] at e; cases e
   | some u =>
    rw [q] at e; cases e
    obtain ⟨v,r,h⟩:=A.env i u.1 u.2 q
    exact ⟨v,(r.sh.zmono fun a h=>h.imp id fun q=>⟨i,hi,q⟩).sany,h⟩
  ·rename_i hi
   obtain ⟨v,r,h⟩:=A.env i m t e
   exact ⟨v,(r.zmono fun a h=>.inl h).mono fun a h=>⟨hi,h⟩,h⟩
 ·obtain ⟨_,xs,e⟩:=A.gd.own a (bF q)
  rw [e]; simp
theorem lS {x:X}{e:E}{w:W}{Q:VK}(A:At K sl σ Z H Fs η no)(ev:evX C x e η=.ok (w,η'))(k:∀ v Z' H' Fs' G,At K sl σ Z' H' Fs' η' G->Rep K Z' H' w.1 w.2 v G->Step Z H (tot Fs) Z' H' (fun a=>tot Fs' a\/G a)->Q v H'):wE K sl.sl C e σ H Q:=by
 cases x with
 | q vs ls =>
  obtain ⟨⟨u,η2⟩,h1,h2⟩:=aa (show (evE C e (cL vs ls η)).bind (kX vs η)=_ from ev)
  cases h2
  generalize hm0:M.lf u.1 u.2=m0 at k
  refine ⟨sl.pv,_,lQ,_,_,η2,A.quiet (vs:=vs) (ls:=ls),h1,fun v Z' H' Fs' G B r0 s=>?_⟩
  have r:=r0.lf
  rw [hm0] at r
  obtain ⟨B1,s1⟩:=cf A B.own B.gd.zal s fun a h=>fw h
  have other:Q v H'\/m0=.d:=by
   by_cases hd:m0=.d
   ·exact .inr hd
   ·refine .inl ?_
    have e':after m0 vs η=share vs η:=by
     cases hm:m0 with
     | d=>exact absurd hm hd
     | s=>rfl
     | o m=>rfl
    obtain ⟨B2,s2⟩:=B1.share (vs:=vs)
    have zz:∀ a,(Z' a/\¬ bG Fs vs a)\/bG Fs vs a->Z' a:=fun a h=>h.elim a2Y fun q=>s.zm a (.inr q)
    have zz':∀ a,Z' a->(Z' a/\¬ bG Fs vs a)\/bG Fs vs a:=fun a h=>(a3u (bG Fs vs a)).elim .inr fun q=>.inl ⟨h,q⟩
    exact k v _ H' _ G (e' ▸ B2) (r.zmono zz') (s2 s1)
  rcases other with q | hd
  ·exact q
  ·have e':after m0 vs η=η:=by rw [hd]; rfl
   refine k v _ H' Fs G (e'.symm ▸ B1) ?_ s1
   subst hd
   exact r.dany
 | l vs =>
  obtain ⟨B,s0⟩:=A.share (vs:=vs)
  have s1:=s0 ((Step.refl Z H (tot Fs)).mono (F2:=fun a=>tot Fs a\/no a) (fun _ z=>z) fun a h=>h.elim id fun z=>z.elim)
  refine ⟨sl.pv,_,_,_,w,η',B,ev,fun v Z' H' Fs' G B' r s=>k v Z' H' Fs' G B' r ((s1.mono (fun _ z=>z) fun a h=>.inl h).trans s)⟩
theorem zJ {x:X}{e:E}{b:Bool}{Q:Bool->Hp->Prop}(A:At K sl σ Z H Fs η no)(ev:evT C x e η=.ok (b,η'))(k:∀ Z' H' Fs',At K sl σ Z' H' Fs' η' no->Step Z H (tot Fs) Z' H' (tot Fs')->Q b H'):wT K sl.sl C e σ H Q:=by
 cases x with
 | q vs ls =>
  obtain ⟨⟨u,η2⟩,h1,h2⟩:=aa (show (evE C e (cL vs ls η)).bind (kT η)=_ from ev)
  obtain ⟨b',h3,e3⟩:=ak (show ret η (truth u.2)=_ from h2)
  cases e3
  refine ⟨sl.pv,_,lQ,_,u,η2,b,A.quiet (vs:=vs) (ls:=ls),h1,h3,fun Z' H' Fs' B s=>?_⟩
  obtain ⟨B1,s1⟩:=cf (G:=no) A bc B.gd.zal (s.mono (F2:=fun a=>tot Fs' a\/no a) (fun _ z=>z) fun a h=>h.elim id fun z=>z.elim) fun a h=>fw h
  exact k _ H' Fs B1 (s1.mono (fun _ z=>z) fun a h=>.inl h)
 | l vs =>
  obtain ⟨⟨u,η2⟩,h1,h2⟩:=aa (show (evE C e (M.share vs η)).bind kT2=_ from ev)
  obtain ⟨b',h3,e3⟩:=ak (show ret η2 (truth u.2)=_ from h2)
  cases e3
  obtain ⟨B,s0⟩:=A.share (vs:=vs)
  have s1:=s0 ((Step.refl Z H (tot Fs)).mono (F2:=fun a=>tot Fs a\/no a) (fun _ z=>z) fun a h=>h.elim id fun z=>z.elim)
  exact ⟨sl.pv,_,_,_,u,_,b,B,h1,h3,fun Z' H' Fs' B' s=>k Z' H' Fs' B' ((s1.mono (fun _ z=>z) fun a h=>.inl h).trans s)⟩
end
end MR
namespace MR
open L2 L3 M
open PySem (Addr Str sizeLine)
section
variable {K:a0a}{Wx:L2.St->VK}{sl:Cf}{sf sg:Nat->Option Nat}{C:Call}{σ σ2:L2.St}{Z Z' Z1:Fp}{H H' H1:Hp}{Fs Fs' Fs1:Fps}{η η' η1 ηb:Env}{G G' G1 R F F':Fp}{tg is vs ls io:List Nat}{pv val:Nat->Option V}{D:bp}
noncomputable def Fin (K:a0a)(Wx:L2.St->VK)(sl:Cf)(Z:Fp)(H:Hp)(F:Fp)(D:bp):Fl->Prop
 | .nx η'=>∀ σ' Z' H' Fs',At K sl σ' Z' H' Fs' η' no->Step Z H F Z' H' (tot Fs')->D.nx σ' H'
 | .rt w η'=>∀ v σ' Z' H' Fs' G,At K sl σ' Z' H' Fs' η' G->Rep K Z' H' w.1 w.2 v G->Step Z H F Z' H' (fun a=>tot Fs' a\/G a)->D.rt v H'
 | .bk η'=>∀ σ' Z' H' Fs',At K sl σ' Z' H' Fs' η' no->Step Z H F Z' H' (tot Fs')->D.bk σ' H'
 | .ex t η'=>∀ v σ' Z' H' Fs',At K sl σ' Z' H' Fs' η' no->Rep K Z' H' .s t v no->Step Z H F Z' H' (tot Fs')->Wx σ' v H'
 | _=>False
theorem Fin.step {fl:Fl}(s:Step Z H F Z1 H1 F')(h:Fin K Wx sl Z H F D fl):Fin K Wx sl Z1 H1 F' D fl:=by
 cases fl with
 | nx η=>exact fun σ' Z' H' Fs' A t=>h σ' Z' H' Fs' A (s.trans t)
 | rt w η=>exact fun v σ' Z' H' Fs' G A r t=>h v σ' Z' H' Fs' G A r (s.trans t)
 | bk η=>exact fun σ' Z' H' Fs' A t=>h σ' Z' H' Fs' A (s.trans t)
 | ex t η=>exact fun v σ' Z' H' Fs' A r t=>h v σ' Z' H' Fs' A r (s.trans t)
 | _=>exact h.elim
structure jP (sf:Nat->Option Nat)(io:List Nat)(pv:Nat->Option V):Prop where
 inj:∀ i i' j,sf i=some j->sf i'=some j->i=i'
 io:∀ i,i ∉ io->pv i=none
noncomputable def wS (K:a0a)(Wx:L2.St->VK)(sf:Nat->Option Nat)(io:List Nat)(C:Call)(st:S):TS:=fun D σ H=>∃ pv Z Fs η,jP sf io pv/\At K ⟨sf,pv⟩ σ Z H Fs η no/\Fin K Wx ⟨sf,pv⟩ Z H (tot Fs) D (evS C st η)
noncomputable def wSs (K:a0a)(Wx:L2.St->VK)(sf:Nat->Option Nat)(io:List Nat)(C:Call)(st:List S):TS:=fun D σ H=>∃ pv Z Fs η,jP sf io pv/\At K ⟨sf,pv⟩ σ Z H Fs η no/\Fin K Wx ⟨sf,pv⟩ Z H (tot Fs) D (evSs C st η)
theorem pJ (D:bp)(σ:L2.St)(H:Hp)(h:wSs K Wx sf io C [] D σ H):qT D σ H:=by
 obtain ⟨pv,Z,Fs,η,N,A,f⟩:=h
 exact f σ Z H Fs A (Step.refl _ _ _)
theorem mH {s:S}{r:List S}(D:bp)(σ:L2.St)(H:Hp)(h:wSs K Wx sf io C (s::r) D σ H):yV (wS K Wx sf io C s) (wSs K Wx sf io C r) D σ H:=by
 obtain ⟨pv,Z,Fs,η,N,A,f⟩:=h
 refine ⟨pv,Z,Fs,η,N,A,?_⟩
 have f':Fin K Wx ⟨sf,pv⟩ Z H (tot Fs) D (Fl.seq (evS C s η) (evSs C r)):=f
 cases e:evS C s η with
 | nx η1 =>
  rw [e] at f'
  exact fun σ' Z' H' Fs' A' t=>⟨pv,Z',Fs',η1,N,A',f'.step t⟩
 | rt w η1=>rw [e] at f'; exact f'
 | bk η1=>rw [e] at f'; exact f'
 | ex t η1=>rw [e] at f'; exact f'
 | no=>rw [e] at f'; exact f'.elim
theorem fG {s:S}(D:bp)(σ:L2.St)(H:Hp)(h:wSs K Wx sf io C [s] D σ H):wS K Wx sf io C s D σ H:=by
 obtain ⟨pv,Z,Fs,η,N,A,f⟩:=h
 refine ⟨pv,Z,Fs,η,N,A,?_⟩
 have f':Fin K Wx ⟨sf,pv⟩ Z H (tot Fs) D (Fl.seq (evS C s η) (evSs C [])):=f
 cases e:evS C s η with
 | nx η1=>rw [e] at f'; exact f'
 | rt w η1=>rw [e] at f'; exact f'
 | bk η1=>rw [e] at f'; exact f'
 | ex t η1=>rw [e] at f'; exact f'
 | no=>rw [e] at f'; exact f'.elim
theorem bo {α:Type}{r:Res α}{g:α->Fl}(f:Fin K Wx sl Z H F D (Fl.of η r g)):∃ a,r=.ok a/\Fin K Wx sl Z H F D (g a):=by
 cases r with
 | ok a=>exact ⟨a,rfl,f⟩
 | ex t=>exact f.elim
 | no=>exact f.elim
theorem i7 {o:Option Env}(f:Fin K Wx sl Z H F D (nxO η o)):∃ η',o=some η'/\Fin K Wx sl Z H F D (.nx η'):=by
 cases o with
 | some a=>exact ⟨a,rfl,f⟩
 | none=>exact f.elim
theorem At.setR {i j:Nat}{w:W}{x:V}(N:jP sf io pv)(hi:i ∉ io)(hs:sf i=some j)(A:At K ⟨sf,pv⟩ σ Z H Fs η G)(r:Rep K Z H w.1 w.2 x G1)(q1:∀ a,G1 a->G a)(q2:∀ a,R a->G a)(q3:∀ a,R a->¬ G1 a):At K ⟨sf,pv⟩ (σ.set j (some x)) Z H (ip Fs i G1) (M.put η i w) R:=by
 have hj:j < σ.length:=A.ln i j hs
 have B:At K ⟨fun k=>if k=i then none else sf k,pv⟩ (σ.set j (some x)) Z H Fs (M.del η i) G:=by
  refine ⟨A.gd,fun l m t e=>?_,A.own,A.dis,fun l u k hu hk=>?_,fun l k hk=>?_⟩
  ·rw [aT] at e
   split at e
   ·cases e
   ·rename_i hne
    obtain ⟨v,r',h1,h2⟩:=A.env l m t e
    have hl:l≠i:=fun z=>hne ⟨z,by rw [<- z]; exact cO e⟩
    refine ⟨v,r',fun k hk=>?_,h2⟩
    have hk':sf l=some k:=by have:(if l=i then none else sf l)=some k:=hk; rw [if_neg hl] at this; exact this
    have hjk:j≠k:=fun z=>hl (N.inj l i k hk' (by rw [<- z]; exact hs))
    rw [a0T hjk]
    exact h1 k hk'
  ·have hl:l≠i:=fun z=>by
    have hu':pv l=some u:=hu
    rw [z,N.io i hi] at hu'; cases hu'
   have hk':sf l=some k:=by have:(if l=i then none else sf l)=some k:=hk; rw [if_neg hl] at this; exact this
   have hjk:j≠k:=fun z=>hl (N.inj l i k hk' (by rw [<- z]; exact hs))
   rw [a0T hjk]
   exact A.lk l u k hu hk'
  ·have hk':sf l=some k:=by
    have:(if l=i then none else sf l)=some k:=hk
    split at this
    ·cases this
    ·exact this
   rw [a1T]
   exact A.ln l k hk'
 have B2:=At.put (i:=i) (w:=w) (G1:=G1) (R:=R) B r q1 q2 q3 (fun k hk=>by have hk':(if i=i then none else sf i)=some k:=hk; rw [if_pos rfl] at hk'; cases hk') (fun u hu=>by have:=N.io i hi; rw [show pv i=some u from hu] at this; cases this)
 have e1:M.put (M.del η i) i w=M.put η i w:=by
  have:∀ (η:Env) (i:Nat) (a b:Option W),wr (wr η i a) i b=wr η i b:=fun η=>by
   induction η with
   | nil=>intro i a b; rfl
   | cons o η ih=>intro i a b; cases i with
    | zero=>rfl
    | succ i=>show o::wr (wr η i a) i b=o::wr η i b; rw [ih]
  exact this η i none (some w)
 rw [e1] at B2
 refine ⟨B2.gd,fun l m t e=>?_,B2.own,B2.dis,fun l u k hu hk=>?_,fun l k hk=>by rw [a1T]; exact A.ln l k hk⟩
 ·obtain ⟨v,r',h1,h2⟩:=B2.env l m t e
  by_cases hl:l=i
  ·subst hl
   rw [aT] at e
   split at e
   ·cases e
    refine ⟨x,r.mono fun a h=>.inl ⟨rfl,h⟩,fun k hk=>?_,fun u hu=>by have:=N.io l hi; rw [show pv l=some u from hu] at this; cases this⟩
    have:k=j:=by rw [show sf l=some k from hk] at hs; cases hs; rfl
    subst this
    rw [a02 hj]
   ·rename_i hc
    exact absurd ⟨rfl,cO e⟩ hc
  ·refine ⟨v,r',fun k hk=>h1 k ?_,h2⟩
   show (if l=i then none else sf l)=some k
   rw [if_neg hl]; exact hk
 ·by_cases hl:l=i
  ·subst hl
   have:=N.io l hi
   rw [show pv l=some u from hu] at this; cases this
  ·exact B2.lk l u k hu (show (if l=i then none else sf l)=some k by rw [if_neg hl]; exact hk)
theorem At.set {i j:Nat}{w:W}{x:V}(N:jP sf io pv)(hi:i ∉ io)(hs:sf i=some j)(A:At K ⟨sf,pv⟩ σ Z H Fs η G)(r:Rep K Z H w.1 w.2 x G):At K ⟨sf,pv⟩ (σ.set j (some x)) Z H (ip Fs i G) (M.put η i w) no:=At.setR N hi hs A r (fun _ h=>h) (fun _ z=>z.elim) (fun _ z=>z.elim)
theorem vw {x:X}{i j:Nat}{e:E}(hi:i ∉ io)(hs:sf i=some j)(D:bp)(σ:L2.St)(H:Hp)(h:wS K Wx sf io C (.asg x i e) D σ H):oP (wE K sf C e) (cc j) D σ H:=by
 obtain ⟨pv,Z,Fs,η,N,A,f⟩:=h
 obtain ⟨⟨w,η1⟩,h1,h2⟩:=bo (show Fin K Wx ⟨sf,pv⟩ Z H (tot Fs) D (Fl.of η (evX C x e η) (qz i)) from f)
 refine lS (sl:=⟨sf,pv⟩) A h1 fun v Z' H' Fs' G B r s=>?_
 exact h2 _ Z' H' _ (At.set N hi hs B r) (s.mono (fun _ z=>z) fun a ha=>aD ha)
theorem tq {e:E}(D:bp)(σ:L2.St)(H:Hp)(h:wS K Wx sf io C (.ret vs e) D σ H):zc (wE K sf C e) D σ H:=by
 obtain ⟨pv,Z,Fs,η,N,A,f⟩:=h
 obtain ⟨⟨w,η1⟩,h1,h2⟩:=bo (show Fin K Wx ⟨sf,pv⟩ Z H (tot Fs) D (Fl.of η (evE C e (M.share vs η)) kRt) from f)
 exact lS (sl:=⟨sf,pv⟩) (x:=.l vs) A h1 fun v Z' H' Fs' G B r s=>h2 v σ Z' H' Fs' G B r s
theorem nJ {x:X}{c:E}{a b:List S}(D:bp)(σ:L2.St)(H:Hp)(h:wS K Wx sf io C (.ite x c a b) D σ H):xC (wT K sf C c) (wSs K Wx sf io C a) (wSs K Wx sf io C b) D σ H:=by
 obtain ⟨pv,Z,Fs,η,N,A,f⟩:=h
 obtain ⟨⟨k,η1⟩,h1,h2⟩:=bo (show Fin K Wx ⟨sf,pv⟩ Z H (tot Fs) D (Fl.of η (evT C x c η) (kIf (evSs C a) (evSs C b))) from f)
 refine zJ (sl:=⟨sf,pv⟩) A h1 fun Z' H' Fs' B s=>?_
 cases k with
 | true=>rw [if_pos rfl]; exact ⟨pv,Z',Fs',η1,N,B,Fin.step s h2⟩
 | false=>rw [if_neg a0t]; exact ⟨pv,Z',Fs',η1,N,B,Fin.step s h2⟩
theorem iJ {m:Md}{ts:List T}{v:V}(hm:m≠.s)(r:Rep K Z H m (.lst ts) v G):∃ a xs,v=.ref a/\xs.length<=LIM/\G a/\H a=some (.lst xs)/\RepL K Z H m.kid ts xs (fun b=>G b/\b≠a):=by
 obtain ⟨a,xs,e,l,q,p⟩:=r
 rw [LstR.own hm] at q
 exact ⟨a,xs,e,l,q.1,q.2,p⟩
theorem iP {i:Nat}{a:Addr}{ts':List T}{xs':List V}{m':Md}(hm:m'≠.s)(A:At K ⟨sf,pv⟩ σ Z H Fs η G){w0:W}(hi:rd η i=some w0)(ha:Fs i a)(hx:∀ j,sf i=some j->σ[j]?=some (some (.ref a)))(hl:xs'.length<=LIM)(hpv:∀ u,pv i=some u->V.ref a=u)
  (hg:∀ b,G' b->(Fs i b\/G b)/\b≠a) (hR:∀ b,R b->(Fs i b\/G b)/\b≠a) (hRG:∀ b,R b->¬ G' b) (p:RepL K (fun b=>Z b\/((Fs i b\/G b)/\b≠a/\¬ G' b/\¬ R b)) H m'.kid ts' xs' G') {Q:Hp->Prop}
  (k:∀ Z' Fs',At K ⟨sf,pv⟩ σ Z' (upd H a (.lst xs')) Fs' (M.put η i (m',.lst ts')) R->Step Z H (fun b=>tot Fs b\/G b) Z' (upd H a (.lst xs')) (fun b=>tot Fs' b\/R b)->(∀ {m t v},Rep K (fun b=>Z b\/((Fs i b\/G b)/\b≠a/\¬ G' b/\¬ R b)) H m t v R->Rep K Z' (upd H a (.lst xs')) m t v R)->Q (upd H a (.lst xs'))):Q (upd H a (.lst xs')):=by
 have hta:tot Fs a:=⟨i,ha⟩
 obtain ⟨nza,ys,hya⟩:=A.gd.own a hta
 have nGa:¬ G a:=fun q=>A.dis a q hta
 have zdef:∀ b,(Z b\/((Fs i b\/G b)/\b≠a/\¬ G' b/\¬ R b))->b≠a:=fun b h z=>by
  subst z
  rcases h with h | h
  ·exact nza h
  ·exact h.2.1 rfl
 have keep:∀ b o,H b=some o->b≠a->upd H a (.lst xs') b=some o:=fun b o e hb=>by rw [ag hb]; exact e
 have neT:∀ b xs,H b=some (.tup xs)->b≠a:=fun b xs e z=>by rw [z,hya] at e; exact nq e.symm
 have neF:∀ b o u,H b=some (.frz o u)->b≠a:=fun b o u e z=>by rw [z,hya] at e; exact ir e.symm
 have stay:∀ {Y:Fp},(∀ b,Y b->b≠a)->Stay Y H (upd H a (.lst xs')):=fun {Y} hY=>⟨fun b o hb e=>keep b o e (hY b hb),fun b xs e=>by
  rcases e with e | ⟨u,e⟩
  ·exact .inl (keep b _ e (neT b xs e))
  ·exact .inr ⟨u,keep b _ e (neF b u _ e)⟩,fun b o u e=>keep b _ e (neF b o u e)⟩
 have al:∀ b,H b≠none->upd H a (.lst xs') b≠none:=fun b h=>by
  by_cases e:b=a
  ·rw [e,ah]; simp
  ·rw [ag e]; exact h
 have zal':∀ b,(Z b\/((Fs i b\/G b)/\b≠a/\¬ G' b/\¬ R b))->H b≠none:=fun b h=>by
  rcases h with h | ⟨h | h,_⟩
  ·exact A.gd.zal b h
  ·obtain ⟨_,zs,e⟩:=A.gd.own b ⟨i,h⟩; rw [e]; simp
  ·obtain ⟨_,zs,e⟩:=A.own b h; rw [e]; simp
 have listAt:∀ b,(tot Fs b\/G b)->∃ zs:OO,upd H a (.lst xs') b=some zs.ho:=fun b h=>by
  by_cases e:b=a
  ·exact ⟨.inl xs',by rw [e,ah]; rfl⟩
  ·rcases h with h | h
   ·obtain ⟨_,zs,q⟩:=A.gd.own b h; exact ⟨zs,by rw [ag e]; exact q⟩
   ·obtain ⟨_,zs,q⟩:=A.own b h; exact ⟨zs,by rw [ag e]; exact q⟩
 have nZ:∀ b,(Fs i b\/G b)->¬ Z b:=fun b h z=>h.elim (fun y=>(A.gd.own b ⟨i,y⟩).1 z) fun y=>(A.own b y).1 z
 have gA:∀ b,tot (ip Fs i fun b=>G' b\/b=a) b->(∃ j,j≠i/\Fs j b)\/G' b\/b=a:=fun b h=>by
  obtain ⟨j,h | h⟩:=h
  ·exact .inr h.2
  ·exact .inl ⟨j,h⟩
 refine k (fun b=>Z b\/((Fs i b\/G b)/\b≠a/\¬ G' b/\¬ R b)) (ip Fs i fun b=>G' b\/b=a) ⟨⟨fun b h=>⟨fun z=>?_,?_⟩,fun j l b hj hk=>?_,fun b h=>al b (zal' b h)⟩,fun l m t e=>?_,fun b h=>⟨fun z=>?_,listAt b ((hR b h).1.imp (fun z=>⟨i,z⟩) id)⟩,fun b h q=>?_,A.lk,A.ln⟩ ⟨fun b o e n=>keep b o e fun z=>n (.inl (z ▸ hta)),fun b h=>.inl h,fun b h=>h.imp id fun q=>.inl (q.1.imp (fun z=>⟨i,z⟩) id),fun b h=>?_,al,fun _ b h=>al b (zal' b h)⟩ fun {m t v} r=>r.keep (stay zdef) (fun _ z=>z) fun b o hb e=>keep b o e (hR b hb).2
 ·rcases gA b h with ⟨j,hj,q⟩ | q | q
  ·rcases z with z | ⟨z | z,_⟩
   ·exact (A.gd.own b ⟨j,q⟩).1 z
   ·exact hj (A.gd.dis j i b q z)
   ·exact A.dis b z ⟨j,q⟩
  ·rcases z with z | z
   ·exact nZ b (hg b q).1 z
   ·exact z.2.2.1 q
  ·exact zdef b z q
 ·rcases gA b h with ⟨j,hj,q⟩ | q | q
  ·exact listAt b (.inl ⟨j,q⟩)
  ·exact listAt b ((hg b q).1.imp (fun z=>⟨i,z⟩) id)
  ·exact ⟨.inl xs',by rw [q,ah]; rfl⟩
 ·have key:∀ {j:Nat},(G' b\/b=a)->Fs j b->j=i:=fun {j} h q=>by
   rcases h with h | h
   ·rcases (hg b h).1 with y | y
    ·exact A.gd.dis j i b q y
    ·exact absurd ⟨j,q⟩ (A.dis b y)
   ·rw [h] at q; exact A.gd.dis j i a q ha
  rcases hj with ⟨rfl,hj⟩ | ⟨nj,hj⟩
  ·rcases hk with ⟨rfl,_⟩ | ⟨nk,hk⟩
   ·rfl
   ·exact absurd (key hj hk) nk
  ·rcases hk with ⟨rfl,hk⟩ | ⟨nk,hk⟩
   ·exact absurd (key hk hj) nj
   ·exact A.gd.dis j l b hj hk
 ·rw [aT] at e
  split at e
  ·rename_i hc
   obtain ⟨rfl,_⟩:=hc
   cases e
   refine ⟨.ref a,⟨a,xs',rfl,hl,(LstR.own hm).mpr ⟨.inl ⟨rfl,.inr rfl⟩,ah⟩,?_⟩,hx,hpv⟩
   exact (p.keep (stay zdef) (fun _ z=>z) fun b o hb e=>keep b o e (hg b hb).2).mono fun b hb=>⟨.inl ⟨rfl,.inl hb⟩,(hg b hb).2⟩
  ·rename_i hc
   have hl':l≠i:=fun z=>hc ⟨z,cO hi⟩
   obtain ⟨v,r,h⟩:=A.env l m t e
   have nea:∀ b,Fs l b->b≠a:=fun b q z=>hl' (A.gd.dis l i a (z ▸ q) ha)
   exact ⟨v,((r.keep (stay fun b hb z=>nza (z ▸ hb)) (fun _ z=>z) fun b o hb e=>keep b o e (nea b hb)).zmono fun b h=>.inl h).mono fun b h=>.inr ⟨hl',h⟩,h⟩
 ·rcases z with z | z
  ·exact nZ b (hR b h).1 z
  ·exact z.2.2.2 h
 ·rcases gA b q with ⟨j,hj,y⟩ | y | y
  ·rcases (hR b h).1 with z | z
   ·exact hj (A.gd.dis j i b y z)
   ·exact A.dis b z ⟨j,y⟩
  ·exact hRG b h y
  ·exact (hR b h).2 y
 ·rcases h with h | h
  ·rcases gA b h with ⟨j,_,q⟩ | q | q
   ·exact .inl (.inl ⟨j,q⟩)
   ·exact .inl ((hg b q).1.imp (fun z=>⟨i,z⟩) id)
   ·exact .inl (.inl (q ▸ hta))
  ·exact .inl ((hR b h).1.imp (fun z=>⟨i,z⟩) id)
theorem change {i:Nat}{a:Addr}{ts':List T}{xs':List V}{m':Md}(hm:m'≠.s)(A:At K ⟨sf,pv⟩ σ Z H Fs η G){w0:W}(hi:rd η i=some w0)(ha:Fs i a)(hx:∀ j,sf i=some j->σ[j]?=some (some (.ref a)))(hl:xs'.length<=LIM)(hpv:∀ u,pv i=some u->V.ref a=u)
  (hg:∀ b,G' b->(Fs i b\/G b)/\b≠a) (p:RepL K (fun b=>Z b\/((Fs i b\/G b)/\b≠a/\¬ G' b)) H m'.kid ts' xs' G') {Q:Hp->Prop}
  (k:∀ Z' Fs',At K ⟨sf,pv⟩ σ Z' (upd H a (.lst xs')) Fs' (M.put η i (m',.lst ts')) no->Step Z H (fun b=>tot Fs b\/G b) Z' (upd H a (.lst xs')) (tot Fs')->Q (upd H a (.lst xs'))):Q (upd H a (.lst xs')) :=
 iP (R:=no) hm A hi ha hx hl hpv hg (fun _ z=>z.elim) (fun _ z=>z.elim) (p.zmono fun b h=>h.imp id fun q=>⟨q.1,q.2.1,q.2.2,fun z=>z⟩) fun Z' Fs' B s _=>k Z' Fs' B (s.mono (fun _ z=>z) fun _ z=>.inl z)
end
end MR
namespace MR
open L2 L3 M
open PySem (Addr Str sizeLine)
section
variable {K:a0a}{Wx:L2.St->VK}{sl:Cf}{sf sg:Nat->Option Nat}{C:Call}{σ σ2:L2.St}{Z Z' Z1:Fp}{H H' H1:Hp}{Fs Fs' Fs1:Fps}{η η' η1 ηb:Env}{G G' G1 R F F':Fp}{tg is vs ls io:List Nat}{pv val:Nat->Option V}{D:bp}
theorem mM {o:Option W}{u:Unit}(h:cz o=.ok u):∃ m ts,o=some (m,.lst ts):=by
 cases o with
 | none=>cases h
 | some w =>
  obtain ⟨m,t⟩:=w
  cases t with
  | lst ts=>exact ⟨m,ts,rfl⟩
  | _=>cases h
theorem At.listAt {i j:Nat}{m:Md}{ts:List T}(hs:sf i=some j)(A:At K ⟨sf,pv⟩ σ Z H Fs η G)(h:rd η i=some (m,.lst ts)):∃ a xs,σ[j]?=some (some (.ref a))/\H a=some (.lst xs):=by
 obtain ⟨v,r,hl,_⟩:=A.env i m _ h
 obtain ⟨a,xs,rfl,hx,_⟩:=bA r
 exact ⟨a,xs,hl j hs,hx⟩
theorem At.ourList {i j:Nat}{a:Addr}{m:Md}{ts:List T}(hs:sf i=some j)(hm:m≠.s)(hj:σ[j]?=some (some (.ref a)))(A:At K ⟨sf,pv⟩ σ Z H Fs η G)(h:rd η i=some (m,.lst ts)) :
  ∃ xs,xs.length<=LIM/\Fs i a/\H a=some (.lst xs)/\RepL K Z H m.kid ts xs (fun b=>Fs i b/\b≠a)/\(∀ u,pv i=some u->V.ref a=u):=by
 obtain ⟨v,r,hl,hp⟩:=A.env i m _ h
 have e:=hl j hs
 rw [hj] at e
 cases e
 obtain ⟨b,xs,e,l,g,hx,p⟩:=iJ hm r
 cases e
 exact ⟨xs,l,g,hx,p,hp⟩
theorem kS {u w r:W}(h:el u w=some r):∃ m ts,u=(m,.lst ts)/\m≠.s/\ts.length < LIM/\r=((m.kid.meet (lf w.1 w.2)).up,.lst (ts++[w.2])):=by
 obtain ⟨m,t⟩:=u
 obtain ⟨n,t'⟩:=w
 cases m with
 | s=>cases h
 | d =>
  cases t with
  | lst ts =>
   have h':(if ts.length < LIM then some ((((Md.d.kid.meet (lf n t')).up,.lst (ts++[t'])):W)) else none)=some r:=h
   split at h'
   ·rename_i hl; cases h'; exact ⟨.d,ts,rfl,by simp,hl,rfl⟩
   ·cases h'
  | _=>cases h
 | o m =>
  cases t with
  | lst ts =>
   have h':(if ts.length < LIM then some (((((Md.o m).kid.meet (lf n t')).up,.lst (ts++[t'])):W)) else none)=some r:=h
   split at h'
   ·rename_i hl; cases h'; exact ⟨.o m,ts,rfl,by simp,hl,rfl⟩
   ·cases h'
  | _=>cases h
theorem l7 {a:Addr}{m:Md}{ts:List T}{xs:List V}{w:W}{y:V}{A0:Fp}(hA:∀ b,A0 b->b≠a)(hG:∀ b,G b->b≠a)(d:∀ b,A0 b->¬ G b)(p:RepL K Z H m ts xs A0)(r:Rep K Z H w.1 w.2 y G) :
  ∃ G',(∀ b,G' b->(A0 b\/G b)/\b≠a)/\RepL K (fun b=>Z b\/((A0 b\/G b)/\b≠a/\¬ G' b)) H (m.meet (lf w.1 w.2)) (ts++[w.2]) (xs++[y]) G':=by
 obtain ⟨G',g1,g2⟩:=gS (G:=fun b=>A0 b\/G b) (fun _ z=>.inl z) (fun _ z=>.inr z) d p (RepL.one r.lf)
 have ne:∀ b,(A0 b\/G b)->b≠a:=fun b h=>h.elim (hA b) (hG b)
 exact ⟨G',fun b h=>⟨g1 b h,ne b (g1 b h)⟩,g2.zmono fun b h=>h.imp id fun q=>⟨q.1,ne b q.1,q.2⟩⟩
theorem sA {x:X}{i j:Nat}{e:E}(hs:sf i=some j)(D:bp)(σ:L2.St)(H:Hp)(h:wS K Wx sf io C (.app x i e) D σ H) :
  ∃ a xs,σ[j]?=some (some (.ref a))/\H a=some (.lst xs)/\wE K sf C e σ H fun y H1=>∃ xs,H1 a=some (.lst xs)/\xs.length < sizeLine/\D.nx σ (upd H1 a (.lst (xs++[y]))):=by
 obtain ⟨pv,Z,Fs,η,N,A,f⟩:=h
 obtain ⟨u,h0,h1⟩:=bo (show Fin K Wx ⟨sf,pv⟩ Z H (tot Fs) D (Fl.of η (cz (rd η i)) (hV (evX C x e) η (kD i))) from f)
 obtain ⟨m0,t0,h00⟩:=mM h0
 obtain ⟨a,xs0,hj,ha⟩:=A.listAt hs h00
 obtain ⟨⟨w,η1⟩,h2,h3⟩:=bo (show Fin K Wx ⟨sf,pv⟩ Z H (tot Fs) D (Fl.of η (evX C x e η) (kD i)) from h1)
 obtain ⟨η2,h4,h5⟩:=i7 (show Fin K Wx ⟨sf,pv⟩ Z H (tot Fs) D (nxO η1 (((rd η1 i).bind fun u=>el u w).map fun u=>M.put η1 i u)) from h3)
 refine ⟨a,xs0,hj,ha,lS (sl:=⟨sf,pv⟩) A h2 fun y Z' H' Fs' G B r s=>?_⟩
 cases e1:rd η1 i with
 | none=>rw [e1] at h4; cases h4
 | some u1 =>
  rw [e1] at h4
  cases e2:el u1 w with
  | none=>rw [show (some u1).bind (fun u=>el u w)=el u1 w from rfl,e2] at h4; cases h4
  | some r1 =>
   rw [show (some u1).bind (fun u=>el u w)=el u1 w from rfl,e2] at h4
   cases h4
   obtain ⟨m,ts,rfl,hm,hlen,rfl⟩:=kS e2
   obtain ⟨xs,hl,hf,hx,p,hpv⟩:=B.ourList hs hm hj e1
   have e3:=p.length
   obtain ⟨G',g1,g2⟩:=l7 (a:=a) (fun b h=>h.2) (fun b h z=>B.dis b h ⟨i,z ▸ hf⟩) (fun b h q=>B.dis b q ⟨i,h.1⟩) p r
   refine ⟨xs,hx,mS hl,?_⟩
   refine change (K:=K) (m':=(m.kid.meet (lf w.1 w.2)).up) (cT _) B e1 hf (fun k hk=>by rw [show sf i=some k from hk] at hs; cases hs; exact hj) (by rw [a0d,e3,a0j]; omega) hpv (fun b h=>⟨(g1 b h).1.imp a2Y id,(g1 b h).2⟩) (ts':=ts++[w.2]) (by rw [dw]; exact g2.zmono fun b h=>h.imp id fun q=>⟨q.1.imp a2Y id,q.2⟩) fun Z2 Fs2 B2 s2=>h5 σ Z2 _ Fs2 B2 (s.trans s2)
theorem RepL.splitA {m:Md}:∀ {ts us:List T} {zs:List V} {G:Fp},RepL K Z H m (ts++us) zs G->∃ xs ys G1 G2,zs=xs++ys/\(∀ a,G1 a->G a)/\(∀ a,G2 a->G a)/\(∀ a,G1 a->¬ G2 a)/\RepL K Z H m ts xs G1/\RepL K Z H m us ys G2
 | [],us,zs,G,h=>⟨[],zs,no,G,rfl,fun _ z=>z.elim,fun _ z=>z,fun _ z=>z.elim,rfl,h⟩
 | t::ts,us,zs,G,⟨x,r,A,B,e,h1,h2,hd,p,q⟩=>by
  obtain ⟨xs,ys,G1,G2,e',g1,g2,d,p1,p2⟩:=RepL.splitA q
  refine ⟨x::xs,ys,fun a=>A a\/G1 a,G2,by rw [e,e']; rfl,fun a h=>h.elim (h1 a) fun z=>h2 a (g1 a z),fun a h=>h2 a (g2 a h),fun a h z=>h.elim (fun y=>hd a y (g2 a z)) fun y=>d a y z,⟨x,xs,A,G1,rfl,fun _ z=>.inl z,fun _ z=>.inr z,fun a h z=>hd a h (g1 a z),p,p1⟩,p2⟩
theorem nH {u:W}{ws:List W}{r:W×W}(h:eW u ws=some r):∃ m ts,u=(m,.lst ts)/\m≠.s/\((ws=[]/\∃ t,ts.getLast?=some t/\r=((m.kid,t),(m,.lst ts.dropLast)))\/(∃ n t us,ws=[(n,.int 0)]/\ts=t::us/\r=((m.kid,t),(m,.lst us)))):=by
 obtain ⟨m,t⟩:=u
 have key:∀ m:Md,m≠.s->eW (m,t) ws=some r->∃ m' ts,(m,t)=(m',.lst ts)/\m'≠.s/\((ws=[]/\∃ t,ts.getLast?=some t/\r=((m'.kid,t),(m',.lst ts.dropLast)))\/(∃ n t us,ws=[(n,.int 0)]/\ts=t::us/\r=((m'.kid,t),(m',.lst us)))):=fun m hm h=>by
  unfold eW at h
  split at h
  ·cases h
  ·rename_i m1 ts1 hq1 hq2 hq3
   cases hq2
   cases e:ts1.getLast? with
   | none=>rw [e] at h; cases h
   | some t=>rw [e] at h; cases h; exact ⟨_,ts1,rfl,hm,.inl ⟨rfl,t,e,rfl⟩⟩
  ·rename_i m1 t1 ts1 n1 hq1 hq2 hq3
   cases hq2
   cases h
   exact ⟨_,_,rfl,hm,.inr ⟨_,_,_,rfl,rfl,rfl⟩⟩
  ·cases h
 cases m with
 | s=>cases h
 | d=>exact key .d (by simp) h
 | o m=>exact key (.o m) (by simp) h
theorem qC {i j:Nat}(hs:sf i=some j)(σ:L2.St)(H:Hp)(Q:VK)(h:wE K sf C (.pop i []) σ H Q):∃ a xs y,σ[j]?=some (some (.ref a))/\H a=some (.lst xs)/\xs[xs.length-1]?=some y/\Q y (upd H a (.lst xs.dropLast)):=by
 obtain ⟨pv,Z,Fs,η,w,η',A,ev,k⟩:=h
 obtain ⟨_,_,h0⟩:=aa (show (cz (rd η i)).bind (f7 (evL C []) η (kl i))=_ from ev)
 obtain ⟨r,h3,h4⟩:=aa (show (ofO ((rd η i).bind fun w=>eW w [])).bind (fun r=>.ok (r.1,M.put η i r.2))=_ from h0)
 cases h4
 have h5:=bK h3
 cases e1:rd η i with
 | none=>rw [e1] at h5; cases h5
 | some u =>
  rw [e1] at h5
  obtain ⟨m,ts,rfl,hm,⟨_,t,ht,rfl⟩ | ⟨n,t,us,e,_⟩⟩:=nH (show eW u []=some r from h5)
  ·obtain ⟨v,r4,l4,p4⟩:=A.env i m _ e1
   obtain ⟨a,xs,rfl,hl,hf,hx,p⟩:=iJ hm r4
   have ets:ts=ts.dropLast++[t]:=by
    have hne:ts≠[]:=fun z=>by rw [z] at ht; cases ht
    have:=a1N hne
    rw [List.getLast?_eq_some_getLast hne] at ht
    cases ht
    exact this.symm
   rw [ets] at p
   obtain ⟨xs1,ys1,G1,G2,rfl,g1,g2,d,p1,p2⟩:=RepL.splitA p
   obtain ⟨y,r',A1,A2,e,a1,_,_,ry,q⟩:=p2
   obtain rfl:r'=[]:=q
   subst e
   have ry':=ry.mono a1
   refine ⟨a,xs1++[y],y,l4 j hs,hx,by simp,?_⟩
   rw [List.dropLast_concat]
   have hl1:xs1.length<=LIM:=by rw [a0d] at hl; omega
   refine iP (K:=K) (G':=G1) (R:=G2) (Q:=fun H'=>Q y H') hm A e1 hf (fun k hk=>l4 k hk) hl1 p4 (fun b h=>⟨.inl (g1 b h).1,(g1 b h).2⟩) (fun b h=>⟨.inl (g2 b h).1,(g2 b h).2⟩) (fun b h z=>d b z h) (ts':=ts.dropLast) (p1.zmono fun b h=>.inl h) fun Z' Fs' B s tr=>?_
   exact k y Z' _ Fs' G2 B (tr (ry'.zmono fun b h=>.inl h)) (s.mono (fun b h=>h.elim id fun z=>z.elim) fun _ z=>z)
  ·cases e
end
end MR
namespace MR
open L2 L3 M
open PySem (Addr Str sizeLine)
section
variable {K:a0a}{Wx:L2.St->VK}{sl:Cf}{sf sg:Nat->Option Nat}{C:Call}{σ σ2:L2.St}{Z Z' Z1:Fp}{H H' H1:Hp}{Fs Fs' Fs1:Fps}{η η' η1 ηb:Env}{G G' G1 R F F':Fp}{tg is vs ls io:List Nat}{pv val:Nat->Option V}{D:bp}
noncomputable def gF (K:a0a):List Nat->TG
 | [j]=>cc j
 | [j,l]=>u5 K 2 (gW (cc j) (gW (cc l) vO))
 | _=>fun _ _ _ _=>False
theorem kA {fl:Fl}{g:Env->Fl}(f:Fin K Wx sl Z H F D (Fl.turn fl g)):(∃ η',fl=.nx η'/\Fin K Wx sl Z H F D (g η'))\/(∃ η',fl=.bk η'/\Fin K Wx sl Z H F D (.nx η'))\/(∃ w η',fl=.rt w η'/\Fin K Wx sl Z H F D (.rt w η'))\/(∃ t η',fl=.ex t η'/\Fin K Wx sl Z H F D (.ex t η')):=by
 cases fl with
 | nx η=>exact .inl ⟨η,rfl,f⟩
 | bk η=>exact .inr (.inl ⟨η,rfl,f⟩)
 | rt w η=>exact .inr (.inr (.inl ⟨w,η,rfl,f⟩))
 | ex t η=>exact .inr (.inr (.inr ⟨t,η,rfl,f⟩))
 | no=>exact f.elim
theorem mq {fl:Fl}{g:Env->Fl}{N:L2.St->Hp->Prop}(f:Fin K Wx sl Z H F D (Fl.turn fl g))(hN:∀ η' σ' Z' H' Fs',fl=.nx η'->Fin K Wx sl Z H F D (g η')->At K sl σ' Z' H' Fs' η' no->Step Z H F Z' H' (tot Fs')->N σ' H'):Fin K Wx sl Z H F { D with nx:=N,ct:=N,bk:=D.nx } fl:=by
 rcases kA f with ⟨η',rfl,f⟩ | ⟨η',rfl,f⟩ | ⟨w,η',rfl,f⟩ | ⟨t,η',rfl,f⟩
 ·exact fun σ' Z' H' Fs' A s=>hN η' σ' Z' H' Fs' rfl f A s
 ·exact f
 ·exact f
 ·exact f
theorem nC {n i:Nat}{J:It}{ts:List (List W)}{ws:List W}{js:List Nat}{x:V}{Q:L2.St->Hp->Prop}(hn:tg.length=n)(nd:tg.Nodup)(N:jP sf io pv)(hio:∀ t∈tg,t ∉ io)(hjs:tg.map sf=js.map some)(hz:∀ a,Z1 a->Z a)(st:Stay Z1 H1 H)(yl:Yld K J Z1 H1 ts n)(A:At K ⟨sf,pv⟩ σ Z H Fs η no)
  (hw:ts[i]?=some ws) (hb:aV tg ws η=some ηb) (y:J.yld i H x H') (k:∀ σ2 H2 Fs2,At K ⟨sf,pv⟩ σ2 Z H2 Fs2 ηb no->Step Z H (tot Fs) Z H2 (tot Fs2)->Q σ2 H2):gF K js x σ H' Q:=by
 have hi:i < ts.length:=(a0y.mp hw).1
 match n,yl with
 | 1,yl =>
  obtain ⟨e0,w,hw',r⟩:=yl H i x H' st hi y
  rw [e0]
  rw [hw] at hw'; cases hw'
  match tg,hn,js,hjs with
  | [t],_,[j],hjs =>
   cases hb
   have hs:sf t=some j:=by simpa using hjs
   exact k _ H _ (At.set N (hio t (by simp)) hs A (r.zmono hz)) ((Step.refl _ _ _).mono (fun _ z=>z) fun a h=>(aD h).elim id fun z=>z.elim)
  | [t],_,[],hjs=>simp at hjs
  | [t],_,_::_::_,hjs=>simp at hjs
 | 2,yl =>
  obtain ⟨p,y1,z1,u,w,rfl,sm,hq,hw',r1,r2⟩:=yl H i x H' st hi y
  rw [hw] at hw'; cases hw'
  match tg,hn,js,hjs with
  | [t,t'],_,[j,j'],hjs =>
   cases hb
   have hs:sf t=some j:=by simp at hjs; exact hjs.1
   have hs':sf t'=some j':=by simp at hjs; exact hjs.2
   have s0:Step Z H no Z H' no:=lM sm
   obtain ⟨A1,s1⟩:=A.op bc s0
   have sn:Stay Z H H':=nF sm
   have r1':Rep K Z H' u.1 u.2 y1 no:=(r1.zmono hz).keep sn (fun _ z=>z) fun _ _ z=>z.elim
   have r2':Rep K Z H' w.1 w.2 z1 no:=(r2.zmono hz).keep sn (fun _ z=>z) fun _ _ z=>z.elim
   have A2:=At.set N (hio t (by simp)) hs A1 r1'
   have A3:=At.set N (hio t' (by simp)) hs' A2 r2'
   refine ⟨p,[y1,z1],rfl,hq,rfl,y1,[z1],rfl,z1,[],rfl,rfl,k _ _ _ A3 (s1.mono (fun a h=>h.elim id fun z=>z.elim) fun a h=>?_)⟩
   rcases aD h with h | h
   ·exact .inl ((aD h).elim id fun z=>z.elim)
   ·exact h.elim
  | [t,t'],_,[],hjs=>simp at hjs
  | [t,t'],_,[_],hjs=>simp at hjs
  | [t,t'],_,_::_::_::_,hjs=>simp at hjs
theorem uA {n:Nat}{k:Ik}{src:List E}{js:List Nat}{body:List S}(hn:tg.length=n)(nd:tg.Nodup)(hio:∀ t∈tg,t ∉ io)(hjs:tg.map sf=js.map some)(D:bp)(σ:L2.St)(H:Hp)(h:wS K Wx sf io C (.forS vs ls k src tg body) D σ H) :
  zd (wI K sf C n k src) (gF K js) (wSs K Wx sf io C body) D σ H:=by
 obtain ⟨pv,Z,Fs,η,N,A,f⟩:=h
 obtain ⟨⟨ws,η2⟩,h1,h2⟩:=bo (show Fin K Wx ⟨sf,pv⟩ Z H (tot Fs) D (Fl.of η (evL C src (cL vs ls η)) (oq vs k tg (evSs C body) η)) from f)
 obtain ⟨⟨ts,η3⟩,h3,h4⟩:=bo (show Fin K Wx ⟨sf,pv⟩ Z H (tot Fs) D (Fl.of η (ret (M.share vs η) (bw k ws)) (iV tg (evSs C body))) from h2)
 obtain ⟨ts',ht,e3⟩:=ak h3
 have e4:ts=ts':=congrArg a3g e3
 have e5:η3=M.share vs η:=congrArg a2p e3
 subst e4 e5
 have h4':Fin K Wx ⟨sf,pv⟩ Z H (tot Fs) D (dA tg (evSs C body) ts (M.share vs η)):=h4
 refine ⟨pv,_,lQ,_,ws,η2,ts,A.quiet (vs:=vs) (ls:=ls),h1,ht,fun J Z1 H1 Fs1 B s wk yl=>?_⟩
 obtain ⟨B1,s1⟩:=cf (G:=no) A bc B.gd.zal (s.mono (F2:=fun a=>tot Fs1 a\/no a) (fun _ z=>z) fun a h=>h.elim id fun z=>z.elim) fun a h=>fw h
 obtain ⟨B2,s2⟩:=B1.share (vs:=vs)
 have s3:=(s2 s1).mono (F2:=tot (j8 Fs vs)) (fun _ z=>z) fun _ z=>.inl z
 have zz:∀ a,Z1 a->((Z1 a/\¬ bG Fs vs a)\/bG Fs vs a):=fun a h=>(a3u (bG Fs vs a)).elim .inr fun q=>.inl ⟨h,q⟩
 refine ⟨fun i m σ' H'=>m=ts.length-i/\i<=ts.length/\∃ Zi Fsi ηi,At K ⟨sf,pv⟩ σ' Zi H' Fsi ηi no/\Step (fun a=>(Z1 a/\¬ bG Fs vs a)\/bG Fs vs a) H1 (tot (j8 Fs vs)) Zi H' (tot Fsi)/\Fin K Wx ⟨sf,pv⟩ Zi H' (tot Fsi) D (dA tg (evSs C body) (ts.drop i) ηi),⟨ts.length,by simp,a1a _,_,_,_,B2,Step.refl _ _ _,h4'.step s3⟩,?_⟩
 rintro i m σi H0 ⟨rfl,hi,Zi,Fsi,ηi,Ai,si,fi⟩
 have st:Stay Z1 H1 H0:=by
  have:=B2.gd.own.stay si
  exact ⟨fun a o h=>this.1 a o (zz a h),this.2⟩
 by_cases hlt:i < ts.length
 ·right
  refine ⟨wk.go H0 i st hlt,_,fun σ' H' hw=>⟨ts.length-(i+1),by omega,hw⟩,fun x H' y=>?_⟩
  have hw:ts[i]?=some ts[i]:=by simp [hlt]
  rw [j9 hw] at fi
  obtain ⟨ηb,hb,fb⟩:=bo (show Fin K Wx ⟨sf,pv⟩ Zi H0 (tot Fsi) D (Fl.of ηi (ofO (aV tg ts[i] ηi)) fun η1=>Fl.turn (evSs C body η1) (dA tg (evSs C body) (ts.drop (i+1)))) from fi)
  refine nC hn nd N hio hjs (fun a h=>si.zm a (zz a h)) st yl Ai hw (bK hb) y fun σ2 H2 Fs2 A2 t2=>?_
  refine ⟨pv,Zi,Fs2,ηb,N,A2,mq (fb.step t2) fun η' σ' Z' H' Fs' _ f' A' s'=>⟨rfl,hlt,Z',Fs',η',A',(si.trans t2).trans s',f'.step s'⟩⟩
 ·left
  have hi':i=ts.length:=by omega
  subst hi'
  rw [List.drop_length] at fi
  exact ⟨wk.stop H0 _ st (a0m _),fi σi Zi H0 Fsi Ai (Step.refl _ _ _)⟩
theorem oR {x:X}{t t' j j':Nat}{e:E}(hne:t≠t')(hi:t ∉ io)(hi':t' ∉ io)(hs:sf t=some j)(hs':sf t'=some j')(D:bp)(σ:L2.St)(H:Hp)(h:wS K Wx sf io C (.asgT x [t,t'] e) D σ H) :
  oP (wE K sf C e) (u5 K 2 (gW (cc j) (gW (cc j') vO))) D σ H:=by
 obtain ⟨pv,Z,Fs,η,N,A,f⟩:=h
 obtain ⟨⟨w,η1⟩,h1,h2⟩:=bo (show Fin K Wx ⟨sf,pv⟩ Z H (tot Fs) D (Fl.of η (evX C x e η) (iU [t,t'])) from f)
 obtain ⟨η2,h3,h4⟩:=i7 (show Fin K Wx ⟨sf,pv⟩ Z H (tot Fs) D (nxO η1 ((uu w).bind fun ws=>aV [t,t'] ws η1)) from h2)
 refine lS (sl:=⟨sf,pv⟩) A h1 fun v Z' H' Fs' G B r s=>?_
 obtain ⟨m,t0⟩:=w
 cases t0 with
 | tup ts =>
  have h3':aV [t,t'] (ts.map fun t=>(m.kid,t)) η1=some η2:=h3
  match ts,h3' with
  | [a,b],h3' =>
   cases h3'
   obtain ⟨p,xs,rfl,hq,hl,y1,r1,G1,G2,rfl,g1,g2,d,p1,y2,r2,G3,G4,e2,g3,g4,d2,p2,q⟩:=r
   cases e2
   obtain rfl:r2=[]:=q
   have B1:=At.setR (w:=(m.kid,a)) (R:=G3) N hi hs B p1 g1 (fun a h=>g2 a (g3 a h)) (fun a h z=>d a z (g3 a h))
   have B2:=At.set (w:=(m.kid,b)) N hi' hs' B1 p2
   refine ⟨p,[y1,y2],rfl,hq,rfl,y1,[y2],rfl,y2,[],rfl,rfl,h4 _ Z' H' _ B2 (s.mono (fun _ z=>z) fun a h=>?_)⟩
   rcases aD h with h | h
   ·exact (aD h).imp id (g1 a)
   ·exact .inr (g2 a (g3 a h))
  | [],h3'=>cases h3'
  | [_],h3'=>cases h3'
  | _::_::_::_,h3'=>cases h3'
 | _=>cases h3
end
end MR

namespace MR
open PySem PySem.Spec PyProof.Rows L2 L3
section
variable {X:Cx}{sf sg:Nat->Option Nat}{C:M.Call}{pos p2:Pos}{ea eb ec:Expr}{a b c:M.E}{h:Bool}{n:Nat}
theorem aq {e:Expr}{t t':TE}(h:PE X e t)(hw:∀ σ H Q,t' σ H Q->t σ H Q):PE X e t':=fun pins s σ H Q I q=>h pins s σ H Q I (hw σ H Q q)
theorem iX {e:Expr}{t t':TT}(h:PT X e t)(hw:∀ σ H Q,t' σ H Q->t σ H Q):PT X e t':=fun pins s σ H Q I q=>h pins s σ H Q I (hw σ H Q q)
theorem qU {e:Expr}{t t':TT}(h:PW X e t)(hw:∀ σ H Q,t' σ H Q->t σ H Q):PW X e t':=fun whole pins s σ H Q I q=>h whole pins s σ H Q I (hw σ H Q q)
theorem ja {es:List Expr}{t t':TA}(h:PA X es t)(hw:∀ σ H Q,t' σ H Q->t σ H Q):PA X es t':=fun pos pins s σ H Q I q=>h pos pins s σ H Q I (hw σ H Q q)
theorem bP {s:Stmt}{t t':TS}(h:PS X s t)(hw:∀ D σ H,t' D σ H->t D σ H):PS X s t':=fun pins s σ H D I q=>h pins s σ H D I (hw D σ H q)
theorem iu {s:List Stmt}{t t':TS}(h:PSs X s t)(hw:∀ D σ H,t' D σ H->t D σ H):PSs X s t':=fun pins s σ H D I q=>h pins s σ H D I (hw D σ H q)
theorem qQ {tg e:Expr}{t t':TI}(h:PI X tg e t)(hw:∀ σ H R,t' σ H R->t σ H R):PI X tg e t':=fun pins s σ H R I q=>h pins s σ H R I (hw σ H R q)
theorem yc {tg e:Expr}{t t':TI}(h:PI X tg e t)(h':PI X tg e t'):PI X tg e (fun σ H R=>t σ H R\/t' σ H R):=fun pins s σ H R I q=>q.elim (h pins s σ H R I) (h' pins s σ H R I)
noncomputable abbrev SE (X:Cx)(sf:Nat->Option Nat)(C:M.Call)(me:Expr)(e:M.E):Prop:=PE X me (wE X.K sf C e)
noncomputable abbrev SB (X:Cx)(sf:Nat->Option Nat)(C:M.Call)(me:Expr)(e:M.E):Prop:=PT X me (wT X.K sf C e)
noncomputable abbrev SL (X:Cx)(sf:Nat->Option Nat)(C:M.Call)(me:List Expr)(es:List M.E):Prop:=PA X me (wL X.K sf C es)
noncomputable abbrev SA (X:Cx)(sf:Nat->Option Nat)(C:M.Call)(me:List Expr)(es:List M.E):Prop:=PA X me (wA X.K sf C es)
noncomputable abbrev SS (X:Cx)(sf:Nat->Option Nat)(io:List Nat)(C:M.Call)(ms:Stmt)(s:M.S):Prop:=PS X ms (wS X.K (xw X) sf io C s)
noncomputable abbrev SSs (X:Cx)(sf:Nat->Option Nat)(io:List Nat)(C:M.Call)(ms:List Stmt)(s:List M.S):Prop:=PSs X ms (wSs X.K (xw X) sf io C s)
theorem sV (j:Nat){i:Nat}{x:Str}(hs:sf i=some j:=by rfl)(hN:X.N[j]?=some x:=by rfl)(hv:Vis X.env.scope x:=by first | exact a0M rfl | exact a0H (a0M rfl) | exact a0H (a0H rfl))(hd:(x==("__debug__":Str))=false:=by decide)
  (hcd:(x==("__classdict__":Str))=false:=by decide):SE X sf C (.Name x pos) (.var i):=aq (bJ hN hv hd hcd) (sR hs)
theorem sM (j:Nat){i:Nat}{x:Str}(hs:sf i=some j:=by rfl)(hN:X.N[j]?=some x:=by rfl)(hv:Vis X.env.scope x:=by first | exact a0M rfl | exact a0H (a0M rfl) | exact a0H (a0H rfl))(hd:(x==("__debug__":Str))=false:=by decide)
  (hcd:(x==("__classdict__":Str))=false:=by decide):SE X sf C (.Name x pos) (.mv i):=aq (bJ hN hv hd hcd) (vY (fun _=>rfl) hs)
theorem sI {i:Int}{k:Nat}:SE X sf C (.Constant (.int i) k pos) (.cst (.int i)):=aq cU (dI fun {_ _}=>rfl)
theorem sO {i:Bool}{k:Nat}:SE X sf C (.Constant (.bool i) k pos) (.cst (.bl i)):=aq yq (dI fun {_ _}=>rfl)
theorem sN {k:Nat}:SE X sf C (.Constant .none k pos) (.cst .non):=aq vG (dI fun {_ _}=>rfl)
theorem aJ (s:String)(hl:s.length<=1000):M.sOk (Str.ofString s)=true:=by
 unfold M.sOk
 rw [Str.ofString_eq_toList,a0h]
 refine ⟨?_,decide_eq_true ?_⟩
 ·rw [a1z]
  intro x hx
  rw [List.mem_toArray,a2N] at hx
  obtain ⟨c,_,rfl⟩:=hx
  refine decide_eq_true ?_
  have:=c.valid
  have h2:c.toNat < 0x110000:=by
   have h3:=c.valid
   unfold UInt32.isValidChar Nat.isValidChar at h3
   show c.val.toNat < _
   omega
  exact h2
 ·rw [a0i,a0b,a1t]
  exact a0n hl (by decide)
theorem sS {s:String}{k:Nat}(hl:s.length<=1000:=by decide):SE X sf C (.Constant (.str (Str.ofString s)) k pos) (.cst (.str (Str.ofString s))):=aq dX (dI fun {_ _}=>⟨rfl,aJ s hl⟩)
theorem sl0:SL X sf C [] []:=ja bM r8
theorem slc {es:List Expr}{bs:List M.E}(ha:SE X sf C ea a)(hb:SL X sf C es bs)(hs:starEach (ea::es) X.env=(false,eval ea X.env)::starEach es X.env:=by rfl):SL X sf C (ea::es) (a::bs):=ja (aN ha hb hs) p6
theorem sT {es:List Expr}{bs:List M.E}{x1:Nat}(h:SL X sf C es bs)(hn:bs.length<=M.LIM:=by decide):SE X sf C (.Tuple es x1 pos) (.tup bs):=aq (nr h) (u7 hn)
theorem sLs {es:List Expr}{bs:List M.E}(hh:SL X sf C es bs)(hn:bs.length<=M.LIM:=by decide):SE X sf C (.List es pos) (.lst h bs):=aq (vP hh) (uv hn)
theorem bh (ha:SE X sf C ea a)(hb:SE X sf C eb b):SE X sf C (.BinOp ea .Add eb pos) (.op .add h [a,b]) :=
 aq (gU (op_add.or (op_add_str.or (op_cat.or qj))) ha hb) (aL (qE (rh X.K) fun {Z H G Q a b xs ys ts} h1 h2 h3 h4 ow r k=>by
  obtain ⟨G',g1,g2⟩:=r
  refine ⟨a,b,xs,ys,rfl,rfl,h1,h2,h3,LIM_le h4,fun v H' same hv=>f6 (m:=.s) ow g1 ?_ g2 k same hv⟩
  rw [a0d]; exact h4))
theorem ig (ha:SE X sf C ea a)(hb:SE X sf C eb b):SE X sf C (.BinOp ea .Sub eb pos) (.op .sub h [a,b]):=aq (gU uf ha hb) (aL oS)
theorem AK (ha:SE X sf C ea a)(hb:SE X sf C eb b):SE X sf C (.BinOp ea .Mult eb pos) (.op .mul h [a,b]):=aq (gU (op_mul.or uh) ha hb) (aL pE)
theorem gn (ha:SE X sf C ea a)(hb:SE X sf C eb b):SE X sf C (.BinOp ea .FloorDiv eb pos) (.op .fdiv h [a,b]):=aq (gU oK ha hb) (aL m7)
theorem eT (ha:SE X sf C ea a)(hb:SE X sf C eb b):SE X sf C (.BinOp ea .Mod eb pos) (.op .mod h [a,b]):=aq (gU vj ha hb) (aL qJ)
theorem wY (ha:SE X sf C ea a):SE X sf C (.UnaryOp .USub ea pos) (.op .neg h [a]):=aq (rP lV ha) (tj oM)
theorem sIx (ha:SE X sf C ea a)(hb:SE X sf C eb b)(hs:dm eb:=by intro _ _; rfl):SE X sf C (.Subscript ea eb pos) (.op .ix h [a,b]):=aq (rN (ix_any.or ud) ha hb hs) (aL wd)
mutual
noncomputable def th:M.T->Th
 | .non=>.non | .bl b=>.bl b | .int i=>.int i | .str x=>.str x | .tup ts=>.tup (ths ts) | .lst ts=>.lst (ths ts) | .dct _ _=>.non | .ins _ _ _=>.non | .scr _=>.non | .gone=>.non
noncomputable def ths:List M.T->List Th
 | []=>[]
 | t::ts=>th t::ths ts
end
mutual
theorem fu {K:a0a}{Z:Fp}{H:Hp}:∀ {t:M.T} {m:M.Md} {v:V} {G:Fp} {n:Nat},M.dp t<=n->n<=64->Rep K Z H m t v G->Has K H (th t) v/\(toD (th t)).canLay0=true/\(toD (th t)).depth<=n
 | .non,_,_,_,_,_,_,r=>⟨r,rfl,a1a _⟩
 | .bl _,_,_,_,_,_,_,r=>⟨r,rfl,a1a _⟩
 | .int _,_,_,_,_,_,_,r=>⟨r,rfl,a1a _⟩
 | .str x,_,_,_,_,_,_,r=>⟨r.1,by have h:=r.2; unfold M.sOk at h; rw [a0h] at h; exact h.1,a1a _⟩
 | .tup ts,m,v,G,n,hd,hn,⟨a,xs,e,q,l,r⟩=>by
  have hd':M.dps ts+1<=n:=hd
  match n,hd' with
  | n+1,hd' =>
   obtain ⟨h1,h2,h3⟩:=dW (n:=n) (by omega) (by omega) r
   exact ⟨⟨a,xs,e,q,h1⟩,h2,a2U h3⟩
 | .lst ts,m,v,G,n,hd,hn,⟨a,xs,e,l,q,r⟩=>by
  have hd':M.dps ts+1<=n:=hd
  match n,hd' with
  | n+1,hd' =>
   obtain ⟨h1,h2,h3⟩:=dW (n:=n) (by omega) (by omega) r
   exact ⟨⟨a,xs,e,by cases m<;>exact q.2,h1⟩,h2,a2U h3⟩
 | .dct _ _,_,_,_,_,hd,hn,_=>by have:1000<=64:=a0n hd hn; omega
 | .ins _ _ _,_,_,_,_,hd,hn,_=>by have:1000<=64:=a0n hd hn; omega
 | .gone,_,_,_,_,hd,hn,_=>by have:1000<=64:=a0n hd hn; omega
 | .scr _,_,_,_,_,hd,hn,_=>by have:1000<=64:=a0n hd hn; omega
theorem dW {K:a0a}{Z:Fp}{H:Hp}:∀ {ts:List M.T} {m:M.Md} {xs:List V} {G:Fp} {n:Nat},M.dps ts<=n->n<=64->RepL K Z H m ts xs G->HasL K H (ths ts) xs/\PyData.canLayAll0 (cB (ths ts))=true/\PyData.depthAll (cB (ths ts))<=n
 | [],_,_,_,_,_,_,r=>⟨r,rfl,a1a _⟩
 | t::ts,m,xs,G,n,hd,hn,⟨x,r,G1,G2,e,_,_,_,p,q⟩=>by
  have hd':max (M.dp t) (M.dps ts)<=n:=hd
  obtain ⟨h1,h2,h3⟩:=fu (n:=n) (by omega) hn p
  obtain ⟨k1,k2,k3⟩:=dW (n:=n) (by omega) hn q
  refine ⟨⟨x,r,e,h1,k1⟩,?_,?_⟩
  ·show ((toD (th t)).canLay0&&PyData.canLayAll0 (cB (ths ts)))=true
   rw [h2,k2]; rfl
  ·show max (toD (th t)).depth (PyData.depthAll (cB (ths ts)))<=n
   omega
end
mutual
theorem iC:∀ (t u:M.T),M.dp t<=64->M.dp u<=64->PyData.eqv (toD (th t)) (toD (th u))=M.eqT t u
 | .dct _ _,_,h,_=>by have:1000<=64:=h; omega
 | .ins _ _ _,_,h,_=>by have:1000<=64:=h; omega
 | .gone,_,h,_=>by have:1000<=64:=h; omega
 | .scr _,_,h,_=>by have:1000<=64:=h; omega
 | .non,u,_,h=>by cases u<;>first | rfl | (have:1000<=64:=h; omega)
 | .bl a,u,_,h=>by cases u<;>first | rfl | (cases a<;>rfl) | (have:1000<=64:=h; omega)
 | .int i,u,_,h=>by
  cases u with
  | bl b=>cases b<;>rfl
  | _=>first | rfl | (have:1000<=64:=h; omega)
 | .str x,u,_,h=>by cases u<;>first | rfl | (have:1000<=64:=h; omega)
 | .tup ts,u,h1,h=>by
  cases u with
  | tup us=>exact fA ts us (by have:M.dps ts+1<=64:=h1; omega) (by have:M.dps us+1<=64:=h; omega)
  | _=>first | rfl | (have:1000<=64:=h; omega)
 | .lst ts,u,h1,h=>by
  cases u with
  | lst us=>exact fA ts us (by have:M.dps ts+1<=64:=h1; omega) (by have:M.dps us+1<=64:=h; omega)
  | _=>first | rfl | (have:1000<=64:=h; omega)
theorem fA:∀ (ts us:List M.T),M.dps ts<=64->M.dps us<=64->PyData.eqvAll (cB (ths ts)) (cB (ths us))=M.eqTs ts us
 | [],[],_,_=>rfl
 | [],_::_,_,_=>rfl
 | _::_,[],_,_=>rfl
 | t::ts,u::us,h1,h2=>by
  have h1':max (M.dp t) (M.dps ts)<=64:=h1
  have h2':max (M.dp u) (M.dps us)<=64:=h2
  show (PyData.eqv (toD (th t)) (toD (th u))&&PyData.eqvAll (cB (ths ts)) (cB (ths us)))=(M.eqT t u&&M.eqTs ts us)
  rw [iC t u (by omega) (by omega),fA ts us (by omega) (by omega)]
end
theorem eS {K:a0a}{Z:Fp}{H:Hp}{t:M.T}{m:M.Md}{v:V}{G:Fp}(hd:M.dp t<=64)(r:Rep K Z H m t v G):Has K H (th t) v/\eY (th t):=by
 obtain ⟨h1,h2,h3⟩:=fu hd (a0m _) r
 refine ⟨h1,?_⟩
 show ((toD (th t)).canLay0&&decide ((toD (th t)).depth<=64))=true
 rw [h2,decide_eq_true h3]; rfl
theorem la {K:a0a}:Loc K 2 .eq h fun xs H Q=>∀ x y,xs=[x,y]->∃ t t',Has K H t x/\Has K H t' y/\eY t/\eY t'/\Q (.bl (PyData.eqv (toD t) (toD t'))) H:=by
 intro ws w xs Z H G Q hn e r ow za k x y hx
 subst hx
 obtain ⟨⟨m,a⟩,⟨n,b⟩,rfl⟩:=ek r.length.symm
 obtain ⟨G1,G2,w1,w2,d,r1,r2⟩:=b7 r
 have e':(if decide (M.dp a<=64)&&decide (M.dp b<=64) then some ((.d,.bl (M.eqT a b)):M.W) else none)=some w:=e
 split at e'
 ·rename_i hc
  rw [a0h,decide_eq_true_eq,decide_eq_true_eq] at hc
  cases e'
  obtain ⟨h1,o1⟩:=eS hc.1 r1
  obtain ⟨h2,o2⟩:=eS hc.2 r2
  refine ⟨th a,th b,h1,h2,o1,o2,?_⟩
  rw [iC a b hc.1 hc.2]
  exact bz k
 ·cases e'
theorem uq {K:a0a}:Loc K 2 .ne h fun xs H Q=>∀ x y,xs=[x,y]->∃ t t',Has K H t x/\Has K H t' y/\eY t/\eY t'/\Q (.bl (!PyData.eqv (toD t) (toD t'))) H:=by
 intro ws w xs Z H G Q hn e r ow za k x y hx
 subst hx
 obtain ⟨⟨m,a⟩,⟨n,b⟩,rfl⟩:=ek r.length.symm
 obtain ⟨G1,G2,w1,w2,d,r1,r2⟩:=b7 r
 have e':(if decide (M.dp a<=64)&&decide (M.dp b<=64) then some ((.d,.bl (!M.eqT a b)):M.W) else none)=some w:=e
 split at e'
 ·rename_i hc
  rw [a0h,decide_eq_true_eq,decide_eq_true_eq] at hc
  cases e'
  obtain ⟨h1,o1⟩:=eS hc.1 r1
  obtain ⟨h2,o2⟩:=eS hc.2 r2
  refine ⟨th a,th b,h1,h2,o1,o2,?_⟩
  rw [iC a b hc.1 hc.2]
  exact bz k
 ·cases e'
theorem sEq (hr:Room n X.A)(ha:SE X sf C ea a)(hb:SE X sf C eb b):SE X sf C (.Compare ea [.Eq] [eb] pos) (.op .eq h [a,b]):=aq (oV (iO hr.units) ha hb (cj _)) (aL la)
theorem nK {K:a0a}{Z:Fp}{H:Hp}{t:M.T}{m:M.Md}{x:V}{G:Fp}(hg:t.isG=false)(r:Rep K Z H m t x G):decide (x=V.non)=t.isN:=by
 cases t with
 | non=>rw [show x=_ from r]; rfl
 | bl _=>rw [show x=_ from r]; rfl
 | int _=>rw [show x=_ from r]; rfl
 | str _=>rw [show x=_ from r.1]; rfl
 | tup _=>obtain ⟨p,_,e,_⟩:=r; rw [show x=_ from e]; rfl
 | lst _=>obtain ⟨p,_,e,_⟩:=r; rw [show x=_ from e]; rfl
 | scr _=>obtain ⟨p,e,_⟩:=r; rw [show x=_ from e]; rfl
 | dct _ _=>cases hg
 | ins _ _ _=>obtain ⟨_,p,_,_,_,e,_⟩:=r; rw [show x=_ from e]; rfl
 | gone=>cases hg
theorem ifN {α:Type}{b:Bool}{x:Option α}{y:α}(h:(if b=true then none else x)=some y):b=false/\x=some y:=by cases b<;>first | exact ⟨rfl,h⟩ | cases h
theorem vz {K:a0a}:Loc K 2 .is h fun xs H Q=>∀ x y,xs=[x,y]->y=.non/\Q (.bl (decide (x=.non))) H:=by
 intro ws w xs Z H G Q hn e r ow za k x y hx
 subst hx
 obtain ⟨⟨m,a⟩,⟨n,b⟩,rfl⟩:=ek r.length.symm
 obtain ⟨G1,G2,w1,w2,d,r1,r2⟩:=b7 r
 cases b with
 | non=>obtain ⟨hg,e⟩:=ifN (show (if a.isG=true then none else some _)=_ from e); cases e; rw [nK hg r1]; exact ⟨r2,bz k⟩
 | _=>cases a<;>cases e
theorem iS {K:a0a}{Z:Fp}{H:Hp}{G:Fp}{m:M.Md}{ts:List M.T}{xs:List V}(lo hi:Option Int)(r:RepL K Z H m ts xs G):RepL K Z H m (M.cut ts lo hi) (cA xs lo hi) G:=by
 have e:=r.length
 have hs:∀ n d o,HT.sIx n d o=M.sIx n d o:=fun n d o=>by cases o<;>rfl
 have hc:cA xs lo hi=(xs.drop (M.sIx ts.length 0 lo)).take (M.sIx ts.length ts.length hi-M.sIx ts.length 0 lo):=by
  unfold cA
  rw [hs,hs,e]
 rw [hc]
 exact (r.drop _).take _
theorem mh (ns:List Int)(lo hi:Option Int):cA (ns.map V.int) lo hi=(M.cut ns lo hi).map V.int:=by
 have hs:∀ n d o,HT.sIx n d o=M.sIx n d o:=fun n d o=>by cases o<;>rfl
 unfold cA M.cut
 rw [hs,hs,a0b,a1i,a1O]
theorem vC {α:Type}(xs:List α)(lo hi:Option Int):(M.cut xs lo hi).length<=xs.length:=by
 unfold M.cut
 rw [a0w,a0z]; omega
theorem hI {K:a0a}{Z:Fp}{H:Hp}{G G1:Fp}{Q:VK}{m:M.Md}{a:M.T}{x:V}{w:M.W}{lo hi:Option Int}(hg:∀ b,G1 b->G b)(ow:Own Z H G)(za:∀ a,Z a->H a≠none)(r:Rep K Z H m a x G1)
  (e:(match a with | .lst ts=>M.newL h m.kid (M.cut ts lo hi) | .tup ts=>some ((.s,.tup (M.cut ts lo hi)):M.W) | .scr ns=>some (.d,.lst ((M.cut ns lo hi).map M.T.int)) | _=>none)=some w) (k:Out K Z H G w Q):ql K x lo hi H Q\/n9 K x lo hi H Q:=by
 cases a with
 | lst ts =>
  obtain ⟨p,xs,rfl,hs,hl,q⟩:=bA r
  refine .inl ⟨p,xs,rfl,.inl (.inl hs),fun l hl'=>?_⟩
  exact dU ow za (a0n (bq xs lo hi) hl) ⟨G1,hg,(iS lo hi q).zmono fun _ z=>.inl z⟩ e k hl'
 | tup ts =>
  obtain ⟨p,xs,rfl,hs,hl,q⟩:=cu r
  cases e
  refine .inr ⟨p,xs,rfl,hs,fun v H' same hv=>?_⟩
  exact f6 (m:=.s) (G':=no) ow (fun _ z=>z.elim) (a0n (bq xs lo hi) hl) ((RepL.sh (iS lo hi q)).zmono fun b hb=>hb.imp id fun z=>⟨hg b z,fun q=>q⟩) k same hv
 | scr ns =>
  obtain ⟨p,rfl,hL,hs⟩:=r
  cases e
  refine .inl ⟨p,_,rfl,hs.sq,fun l hl'=>?_⟩
  rw [mh]
  exact bW (m:=.d) (G':=no) ow za (fun _ z=>z.elim) (by rw [a0b]; exact a0n (vC ns lo hi) hL) (kM _) (by simp) k hl'
 | _=>cases e
theorem fF {p3:Pos}(ha:SE X sf C ea a)(hb:SE X sf C eb b):SE X sf C (.Subscript ea (.Slice none (some eb) none p3) pos) (.op .sl2 h [a,b]) :=
 aq (ee (sl_list.or eZ) ha ji (dq hb)) (fun σ H Q hw=>aL (r:=fun x y H Q=>∃ i,y=.int i/\(ql X.K x none (some i) H Q\/n9 X.K x none (some i) H Q)) (by
  intro ws w xs Z H G Q hn e r ow za k x y hx
  subst hx
  obtain ⟨⟨m,a⟩,⟨n,b⟩,rfl⟩:=ek r.length.symm
  obtain ⟨G1,G2,w1,w2,d,r1,r2⟩:=b7 r
  cases b with
  | int i=>exact ⟨i,r2,hI (h:=h) (lo:=none) (hi:=some i) w1 ow za r1 (by cases a<;>exact e) k⟩
  | _=>cases a<;>cases e) σ H Q hw)
theorem p8 {p3:Pos}(ha:SE X sf C ea a)(hb:SE X sf C eb b):SE X sf C (.Subscript ea (.Slice (some eb) none none p3) pos) (.op .sl1 h [a,b]) :=
 aq (ee (sl_list.or eZ) ha (dq hb) ji) (fun σ H Q hw=>aL (r:=fun x y H Q=>∃ i,y=.int i/\(ql X.K x (some i) none H Q\/n9 X.K x (some i) none H Q)) (by
  intro ws w xs Z H G Q hn e r ow za k x y hx
  subst hx
  obtain ⟨⟨m,a⟩,⟨n,b⟩,rfl⟩:=ek r.length.symm
  obtain ⟨G1,G2,w1,w2,d,r1,r2⟩:=b7 r
  cases b with
  | int i=>exact ⟨i,r2,hI (h:=h) (lo:=some i) (hi:=none) w1 ow za r1 (by cases a<;>exact e) k⟩
  | _=>cases a<;>cases e) σ H Q hw)
theorem kZ {K:a0a}:Loc K 1 .len h fun xs H Q=>∃ x n,xs=[x]/\yd K x H n/\Q (.int n) H:=by
 intro ws w xs Z H G Q hn e r ow za k
 obtain ⟨x,n,hx,hm,q⟩:=pS (h:=h) ws w xs Z H G Q hn e r ow za k
 exact ⟨x,n,hx,by cases x<;>exact hm,q⟩
section
variable {p:Pos}{x1:Str}
theorem b0 (hm:X.mg "len"=none)(hg:Gl X "len":=by rfl)(ha:SE X sf C ea a)(hs:starEach [ea] X.env=(false,eval ea X.env)::starEach [] X.env:=by rfl)(hpl:(backTo pos (starEach [] X.env)).any (·.1)=false:=by rfl):SE X sf C (.Call (.Name "len" p) [ea] [] pos) (.op .len h [a]) :=
 aq (dr mj hg hm PySem.boot_len (slc ha sl0 hs) (by decide) (by decide) hs hpl) (rO kZ rfl)
end
theorem pb {K:a0a}{x:V}{H:Hp}{k:Bool}(h:TrV K x H k):ue K x H k:=by
 cases x with
 | ref p=>exact h.imp id .inl
 | byt _=>exact h.elim
 | _=>exact h
theorem tB (ha:SE X sf C ea a)(he:∀ whole,isTrue ea X.env whole=(do let v <- whole; standAt ea.pos; holding [v] (truthy v)):=by intro _; rfl):SB X sf C ea a :=
 iX (ny ha he) fun σ H Q h=>by
  obtain ⟨pv,Z,Fs,η,w,η',b,A,ev,ht,k⟩:=h
  exact ⟨pv,Z,Fs,η,w,η',A,ev,fun v Z' H' Fs' G B r s=>⟨b,pb (jF ht r),k Z' H' Fs' B.bare (s.mono (fun _ z=>z) fun _ z=>.inl z)⟩⟩
theorem mK (ha:SB X sf C ea a):SB X sf C (.UnaryOp .Not ea pos) (.not a):=iX (uK ha) uI
theorem xU {σ:L2.St}{H:Hp}{Q:Bool->Hp->Prop}(hb:∀ η w η',M.evE C a η=.ok (w,η')->∃ b,w.2=.bl b)(h:wT X.K sf C a σ H Q):qX (wE X.K sf C a) σ H Q:=by
 obtain ⟨pv,Z,Fs,η,w,η',b,A,ev,ht,k⟩:=h
 refine ⟨pv,Z,Fs,η,w,η',A,ev,fun v Z' H' Fs' G B r s=>⟨b,?_,k Z' H' Fs' B.bare (s.mono (fun _ z=>z) fun _ z=>.inl z)⟩⟩
 obtain ⟨b',hb'⟩:=hb _ _ _ ev
 rw [hb'] at ht r
 cases ht
 exact r
theorem yW {o:M.Op}(ho:∀ u v w,M.oSem o h [u,v]=some w->∃ b,w.2=.bl b):∀ η w η',M.evE C (.op o h [a,b]) η=.ok (w,η')->∃ b,w.2=.bl b:=fun η w η' e=>by
 obtain ⟨ws,h1,h2⟩:=bj e
 obtain ⟨u,η1,us,_,e2,rfl⟩:=aj h1
 obtain ⟨v,η2,us,_,e4,rfl⟩:=aj e2
 cases e4
 exact ho u v w h2
theorem bV {op:CmpOp}{r:R2}{o:M.Op}(ho:OpR X (compareOp op) r)(ha:SE X sf C ea a)(hb:SE X sf C eb b)(hm:behindInMarks op eb=false)(hl:∀ σ H Q,wE X.K sf C (.op o h [a,b]) σ H Q->tOp r (wE X.K sf C a) (wE X.K sf C b) σ H Q)
  (hbl:∀ u v w,M.oSem o h [u,v]=some w->∃ b,w.2=.bl b):SB X sf C (.Compare ea [op] [eb] pos) (.op o h [a,b]) :=
 iX (iW ho ha hb hm) fun σ H Q hw=>hl σ H _ (xU (yW hbl) hw)
theorem wX {u v w:M.W}(e:M.oSem .eq h [u,v]=some w):∃ b,w.2=.bl b:=by
 obtain ⟨m,a⟩:=u; obtain ⟨n,b⟩:=v
 have e':(if decide (M.dp a<=64)&&decide (M.dp b<=64) then some ((.d,.bl (M.eqT a b)):M.W) else none)=some w:=e
 split at e'
 ·cases e'; exact ⟨_,rfl⟩
 ·cases e'
theorem wN {u v w:M.W}(e:M.oSem .ne h [u,v]=some w):∃ b,w.2=.bl b:=by
 obtain ⟨m,a⟩:=u; obtain ⟨n,b⟩:=v
 have e':(if decide (M.dp a<=64)&&decide (M.dp b<=64) then some ((.d,.bl (!M.eqT a b)):M.W) else none)=some w:=e
 split at e'
 ·cases e'; exact ⟨_,rfl⟩
 ·cases e'
theorem yR {u v w:M.W}(e:M.oSem .is h [u,v]=some w):∃ b,w.2=.bl b:=by
 obtain ⟨m,a⟩:=u; obtain ⟨n,b⟩:=v
 cases b with
 | non=>obtain ⟨_,e⟩:=ifN (show (if a.isG=true then none else some _)=_ from e); cases e; exact ⟨_,rfl⟩
 | _=>cases a<;>cases e
theorem nM (ha:SE X sf C ea a)(hb:SE X sf C eb b):SB X sf C (.Compare ea [.Lt] [eb] pos) (.op .lt h [a,b]):=bV yb ha hb (cj _) (aL vE) fun u v w e=>by obtain ⟨_,_,_,_,_,_,rfl⟩:=kG e; exact ⟨_,rfl⟩
theorem qI (ha:SE X sf C ea a)(hb:SE X sf C eb b):SB X sf C (.Compare ea [.Gt] [eb] pos) (.op .gt h [a,b]):=bV yT ha hb (cj _) (aL tP) fun u v w e=>by obtain ⟨_,_,_,_,_,_,rfl⟩:=lE e; exact ⟨_,rfl⟩
theorem wG (ha:SE X sf C ea a)(hb:SE X sf C eb b):SB X sf C (.Compare ea [.GtE] [eb] pos) (.op .ge h [a,b]):=bV yg ha hb (cj _) (aL uU) fun u v w e=>by obtain ⟨_,_,_,_,_,_,rfl⟩:=mT e; exact ⟨_,rfl⟩
theorem cH (hr:Room n X.A)(ha:SE X sf C ea a)(hb:SE X sf C eb b):SB X sf C (.Compare ea [.Eq] [eb] pos) (.op .eq h [a,b]):=bV (iO hr.units) ha hb (cj _) (aL la) fun u v w e=>wX e
theorem ko (hr:Room n X.A)(ha:SE X sf C ea a)(hb:SE X sf C eb b):SB X sf C (.Compare ea [.NotEq] [eb] pos) (.op .ne h [a,b]):=bV (qh hr.units) ha hb (cj _) (aL uq) fun u v w e=>wN e
theorem zO (ha:SE X sf C ea a)(hb:SE X sf C eb b):SB X sf C (.Compare ea [.Is] [eb] pos) (.op .is h [a,b]):=bV uJ ha hb (cj _) (aL vz) fun u v w e=>yR e
noncomputable abbrev SW (X:Cx)(sf:Nat->Option Nat)(C:M.Call)(me:Expr)(e:M.E):Prop:=PW X me (wT X.K sf C e)
theorem wA1 (ha:SB X sf C ea a):SW X sf C (.BoolOp .And [ea] pos) a:=qN ha
theorem wO1 (ha:SB X sf C ea a):SW X sf C (.BoolOp .Or [ea] pos) a:=vM ha
theorem kg {rest:List Expr}(ha:SB X sf C ea a)(hb:SW X sf C (.BoolOp .And (eb::rest) pos) b):SW X sf C (.BoolOp .And (ea::eb::rest) pos) (.and a b):=qU (vI ha hb) uG
theorem wOr {rest:List Expr}(ha:SB X sf C ea a)(hb:SW X sf C (.BoolOp .Or (eb::rest) pos) b):SW X sf C (.BoolOp .Or (ea::eb::rest) pos) (.or a b):=qU (xQ ha hb) y0
theorem tW (h:SW X sf C ea a):SB X sf C ea a:=h.pt
theorem sIf (hc:SB X sf C ec c)(ha:SE X sf C ea a)(hb:SE X sf C eb b):SE X sf C (.IfExp ec ea eb pos) (.ifx c a b):=aq (gJ hc ha hb) wx
theorem zx {tg:Expr}(ha:SE X sf C ea a):PI X tg ea (wI X.K sf C 1 .seq [a]):=qQ (yc (pL ha) (rY ha)) v7
theorem wz {tg:Expr}{p:Pos}(hm:X.mg "range"=none)(hg:Gl X "range":=by rfl)(ha:SE X sf C ea a)(hs:starEach [ea] X.env=[(false,eval ea X.env)]:=by rfl):PI X tg (.Call (.Name "range" p) [ea] [] pos) (wI X.K sf C 1 .rng [a]):=qQ (jV hg hm (slc ha sl0 hs) hs) n5
end
end MR

namespace MR
open PySem PySem.Spec PyProof.Rows L2 L3
section
variable {X:Cx}{sf sg:Nat->Option Nat}{C:M.Call}{pos p2:Pos}{ea eb ec:Expr}{a b c:M.E}{h:Bool}{n:Nat}{io:List Nat}
noncomputable def spS (K:a0a)(C:M.Call)(f:Nat)(io:List Nat):Sp:=fun vs H Q _=>spC K C f io vs H Q
theorem sa0:SA X sf C [] []:=ja bM vF
theorem sac {es:List Expr}{bs:List M.E}(ha:SE X sf C ea a)(hb:SA X sf C es bs)(he:∀ i,a≠.io i:=by intro _ z; cases z)(hs:starEach (ea::es) X.env=(false,eval ea X.env)::starEach es X.env:=by rfl):SA X sf C (ea::es) (a::bs):=ja (aN ha hb hs) (l9 he)
noncomputable def ao (P:Program)(w:World)(K:a0a)(mg:Str->Option Value)(base:Heap)(n:Nat)(C:M.Call)(x:Str)(f:Nat)(io:List Nat):Prop :=
 ∃ fa fd ps,ba P w K mg base CX0 n fa fd ps (spS K C f io)/\mg x=some (.ref fa)/\a09 K (.ref fa)=true/\Binds K fd ps []
theorem bL {x:Str}{p:Pos}{f:Nat}{es:List Expr}{bs:List M.E}(c:ao X.prog X.w X.K X.mg X.base n C x f io)(hr:Room n X.A)(ha:SA X sf C (ea::es) bs)(hio:dJ bs 0=io\/M.ios bs=[]:=by first | exact .inl rfl | exact .inr rfl)(hg:Gl X x:=by rfl)(hdb:(x==("__debug__":Str))=false:=by decide)
  (he:starEach (ea::es) X.env=(false,eval ea X.env)::starEach es X.env:=by rfl) (hpl:(backTo pos (starEach es X.env)).any (·.1)=false:=by rfl):SE X sf C (.Call (.Name x p) (ea::es) [] pos) (.call f bs):=by
 obtain ⟨fa,fd,ps,F,hm,hk,hb⟩:=c
 refine aq (pH (E:=E0) F hr hg hm hk hb .nil rB ha hdb he hpl) fun σ H Q hw=>?_
 have h2:=qA hio σ H Q hw
 obtain ⟨pv,Z,Fs,η,ws,η',A,ev,k⟩:=h2
 exact ⟨pv,Z,Fs,η,ws,η',A,ev,fun vs Z' H' Fs' G B r s hv=>by show spS X.K C f io (vs++[]) H' Q E0; rw [a0F]; exact k vs Z' H' Fs' G B r s hv⟩
theorem ss0:SSs X sf io C [] []:=iu qb pJ
theorem ss1 {s:Stmt}{t:M.S}(hs:SS X sf io C s t):SSs X sf io C [s] [t]:=iu (iT hs) fG
theorem ssc {s:Stmt}{t:M.S}{r:List Stmt}{u:List M.S}(hs:SS X sf io C s t)(hr:SSs X sf io C r u):SSs X sf io C (s::r) (t::u):=iu (gp hs hr) mH
theorem aR (j:Nat){i:Nat}{x:Str}{xx:M.X}{pos':Pos}(hN:X.N.Nodup)(ha:SE X sf C ea a)(hi:i ∉ io:=by decide)(hs:sf i=some j:=by rfl)(hj:X.N[j]?=some x:=by rfl)(hx:L2.Loc X.env.scope x:=by first | exact a0M rfl | exact a0H rfl)
  (hsw:swapsWith ea (some (.Name x pos')) pos.line X.env=pure false:=by rfl) (hf:X.fn x=true\/X.env.scope.names.lookup x=some .local:=by first | exact .inl rfl | exact .inr rfl):SS X sf io C (.Assign [.Name x pos'] ea pos) (.asg xx i a):=bP (iB (i:=j) hN hj hx ha hsw hf) (vw hi hs)
theorem aX {vs:List Nat}(ha:SE X sf C ea a):SS X sf io C (.Return (some ea) pos) (.ret vs a):=bP (mI ha) tq
theorem zIf {xx:M.X}{r u:List Stmt}{s t:List M.S}(hc:SB X sf C ec c)(ha:SSs X sf io C r s)(hb:SSs X sf io C u t):SS X sf io C (.If ec r u pos) (.ite xx c s t):=bP (yX hc ha hb) nJ
theorem i1 (j:Nat){t:Nat}{x:Str}{px:Pos}{iter:Expr}{r:List Stmt}{s:List M.S}{vs ls:List Nat}{k:M.Ik}{src:List M.E}(hN:X.N.Nodup)(hi:PI X (.Name x px) iter (wI X.K sf C 1 k src))(ha:SSs X sf io C r s)(hio:∀ u∈[t],u ∉ io:=by decide)(hjs:[t].map sf=[j].map some:=by rfl)(hj:X.N[j]?=some x:=by rfl)(hx:L2.Loc X.env.scope x:=by first | exact a0M rfl | exact a0H rfl)
  (hc:X.calm=true:=by rfl) (hp:PassesOwn (model X.prog X.w) X.A X.env X.xe:=by exact PassesOwn.never) (hf:X.fn x=true\/X.env.scope.names.lookup x=some .local:=by first | exact .inl rfl | exact .inr rfl) (hs:∀ x,foldedSetIterable iter X.env x=pure x:=by intro _; rfl):SS X sf io C (.For (.Name x px) iter r [] pos) (.forS vs ls k src [t] s) :=
 bP (va hp hc hi (fh (i:=j) hN hj hx hf) ha hs) (uA rfl (by simp) hio hjs)
theorem xi (j:Nat){i:Nat}{x:Str}{xx:M.X}{apos cpos px:Pos}(ha:SE X sf C ea a)(hs:sf i=some j:=by rfl)(hN:X.N[j]?=some x:=by rfl)(hv:Vis X.env.scope x:=by first | exact a0M rfl | exact a0H (a0M rfl) | exact a0H (a0H rfl))(hd:(x==("__debug__":Str))=false:=by decide)(hcd:(x==("__classdict__":Str))=false:=by decide)
  (hbase:attributeBase (.Name x px) "append" X.env (eval (.Name x px) X.env)=eval (.Name x px) X.env:=by rfl)
  (hfew:((backTo cpos (starEach [ea] X.env)).all (fun x=>!x.1)&&(backToKw cpos (keywordEach [] X.env)).all (fun x=>x.1.isSome)&&decide ([ea].length+([]:List Keyword).length+(if ([]:List Keyword).isEmpty then 0 else 1) < 30))=true:=by rfl)
  (hline:(apos.endLine==cpos.line)=true:=by rfl) (hst:starEach [ea] X.env=(false,eval ea X.env)::starEach [] X.env:=by rfl) (hplain:(backTo cpos (starEach [] X.env)).any (·.1)=false:=by rfl) (hsw:swapsWith (.Call (.Attribute (.Name x px) "append" apos) [ea] [] cpos) none pos.line X.env=pure false:=by rfl) :
  SS X sf io C (.Expr (.Call (.Attribute (.Name x px) "append" apos) [ea] [] cpos) pos) (.app xx i a) :=
 bP (jd (ly a2b PySem.F.slot_list_append PySem.F.type_list_append jO (bJ hN hv hd hcd) (aN ha bM hst) hbase hfew hline hst hplain) hsw) fun D σ H hw=>by
  obtain ⟨p,xs,hj,hp,pv,Z,Fs,η,w,η',A,ev,k⟩:=sA hs D σ H hw
  refine ⟨.ref p,hj,.inl ⟨rfl,xs,.inl (.inl hp)⟩,pv,Z,Fs,η,w,η',A,ev,fun v Z' H' Fs' G B r s=>?_⟩
  obtain ⟨ys,h1,h2,h3⟩:=k v Z' H' Fs' G B r s
  exact ⟨p,ys,v,rfl,rfl,h1,h2,h3⟩
end
end MR

namespace MR
open PySem PySem.Spec PyProof.Rows L2 L3
section
variable {K:a0a}{Z:Fp}{H:Hp}
theorem fj:∀ {ws:List M.W} {n i:Nat} {w:M.W},M.rd (ws.map some++a0f n none) i=some w->ws[i]?=some w
 | [],0,i,w,h=>by simp [M.rd] at h
 | [],n+1,0,w,h=>by simp [a0E,M.rd] at h
 | [],n+1,i+1,w,h=>by
  have:M.rd (([]:List M.W).map some++a0f n none) i=some w:=by simpa [a0E,M.rd] using h
  have:=fj this
  simp at this
 | u::ws,n,0,w,h=>by simpa [M.rd] using h
 | u::ws,n,i+1,w,h=>by
  have:M.rd (ws.map some++a0f n none) i=some w:=by simpa [M.rd] using h
  simpa using fj this
theorem m5:∀ {ws:List M.W} {vs:List V} {G:Fp},RepW K Z H ws vs G->∃ Fs:Fps,(∀ i a,Fs i a->G a)/\(∀ i j a,Fs i a->Fs j a->i=j)/\∀ i w,ws[i]?=some w->∃ v,vs[i]?=some v/\Rep K Z H w.1 w.2 v (Fs i)
 | [],vs,G,_=>⟨fun _=>no,fun _ _ h=>h.elim,fun _ _ _ h=>h.elim,fun i w h=>by simp at h⟩
 | w::ws,vs,G,⟨x,r,G1,G2,e,h1,h2,hd,p,q⟩=>by
  obtain ⟨Fs,f1,f2,f3⟩:=m5 q
  subst e
  refine ⟨fun i=>match i with | 0=>G1 | i+1=>Fs i,fun i a h=>?_,fun i j a hi hj=>?_,fun i u h=>?_⟩
  ·cases i with
   | zero=>exact h1 a h
   | succ i=>exact h2 a (f1 i a h)
  ·cases i with
   | zero =>
    cases j with
    | zero=>rfl
    | succ j=>exact absurd (f1 j a hj) (hd a hi)
   | succ i =>
    cases j with
    | zero=>exact absurd (f1 i a hi) (hd a hj)
    | succ j=>exact congrArg (·+1) (f2 i j a hi hj)
  ·cases i with
   | zero=>simp only [a2a,a16] at h; subst h; exact ⟨x,rfl,p⟩
   | succ i=>simpa using f3 i u (by simpa using h)
noncomputable def slN (n:Nat):Nat->Option Nat:=fun i=>if i < n then some i else none
theorem cS {sl:Cf}{σ:L2.St}{Fs:Fps}{η:M.Env}{G:Fp}{vs:List V}(A:At K sl σ Z H Fs η G):∀ {io:List Nat} {bs:List M.W},io.Nodup->(∀ i∈io,sl.pv i=vs[i]?/\i < vs.length)->M.backs io η=some bs->RepW K Z H bs (atV io vs) (fun a=>∃ i∈io,Fs i a)
 | [],bs,_,_,h=>by
  simp only [M.backs,a16] at h; subst h; rfl
 | i::io,bs,nd,hv,h=>by
  simp only [M.backs] at h
  cases e:M.rd η i with
  | none=>rw [e] at h; cases h
  | some w =>
   rw [e] at h
   simp only [a2c] at h
   cases e2:M.backs io η with
   | none=>rw [e2] at h; cases h
   | some ws =>
    rw [e2] at h
    simp only [a2c,a16] at h
    subst h
    obtain ⟨v,r,_,hp⟩:=A.env i w.1 w.2 e
    have hi:=hv i a0c
    obtain ⟨u,hu⟩:∃ u,vs[i]?=some u:=⟨vs[i]'hi.2,a1w hi.2⟩
    have:=hp u (hi.1.trans hu)
    subst this
    refine ⟨v,atV io vs,Fs i,fun a=>∃ j∈io,Fs j a,?_,fun a h=>⟨i,a0c,h⟩,fun a ⟨j,hj,h⟩=>⟨j,a0e _ hj,h⟩,fun a h ⟨j,hj,h'⟩=>?_,r,cS A (a1m.mp nd).2 (fun j hj=>hv j (a0e _ hj)) e2⟩
    ·rw [atV,a0U,hu]; rfl
    ·exact (a1m.mp nd).1 (A.gd.dis i j a h h' ▸ hj)
end
section
variable {P:Program}{w:World}{K:a0a}{mg:Str->Option Value}{base:Heap}
theorem gf {Z:Fp}{H:Hp}{ws:List M.W}{vs:List V}{G:Fp}{N:List Str}{n:Nat}{io:List Nat}(r:RepW K Z H ws vs G)(o:Own Z H G)(z:∀ a,Z a->H a≠none)(hl:vs.length<=N.length) :
  ∃ Fs,(∀ a,tot Fs a->G a)/\At K ⟨slN N.length,fun i=>if i∈io then vs[i]? else none⟩ (L2.start N vs) Z H Fs (ws.map some++a0f n none) no:=by
 obtain ⟨Fs,f1,f2,f3⟩:=m5 r
 have st:∀ i v,vs[i]?=some v->(L2.start N vs)[i]?=some (some v):=fun i v h=>by
  have hi:=(a0y.mp h).1
  rw [L2.start,a10 (by simpa using hi),a0A,h]; rfl
 refine ⟨Fs,fun a ⟨i,h⟩=>f1 i a h,⟨⟨fun a ⟨i,h⟩=>o a (f1 i a h),f2,z⟩,fun i m t e=>?_,fun a h=>h.elim,fun a h=>h.elim,fun i u j hu hj=>?_,fun i j hj=>?_⟩⟩
 ·obtain ⟨v,hv,rp⟩:=f3 i (m,t) (fj e)
  refine ⟨v,rp,fun j hj=>?_,fun u hu=>?_⟩
  ·simp only [slN] at hj
   split at hj
   ·cases hj; exact st i v hv
   ·cases hj
  ·simp only at hu
   split at hu
   ·rw [hv] at hu; cases hu; rfl
   ·cases hu
 ·simp only at hu
  simp only [slN] at hj
  split at hj
  ·cases hj
   split at hu
   ·exact st i u hu
   ·cases hu
  ·cases hj
 ·simp only [slN] at hj
  split at hj
  ·cases hj
   rename_i h
   rw [L2.start,a0d,a0b,a1n]; omega
  ·cases hj
theorem Fun.okM {x qual:Str}{st:Stmt}{f:Addr}{fd:FuncData}{N ps:List Str}{k:Nat}{C:M.Call}{d:M.Fn}(F:L2.Fun K x qual st f fd)(S:az N ps (defScope st))(hps:d.ps=ps.length)(hle:ps.length<=N.length)(nd:d.io.Nodup)(hio:∀ i∈d.io,i < ps.length)
  (hbody:∀ (cdv:Value) (A:Around) (outer:List Env) (s:Shared) (H:Hp) (E:XK),Room k (A.deeper (envOfC qual (defScope st) s.heap.objs.size f cdv)) ->
   SSs (cJ CX0 P w K mg base N qual (defScope st) f cdv A outer s H E).nox (slN N.length) d.io C (defBody st) d.body) {g:Nat} {C':M.Call} (hC:∀ ws,C' g ws=M.runF C d ws):ba P w K mg base CX0 (k+1) f fd ps (spS K C' g d.io):=by
 have len:∀ vs H Q E,spS K C' g d.io vs H Q E->vs.length=ps.length:=fun vs H Q E ⟨Z,ws,G,w,bs,r,_,_,hr,_⟩=>by
  rw [hC] at hr
  unfold M.runF at hr
  split at hr
  ·rename_i h; rw [r.length,h,hps]
  ·cases hr
 refine F.ok S len fun cdv A outer s H vs Q E hr h=>⟨_,hbody cdv A outer s H E hr,?_⟩
 have hlen:=len vs H Q E h
 obtain ⟨Z,ws,G,w,bs,r,o,z,hc,q⟩:=h
 rw [hC] at hc
 have hwl:ws.length=d.ps:=by rw [<- r.length,hlen,hps]
 rw [M.x_run _ _ _ hwl] at hc
 obtain ⟨Fs,ft,A0⟩:=gf (n:=d.ns) (io:=d.io) r o z (N:=N) (by omega)
 refine ⟨_,Z,Fs,_,⟨fun i i' j h h'=>?_,fun i h=>if_neg h⟩,A0,?_⟩
 ·simp only [slN] at h h'
  split at h
  ·split at h'
   ·cases h; cases h'; rfl
   ·cases h'
  ·cases h
 have hv:∀ i∈d.io,(if i∈d.io then vs[i]? else none)=vs[i]?/\i < vs.length:=fun i hi=>⟨if_pos hi,hlen ▸ hio i hi⟩
 cases e:M.evSs C d.body (ws.map some++a0f d.ns none) with
 | nx η =>
  rw [e] at hc
  intro σ' Z' H' Fs' A' t
  simp only [M.Fl.out] at hc
  cases e2:M.backs d.io η with
  | none=>rw [e2] at hc; cases hc
  | some cs =>
   rw [e2] at hc
   cases hc
   refine q .non Z' H' no _ rfl (cS A' nd hv e2) (fun _ h=>h.elim) (fun a h=>h.elim (fun z=>z.elim) fun ⟨i,_,z⟩=>A'.gd.own a ⟨i,z⟩) (t.mono ft fun a h=>h.elim (fun z=>z.elim) fun ⟨i,_,z⟩=>⟨i,z⟩)
 | rt u η =>
  rw [e] at hc
  intro v σ' Z' H' Fs' G' A' rp t
  simp only [M.Fl.out] at hc
  cases e2:M.backs d.io η with
  | none=>rw [e2] at hc; cases hc
  | some cs =>
   rw [e2] at hc
   cases hc
   exact q v Z' H' G' _ rp (cS A' nd hv e2) (fun a h ⟨i,_,z⟩=>A'.dis a h ⟨i,z⟩) (fun a h=>h.elim (A'.own a) fun ⟨i,_,z⟩=>A'.gd.own a ⟨i,z⟩) (t.mono ft fun a h=>h.elim .inr fun ⟨i,_,z⟩=>.inl ⟨i,z⟩)
 | bk η=>rw [e] at hc; cases hc
 | ex t η=>rw [e] at hc; cases hc
 | no=>rw [e] at hc; cases hc
end
end MR

namespace MR
open PySem PySem.Spec PyProof.Rows L2 L3
section
variable {X:Cx}{sf sg:Nat->Option Nat}{C:M.Call}{pos p2 p3:Pos}{ea eb ec:Expr}{a b c:M.E}{h:Bool}{n:Nat}{io:List Nat}
theorem oA {Z:Fp}{H H1:Hp}{G:Fp}(same:∀ a o,H a=some o->H1 a=some o):Step Z H G Z H1 G:=by
 have al:∀ a,H a≠none->H1 a≠none:=fun a h=>by
  cases e:H a with
  | none=>exact absurd e h
  | some o=>rw [same a o e]; simp
 exact ⟨fun a o h _=>same a o h,fun _ h=>h,fun _ h=>.inl h,fun _ h=>.inl h,al,fun z a h=>al a (z a h)⟩
theorem gb {K:a0a}{Z:Fp}{H H1:Hp}{G:Fp}{w:M.W}{Q:VK}(same:∀ a o,H a=some o->H1 a=some o)(k:Out K Z H G w Q):Out K Z H1 G w Q:=fun v Z' H' G' r o t=>k v Z' H' G' r o ((oA same).trans t)
theorem gh {H:Hp}{p:Addr}{o:HO}(hp:H p=none):∀ a u,H a=some u->upd H p o a=some u:=fun a u e=>by
 have:a≠p:=fun q=>by subst q; rw [hp] at e; cases e
 rw [ag this]; exact e
theorem w9 (j:Nat){i:Nat}{x:Str}{apos cpos px:Pos}(hs:sf i=some j:=by rfl)(hN:X.N[j]?=some x:=by rfl)(hv:Vis X.env.scope x:=by first | exact a0M rfl | exact a0H (a0M rfl) | exact a0H (a0H rfl))(hd:(x==("__debug__":Str))=false:=by decide)(hcd:(x==("__classdict__":Str))=false:=by decide)
  (hbase:attributeBase (.Name x px) "pop" X.env (eval (.Name x px) X.env)=eval (.Name x px) X.env:=by rfl) (hline:(apos.endLine==cpos.line)=true:=by rfl) :
  SE X sf C (.Call (.Attribute (.Name x px) "pop" apos) [] [] cpos) (.pop i []) :=
 aq (t5 a2b PySem.F.slot_list_pop PySem.F.type_list_pop se (bJ hN hv hd hcd) hbase hline) fun σ H Q hw=>by
  obtain ⟨a,xs,y,hj,hp,hy,q⟩:=qC hs σ H Q hw
  exact ⟨.ref a,hj,.inl ⟨rfl,xs,.inl (.inl hp)⟩,a,xs,y,rfl,rfl,hp,hy,q⟩
end
end MR

namespace MR
open PySem PySem.Spec PyProof.Rows L2 L3
structure Txt (mg:Str->Option Value):Prop where
 isin:mg "isinstance"=none
 int:mg "int"=none
 tup:mg "tuple"=none
 list:mg "list"=none
 bool:mg "bool"=none
 sum:mg "sum"=none
 len:mg "len"=none
 all:mg "all"=none
 zip:mg "zip"=none
 range:mg "range"=none
 enum:mg "enumerate"=none
 any:mg "any"=none
 max:mg "max"=none
 min:mg "min"=none
 sorted:mg "sorted"=none
 str:mg "str"=none
 repr:mg "repr"=none
 abs:mg "abs"=none
 dict:mg "dict"=none
 set:mg "set"=none
 rev:mg "reversed"=none
end MR

namespace MR
open PySem PySem.Spec PyProof.Rows L2 L3
section
variable {P:Program}{w:World}{K:a0a}{mg:Str->Option Value}{base:Heap}
theorem gI {C:M.Call}{g:Nat}{io:List Nat}{vs:List V}{H:Hp}{Q:VK}{E:XK}(hC:∀ ws,C g ws=.no)(h:spS K C g io vs H Q E):False:=by
 obtain ⟨Z,ws,G,w,bs,_,_,_,e,_⟩:=h
 rw [hC] at e
 cases e
theorem fn0 {f:Addr}{fd:FuncData}{ps:List Str}{k g:Nat}{io:List Nat}{C:M.Call}(hC:∀ ws,C g ws=.no):ba P w K mg base CX0 k f fd ps (spS K C g io) :=
 ⟨fun _ _ _ _ h=>(gI hC h).elim,fun _ _ _ _ _ _ _ _ _ _ _ _ _ h=>(gI hC h).elim⟩
theorem hX {Z:Fp}{H:Hp}{a:Addr}{ns:List Int}(hO:my H)(hl:ns.length<=63)(h:SqL K H a (ns.map V.int)):Rep K Z H .d (.scr ns) (.ref a) no:=by
 refine ⟨a,rfl,a0n hl (by decide),?_⟩
 rcases h with (z | ⟨o,z⟩) | z
 ·rcases hO a with y | ⟨o,xs,y⟩<;>rw [y] at z<;>cases z
 ·exact .inl ⟨o,z⟩
 ·exact .inr (.inr z)
theorem uZ {H:Hp}{a:Addr}{ns:List Int}{C:M.Call}{ix:Nat}(hp:∃ m bs,C ix [(.d,.scr ns)]=.ok ((m,.bl true),bs))(hl:ns.length<=63)(hO:my H)(h:SqL K H a (ns.map V.int)):spS K C ix [] [.ref a] H (fun v _=>v=.bl true) fun _ _ _=>False:=by
 obtain ⟨m,bs,e⟩:=hp
 exact ⟨no,[(.d,.scr ns)],no,(m,.bl true),bs,RepW.one (hX hO hl h),bc,fun _ z=>z.elim,e,fun v Z' H' G1 G2 r _ _ _ _=>r⟩
end
end MR

namespace MR
open PySem PySem.Spec PyProof.Rows L2 L3
structure SBs (as:List Addr)(H H':Hp):Prop where
 keep:∀ b u,b ∉ as->H b=some u->H' b=some u
 al:∀ b,H b≠none->H' b≠none
instance {as:List Addr} {H H':Hp}:CoeFun (SBs as H H') (fun _=>∀ b u,b ∉ as->H b=some u->H' b=some u):=⟨fun s=>s.keep⟩
end MR

namespace MR
open PySem PySem.Spec PyProof.Rows L2 L3
section
variable {X:Cx}{sf sg:Nat->Option Nat}{io:List Nat}{C:M.Call}{pos p2:Pos}{ea eb ec:Expr}{a b c:M.E}{h:Bool}{n:Nat}
theorem pG {w1 w2 w3 w:M.W}(e:M.oSem .sl3 h [w1,w2,w3]=some w):∃ n i k j,w2=(n,.int i)/\w3=(k,.int j):=by
 obtain ⟨m,a⟩:=w1; obtain ⟨n,b⟩:=w2; obtain ⟨k,c⟩:=w3
 cases b with
 | int i =>
  cases c with
  | int j=>exact ⟨n,i,k,j,rfl,rfl⟩
  | _=>cases a<;>cases e
 | _=>cases a<;>cases e
theorem zS {p3:Pos}(ha:SE X sf C ea a)(hb:SE X sf C eb b)(hc:SE X sf C ec c):SE X sf C (.Subscript ea (.Slice (some eb) (some ec) none p3) pos) (.op .sl3 h [a,b,c]) :=
 aq (ee (sl_list.or eZ) ha (dq hb) (dq hc)) fun σ H Q hw=>by
  obtain ⟨pv,Z,Fs,η,w,η',A,ev,k⟩:=hw
  obtain ⟨ws,h1,h2⟩:=bj ev
  obtain ⟨wa,η1,us,e1,e2,rfl⟩:=aj h1
  obtain ⟨wb,η2,us,e3,e4,rfl⟩:=aj e2
  obtain ⟨wc,η3,us,e5,e6,rfl⟩:=aj e4
  cases e6
  obtain ⟨n2,i,n3,j,rfl,rfl⟩:=pG h2
  refine gc A e1 fun x Z1 H1 Fs1 G1 A1 r1 _ s1 _=>?_
  have A1':=A1.mono (G':=G1) fun _ z=>.inr z
  refine gc A1' e3 fun y Z2 H2 Fs2 G2 A2 r2 d2 s2 t2=>⟨i,r2,?_⟩
  refine gc A2 e5 fun z Z3 H3 Fs3 G3 A3 r3 d3 s3 t3=>⟨j,r3,?_⟩
  have r1':=r1.frame A1.gd.own s2 A1'.dis
  have r1'':=r1'.frame A2.gd.own s3 fun q hq=>A2.dis q (.inl hq)
  obtain ⟨m,t⟩:=wa
  exact hI (h:=h) (lo:=some i) (hi:=some j) (G:=fun q=>(G1 q\/G2 q)\/G3 q) (fun q hq=>.inl (.inl hq)) A3.own A3.gd.zal r1'' (by cases t<;>first | exact h2 | (cases h2)) (aY A3 ((s1.trans t2).trans t3) k)
theorem jD {K:a0a}:Loc K 1 .tuple h fun xs H Q=>∃ p ys,xs=[.ref p]/\((SqL K H p ys/\∀ l,H l=none->Q (.ref l) (upd H l (.tup ys)))\/(SqT K H p ys/\Q (.ref p) H)):=by
 intro ws w xs Z H G Q hn e r ow za k
 obtain ⟨⟨m,a⟩,rfl⟩:∃ a,ws=[a]:=by match ws,hn with | [a],_=>exact ⟨a,rfl⟩
 obtain ⟨x,rfl,r1⟩:=bY rfl r
 cases a with
 | lst ts =>
  obtain ⟨p,ys,rfl,hs,hl,q⟩:=bA r1
  cases e
  exact ⟨p,ys,rfl,.inl ⟨SqL.of hs,fun l hl'=>iI (m:=m.kid.up) (G':=G) ow (fun _ z=>z) hl (by rw [dw]; exact q.zmono fun _ z=>.inl z) k hl'⟩⟩
 | tup ts =>
  obtain ⟨p,ys,rfl,hs,hl,q⟩:=cu r1
  cases e
  exact ⟨p,ys,rfl,.inr ⟨hs,ef ow k r1⟩⟩
 | _=>cases e
theorem m4 {p:Pos}(hm:X.mg "tuple"=none)(hg:Gl X "tuple":=by rfl)(ha:SE X sf C ea a)(hs:starEach [ea] X.env=(false,eval ea X.env)::starEach [] X.env:=by rfl)(hpl:(backTo pos (starEach [] X.env)).any (·.1)=false:=by rfl):SE X sf C (.Call (.Name "tuple" p) [ea] [] pos) (.op .tuple h [a]) :=
 aq (jC eo hg hm a3h (slc ha sl0 hs) (by decide) (by decide) hs hpl) (rO jD rfl)
end
end MR

namespace MR
open PySem PySem.Spec PyProof.Rows L2 L3
end MR

namespace MR
open PySem PySem.Spec PyProof.Rows L2 L3
section
variable {X:Cx}{sf sg:Nat->Option Nat}{io:List Nat}{C:M.Call}{pos p2:Pos}{ea eb ec:Expr}{a b c:M.E}{h:Bool}{n:Nat}
theorem x9 (j l:Nat){t u:Nat}{x y:Str}{px py pt:Pos}{kt:Nat}{xx:M.X}(hN:X.N.Nodup)(ha:SE X sf C ea a)(hne:t≠u:=by decide)(hi:t ∉ io:=by decide)(hi':u ∉ io:=by decide)(hs:sf t=some j:=by rfl)(hs':sf u=some l:=by rfl)(hj:X.N[j]?=some x:=by rfl)(hl:X.N[l]?=some y:=by rfl)
  (hx:L2.Loc X.env.scope x:=by first | exact a0M rfl | exact a0H rfl) (hy:L2.Loc X.env.scope y:=by first | exact a0M rfl | exact a0H rfl) (hc:X.calm=true:=by rfl)
  (hf:X.fn x=true\/X.env.scope.names.lookup x=some .local:=by first | exact .inl rfl | exact .inr rfl) (hf':X.fn y=true\/X.env.scope.names.lookup y=some .local:=by first | exact .inl rfl | exact .inr rfl)
  (hsw:swapsWithSole [.Tuple [.Name x px,.Name y py] kt pt] ea pos.line X.env=pure false:=by rfl) (hw:swappedStores [.Tuple [.Name x px,.Name y py] kt pt] ea X.env=pure none:=by rfl) :
  SS X sf io C (.Assign [.Tuple [.Name x px,.Name y py] kt pt] ea pos) (.asgT xx [t,u] a) :=
 bP (sQ ha (vo (n:=2) hc (fZ (fh (i:=j) hN hj hx hf) (fZ (fh (i:=l) hN hl hy hf') oO))) hsw hw) (oR hne hi hi' hs hs')
end
end MR

namespace MR
open PySem PySem.Spec PyProof.Rows L2 L3
section
variable {X:Cx}{sf sg:Nat->Option Nat}{C:M.Call}{pos p2 p3:Pos}{ea eb ec:Expr}{a b c:M.E}{h:Bool}{n:Nat}{io:List Nat}
theorem sGc {x:Str}{i:Int}(hm:∃ t,X.mg x=some (.int i t))(hg:Gl X x:=by rfl)(hd:(x==("__debug__":Str))=false:=by decide):SE X sf C (.Name x pos) (.cst (.int i)):=by
 obtain ⟨t,hm⟩:=hm
 exact aq (jg (v:=.int i) hg hm ⟨t,rfl⟩ hd) (dI rfl)
noncomputable def rD (K:a0a)(H:Hp):List Nat->V->V->Prop
 | [],v,u=>u=v
 | j::p,v,u=>∃ a xs x,v=.ref a/\(SqL K H a xs\/SqT K H a xs)/\xs[j]?=some x/\rD K H p x u
noncomputable def wP (K:a0a)(sf:Nat->Option Nat)(i:Nat)(p:List Nat):TE:=fun σ H Q=>∃ j v u,sf i=some j/\σ[j]?=some (some v)/\rD K H p v u/\Q u H
noncomputable abbrev SP (X:Cx)(sf:Nat->Option Nat)(me:Expr)(i:Nat)(p:List Nat):Prop:=PE X me (wP X.K sf i p)
noncomputable def wK (Fs:Fps)(i:Nat)(G:Fp):Fps:=fun l a=>(l=i/\G a)\/(l≠i/\Fs l a)
noncomputable def CstR (K:a0a)(t:M.T)(v:V):Prop:=∀ (Z:Fp) (H:Hp),Rep K Z H .s t v no
theorem cst_int {K:a0a}(i:Int):CstR K (.int i) (.int i):=fun _ _=>rfl
theorem cst_non {K:a0a}:CstR K .non .non:=fun _ _=>rfl
theorem cst_bl {K:a0a}(b:Bool):CstR K (.bl b) (.bl b):=fun _ _=>rfl
theorem cst_str {K:a0a}{x:Str}(h:M.sOk x=true):CstR K (.str x) (.str x):=fun _ _=>⟨rfl,h⟩
noncomputable def vy (K:a0a)(w:World)(mg:Str->Option Value)(x:Str)(tab:List (Str×M.T)):Prop :=
 ∃ a T,mg x=some (.ref a)/\DTab K w a T/\∀ z,match tab.lookup z with
  | some t=>∃ v,T.lookup z=some v/\CstR K t v
  | none=>T.lookup z=none
theorem we {K:a0a}{w:World}{ad:Addr}{T:List (Str×V)}{tab:List (Str×M.T)}{e:M.E}(D:DTab K w ad T)(ht:∀ z,match tab.lookup z with
  | some t=>∃ v,T.lookup z=some v/\CstR K t v
  | none=>T.lookup z=none) (σ:L2.St) (H:Hp) (Q:VK) (h:wE K sf C (.ixT tab e) σ H Q):tOp (fun x y H Q=>∃ a z T v,x=.ref a/\y=.str z/\DTab K w a T/\T.lookup z=some v/\Q v H) (tC (.ref ad)) (wE K sf C e) σ H Q:=by
 obtain ⟨pv,Z,Fs,η,w',η',A,ev,k⟩:=h
 obtain ⟨⟨u,η1⟩,h1,h2⟩:=aa (show (M.evE C e η).bind (M.kTab tab M.okS)=_ from ev)
 obtain ⟨z,t,e1,e2,h3⟩:=d9 h2
 cases h3
 refine ⟨pv,Z,Fs,η,u,η1,A,h1,fun y Z' H' Fs' G B r s=>?_⟩
 obtain ⟨m,t0⟩:=u
 cases (show t0=_ from e1)
 have q:=ht z
 rw [e2] at q
 obtain ⟨v,q1,q2⟩:=q
 exact ⟨ad,z,T,v,rfl,r.1,D,q1,k v Z' H' Fs' no B.bare (q2 Z' H') (s.mono (fun _ z=>z) fun a ha=>ha.elim .inl fun z=>z.elim)⟩
theorem yS {x:Str}{tab:List (Str×M.T)}(T:vy X.K X.w X.mg x tab)(ha:SE X sf C ea a)(hg:Gl X x:=by rfl)(hd:(x==("__debug__":Str))=false:=by decide)(hs:dm ea:=by intro _ _; rfl):SE X sf C (.Subscript (.Name x p2) ea pos) (.ixT tab a):=by
 obtain ⟨ad,T',hm,D,ht⟩:=T
 exact aq (rN uM (fD hg hm hd) ha hs) (we D ht)
noncomputable def uY (K:a0a)(w:World)(mg:Str->Option Value)(x:Str)(ks:List Str):Prop:=∃ a T,mg x=some (.ref a)/\DTab K w a T/\∀ z,(T.lookup z).isSome=ks.contains z
theorem uB {K:a0a}{w:World}{ad:Addr}{T:List (Str×V)}{ks:List Str}{e:M.E}{neg:Bool}(D:DTab K w ad T)(ht:∀ z,(T.lookup z).isSome=ks.contains z)(σ:L2.St)(H:Hp)(Q:VK)(h:wE K sf C (.inT neg ks e) σ H Q) :
  wE K sf C e σ H fun x H1=>∃ z a T',x=.str z/\V.ref ad=.ref a/\DTab K w a T'/\Q (.bl ((T'.lookup z).isSome != neg)) H1:=by
 obtain ⟨pv,Z,Fs,η,w',η',A,ev,k⟩:=h
 obtain ⟨⟨u,η1⟩,h1,h2⟩:=aa (show (M.evE C e η).bind (M.kIn neg ks)=_ from ev)
 obtain ⟨z,e1,e2,e3⟩:=fC h2
 cases e2
 refine ⟨pv,Z,Fs,η,u,_,A,h1,fun y Z' H' Fs' G B r s=>?_⟩
 obtain ⟨m,t0⟩:=u
 cases (show t0=_ from e1)
 refine ⟨z,ad,T,r.1,rfl,D,?_⟩
 rw [ht z]
 refine k _ Z' H' Fs' no B.bare ?_ (s.mono (fun _ z=>z) fun a ha=>ha.elim .inl fun z=>z.elim)
 rw [show w'=_ from e3]; rfl
end
end MR

namespace MR
open PySem PySem.Spec PyProof.Rows L2 L3
theorem fsc {N P:List Str}{sc:Scope}(h1:sc.kind=.function:=by rfl)(h2:sc.isCoroutine=false:=by rfl)(h3:sc.isGenerator=false:=by rfl)(h4:N.Nodup:=by decide +kernel)(h5:N.take P.length=P:=by rfl)(h6:∀ x∈P,sc.names.lookup x=some .local\/sc.names.lookup x=some .cell:=by decide +kernel)(h7:∀ y∈sc.names,y.2≠.free:=by decide +kernel):az N P sc:=⟨h1,h2,h3,h4,h5,h6,h7⟩
section
variable {P:Program}{w:World}{K:a0a}{mg:Str->Option Value}{base:Heap}{x:Str}{st:Stmt}{ps N:List Str}{n g:Nat}{io:List Nat}{C C':M.Call}{d:Value}{t:M.T}
structure Df (K:a0a)(mg:Str->Option Value)(x:Str)(st:Stmt)(ps:List Str):Prop where
 ex:∃ f fd,Fun K x x st f fd/\Binds K fd ps []/\mg x=some (.ref f)
theorem Df.ok (e:Df K mg x st ps)(h:∀ f fd,Fun K x x st f fd->ba P w K mg base CX0 n f fd ps (spS K C g io)):ao P w K mg base n C x g io:=by
 obtain ⟨f,fd,F,b,m⟩:=e.ex
 exact ⟨f,fd,ps,h f fd F,m,F.kp,b⟩
theorem Df.z (e:Df K mg x st ps)(hC:∀ ws,C g ws=.no:=by intro _; rfl):ao P w K mg base n C x g io:=e.ok fun _ _ _=>fn0 hC
theorem Df.s (fn:M.Fn)(e:Df K mg x st ps)(S:az N ps (defScope st))
  (hb:∀ {f:Addr} {cdv:Value} {A:Around} {outer:List Env} {s:Shared} {H:Hp} {E:XK},Room n (A.deeper (envOfC x (defScope st) s.heap.objs.size f cdv))->SSs (cJ CX0 P w K mg base N x (defScope st) f cdv A outer s H E).nox (slN N.length) fn.io C (defBody st) fn.body)
  (hC:∀ ws,C' g ws=M.runF C fn ws:=by intro _; rfl) (hps:fn.ps=ps.length:=by rfl) (hle:ps.length<=N.length:=by decide) (nd:fn.io.Nodup:=by decide) (hio:∀ i∈fn.io,i < ps.length:=by decide):ao P w K mg base (n+1) C' x g fn.io :=
 e.ok fun _ _ F=>Fun.okM F S hps hle nd hio (fun _ _ _ _ _ _ h=>hb h) hC
noncomputable def Raw (K:a0a)(x:Str)(st:Stmt)(dV:Value):Prop:=∃ f oc od sl kV dc pm an cd ct,a08 K mainGlobals x=some (some (.ref f))/\K.lookup f=some ⟨oc,od,.func (a01 x x (defArgs st) (defBody st) (defScope st) dV kV dc pm an cd ct),sl⟩/\a11 K cd x=true/\a09 K (.ref f)=true
theorem d6 {h:Heap}(X:K.In h)(G:h.Ns mainGlobals mg)(r:Raw K x st .none)(hb:∀ (kV doc pm:Value) (an:Option Addr) (cdv ct:Value) (us:List Value),us.length=ps.length->bindArgs (a01 x x (defArgs st) (defBody st) (defScope st) .none kV doc pm an cdv ct) ⟨us,[]⟩=pure (ps.zip us)):Df K mg x st ps:=by
 obtain ⟨f,oc,od,sl,kV,dc,pm,an,cd,ct,h1,h2,h3,h4⟩:=r
 have F:=mR (st:=st) h2 h3 h4
 exact ⟨f,_,F,F.binds hb,a0R X G h1⟩
noncomputable def vQ (K:a0a):List Str->Prop
 | []=>True
 | x::r=>a08 K mainGlobals x=some none/\vQ K r
theorem wq {h:Heap}(X:K.In h)(G:h.Ns mainGlobals mg)(r:vQ K ["isinstance","int","tuple","list","bool","sum","len","all","zip","range","enumerate","any","max","min","sorted","str","repr","abs","dict","set","reversed"]):Txt mg:=by
 obtain ⟨z1,z2,z3,z4,z5,z6,z7,z8,z9,z10,z11,z12,z13,z14,z15,z16,z17,z18,z19,z20,z21,_⟩:=r
 have m:=fun {x:Str} (z:a08 K mainGlobals x=some none)=>PySem.W.mg_none_of X G z
 exact ⟨m z1,m z2,m z3,m z4,m z5,m z6,m z7,m z8,m z9,m z10,m z11,m z12,m z13,m z14,m z15,m z16,m z17,m z18,m z19,m z20,m z21⟩
noncomputable def TabRaw (K:a0a)(w:World)(x:Str)(T:List (Str×V)):Prop:=∃ a es n,a08 K mainGlobals x=some (some (.ref a))/\K.lookup a=some ⟨.type "dict",none,.dict es n,#[]⟩/\a21 w.params es.toList/\Paired (fun (p:Str×V) (e:DictEntry)=>(∃ t,e.key=.str p.1 t)/\RelV p.2 e.val) T es.toList/\(a==sysModules)=false
theorem TabRaw.tab {h:Heap}{T:List (Str×V)}(X:K.In h)(G:h.Ns mainGlobals mg)(r:TabRaw K w x T):∃ a,mg x=some (.ref a)/\DTab K w a T:=by
 obtain ⟨a,es,n,h1,h2,h3,h4,h5⟩:=r
 exact ⟨a,a0R X G h1,⟨es,n,h2,h3,h4⟩,h5⟩
theorem eG (z:Str):∀ T:List (Str×V),(T.lookup z).isSome=(T.map a3g).contains z
 | []=>rfl
 | (k,v)::T=>by
  rw [a04,a0k,a07]
  cases z==k with
  | true=>rfl
  | false=>rw [eG z T]; rfl
theorem oi {h:Heap}{T:List (Str×V)}{ks:List Str}(X:K.In h)(G:h.Ns mainGlobals mg)(r:TabRaw K w x T)(hk:T.map a3g=ks):uY K w mg x ks:=by
 obtain ⟨a,h1,h2⟩:=r.tab X G
 exact ⟨a,T,h1,h2,fun z=>by rw [eG,hk]⟩
noncomputable def CstL (K:a0a):List (Str×M.T)->List (Str×V)->Prop
 | [],[]=>True
 | e::r,p::T=>(p.1=e.1/\CstR K e.2 p.2)/\CstL K r T
 | _,_=>False
theorem eM (z:Str):∀ {tab:List (Str×M.T)} {T:List (Str×V)},CstL K tab T->match tab.lookup z with
  | some t=>∃ v,T.lookup z=some v/\CstR K t v
  | none=>T.lookup z=none
 | [],[],_=>rfl
 | (k,t)::r,(k',v)::T,⟨⟨e,c⟩,q⟩=>by
  have e':k'=k:=e
  subst e'
  have ih:=eM z q
  rw [a04,a04]
  cases z==k' with
  | true=>exact ⟨v,rfl,c⟩
  | false=>exact ih
 | [],_::_,h=>h.elim
 | _::_,[],h=>h.elim
theorem p7 {h:Heap}{T:List (Str×V)}{tab:List (Str×M.T)}(X:K.In h)(G:h.Ns mainGlobals mg)(r:TabRaw K w x T)(hc:CstL K tab T):vy K w mg x tab:=by
 obtain ⟨a,h1,h2⟩:=r.tab X G
 exact ⟨a,T,h1,h2,fun z=>eM z hc⟩
end
end MR

namespace MR
open PySem PySem.Spec PyProof.Rows L2 L3
end MR
namespace MR
open PySem PySem.Spec PyProof.Rows L2 L3
end MR
namespace MR
open PySem PySem.Spec PyProof.Rows L2 L3
end MR
namespace MR
open PySem PySem.Spec PyProof.Rows L2 L3
end MR
namespace MR
open PySem PySem.Spec PyProof.Rows L2 L3
section
variable {X:Cx}{sf sg:Nat->Option Nat}{C:M.Call}{pos p p2 p3:Pos}{ea eb ec:Expr}{a b c:M.E}{h:Bool}{io:List Nat}{K:a0a}
theorem t9 {neg:Bool}{ks:List Str}{σ:L2.St}{H:Hp}{Q:Bool->Hp->Prop}(hw:wT K sf C (.inT neg ks a) σ H Q):wE K sf C (.inT neg ks a) σ H fun x H'=>∃ k,x=.bl k/\Q k H':=by
 obtain ⟨pv,Z,Fs,η,w,η',b,A,ev,ht,k⟩:=hw
 refine ⟨pv,Z,Fs,η,w,η',A,ev,fun v Z' H' Fs' G B r s=>?_⟩
 obtain ⟨⟨u,η1⟩,h1,h2⟩:=aa (show (M.evE C a η).bind (M.kIn neg ks)=_ from ev)
 obtain ⟨z,e1,e2,e3⟩:=fC h2
 rw [show w=_ from e3] at ht r
 cases ht
 exact ⟨_,r,k Z' H' Fs' B.bare (s.mono (fun _ z=>z) fun _ z=>.inl z)⟩
theorem i0 {x:Str}{ks:List Str}(T:uY X.K X.w X.mg x ks)(ha:SE X sf C ea a)(hg:Gl X x:=by rfl)(hd:(x==("__debug__":Str))=false:=by decide)(hb:behindInMarks .NotIn (.Name x p2)=false:=by rfl):SB X sf C (.Compare ea [.NotIn] [.Name x p2] pos) (.inT true ks a):=by
 obtain ⟨ad,T',hm,D,ht⟩:=T
 refine iX (iW fU ha (fD hg hm hd) hb) fun σ H Q hw=>?_
 obtain ⟨pv,Z,Fs,η,w',η',A,ev,k⟩:=uB D ht σ H _ (t9 hw)
 refine ⟨pv,Z,Fs,η,w',η',A,ev,fun v Z' H' Fs' G B r s=>?_⟩
 obtain ⟨z,a,T2,e1,e2,e3,q⟩:=k v Z' H' Fs' G B r s
 rw [Bool.bne_true] at q
 exact ⟨z,a,T2,e1,e2,e3,q⟩
end
end MR

namespace MR
open PySem PySem.W L2 M
noncomputable def CstRs (K:a0a)(ts:List M.T)(xs:List V):Prop:=∀ (Z:Fp) (H:Hp),RepL K Z H .s ts xs no
theorem cst_nil {K:a0a}:CstRs K [] []:=fun _ _=>rfl
theorem cst_cons {K:a0a}{t:M.T}{ts:List M.T}{x:V}{xs:List V}(h:CstR K t x)(r:CstRs K ts xs):CstRs K (t::ts) (x::xs):=fun Z H=>⟨x,xs,no,no,rfl,fun _ h=>h,fun _ h=>h,fun _ h=>h.elim,h Z H,r Z H⟩
theorem cst_tup {K:a0a}{ts:List M.T}{xs:List V}{a:Addr}{o:Obj}{its:Array Value}{n:Nat}(h:K.lookup a=some o)(hc:o.cls=.type "tuple")(hd:o.data=.seq its n)(hs:its.size<=sizeLine)(hv:Vals xs its.toList)(hl:xs.length<=LIM)(r:CstRs K ts xs):CstR K (.tup ts) (.ref a):=fun Z H=>⟨a,xs,rfl,.inr ⟨o,its,n,h,hc,hd,hs,hv⟩,hl,r Z H⟩
end MR

namespace MR
open PySem PySem.Spec PyProof.Rows L2 L3 M
end MR

namespace L3
open PySem PySem.Spec PyProof.Rows L2
end L3
namespace MR
open PySem PySem.Spec PyProof.Rows L2 L3
end MR

namespace L3
open PySem PySem.Spec PyProof.Rows L2
end L3
namespace MR
open PySem PySem.Spec PyProof.Rows L2 L3
end MR

namespace L3
open PySem PySem.Spec PySem.NumText PyProof.Rows L2
theorem ur {i:Int}(h:i.natAbs < 10000000000000000000):i.natAbs.log2 < 1920:=by
 by_cases h0:i.natAbs=0
 ·rw [h0]; decide
 ·exact a0l ((Nat.log2_lt h0).mpr (show i.natAbs < 2 ^ 64 from a0l h (by decide))) (by decide)
theorem lX {n:Int}(h:n.natAbs < 10000000000000000000):(Str.ofString (toString n)).length<=20:=by
 have h2:=int_text_length_le10 (a:=n) (k:=19) (by decide) h
 have:(Str.ofString (toString n)).length=(toString n).length:=by
  show (Str.ofString (toString n)).cps.size=_
  rw [<- a0p,signs_ofString,a0b,a1t]
 omega
noncomputable def spJ (c:Nat)(ls:List (List Nat)):List a1j:=ls.map fun l=>⟨l.toArray⟩
theorem iA (c:Nat):∀ (xs acc:List Nat),M.spl c acc xs≠[]
 | [],acc=>a05 _ _
 | x::xs,acc=>by
  unfold M.spl
  split
  ·exact a05 _ _
  ·exact iA c xs _
theorem dP (c:Nat):∀ (xs acc:List Nat),c ∉ acc->∀ l∈M.spl c acc xs,c ∉ l
 | [],acc,h,l,hl=>by rw [a0x.mp hl]; exact h
 | x::xs,acc,h,l,hl=>by
  unfold M.spl at hl
  split at hl
  ·rcases a0W.mp hl with rfl | hl
   ·exact h
   ·exact dP c xs [] (by simp) l hl
  ·rename_i hx
   refine dP c xs _ (fun z=>?_) l hl
   rcases a0s.mp z with z | z
   ·exact h z
   ·exact hx (a0x.mp z).symm
theorem bE (c:Nat):∀ (xs acc:List Nat),(a0r ⟨#[c]⟩ (spJ c (M.spl c acc xs))).cps.toList=acc++xs
 | [],acc=>by rw [a0F]; rfl
 | x::xs,acc=>by
  unfold M.spl
  split
  ·rename_i hx
   have ih:=bE c xs []
   obtain ⟨y,r,e⟩:∃ y r,M.spl c [] xs=y::r:=by
    cases h:M.spl c [] xs with
    | nil=>exact absurd h (iA c xs [])
    | cons y r=>exact ⟨y,r,rfl⟩
   rw [e] at ih ⊢
   show ((⟨acc.toArray⟩:a1j)++⟨#[c]⟩++a0r ⟨#[c]⟩ (spJ c (y::r))).cps.toList=_
   rw [ax,ax,ih,hx]
   simp
  ·rw [bE c xs (acc++[x]),a1c]; rfl
theorem jE (x:a1j):PySem.Txt.split x (Str.ofString " ")=M.splS x:=by
 have hc:Str.ofString " "=⟨#[32]⟩:=by decide +kernel
 rw [hc]
 have e1:a0r ⟨#[32]⟩ (M.splS x)=x:=by
  have:=bE 32 x.cps.toList []
  cases x with
  | mk a =>
   have h2:(a0r ⟨#[32]⟩ (M.splS ⟨a⟩)).cps.toList=a.toList:=this
   generalize a0r ⟨#[32]⟩ (M.splS ⟨a⟩)=u at h2
   cases u
   exact congrArg a2M (a1I.mp h2)
 refine gy 32 _ _ (mf _ _) (fun z=>iA 32 _ _ (List.map_eq_nil_iff.mp z)) (StrLaws.split_free _ 32) (fun p hp=>?_) ((StrLaws.join_split _ _).trans e1.symm)
 obtain ⟨l,hl,rfl⟩:=a2N.mp hp
 exact dP 32 _ _ a1J l hl
theorem jv {z:a1j}{ss:List a1j}(h:(ss.map fun s=>s.cps.size+z.cps.size).sum<=M.LIM):JoinOk z ss=true:=by
 have e:∀ (l:List a1j) (a:Nat),l.foldl (fun a s=>a+s.length+z.length) a=a+(l.map fun s=>s.cps.size+z.cps.size).sum:=by
  intro l
  induction l with
  | nil=>intro a; rfl
  | cons s l ih =>
   intro a
   rw [a20,ih,a0k,a1P]
   show a+s.cps.size+z.cps.size+_=_
   omega
 unfold JoinOk
 rw [show ss.toArray.foldl (·+·.length+z.length) 0=ss.foldl (fun a s=>a+s.length+z.length) 0 from List.foldl_toArray ..,e,a1v]
 unfold Builtin.Str.tooLong
 have:¬ (ss.map fun s=>s.cps.size+z.cps.size).sum > sizeLine:=by
  have:=MR.LIM_le h
  omega
 rw [decide_eq_false this]; rfl
end L3
namespace MR
open PySem PySem.Spec PyProof.Rows L2 L3
section
variable {X:Cx}{sf sg:Nat->Option Nat}{C:M.Call}{pos p p2 p3:Pos}{ea eb ec:Expr}{a b c:M.E}{h:Bool}{n:Nat}{io:List Nat}{K:a0a}
theorem mw {Z:Fp}{H:Hp}{G:Fp}{m:M.Md}:∀ {ts:List M.T} {ss:List Str} {xs:List V},M.strsOf ts=some ss->RepL K Z H m ts xs G->xs=ss.map V.str:=by
 intro ts
 induction ts generalizing G with
 | nil=>intro ns xs e r; cases e; exact r
 | cons t ts ih =>
  intro ns xs e r
  obtain ⟨x,r',G1,G2,rfl,_,_,_,p,q⟩:=r
  cases t with
  | str i =>
   cases e1:M.strsOf ts with
   | none=>simp [M.strsOf,e1] at e
   | some ms =>
    have:ns=i::ms:=by simpa [M.strsOf,e1] using e.symm
    subst this
    rw [a0k,<- ih e1 q,show x=.str i from p.1]
  | _=>cases e
theorem lx {Z:Fp}{H:Hp}{m:M.Md}:∀ {ss:List Str},(∀ x∈ss,M.sOk x=true)->RepL K Z H m (ss.map M.T.str) (ss.map V.str) no
 | [],_=>rfl
 | x::ss,h=>⟨.str x,ss.map V.str,no,no,rfl,fun _ z=>z.elim,fun _ z=>z.elim,fun _ z=>z.elim,⟨rfl,h x a0c⟩,lx fun y hy=>h y (a0e _ hy)⟩
theorem rj {o:M.Op}{e1 e2:M.E}{T:String}{r:V->List V->Hp->VK->Prop}(ty:∀ {m:M.Md} {t:M.T} {w2 w:M.W} {x:V} {Z:Fp} {H:Hp} {G:Fp},M.oSem o h [(m,t),w2]=some w->Rep K Z H m t x G->tyV K T x H)
  (l:Loc K 2 o h fun xs H Q=>∀ x y,xs=[x,y]->r x [y] H Q) (σ:L2.St) (H:Hp) (Q:VK) (hw:wE K sf C (.op o h [e1,e2]) σ H Q):tBM K T r (wE K sf C e1) (wL K sf C [e2]) σ H Q:=by
 obtain ⟨pv,Z,Fs,η,w,η',A,ev,k⟩:=hw
 obtain ⟨ws,h1,h2⟩:=bj ev
 obtain ⟨⟨m,t⟩,η1,us,g1,g2,rfl⟩:=aj h1
 obtain ⟨wb,η2,us,g3,g4,rfl⟩:=aj g2
 cases g4
 refine gc A g1 fun x Z1 H1 Fs1 G1 A1 r1 _ s1 _=>?_
 have A1':=A1.mono (G':=G1) fun _ z=>.inr z
 refine ⟨ty h2 r1,?_⟩
 refine xT A1' g2 fun vs Z2 H2 Fs2 G2 A2 r2 d2 s2 t2=>?_
 obtain ⟨y,rfl,ry⟩:=bY rfl r2
 exact l [(m,t),wb] w [x,y] Z2 H2 _ Q rfl h2 ⟨x,[y],G1,G2,rfl,fun _ z=>.inl z,fun _ z=>.inr z,d2,r1.frame A1.gd.own s2 A1'.dis,r2⟩ A2.own A2.gd.zal (aY A2 (s1.trans t2) k) x y rfl
theorem kJ:Loc K 2 .join h fun xs H Q=>∀ x y,xs=[x,y]->qS K x [y] H Q:=by
 intro ws w xs Z H G Q hn e r ow za k x y hx
 match ws,hn with
 | [(m,a),(m2,b)],_ =>
  subst hx
  obtain ⟨x',r',G1,G2,e0,g1,g2,gd,p1,p2⟩:=r
  cases e0
  obtain ⟨y',e1,p3⟩:=bY rfl p2
  cases e1
  cases a with
  | str z =>
   cases b with
   | lst ts =>
    have e2:((M.strsOf ts).bind fun ss=>if (M.sOk (Str.join z ss)&&decide ((ss.map fun s=>s.cps.size+z.cps.size).sum<=M.LIM))=true then some ((.d,.str (Str.join z ss)):M.W) else none)=some w:=e
    cases e3:M.strsOf ts with
    | none=>rw [e3] at e2; cases e2
    | some ss =>
     rw [e3] at e2
     have e4:(if (M.sOk (Str.join z ss)&&decide ((ss.map fun s=>s.cps.size+z.cps.size).sum<=M.LIM))=true then some ((.d,.str (Str.join z ss)):M.W) else none)=some w:=e2
     split at e4
     ·rename_i hb
      cases e4
      rw [a0h] at hb
      obtain ⟨q,xs,hq,hs,hl,pr⟩:=bA p3
      rw [mw e3 pr] at hs
      exact ⟨z,q,ss,p1.1,by rw [hq],.inl (.inl hs),jv (of_decide_eq_true hb.2),fo k hb.1⟩
     ·cases e4
   | _=>cases e
  | _=>cases e
theorem jQ:Loc K 2 .split h fun xs H Q=>∀ x y,xs=[x,y]->lY x [y] H Q:=by
 intro ws w xs Z H G Q hn e r ow za k x y hx
 match ws,hn with
 | [(m,a),(m2,b)],_ =>
  subst hx
  obtain ⟨x',r',G1,G2,e0,g1,g2,gd,p1,p2⟩:=r
  cases e0
  obtain ⟨y',e1,p3⟩:=bY rfl p2
  cases e1
  cases a with
  | str z =>
   cases b with
   | str y =>
    have e4:(if ((y==Str.ofString " ")&&decide (z.cps.size+2<=M.LIM)&&(M.splS z).all M.sOk)=true then some ((.d,.lst ((M.splS z).map M.T.str)):M.W) else none)=some w:=e
    split at e4
    ·rename_i hb
     cases e4
     rw [a0h,a0h] at hb
     have hy:y=Str.ofString " ":=eq_of_beq hb.1.1
     have hz:=of_decide_eq_true hb.1.2
     have hl:(M.splS z).length<=M.LIM:=by
      have:∀ (xs acc:List Nat),(M.spl 32 acc xs).length<=xs.length+1:=by
       intro xs
       induction xs with
       | nil=>intro acc; exact a0m _
       | cons x xs ih =>
        intro acc
        unfold M.spl
        split
        ·rw [a0g,a0g]; have:=ih []; omega
        ·rw [a0g]; have:=ih (acc++[x]); omega
      have h2:=this z.cps.toList []
      have h3:z.cps.toList.length=z.cps.size:=a0p
      unfold M.splS
      rw [a0b]
      omega
     refine ⟨z,y,p1.1,congrArg (fun v=>[v]) p3.1,by rw [hy]; decide +kernel,LIM_le hz,fun p hp=>?_⟩
     rw [hy,jE]
     exact bW (G':=no) ow za (fun _ z=>z.elim) (by rw [a0b]; exact hl) (lx fun x hx=>a1K.mp hb.2 x hx) (by simp) k hp
    ·cases e4
   | _=>cases e
  | _=>cases e
section
variable {apos cpos:Pos}
theorem rL (ha:SE X sf C ea a)(hb:SE X sf C eb b)(hs:starEach [eb] X.env=(false,eval eb X.env)::starEach [] X.env:=by rfl)
  (hbase:attributeBase ea "join" X.env (eval ea X.env)=eval ea X.env:=by rfl) (hline:(apos.endLine==cpos.line)=true:=by rfl) (hplain:(backTo cpos (starEach [] X.env)).any (·.1)=false:=by rfl)
  (hfew:((backTo cpos (starEach [eb] X.env)).all (fun x=>!x.1)&&(backToKw cpos (keywordEach [] X.env)).all (fun x=>x.1.isSome)&&decide ([eb].length+([]:List Keyword).length+(if ([]:List Keyword).isEmpty then 0 else 1) < 30))=true:=by rfl):SE X sf C (.Call (.Attribute ea "join" apos) [eb] [] cpos) (.op .join h [a,b]) :=
 aq (ly a2g PySem.F.slot_str_join PySem.F.type_str_join pC ha (slc hb sl0 hs) hbase hfew hline hs hplain) (rj (fun {m t w2 w x Z H G} e r=>by
  cases t with
  | str z=>rw [show x=_ from r.1]; exact rfl
  | _=>cases e) kJ)
theorem lb (ha:SE X sf C ea a)(hb:SE X sf C eb b)(hs:starEach [eb] X.env=(false,eval eb X.env)::starEach [] X.env:=by rfl)
  (hbase:attributeBase ea "split" X.env (eval ea X.env)=eval ea X.env:=by rfl) (hline:(apos.endLine==cpos.line)=true:=by rfl) (hplain:(backTo cpos (starEach [] X.env)).any (·.1)=false:=by rfl)
  (hfew:((backTo cpos (starEach [eb] X.env)).all (fun x=>!x.1)&&(backToKw cpos (keywordEach [] X.env)).all (fun x=>x.1.isSome)&&decide ([eb].length+([]:List Keyword).length+(if ([]:List Keyword).isEmpty then 0 else 1) < 30))=true:=by rfl):SE X sf C (.Call (.Attribute ea "split" apos) [eb] [] cpos) (.op .split h [a,b]) :=
 aq (ly a2g PySem.F.slot_str_split PySem.F.type_str_split lJ ha (slc hb sl0 hs) hbase hfew hline hs hplain) (rj (fun {m t w2 w x Z H G} e r=>by
  cases t with
  | str z=>rw [show x=_ from r.1]; exact rfl
  | _=>cases e) jQ)
end
end
end MR

namespace L3
open PySem PySem.Spec PyProof.Rows L2
end L3
namespace MR
open PySem PySem.Spec PyProof.Rows L2 L3
theorem slx {X:Cx}{sf:Nat->Option Nat}{C:M.Call}{ea:Expr}{a:M.E}{es:List Expr}{bs:List M.E}(ha:SE X sf C ea a)(hb:SL X sf C es bs)(hs:starEach (ea::es) X.env=(false,eval ea X.env)::starEach es X.env):SL X sf C (ea::es) (a::bs):=slc ha hb hs
theorem sTx {X:Cx}{sf:Nat->Option Nat}{C:M.Call}{pos:Pos}{es:List Expr}{bs:List M.E}{x1:Nat}(hn:bs.length<=M.LIM)(h:SL X sf C es bs):SE X sf C (.Tuple es x1 pos) (.tup bs):=sT h hn
theorem sLx {X:Cx}{sf:Nat->Option Nat}{C:M.Call}{pos:Pos}{h:Bool}{es:List Expr}{bs:List M.E}(hn:bs.length<=M.LIM)(hh:SL X sf C es bs):SE X sf C (.List es pos) (.lst h bs):=sLs hh hn
theorem aW {X:Cx}{sf:Nat->Option Nat}{C:M.Call}{pos:Pos}{h:Bool}{ea eb:Expr}{a b:M.E}(ha:SE X sf C ea a)(hb:SE X sf C eb b)(hs:dm eb):SE X sf C (.Subscript ea eb pos) (.op .ix h [a,b]):=sIx ha hb hs
theorem bB {X:Cx}{sf:Nat->Option Nat}{C:M.Call}{ea:Expr}{a:M.E}{es:List Expr}{bs:List M.E}(ha:SE X sf C ea a)(hb:SA X sf C es bs)(he:∀ i,a≠.io i)(hs:starEach (ea::es) X.env=(false,eval ea X.env)::starEach es X.env):SA X sf C (ea::es) (a::bs):=sac ha hb he hs
end MR

namespace TP
open PySem PySem.W
noncomputable def en (P:Params)(k:Str)(t:Nat)(v:Value):DictEntry:=⟨PyData.keyHash P k,.str k t,v⟩
noncomputable def tu (xs:List Value):Obj:=⟨.type "tuple",none,.seq xs.toArray 0,#[]⟩
noncomputable def fe (xs:List Value):Obj:=⟨.none,none,.fields xs.toArray,#[]⟩
noncomputable def di (es:List DictEntry)(n:Nat):Obj:=⟨.type "dict",none,.dict es.toArray n,#[]⟩
noncomputable abbrev fl:Str:="/claim/cut.py"
noncomputable def iv (i:Int):Value:=.int i 0
noncomputable def cdo (n q:Str)(t t2:Nat)(ln ac:Nat)(f:Nat)(a:Nat)(b:Bool)(x y z:Value):Obj :=
 ⟨.type "code",none,.fields #[.str n t,.str q (t+1),.str fl (t+2),iv ln,iv ac,iv 0,iv 0,iv f,.ref a,.bool b,iv 181,.ref (a+1),.none,x,y,z,iv t2,iv ln,.str fl (t2+1)],#[]⟩
noncomputable def ofn (c:Value)(st:Stmt)(q:Str)(g:Nat)(d m:Value)(cd:Value):Obj:=match st with
 | .FunctionDef n ar b _ _ _ sc _ _ _=>⟨c,none,.func { name:=n,qualname:=q,params:=ar,body:=.stmts b,scope:=sc,globals:=g,closure:=[],defaults:=d,kwdefaults:=.none,pyModule:=m,code:=cd },#[]⟩
 | _=>default
noncomputable def tks:List Str->Nat->List Value
 | [],_=>[]
 | x::r,t=>.str x t::tks r (t+1)
structure R where
 os:List Obj
 ns:List DictEntry
 tb:List Value
 n:Nat
 tk:Nat
 md:Value
inductive Rc where
 | d | m | c
 | x (k:Str) (kt:Nat) (v:Value) (os:Params->List Obj) (tb:List Value) (n tk:Nat)
noncomputable def cv:Expr->Value
 | .Constant (.bool b) _ _=>.bool b
 | _=>.none
noncomputable def dO (P:Params)(n tk:Nat)(md:Value)(st:Stmt):R:=match st with
 | .FunctionDef nm ar b _ _ _ sc _ _ pos =>
  let pr:List Obj×Value×Nat:=match ar.defaults with
   | []=>([],.none,n)
   | ds=>([tu (ds.map cv)],.ref n,n+1)
  let a:=pr.2.2
  match localNames ar sc (.stmts b) with
  | none=>⟨pr.1++[tu [],fe [],ofn .none st nm 0 .none .none .none,cdo nm nm tk (tk+3) pos.line ar.args.length 3 a true .none .none (.ref (a+2)),ofn (.type "function") st nm 3 pr.2.1 md (.ref (a+3))],
    [en P nm (tk+5) (.ref (a+4))],[iv pos.line,iv pos.col,.ref (a+3)],a+5,tk+6,md⟩
  | some l =>
   let k:=l.1.length
   let j:=l.2.length
   ⟨pr.1++[tu [],fe [],tu (tks l.1 (tk+3)),tu (tks l.2 (tk+3+k)),ofn .none st nm 0 .none .none .none,cdo nm nm tk (tk+3+k+j) pos.line ar.args.length 3 a true (.ref (a+2)) (.ref (a+3)) (.ref (a+4)),ofn (.type "function") st nm 3 pr.2.1 md (.ref (a+5))],
    [en P nm (tk+5+k+j) (.ref (a+6))],[iv pos.line,iv pos.col,.ref (a+5)],a+7,tk+6+k+j,md⟩
 | _=>⟨[],[],[],n,tk,md⟩
noncomputable def one (P:Params)(n tk:Nat)(md:Value)(st:Stmt):Rc->R
 | .d=>dO P n tk md st
 | .m=>match st with
  | .Assign _ (.Constant (.str s) _ _) _=>⟨[],[],[],n,tk+2,.str s tk⟩
  | _=>⟨[],[],[],n,tk,md⟩
 | .c=>match st with
  | .Assign (.Name x _::_) (.Constant (.str s) _ _) _=>⟨[],[en P x (tk+1) (.str s tk)],[],n,tk+2,md⟩
  | .Assign (.Name x _::_) (.Constant (.int i) _ _) _=>⟨[],[en P x (tk+1) (.int i tk)],[],n,tk+2,md⟩
  | _=>⟨[],[],[],n,tk,md⟩
 | .x k kt v os tb n' tk'=>⟨os P,[en P k kt v],tb,n',tk',md⟩
noncomputable def go (P:Params):List (Stmt×Rc)->Nat->Nat->Value->List R
 | [],_,_,_=>[]
 | (st,r)::l,n,tk,md=>let x:=one P n tk md st r
  x::go P l x.n x.tk x.md
noncomputable def y8 (x:R):List R->R
 | []=>x
 | y::l=>y8 y l
noncomputable def ds:Data->List DictEntry
 | .dict es _=>es.toList
 | _=>[]
noncomputable def ep:Data->Nat
 | .dict _ n=>n
 | _=>0
noncomputable def r0:R:=⟨[],[],[],15,187,.str "__main__" 164⟩
noncomputable def rs (P:Params)(l:List (Stmt×Rc)):List R:=go P l 15 187 (.str "__main__" 164)
noncomputable def o3 (P:Params)(l:List R):Obj:=di (en P "__name__" 165 (y8 r0 l).md::((ds (boot_o_3 P).data).tail++l.flatMap R.ns)) (ep (boot_o_3 P).data+(l.flatMap R.ns).length)
noncomputable def os (P:Params)(l:List R):List Obj :=
 boot_o_0 P::boot_o_1 P::boot_o_2 P::o3 P l::boot_o_4 P::boot_o_5 P::boot_o_6 P::boot_o_7 P::boot_o_8 P::boot_o_9 P::boot_o_10 P ::
 tu []::fe (l.flatMap R.tb)::cdo "<module>" "<module>" 182 185 1 0 0 11 false .none .none .none ::
 ⟨.type "frame",none,.plain,#[some (.ref 13),some (.ref 3),some (.ref 3),none,some (.str "__main__" 164),none,some (.ref 0)]⟩::l.flatMap R.os
noncomputable def odd {α:Type}:List α->List α×List α
 | []=>([],[])
 | x::l=>(x::(odd l).2,(odd l).1)
noncomputable def bt:Nat->List Obj->BT
 | 0,_=>.nil
 | _+1,[]=>.nil
 | k+1,x::l=>.node x (bt k (odd l).1) (bt k (odd l).2)
noncomputable abbrev p0:Pos:=⟨0,0,0,0⟩
noncomputable abbrev B0:List Frame:=[topFrame p0]
noncomputable abbrev an:Option Value:=some (.ref 6)
noncomputable def ev (p:Program):Env:={ scope:=p.main.scope,locals:=mainNs,globals:=mainNs,cells:=[],code:=.ref 13,frame:=some 14 }
noncomputable def cE (p:Program):Code:=.body (behindTheImports p) (ev p)
noncomputable def sT (p:Program)(rc:List Rc)(P:Params)(m n tk:Nat)(o:OsState):SharedT:=⟨bt 12 (os P (rs P ((p.main.body.zip rc).take m))),n,{},#[],{},tk,o⟩
noncomputable def hp (p:Program)(rc:List Rc)(m n:Nat)(P:Params):Heap:=absHeap (bt 12 (os P (rs P ((p.main.body.zip rc).take m)))) n {}
noncomputable def Cut (p:Program)(rc:List Rc)(i n t:Nat)(ps:Pos)(k N n' t':Nat)(ps':Pos)(w:World):Prop:=∀ o,segRunT treeTable p w 11 an 1 N (sT p rc w.params i n t o) (piecesOf ((p.main.body.drop i).take k) (ev p) (cE p) ps B0)=some (.next,sT p rc w.params (i+k) n' t' o,cE p,ps')
noncomputable def Ch (p:Program)(rc:List Rc)(m n1 t1:Nat)(i n t:Nat)(ps:Pos)(M:Nat):Prop:=∀ w o,topRun treeTable p w 11 an M (sT p rc w.params i n t o).abs (restOf (p.main.body.drop i) (ev p) (cE p) ps B0)=some (sT p rc w.params m n1 t1 o).abs
theorem cI {p:Program}{rc:List Rc}{m n1 t1 i n t k N n' t' M:Nat}{ps ps':Pos}(c:∀ w,Cut p rc i n t ps k N n' t' ps' w)(h:Ch p rc m n1 t1 (i+k) n' t' ps' M):Ch p rc m n1 t1 i n t ps (N+M):=fun w o=>by
 have x:=piece_app (segRun_of (c w o)) (h w o)
 rw [<- a1D,List.take_append_drop] at x
 exact x
theorem v9 {p:Program}{rc:List Rc}{m n1 t1:Nat}{ps:Pos}(hd:p.main.body.drop m=[]):Ch p rc m n1 t1 m n1 t1 ps 2:=fun w o=>by
 rw [hd]
 exact piece_nil rfl
theorem qt (w:World):((boot_heap w.params).isNs mainGlobals&&(a3i []:Array GenState).size==0,(boot_heap w.params).objs.size,(boot_heap w.params).nsMap mainGlobals "__annotations__")=(true,11,an):=by kernel_rfl
theorem qF {p q:Program}{loose:List Str}{Xt:Shared->Bool}{α:Type}{Yf:Shared->α}{Ya:World->α}{N M m n1 t1:Nat}{rc:List Rc}
  (e:opening p=plainProg p.main.scope.names) (hN:Nat.ble 600 N=true) (f:∀ s,fenceModules? p s=some s) (hb:behindTheImports p=p.main.body)
  (size:∀ w:World,((boot_heap w.params).isNs mainGlobals&&(a3i []:Array GenState).size==0,(boot_heap w.params).objs.size,(boot_heap w.params).nsMap mainGlobals "__annotations__")=(true,11,an))
  (pre:∀ (w:World) (o:OsState),topGo treeTable p w 11 an 12 ⟨boot_heap w.params,a3i [],boot_drawn,boot_toks,o⟩ (topStub p)=some ((sT p rc w.params 0 15 187 o).abs,⟨denote treeTable (cE p),cE p,p0,B0⟩))
  (blk:∀ (w:World) (o:OsState),segRun treeTable p w 11 an 1 1 (sT p rc w.params 0 15 187 o).abs (blockOf (behindTheImports p) (ev p) (cE p) p0 B0)=some (.next,(sT p rc w.params 0 15 187 o).abs,cE p,p0))
  (ch:Ch p rc m n1 t1 0 15 187 p0 M) (le:Nat.ble (12+(1+M)) N=true)
  (looks:∀ w:World,(fun o=>((staticsOk (importedModules p.main.body) (boot_heap w.params) (hp p rc m n1 w.params)&&namesBound p (hp p rc m n1 w.params)&&gensDone ⟨hp p rc m n1 w.params,#[],{},t1,o⟩&&laidKept (boot_heap w.params) (hp p rc m n1 w.params)),
    openSeen q loose (importedModules p.main.body) Xt true ⟨hp p rc m n1 w.params,#[],{},t1,o⟩,Yf ⟨hp p rc m n1 w.params,#[],{},t1,o⟩))=fun _=>(true,openGood q loose,Ya w)):LeftO p q loose Xt Yf Ya N :=
 LeftO.of_pieces (H₀:=boot_heap) (H₁:=hp p rc m n1) (gs₁:=#[]) (d₁:={}) (k₁:=t1) (boot_open e hN f) size
  (fun w o=>go_top (pre w o) (piece_block (blk w o) (by have x:=ch w o; rw [a2u,<- hb] at x; exact x))) le looks
noncomputable def cb (st:Stmt)(j:Nat):Stmt:=match st with
 | .ClassDef _ _ _ b _ _ _ _ _ _ _=>b.getD j st
 | _=>st
noncomputable def drec (st:Stmt):PySem.DefRec:=match st with
 | .FunctionDef n a b _ _ _ sc _ _ pos=>⟨n,a,b,sc,pos⟩
 | _=>⟨default,default,[],default,default⟩
theorem dj {α:Type}:∀ (l:List α) (i:Nat),(odd l).1[i]?=l[2 * i]?/\(odd l).2[i]?=l[2 * i+1]?
 | [],i=>by simp [odd]
 | x::l,i=>by
  refine ⟨?_,?_⟩
  ·cases i with
   | zero=>simp [odd]
   | succ j=>rw [show 2 * (j+1)=2 * j+1+1 by omega]; simp only [odd,a0Q]; exact (dj l j).2
  ·simp only [odd,a0Q]; exact (dj l i).1
theorem iH {α:Type}:∀ (l:List α),(odd l).1.length=(l.length+1) / 2/\(odd l).2.length=l.length / 2
 | []=>by simp [odd]
 | x::l=>by
  have h:=iH l
  simp only [odd,a0g,h.1,h.2]
  exact ⟨by omega,trivial⟩
theorem ia:∀ (k:Nat) (l:List Obj) (a:Nat),l.length < 2 ^ k->(bt k l).get a=l[a]?
 | 0,l,a,h=>by
  have:l=[]:=List.length_eq_zero_iff.mp (by simpa using h)
  subst this; simp [bt,BT.get]
 | k+1,[],a,h=>by simp [bt,BT.get]
 | k+1,x::l,a,h=>by
  have e:2 ^ (k+1)=2 * 2 ^ k:=by rw [a2O]; omega
  have hl:=iH l
  simp only [a0g] at h
  unfold bt
  rw [BT.get_node]
  by_cases h0:a=0
  ·simp [h0]
  ·rw [if_neg h0]
   by_cases h1:a % 2=1
   ·rw [if_pos h1,ia k _ _ (by omega),(dj l (a / 2)).1]
    obtain ⟨b,rfl⟩:∃ b,a=b+1:=⟨a-1,by omega⟩
    rw [a0Q]; congr 1; omega
   ·rw [if_neg h1,ia k _ _ (by omega),(dj l (a / 2-1)).2]
    obtain ⟨b,rfl⟩:∃ b,a=b+1:=⟨a-1,by omega⟩
    rw [a0Q]; congr 1; omega
noncomputable def lL (p:Program)(rc:List Rc)(m:Nat)(P:Params):List Obj:=os P (rs P ((p.main.body.zip rc).take m))
noncomputable def kK (p:Program)(rc:List Rc)(m:Nat)(as:List Addr)(P:Params):Frag:=as.map fun a=>(a,(lL p rc m P).getD a default)
noncomputable def okO:Option Obj->Bool
 | some ⟨_,_,.freed,_⟩=>false
 | some _=>true
 | none=>false
theorem jk {p:Program}{rc:List Rc}{m:Nat}{P:Params}{a:Addr}{o:Obj}:∀ {as:List Addr},(kK p rc m as P).lookup a=some o->a∈as/\o=(lL p rc m P).getD a default
 | [],h=>by simp [kK] at h
 | b::as,h=>by
  unfold kK at h
  rw [a0k,a04] at h
  by_cases e:a=b
  ·subst e
   rw [beq_self_eq_true] at h
   exact ⟨a0c ..,(a0L h).symm⟩
  ·rw [beq_false_of_ne e] at h
   have x:=jk (as:=as) h
   exact ⟨a0e _ x.1,x.2⟩
noncomputable def hkk (p:Program)(rc:List Rc)(m n:Nat):Hook where
 α:=Array Obj
 obs s:=s.heap.objs
 val w:=(hp p rc m n w.params).objs
 says w h:=∀ a o,(hp p rc m n w.params).get? a=some o->h.get? a=some o
 of w s e a o x:=by unfold Heap.get? at *; rw [e]; exact x
 keeps w h h' X k a o x:=k _ _ (X a o x)
theorem An {p:Program}{rc:List Rc}{m n:Nat}{as:List Addr}{w:World}{h:Heap}(hl:Nat.blt (lL p rc m w.params).length 4096=true)(hc:(as.all fun a=>Nat.blt a n&&okO (lL p rc m w.params)[a]?)=true)
  (Y:(hkk p rc m n).says w h):(kK p rc m as w.params).In h:=fun a o e=>by
 obtain ⟨e1,e2⟩:=jk e
 obtain ⟨c1,c2⟩:=a0v.mp (a1K.mp hc a e1)
 refine Y a o ?_
 have c3:a < n:=a1H c1
 have c4:(lL p rc m w.params).length < 2 ^ 12:=a1H hl
 have g:=ia 12 (lL p rc m w.params) a c4
 unfold hp Heap.get?
 rw [absHeap_at,if_pos c3]
 show (match some (((bt 12 (lL p rc m w.params)).get a).getD default) with | some ⟨_,_,.freed,_⟩=>none | o=>o)=some o
 rw [g]
 rw [List.getD_eq_getElem?_getD] at e2
 rw [<- e2]
 cases q:(lL p rc m w.params)[a]? with
 | none=>rw [q] at c2; cases c2
 | some x =>
  rw [q] at c2 e2
  have e3:o=x:=e2
  subst e3
  obtain ⟨_,_,d,_⟩:=o
  cases d<;>first | rfl | cases c2
noncomputable def pmO:Option Obj->Value
 | some ⟨_,_,.func f,_⟩=>f.pyModule
 | _=>.none
noncomputable def rfO:Option (Option Value)->Nat
 | some (some (.ref a))=>a
 | _=>0
noncomputable def tkO:Option (Option Value)->Nat
 | some (some (.int _ t))=>t
 | some (some (.str _ t))=>t
 | _=>0
theorem raw_mk {K:Frag}{x:Str}{st:Stmt}{dV:Value}(h1:nsIn K mainGlobals x=some (some (.ref (rfO (nsIn K mainGlobals x)))))
  (h2:K.lookup (rfO (nsIn K mainGlobals x))=some ⟨.type "function",none,.func (fnOf x x (L2.defArgs st) (L2.defBody st) (L2.defScope st) dV .none .none (pmO (K.lookup (rfO (nsIn K mainGlobals x)))) none (.ref (rfO (nsIn K mainGlobals x)-1)) .none),#[]⟩)
  (h3:codeIn K (.ref (rfO (nsIn K mainGlobals x)-1)) x=true) (h4:keepIn K (.ref (rfO (nsIn K mainGlobals x)))=true):MR.Raw K x st dV:=⟨_,_,_,_,_,_,_,_,_,_,h1,h2,h3,h4⟩
noncomputable def toV:Value->L2.V
 | .bool b=>.bl b
 | .int i _=>.int i
 | .str s _=>.str s
 | .ref a=>.ref a
 | _=>.non
noncomputable def okV:Value->Bool
 | .none=>true
 | .bool _=>true
 | .int _ _=>true
 | .str _ _=>true
 | .ref _=>true
 | _=>false
theorem jj:∀ {v:Value},okV v=true->L2.RelV (toV v) v
 | .none,_=>rfl
 | .bool _,_=>rfl
 | .int _ _,_=>⟨_,rfl⟩
 | .str _ _,_=>⟨_,rfl⟩
 | .ref _,_=>rfl
 | .ellipsis,h=>by cases h
 | .notImplemented,h=>by cases h
 | .float _ _,h=>by cases h
 | .bytes _ _,h=>by cases h
 | .type _,h=>by cases h
 | .builtin _,h=>by cases h
theorem gC:∀ {l:List Value},l.all okV=true->L2.Vals (l.map toV) l
 | [],_=>.nil
 | v::l,h=>by
  rw [a3j,a0v] at h
  exact .cons (jj h.1) (gC h.2)
noncomputable def eK (e:DictEntry):Str×Nat×Value:=match e.key with
 | .str k t=>(k,t,e.val)
 | _=>("",0,e.val)
noncomputable def tE:Option Obj->List (Str×Nat×Value)
 | some o=>(ds o.data).map eK
 | none=>[]
noncomputable def tN:Option Obj->Nat
 | some o=>ep o.data
 | none=>0
noncomputable def enL (P:Params)(l:List (Str×Nat×Value)):List DictEntry:=l.map fun e=>en P e.1 e.2.1 e.2.2
noncomputable def tL (l:List (Str×Nat×Value)):List (Str×L2.V):=l.map fun e=>(e.1,toV e.2.2)
theorem fX {P:Params}:∀ l:List (Str×Nat×Value),KeysLit P (enL P l)
 | []=>trivial
 | e::l=>⟨⟨_,_,rfl,rfl⟩,fX l⟩
theorem gV {P:Params}:∀ {l:List (Str×Nat×Value)},(l.all fun e=>okV e.2.2)=true->PySem.Paired (fun (p:Str×L2.V) (e:DictEntry)=>(∃ t,e.key=.str p.1 t)/\L2.RelV p.2 e.val) (tL l) (enL P l)
 | [],_=>.nil
 | e::l,h=>by
  rw [a3j,a0v] at h
  exact .cons ⟨⟨_,rfl⟩,jj h.1⟩ (gV h.2)
theorem tab_mk {K:Frag}{w:World}{x:Str}(h1:nsIn K mainGlobals x=some (some (.ref (rfO (nsIn K mainGlobals x)))))
  (h2:K.lookup (rfO (nsIn K mainGlobals x))=some (di (enL w.params (tE (K.lookup (rfO (nsIn K mainGlobals x))))) (tN (K.lookup (rfO (nsIn K mainGlobals x))))))
  (h3:((tE (K.lookup (rfO (nsIn K mainGlobals x)))).all fun e=>okV e.2.2)=true) (h4:(rfO (nsIn K mainGlobals x)==sysModules)=false):MR.TabRaw K w x (tL (tE (K.lookup (rfO (nsIn K mainGlobals x))))) :=
 ⟨_,_,_,h1,h2,fX _,gV h3,h4⟩
noncomputable def jY {α β:Type}(f:α->β->Bool):List α->List β->Bool
 | [],[]=>true
 | a::l,b::r=>f a b&&jY f l r
 | _,_=>false
noncomputable def iz (K:Frag):Nat->M.T->L2.V->Bool
 | _+1,.int i,.int j=>decide (i=j)
 | _+1,.non,.non=>true
 | _+1,.bl a,.bl b=>decide (a=b)
 | _+1,.str x,.str y=>decide (x=y)&&M.sOk x
 | n+1,.tup ts,.ref a=>match K.lookup a with
  | some ⟨.type "tuple",_,.seq its _,_⟩=>Nat.ble its.size 1000&&(its.toList.all okV&&jY (iz K n) ts (its.toList.map toV))
  | _=>false
 | _,_,_=>false
theorem iR {K:Frag}{n:Nat}(ih:∀ t v,iz K n t v=true->MR.CstR K t v):∀ {ts:List M.T} {xs:List L2.V},jY (iz K n) ts xs=true->MR.CstRs K ts xs
 | [],[],_=>MR.cst_nil
 | t::ts,x::xs,h=>by
  unfold jY at h
  rw [a0v] at h
  exact MR.cst_cons (ih _ _ h.1) (iR ih h.2)
 | [],_::_,h=>by cases h
 | _::_,[],h=>by cases h
theorem oa {K:Frag}:∀ n t v,iz K n t v=true->MR.CstR K t v:=by
 intro n
 induction n with
 | zero=>intro t v h; simp [iz] at h
 | succ n ih =>
  intro t v h
  unfold iz at h
  split at h
  ·rename_i q; cases q; have e:=of_decide_eq_true h; subst e; exact MR.cst_int _
  ·exact MR.cst_non
  ·have e:=of_decide_eq_true h; subst e; exact MR.cst_bl _
  ·rw [a0v] at h; have e:=of_decide_eq_true h.1; subst e; exact MR.cst_str h.2
  ·rename_i q
   cases q
   split at h
   ·rename_i its k sl q
    rw [a0v,a0v] at h
    have hs:=a1H h.1
    exact MR.cst_tup q rfl rfl (a0n hs (by decide)) (gC h.2.1) (by rw [a0b,a0p]; exact a0n hs (by decide)) (iR ih h.2.2)
   ·cases h
  ·cases h
theorem cst_of {K:Frag}{n:Nat}:∀ {tab:List (Str×M.T)} {T:List (Str×L2.V)},jY (fun (e:Str×M.T) (p:Str×L2.V)=>decide (p.1=e.1)&&iz K n e.2 p.2) tab T=true->MR.CstL K tab T
 | [],[],_=>trivial
 | e::tab,p::T,h=>by
  unfold jY at h
  rw [a0v,a0v] at h
  exact ⟨⟨of_decide_eq_true h.1.1,oa n _ _ h.1.2⟩,cst_of h.2⟩
 | [],_::_,h=>by cases h
 | _::_,[],h=>by cases h
end TP

namespace MR
open PySem PySem.Spec PyProof.Rows L2 L3
theorem walkX {sx:Str}{C:M.Call}{ix k:Nat}{l:a2m}{q:Program}{loose:List Str}{XP:(Str->Option Value)->Heap->Prop}{YP:World->Heap->Prop}{d:DefRec}{K:Params->a0a}(hp:∀ ns:List Int,ns.length<=63->∃ m bs,C ix [(.d,.scr ns)]=.ok ((m,.bl true),bs))(hn:l.most=some 63)(hdf:d.params.defaults=[])(hr:Room k callerA)
  (hY:∀ (w:World) (h:Heap),YP w h->(K w.params).In h)
  (F:∀ (w:World) (mg:Str->Option Value) (fa:Addr) (h:Heap),(K w.params).In h->h.Ns mainGlobals mg->mg d.name=some (.ref fa) ->
   ∃ fd:FuncData,(∀ (s:Shared) (u:Value),BindsTo s fd ⟨[u],[]⟩ [(sx,u)])/\∀ base:Heap,(K w.params).In base->base.Ns mainGlobals mg->ba l.prog w (K w.params) mg base CX0 k fa fd [sx] (spS (K w.params) C ix [])) :
  a3b q loose XP YP l.row.toRowW d [] (fun f vs=>a29 f vs) :=
 L2.walk_of (n:=63) (k:=k) (x:=sx) (CX:=fun _=>CX0) (sp:=fun w=>spS (K w.params) C ix []) hn (by decide) hdf hr hY F (fun _ _ a ns hl hO hS=>uZ (hp ns hl) hl hO hS) fun _ _ _ _ _ z=>z
theorem ou {sx:Str}{w:World}{K:a0a}{mg:Str->Option Value}{st:Stmt}{h:Heap}{fa:Addr}{pr:Program}{k:Nat}{sp:Sp}(X:K.In h)(G:h.Ns mainGlobals mg)(hfa:mg "law"=some (.ref fa))(r:Raw K "law" st .none)(hb:∀ (kV dc pm:Value) (an:Option Addr) (cd ct:Value) (s:Shared) (v:Value),BindsTo s (a01 "law" "law" (defArgs st) (defBody st) (defScope st) .none kV dc pm an cd ct) ⟨[v],[]⟩ [(sx,v)])
  (ok:∀ f fd,Fun K "law" "law" st f fd->∀ base,ba pr w K mg base CX0 k f fd [sx] sp):∃ fd:FuncData,(∀ (s:Shared) (v:Value),BindsTo s fd ⟨[v],[]⟩ [(sx,v)])/\∀ base:Heap,K.In base->base.Ns mainGlobals mg->ba pr w K mg base CX0 k fa fd [sx] sp:=by
 obtain ⟨f,oc,od,sl,kV,dc,pm,an,cd,ct,h1,h2,h3,h4⟩:=r
 have e:=hfa.symm.trans (a0R X G h1)
 cases e
 exact ⟨_,hb kV dc pm an cd ct,fun base _ _=>ok _ _ (mR (st:=st) h2 h3 h4) base⟩
end MR

namespace L3
open PySem PySem.Spec PyProof.Rows L2
theorem cX {σ:L2.St}{H:Hp}:∀ (kvs:List (Key×V)) (Q:List (V×V)->Hp->Prop),Q (kvs.map fun kv=>(kV kv.1,kv.2)) H->fN (kvs.map fun kv=>(tC (kV kv.1),tC kv.2)) σ H Q
 | [],_,h=>h
 | p::r,Q,h=>cX r (fun ps H3=>Q ((kV p.1,p.2)::ps) H3) h
end L3
namespace MR
open PySem PySem.Spec PyProof.Rows L2 L3
section
variable {X:Cx}{sf sg:Nat->Option Nat}{C:M.Call}{pos p p2 p3:Pos}{ea eb ec:Expr}{a b c:M.E}{h:Bool}{n:Nat}{io:List Nat}{K:a0a}
noncomputable def bI (tab:List (Str×Int)):List (Key×V):=tab.map fun p=>(.inr p.1,.int p.2)
theorem pd0 {X:Cx}:PPs X p2 [] [] ((bI []).map fun kv=>(tC (kV kv.1),tC kv.2)):=oj
theorem pd1 {X:Cx}{x:Str}{i:Int}{tab:List (Str×Int)}{k:Expr}{v:Expr}{ks:List (Option Expr)}{vs:List Expr}(h1:PE X k (tC (.str x)))(h2:PE X v (tC (.int i)))(h:PPs X p2 ks vs ((bI tab).map fun kv=>(tC (kV kv.1),tC kv.2))):PPs X p2 (some k::ks) (v::vs) ((bI ((x,i)::tab)).map fun kv=>(tC (kV kv.1),tC kv.2)):=kN h1 h2 h
end
end MR

namespace L3
open PySem PySem.Spec PyProof.Rows L2
end L3
namespace MR
open PySem PySem.Spec PyProof.Rows L2 L3
end MR

namespace L3
open PySem PySem.Spec PyProof.Rows L2
end L3
namespace MR
open PySem PySem.Spec PyProof.Rows L2 L3
end MR

namespace L3
open PySem PySem.Spec PyProof.Rows L2
theorem cF:∀ {ks:List Str} {us:List Value},us.length=ks.length->(∀ (j:Nat) v,us[j]?=some v->∃ z t,ks[j]?=some z/\v=Value.str z t)->StrsAre us ks
 | [],[],_,_=>.nil
 | [],_::_,e,_=>by cases e
 | _::_,[],e,_=>by cases e
 | z::ks,u::us,e,h=>by
  obtain ⟨z',t,h1,h2⟩:=h 0 u rfl
  cases h1
  subst h2
  exact .cons _ _ (cF (Nat.succ.inj e) fun j v hj=>h (j+1) v hj)
end L3
namespace MR
open PySem PySem.Spec PyProof.Rows L2 L3
end MR

namespace MR
open L2 L3 M
open PySem (Addr Str sizeLine)
section
variable {K:a0a}{Wx:L2.St->VK}{sl:Cf}{sf sg:Nat->Option Nat}{C:Call}{σ σ2:L2.St}{Z Z' Z1:Fp}{H H' H1:Hp}{Fs Fs' Fs1:Fps}{η η' η1 ηb:Env}{G G' G1 R F F':Fp}{tg is vs ls io:List Nat}{pv val:Nat->Option V}{D:bp}
noncomputable def kT:Int ⊕ Str->T
 | .inl n=>.int n
 | .inr x=>.str x
end
end MR
namespace MR
open PySem PySem.Spec PyProof.Rows L2 L3
end MR

namespace L3
open PySem PySem.Spec PyProof.Rows L2
end L3

namespace L3
open PySem PySem.Spec PyProof.Rows L2
end L3
namespace MR
open PySem PySem.Spec PyProof.Rows L2 L3
end MR

namespace L3
open PySem PySem.Spec PySem.NumText PyProof.Rows L2
end L3
namespace MR
open PySem PySem.Spec PyProof.Rows L2 L3
mutual
theorem hU:∀ t:M.T,toD (th t)=M.datT t
 | .non=>rfl
 | .bl _=>rfl
 | .int _=>rfl
 | .str _=>rfl
 | .tup ts=>congrArg PyData.tuple (ff ts)
 | .lst ts=>congrArg PyData.list (ff ts)
 | .dct _ _=>rfl
 | .ins _ _ _=>rfl
 | .scr _=>rfl
 | .gone=>rfl
theorem ff:∀ ts:List M.T,cB (ths ts)=M.datTs ts
 | []=>rfl
 | t::ts=>by
  show toD (th t)::cB (ths ts)=M.datT t::M.datTs ts
  rw [hU t,ff ts]
end
noncomputable def cK (ss:List Str):Nat:=(ss.map fun s=>s.cps.size+2).sum
theorem cq (p q:Str):(p++q).cps.size=p.cps.size+q.cps.size:=a2K ..
theorem lU:∀ (ss:List Str) (k:Nat) (acc:Str),M.sOk acc=true->(∀ s∈ss,M.sOk s=true)->acc.cps.size+cK ss<=M.LIM->M.sOk (textFrom k acc ss)=true/\(textFrom k acc ss).cps.size<=acc.cps.size+cK ss
 | [],_,acc,h,_,hl=>⟨h,by show acc.cps.size<=_; omega⟩
 | s::ss,k,acc,h,hs,hl=>by
  have hp:cK (s::ss)=s.cps.size+2+cK ss:=by unfold cK; rw [a0k,a1P]
  have h1:=hs s a0c
  have key:∀ z:Str,M.sOk z=true->z.cps.size<=2->M.sOk (textFrom (k+1) (acc++z++s) ss)=true/\(textFrom (k+1) (acc++z++s) ss).cps.size<=acc.cps.size+cK (s::ss):=fun z hz hz2=>by
   have e1:(acc++z).cps.size=acc.cps.size+z.cps.size:=cq _ _
   have e2:(acc++z++s).cps.size=acc.cps.size+z.cps.size+s.cps.size:=by rw [cq,e1]
   obtain ⟨a,b⟩:=lU ss (k+1) (acc++z++s) (bu (bu h hz (by omega)) h1 (by omega)) (fun x hx=>hs x (a0e _ hx)) (by omega)
   exact ⟨a,by omega⟩
  show M.sOk (textFrom (k+1) (acc++(if k > 0 then ", " else "":String)++s) ss)=true/\(textFrom (k+1) (acc++(if k > 0 then ", " else "":String)++s) ss).cps.size<=_
  split
  ·exact key (Str.ofString ", ") (aJ _ (by decide)) (by decide)
  ·exact key (Str.ofString "") (aJ _ (by decide)) (by decide)
theorem iQ:∀ (ss:List Str),(∀ s∈ss,M.sOk s=true)->cK ss<=M.LIM->M.sOk (Str.join ", " ss)=true/\(Str.join ", " ss).cps.size<=cK ss
 | [],_,_=>⟨aJ "" (by decide),a1a _⟩
 | [s],hs,hl=>⟨hs s a0c,by show s.cps.size<=(s.cps.size+2)+0; omega⟩
 | s::u::ss,hs,hl=>by
  have hp:cK (s::u::ss)=s.cps.size+2+cK (u::ss):=by unfold cK; rw [a0k,a1P]
  obtain ⟨a,b⟩:=iQ (u::ss) (fun x hx=>hs x (a0e _ hx)) (by omega)
  have e0:Str.join ", " (s::u::ss)=s++Str.ofString ", "++Str.join ", " (u::ss):=rfl
  have z2:(Str.ofString ", ").cps.size=2:=by decide
  have e1:(s++Str.ofString ", ").cps.size=s.cps.size+2:=by rw [cq,z2]
  rw [e0]
  refine ⟨bu (bu (hs s a0c) (aJ _ (by decide)) (by omega)) a (by omega),?_⟩
  rw [cq,e1]; omega
mutual
theorem gx:∀ t:M.T,M.rOk t=true->M.szR t<=M.LIM->(M.datT t).showable=true/\M.sOk (M.datT t).shown=true/\(M.datT t).shown.cps.size<=M.szR t
 | .non,_,_=>⟨rfl,aJ _ (by decide),by decide⟩
 | .bl b,_,_=>⟨rfl,by cases b<;>exact aJ _ (by decide),by cases b<;>decide⟩
 | .int i,h,_=>by
  have hb:i.natAbs < 10000000000000000000:=of_decide_eq_true h
  have hl:=lX hb
  have h2:=int_text_length_le10 (a:=i) (k:=19) (by decide) hb
  exact ⟨decide_eq_true (ur hb),aJ _ (by omega),a0n hl (show 20<=100 by decide)⟩
 | .str x,h,_=>by
  have h:(decide ((a13 x).length<=100)&&M.sOk (a13 x))=true:=h
  rw [a0h] at h
  exact ⟨rfl,h.2,of_decide_eq_true h.1⟩
 | .tup ts,h,hl=>by
  have hl':M.szRs ts+4<=M.LIM:=hl
  obtain ⟨a,b,c⟩:=cQ ts h (by omega)
  obtain ⟨d,e⟩:=iQ _ b (by omega)
  refine ⟨a,?_⟩
  show M.sOk (("(":Str)++Str.join ", " (PyData.shownAll (M.datTs ts))++(if (PyData.shownAll (M.datTs ts)).length==1 then ",)" else ")":String))=true/\(("(":Str)++Str.join ", " (PyData.shownAll (M.datTs ts))++(if (PyData.shownAll (M.datTs ts)).length==1 then ",)" else ")":String)).cps.size<=M.szRs ts+4
  have z1:(Str.ofString "(").cps.size=1:=by decide
  have e1:(Str.ofString "("++Str.join ", " (PyData.shownAll (M.datTs ts))).cps.size=1+(Str.join ", " (PyData.shownAll (M.datTs ts))).cps.size:=by rw [cq,z1]
  have key:∀ z:Str,M.sOk z=true->z.cps.size<=2->M.sOk (Str.ofString "("++Str.join ", " (PyData.shownAll (M.datTs ts))++z)=true/\(Str.ofString "("++Str.join ", " (PyData.shownAll (M.datTs ts))++z).cps.size<=M.szRs ts+4:=fun z hz hz2 =>
   ⟨bu (bu (aJ _ (by decide)) d (by omega)) hz (by omega),by rw [cq,e1]; omega⟩
  split
  ·exact key (Str.ofString ",)") (aJ _ (by decide)) (by decide)
  ·exact key (Str.ofString ")") (aJ _ (by decide)) (by decide)
 | .lst ts,h,hl=>by
  have hl':M.szRs ts+4<=M.LIM:=hl
  obtain ⟨a,b,c⟩:=cQ ts h (by omega)
  have z1:(Str.ofString "[").cps.size=1:=by decide
  have z2:(Str.ofString "]").cps.size=1:=by decide
  obtain ⟨d,e⟩:=lU _ 0 (Str.ofString "[") (aJ _ (by decide)) b (by omega)
  refine ⟨a,?_⟩
  show M.sOk (textFrom 0 (Str.ofString "[") (PyData.shownAll (M.datTs ts))++Str.ofString "]")=true/\(textFrom 0 (Str.ofString "[") (PyData.shownAll (M.datTs ts))++Str.ofString "]").cps.size<=M.szRs ts+4
  exact ⟨bu d (aJ _ (by decide)) (by omega),by rw [cq]; omega⟩
 | .dct _ _,h,_=>by cases h
 | .ins _ _ _,h,_=>by cases h
 | .scr _,h,_=>by cases h
 | .gone,h,_=>by cases h
theorem cQ:∀ ts:List M.T,M.rOks ts=true->M.szRs ts<=M.LIM->PyData.showableAll (M.datTs ts)=true/\(∀ s∈PyData.shownAll (M.datTs ts),M.sOk s=true)/\cK (PyData.shownAll (M.datTs ts))<=M.szRs ts
 | [],_,_=>⟨rfl,(fun _ h=>nomatch h),a0m _⟩
 | t::ts,h,hl=>by
  have hl':M.szR t+2+M.szRs ts<=M.LIM:=hl
  have h':(M.rOk t&&M.rOks ts)=true:=h
  rw [a0h] at h'
  obtain ⟨a,b,c⟩:=gx t h'.1 (by omega)
  obtain ⟨d,e,f⟩:=cQ ts h'.2 (by omega)
  refine ⟨?_,fun s hs=>?_,?_⟩
  ·show ((M.datT t).showable&&PyData.showableAll (M.datTs ts))=true
   rw [a,d]; rfl
  ·have hs:s∈(M.datT t).shown::PyData.shownAll (M.datTs ts):=hs
   rcases a0W.mp hs with rfl | hs
   ·exact b
   ·exact e s hs
  ·show cK ((M.datT t).shown::PyData.shownAll (M.datTs ts))<=M.szR t+2+M.szRs ts
   unfold cK at f ⊢
   rw [a0k,a1P]; omega
end
end MR

namespace MR
open PySem PySem.Spec PyProof.Rows L2 L3
end MR

namespace L3
open PySem PySem.Spec PyProof.Rows L2
end L3
namespace MR
open L2 L3 M
open PySem (Addr Str sizeLine)
end MR
namespace MR
open PySem PySem.Spec PyProof.Rows L2 L3
end MR

namespace L3
open PySem PySem.Spec PyProof.Rows L2
end L3
namespace MR
open PySem PySem.Spec PyProof.Rows L2 L3
end MR

namespace MR
open L2 L3 M
open PySem (Addr Str sizeLine)
end MR
namespace MR
open PySem PySem.Spec PyProof.Rows L2 L3
end MR

namespace L2
open PySem PySem.Spec PyProof.Rows
end L2
namespace L3
open PySem PySem.Spec PyProof.Rows L2
end L3
namespace MR
open L2 L3 M
open PySem (Addr Str sizeLine)
end MR
namespace MR
open PySem PySem.Spec PyProof.Rows L2 L3
end MR

namespace L3
open PySem PySem.Spec PyProof.Rows L2
end L3
namespace MR
open L2 L3 M
open PySem (Addr Str sizeLine)
end MR
namespace MR
open PySem PySem.Spec PyProof.Rows L2 L3
end MR

namespace MR
open L2 L3 M
open PySem (Addr Str sizeLine)
end MR
namespace MR
open PySem PySem.Spec PyProof.Rows L2 L3
end MR

namespace L3
open PySem PySem.Spec PyProof.Rows L2
end L3
namespace MR
open L2 L3 M
open PySem (Addr Str sizeLine)
end MR
namespace MR
open PySem PySem.Spec PyProof.Rows L2 L3
end MR

namespace MR
open L2 L3 M
open PySem (Addr Str sizeLine)
end MR
namespace MR
open PySem PySem.Spec PyProof.Rows L2 L3
end MR

namespace MR
open PySem PySem.Spec PyProof.Rows L2 L3
noncomputable def spX (K:a0a)(C:M.Call)(g:Nat):Sp:=fun vs H Q E=>∃ Z ws G,RepW K Z H ws vs G/\Own Z H G/\(∀ a,Z a->H a≠none) /\
 ((∃ w,C g ws=.ok (w,[])/\∀ v Z' H' G1,Rep K Z' H' w.1 w.2 v G1->Own Z' H' G1->Step Z H G Z' H' G1->Q v H') \/
  (∃ t,C g ws=.ex t/\∀ a Z' H',Rep K Z' H' .s t (.ref a) no->Step Z H G Z' H' no->E (.ref a) none H'))
section
variable {P:Program}{w:World}{K:a0a}{mg:Str->Option Value}{base:Heap}
theorem Fun.okX {x qual:Str}{st:Stmt}{f:Addr}{fd:FuncData}{N ps:List Str}{k:Nat}{C:M.Call}{d:M.Fn}(F:L2.Fun K x qual st f fd)(S:az N ps (defScope st))(hps:d.ps=ps.length)(hle:ps.length<=N.length)(hio:d.io=[])
  (hbody:∀ (cdv:Value) (A:Around) (outer:List Env) (s:Shared) (H:Hp) (E:XK),Room k (A.deeper (envOfC qual (defScope st) s.heap.objs.size f cdv)) ->
   SSs (cJ (CX1 P w) P w K mg base N qual (defScope st) f cdv A outer s H E) (slN N.length) [] C (defBody st) d.body) {g:Nat} {C':M.Call} (hC:∀ ws,C' g ws=M.runF C d ws):ba P w K mg base (CX1 P w) (k+1) f fd ps (spX K C' g):=by
 have len:∀ vs H Q E,spX K C' g vs H Q E->vs.length=ps.length:=fun vs H Q E ⟨Z,ws,G,r,_,_,h⟩=>by
  have:M.runF C d ws≠.no:=by
   rcases h with ⟨w,h,_⟩ | ⟨t,h,_⟩<;>(rw [hC] at h; rw [h]; intro z; cases z)
  unfold M.runF at this
  split at this
  ·rename_i h; rw [r.length,h,hps]
  ·exact absurd rfl this
 obtain ⟨oc,od,kV,doc,pm,an,cdv,ct,osl,rfl,lk,hcd⟩:=F.ex
 refine rQ lk hcd S len fun A outer s H vs Q E hr h=>⟨_,hbody cdv A outer s H E hr,?_⟩
 have hlen:=len vs H Q E h
 obtain ⟨Z,ws,G,r,o,z,h⟩:=h
 have hwl:ws.length=d.ps:=by rw [<- r.length,hlen,hps]
 rw [hC,M.x_run _ _ _ hwl,hio] at h
 obtain ⟨Fs,ft,A0⟩:=gf (n:=d.ns) (io:=[]) r o z (N:=N) (by omega)
 refine ⟨_,Z,Fs,_,⟨fun i i' j h h'=>?_,fun i h=>if_neg h⟩,A0,?_⟩
 ·simp only [slN] at h h'
  split at h
  ·split at h'
   ·cases h; cases h'; rfl
   ·cases h'
  ·cases h
 cases e:M.evSs C d.body (ws.map some++a0f d.ns none) with
 | nx η =>
  rw [e] at h
  intro σ' Z' H' Fs' A' t
  rcases h with ⟨w,h,q⟩ | ⟨t,h,q⟩
  ·cases h
   exact q .non Z' H' no rfl (fun _ z=>z.elim) (t.mono ft fun a z=>z.elim)
  ·cases h
 | rt u η =>
  rw [e] at h
  intro v σ' Z' H' Fs' G' A' rp t
  rcases h with ⟨w,h,q⟩ | ⟨t,h,q⟩
  ·cases h
   exact q v Z' H' G' rp A'.own (t.mono ft fun a z=>.inr z)
  ·cases h
 | ex t η =>
  rw [e] at h
  intro v σ' Z' H' Fs' A' rp st pins s1 a C0 od0 ev ha I tr
  subst ev
  rcases h with ⟨w,h,q⟩ | ⟨t,h,q⟩
  ·cases h
  ·cases h
   exact mQ I ha tr (q a Z' H' rp (st.mono ft fun a z=>z.elim))
 | bk η=>rw [e] at h; rcases h with ⟨w,h,q⟩ | ⟨t,h,q⟩<;>cases h
 | no=>rw [e] at h; rcases h with ⟨w,h,q⟩ | ⟨t,h,q⟩<;>cases h
theorem zA {f:Addr}{fd:FuncData}{ps:List Str}{k g:Nat}{C:M.Call}(hC:∀ ws,C g ws=.no):ba P w K mg base (CX1 P w) k f fd ps (spX K C g):=by
 have no:∀ {vs H Q E},spX K C g vs H Q E->False:=fun ⟨Z,ws,G,_,_,_,h⟩=>by rcases h with ⟨w,h,_⟩ | ⟨t,h,_⟩<;>(rw [hC] at h; cases h)
 exact ⟨fun _ _ _ _ h=>(no h).elim,fun _ _ _ _ _ _ _ _ _ _ _ _ _ h=>(no h).elim⟩
end
noncomputable def bC (P:Program)(w:World)(K:a0a)(mg:Str->Option Value)(base:Heap)(n:Nat)(C:M.Call)(x:Str)(g:Nat):Prop :=
 ∃ fa fd ps,ba P w K mg base (CX1 P w) n fa fd ps (spX K C g)/\mg x=some (.ref fa)/\a09 K (.ref fa)=true/\Binds K fd ps []
noncomputable def wC (K:a0a)(Wx:L2.St->VK)(sf:Nat->Option Nat)(C:M.Call)(f:Nat)(es:List M.E):TE:=fun σ H Q=>∃ pv Z Fs η ws η',At K ⟨sf,pv⟩ σ Z H Fs η no/\M.evL C es η=.ok (ws,η') /\
 ((∃ w,C f ws=.ok (w,[])/\∀ v Z' H' Fs' G,At K ⟨sf,pv⟩ σ Z' H' Fs' η' G->Rep K Z' H' w.1 w.2 v G->Step Z H (tot Fs) Z' H' (fun a=>tot Fs' a\/G a)->Q v H') \/
  (∃ t,C f ws=.ex t/\∀ v Z' H' Fs',At K ⟨sf,pv⟩ σ Z' H' Fs' η' no->Rep K Z' H' .s t v no->Step Z H (tot Fs) Z' H' (tot Fs')->Wx σ v H'))
noncomputable def EX (X:Cx)(σ:L2.St):XK:=fun u _ H'=>∀ a,u=.ref a->xw X σ (.ref a) H'
section
variable {X:Cx}{sf:Nat->Option Nat}{C:M.Call}{pos p:Pos}{ea:Expr}{es:List Expr}{bs:List M.E}{x:Str}{n g:Nat}{io:List Nat}{vs:List Nat}{i j:Nat}
theorem kh {k:Nat}{f:Addr}{fd:FuncData}{ps:List Str}{sp:Sp}{pins:List (Addr×Obj)}{σ:L2.St}{H:Hp}{s:Shared}{Q:VK}{us:List Value}{vs:List V}(F:ba X.prog X.w X.K X.mg X.base (CX1 X.prog X.w) k f fd ps sp)(hr:Room k X.A)(hb:Binds X.K fd ps [])
  (I:Inv X pins σ H s) (r:Vals vs us) (h:sp vs H Q (EX X σ)):wpAny (model X.prog X.w) X.A (call (.ref f) us) (EP X pins σ Q) X.xe s:=by
 have hl:(us++[]).length=ps.length:=by rw [a0F,<- r.length]; exact F.len _ _ _ _ h
 have bd:=hb s us I.kIn hl
 rw [a0F] at bd
 refine wpAny_call (codeAny_mono (F.run X.A X.stack s H ⟨us,[]⟩ us vs Q (EX X σ) hr I.env0 bd r h) fun r s' hq=>?_)
 cases r with
 | error e =>
  obtain ⟨a,C0,od,H',rfl,os,bare,un,hok,ha,tr,q⟩:=hq
  refine q a rfl pins s' a C0 od rfl ha (I.call' os un hok bare fun b z=>absurd z (by simp)) ?_
  obtain ⟨oe,ws,e1,e2,e3⟩:=tr
  refine ⟨oe,ws,e1,e2,e3.imp id fun ⟨T,oT,ts,y1,y2,y3,y4,y5,y6,y7⟩=>⟨T,oT,ts,y1,y2,y3,y4,y5,a0n I.sz y6,y7⟩⟩
 | ok fl =>
  cases fl with
  | ret u=>exact I.after hq
  | next=>exact a0N hq
  | brk=>exact a0N hq
  | cont=>exact a0N hq
theorem bN (c:bC X.prog X.w X.K X.mg X.base n C x g)(hr:Room n X.A)(ha:SL X sf C (ea::es) bs)(hg:Gl X x:=by rfl)(hdb:(x==("__debug__":Str))=false:=by decide)
  (he:starEach (ea::es) X.env=(false,eval ea X.env)::starEach es X.env:=by rfl) (hpl:(backTo pos (starEach es X.env)).any (·.1)=false:=by rfl):PE X (.Call (.Name x p) (ea::es) [] pos) (wC X.K (xw X) sf C g bs):=by
 obtain ⟨fa,fd,ps,F,hm,hk,hb⟩:=c
 intro pins s σ H Q I h
 obtain ⟨pv,Z,Fs,η,ws,η',A,ev,h⟩:=h
 refine wpAny_Call_Name_kw (bS I hg hm ?_ hdb)
 refine a1Y (h₀:=X.base) I.ok.mod.kin hk (thn (ha pos pins s σ H (fun vs H1=>spX X.K C g vs H1 Q (EX X σ)) I ⟨pv,Z,Fs,η,ws,η',A,ev,fun vs Z1 H1 Fs1 G B r st=>?_⟩) fun us s1 ⟨vs,H1,I1,r,q⟩=>⟨I1.kIn,?_⟩) he hpl
 ·refine ⟨Z1,ws,G,r,B.own,B.gd.zal,?_⟩
  rcases h with ⟨w,e,q⟩ | ⟨t,e,q⟩
  ·refine .inl ⟨w,e,fun v Z2 H2 G1 r1 o s2=>?_⟩
   obtain ⟨B2,s3⟩:=B.op o s2
   exact q v Z2 H2 Fs1 G1 B2 r1 (st.trans s3)
  ·refine .inr ⟨t,e,fun a Z2 H2 r1 s2=>?_⟩
   obtain ⟨B2,s3⟩:=B.op (fun _ z=>z.elim) s2
   intro a' ea'
   cases ea'
   exact q (.ref a) Z2 H2 Fs1 B2 r1 ((st.trans s3).mono (fun _ z=>z) fun a z=>.inl z)
 ·exact kh F hr hb I1 r q
theorem jh {k:M.W->M.Env->M.Fl}{K:a0a}{Wx:L2.St->VK}{pv:Nat->Option V}{Z:Fp}{H:Hp}{Fs:Fps}{η:M.Env}{D:bp}{σ:L2.St}{Q:VK}(A:At K ⟨sf,pv⟩ σ Z H Fs η no)
  (f:Fin K Wx ⟨sf,pv⟩ Z H (tot Fs) D (M.Fl.of η (M.evL C bs (M.share vs η)) (M.kC C g k)))
  (q:∀ w η1 v Z' H' Fs' G,Fin K Wx ⟨sf,pv⟩ Z H (tot Fs) D (k w η1)->At K ⟨sf,pv⟩ σ Z' H' Fs' η1 G->Rep K Z' H' w.1 w.2 v G->Step Z H (tot Fs) Z' H' (fun a=>tot Fs' a\/G a)->Q v H'):wC K Wx sf C g bs σ H Q:=by
 obtain ⟨⟨ws,η1⟩,h1,h2⟩:=bo f
 have h2:Fin K Wx ⟨sf,pv⟩ Z H (tot Fs) D (M.outC k η1 (C g ws)):=h2
 obtain ⟨A1,s1⟩:=A.share (vs:=vs)
 have s0:Step Z H (tot Fs) (fun a=>Z a\/bG Fs vs a) H (tot (j8 Fs vs)):=(s1 ((Step.refl Z H (tot Fs)).mono (fun _ z=>z) fun a z=>z.elim id fun y=>y.elim)).mono (fun _ z=>z) fun a z=>.inl z
 refine ⟨pv,_,_,_,ws,η1,A1,h1,?_⟩
 cases e:C g ws with
 | no=>rw [e] at h2; exact h2.elim
 | ex t =>
  rw [e] at h2
  exact .inr ⟨t,rfl,fun v Z' H' Fs' B r st=>h2 v σ Z' H' Fs' B r (s0.trans st)⟩
 | ok p =>
  obtain ⟨w,l⟩:=p
  rw [e] at h2
  cases l with
  | cons _ _=>exact h2.elim
  | nil=>exact .inl ⟨w,rfl,fun v Z' H' Fs' G B r st=>q w η1 v Z' H' Fs' G h2 B r (s0.trans st)⟩
theorem i9 (j:Nat){i:Nat}{x:Str}{pos':Pos}(hN:X.N.Nodup)(ha:PE X ea (wC X.K (xw X) sf C g bs))(hi:i ∉ io:=by decide)(hs:sf i=some j:=by rfl)(hj:X.N[j]?=some x:=by rfl)(hx:L2.Loc X.env.scope x:=by first | exact a0M rfl | exact a0H rfl)
  (hsw:swapsWith ea (some (.Name x pos')) pos.line X.env=pure false:=by rfl) (hf:X.fn x=true\/X.env.scope.names.lookup x=some .local:=by first | exact .inl rfl | exact .inr rfl):SS X sf io C (.Assign [.Name x pos'] ea pos) (.asgC vs i g bs) :=
 bP (iB (i:=j) hN hj hx ha hsw hf) fun D σ H h=>by
  obtain ⟨pv,Z,Fs,η,N,A,f⟩:=h
  exact jh (k:=M.kAsgC i) (vs:=vs) A f fun w η1 v Z' H' Fs' G h2 B r st=>(show Fin X.K (xw X) ⟨sf,pv⟩ Z H (tot Fs) D (.nx (M.put η1 i w)) from h2) _ Z' H' _ (At.set N hi hs B r) (st.mono (fun _ z=>z) fun a ha=>aD ha)
theorem rG (ha:PE X ea (wC X.K (xw X) sf C g bs)):SS X sf io C (.Return (some ea) pos) (.retC vs g bs) :=
 bP (mI ha) fun D σ H h=>by
  obtain ⟨pv,Z,Fs,η,N,A,f⟩:=h
  exact jh (k:=.rt) (vs:=vs) A f fun w η1 v Z' H' Fs' G h2 B r st=>(show Fin X.K (xw X) ⟨sf,pv⟩ Z H (tot Fs) D (.rt w η1) from h2) v σ Z' H' Fs' G B r st
end
noncomputable def FkV (K:a0a):Nat->Hp->V->Prop
 | 0,_,y=>∃ n:Int,y=.int n/\n.natAbs.log2 < 1920
 | 1,H,y=>∃ t,Has K H t y/\(toD t).showable=true/\(toD t).hasDict=false/\(toD t).depth<=64/\(toD t).shown.length<=16777215
 | 2,_,y=>∃ z,y=.str z
 | _,_,_=>False
noncomputable def spI (K:a0a)(C:Addr)(fld:Str)(fk:Nat):Sp:=fun vs H Q _=>∃ a y,vs=[.ref a,y]/\FkV K fk H y/\H a=some (XO a C none true)/\∀ dx,H dx=none->dx≠a->Q .non (upd (upd H dx (.xd [(fld,y)])) a (XO a C (some dx) true))
theorem xG {K:a0a}{Z:Fp}{H:Hp}{m:M.Md}{t:M.T}{v:V}{G:Fp}{fk:Nat}(r:Rep K Z H m t v G)(h:M.fldOk fk m t=true):FkV K fk H v/\Rep K Z H .s t v no:=by
 match fk,m,t,h,r with
 | 0,_,.int n,h,r=>exact ⟨⟨n,r,of_decide_eq_true h⟩,r⟩
 | 2,_,.str z,h,r=>exact ⟨⟨z,r.1⟩,r.leaf (fun _ _ _ q=>q) rfl⟩
 | 1,.s,.tup ts,h,r =>
  have hb:(decide (M.dp (.tup ts)<=64)&&M.rOk (.tup ts)&&M.fits (M.szR (.tup ts)))=true:=h
  rw [a0h,a0h,decide_eq_true_eq] at hb
  obtain ⟨⟨h1,h2⟩,h3⟩:=hb
  have h3:M.szR (.tup ts)<=M.LIM:=of_decide_eq_true h3
  obtain ⟨o1,o2,o3⟩:=fu (n:=64) h1 (a0m _) r
  obtain ⟨s1,s2,s3⟩:=gx (.tup ts) h2 h3
  refine ⟨⟨th (.tup ts),o1,?_,PyData.hasDict_of_canLay _ o2,o3,?_⟩,Rep.sany r⟩
  ·rw [hU]; exact s1
  ·rw [hU]; exact a0n s3 h3
section
variable {X:Cx}{sf:Nat->Option Nat}{C:M.Call}{pos p p2:Pos}{ea:Expr}{a:M.E}{x fld:Str}{c k fk:Nat}{io:List Nat}{xx:M.X}{Cc f:Addr}{up:List Value}{fd:FuncData}{ps:List Str}
theorem FkV.keep {K:a0a}{fk:Nat}{H:Hp}{a':Addr}{o:HO}{y:V}(h0:H a'=none)(h:FkV K fk H y):FkV K fk (upd H a' o) y:=by
 match fk,h with
 | 0,h=>exact h
 | 2,h=>exact h
 | 1,⟨t,q,r⟩=>exact ⟨t,q.mono fun b u e=>by rw [ag (fun z=>by rw [z,h0] at e; cases e)]; exact e,r⟩
theorem pK {Z' G:Fp}{H':Hp}{a' dx:Addr}{t:M.T}{v:V}(nm:XNm X.K c Cc)(h0:H' a'=none)(hd0:H' dx=none)(hne:dx≠a')(ow:Own Z' H' G)(r:Rep X.K Z' H' .s t v no){H3:Hp}(q1:H3 a'=some (XO a' Cc (some dx) false))(q2:H3 dx=some (.xd [(fld,v)]))(q3:∀ b,b≠a'->b≠dx->H3 b=H' b) :
  Step Z' H' G (fun b=>Z' b\/b=a'\/b=dx) H3 no/\Rep X.K (fun b=>Z' b\/b=a'\/b=dx) H3 .s (.ins c [fld] [t]) (.ref a') no:=by
 have ne:∀ b,H' b≠none->b≠a'/\b≠dx:=fun b z=>⟨fun e=>z (by rw [e]; exact h0),fun e=>z (by rw [e]; exact hd0)⟩
 have st:Step Z' H' G (fun b=>Z' b\/b=a'\/b=dx) H3 no:={
  keep:=fun b o e _=>by obtain ⟨n1,n2⟩:=ne b (by rw [e]; simp); rw [q3 b n1 n2]; exact e
  zm:=fun b z=>.inl z
  zn:=fun b z=>z.elim .inl fun z=>.inr (.inr (z.elim (fun e=>by rw [e]; exact h0) fun e=>by rw [e]; exact hd0))
  fn:=fun _ z=>z.elim
  al:=fun b z=>by obtain ⟨n1,n2⟩:=ne b z; rw [q3 b n1 n2]; exact z
  za:=fun hz b z=>by
   rcases z with z | rfl | rfl
   ·obtain ⟨n1,n2⟩:=ne b (hz b z); rw [q3 b n1 n2]; exact hz b z
   ·rw [q1]; simp
   ·rw [q2]; simp }
 exact ⟨st,(fun z=>by cases z),a',dx,Cc,[v],rfl,.inr (.inl rfl),.inr (.inr rfl),q1,q2,rfl,nm,RepL.one (r.frame ow st fun _ z=>z.elim)⟩
theorem sW (xc:XC X.K Cc f up)(hu:b6 up=true)(nm:XNm X.K c Cc)(F:ba X.prog X.w X.K X.mg X.base CX0 k f fd ps (spI X.K Cc fld fk))(hb:Binds X.K fd ps [])(hm:X.mg x=some (.ref Cc))(hr:Room (k+1) X.A)(ha:SE X sf C ea a)(hc:X.calm=true:=by rfl)(hg:Gl X x:=by rfl)
  (hdb:(x==("__debug__":Str))=false:=by decide) (hst:starEach [ea] X.env=(false,eval ea X.env)::starEach [] X.env:=by rfl) (hpl:(backTo p2 (starEach [] X.env)).any (·.1)=false:=by rfl) :
  SS X sf io C (.Raise (some (.Call (.Name x p) [ea] [] p2)) none pos) (.raise c fld fk xx a) :=
 bP (ky hc (kO (E:=E0) xc F hr hg hm hb rB (aN ha bM hst) hdb hst hpl)) fun D σ H h=>by
  obtain ⟨pv,Z,Fs,η,N,A,g⟩:=h
  obtain ⟨⟨⟨m,t⟩,η1⟩,h1,h2⟩:=bo (show Fin X.K (xw X) ⟨sf,pv⟩ Z H (tot Fs) D (M.Fl.of η (M.evX C xx a η) (M.kRaise c fld fk)) from g)
  refine lS (sl:=⟨sf,pv⟩) A h1 fun v Z' H' Fs' G B r s=>?_
  have h3:Fin X.K (xw X) ⟨sf,pv⟩ Z H (tot Fs) D (if M.fldOk fk m t=true then .ex (.ins c [fld] [t]) η1 else .no):=h2
  split at h3
  ·rename_i hlt
   obtain ⟨fv,rs⟩:=xG r hlt
   refine ⟨by show 1<=sizeLine; rw [sizeLine_eq]; omega,fun a' h0=>⟨a',v,rfl,fv.keep h0,ah,fun dx hd hne=>⟨rfl,a',Cc,some dx,f,up,rfl,ah,xc,hu,?_⟩⟩⟩
   have hd0:H' dx=none:=by rw [ag hne] at hd; exact hd
   generalize hH:upd (upd (upd (upd H' a' (XO a' Cc none true)) dx (.xd [(fld,v)])) a' (XO a' Cc (some dx) true)) a' (XO a' Cc (some dx) false)=H3
   obtain ⟨st,r3⟩:=pK (fld:=fld) nm h0 hd0 hne B.own rs (H3:=H3) (by rw [<- hH,ah]) (by rw [<- hH,ag hne,ag hne,ah]) (fun b n1 n2=>by rw [<- hH,ag n1,ag n1,ag n2,ag n1])
   obtain ⟨B2,s2⟩:=B.op (fun _ z=>z.elim) st
   exact h3 (.ref a') σ _ H3 Fs' B2 r3 ((s.trans s2).mono (fun _ z=>z) fun b z=>.inl z)
  ·exact h3.elim
end
theorem At.drop {K:a0a}{sf:Nat->Option Nat}{pv:Nat->Option V}{io:List Nat}{σ:L2.St}{Z:Fp}{H:Hp}{Fs:Fps}{η:M.Env}{G:Fp}{i j:Nat}(N:jP sf io pv)(hi:i ∉ io)(hs:sf i=some j)(A:At K ⟨sf,pv⟩ σ Z H Fs η G):At K ⟨sf,pv⟩ (σ.set j none) Z H Fs (M.del η i) G:=by
 refine ⟨A.gd,fun l m t e=>?_,A.own,A.dis,fun l u q hu hq=>?_,fun l q hq=>by rw [a1T]; exact A.ln l q hq⟩
 ·have e':M.rd (M.wr η i none) l=some (m,t):=e
  rw [aT] at e'
  split at e'
  ·cases e'
  ·rename_i hne
   have hli:l≠i:=fun z=>hne ⟨z,by rw [<- z]; exact cO e'⟩
   obtain ⟨v,r,h1,h2⟩:=A.env l m t e'
   refine ⟨v,r,fun q hq=>?_,h2⟩
   have:q≠j:=fun z=>hli (N.inj l i j (by rw [<- z]; exact hq) hs)
   rw [a0T (a1g this)]
   exact h1 q hq
 ·have hli:l≠i:=fun z=>by
   have:=N.io i hi
   rw [<- z,show pv l=some u from hu] at this; cases this
  have:q≠j:=fun z=>hli (N.inj l i j (by rw [<- z]; exact hq) hs)
  show (σ.set j none)[q]?=_
  rw [a0T (a1g this)]
  exact A.lk l u q hu hq
theorem Fin.wish {K:a0a}{W W':L2.St->VK}{sl:Cf}{Z:Fp}{H:Hp}{F:Fp}{D:bp}{fl:M.Fl}(h:∀ σ v H,W σ v H->W' σ v H)(f:Fin K W sl Z H F D fl):Fin K W' sl Z H F D fl:=by
 cases fl with
 | nx η=>exact f
 | rt w η=>exact f
 | bk η=>exact f
 | ex t η=>exact fun v σ' Z' H' Fs' A r s=>h _ _ _ (f v σ' Z' H' Fs' A r s)
 | no=>exact f
section
variable {X:Cx}{sf:Nat->Option Nat}{C:M.Call}{pos pos' p:Pos}{io:List Nat}{cs:List Nat}{cn x:Str}{i:Nat}{B:Addr}{upB:List Value}{body suite:List Stmt}{b₀:Stmt}{ms hs:List M.S}
theorem xv (j:Nat)(hN:X.N.Nodup)(cb:∀ h,X.K.In h->∃ N' names',dS h B N' upB names')(hub:b6 upB=true)(hm:X.mg cn=some (.ref B))(hcs:∀ c∈cs,∀ C,XNm X.K c C->∃ f up,XC X.K C f up/\up.contains (.ref B)=true)
  (hb:∀ E' pn,SSs (L3.tx X E' pn) sf io C body ms) (hh:∀ a,SSs (L3.hx X a) sf io C (b₀::suite) hs)
  (hst:X.stack=X.env::X.outer:=by rfl) (hf:X.env.frame=some X.env.locals:=by rfl) (hi:i ∉ io:=by decide) (hs':sf i=some j:=by rfl) (hj:X.N[j]?=some x:=by rfl) (hk:X.env.scope.names.lookup x=some .local:=by rfl) (hg:Gl X cn:=by rfl) (hdb:(cn==("__debug__":Str))=false:=by decide) :
  SS X sf io C (.Try body [.ExceptHandler (some (.Name cn p)) (some x) (b₀::suite) pos'] [] [] pos) (.tryC cs ms i hs):=by
 refine bP (oy (i:=j) (tb:=fun W=>wSs X.K W sf io C ms) (th:=fun a=>wSs X.K (xw (L3.hx X a)) sf io C hs) hst hf hN hj hk hg hm cb hub (fun E' pn=>hb E' pn) hh hdb fun W W' D σ H h ⟨pv,Z,Fs,η,N,A,f⟩=>⟨pv,Z,Fs,η,N,A,Fin.wish h f⟩) fun D σ H h=>?_
 obtain ⟨pv,Z,Fs,η,N,A,f⟩:=h
 have f:Fin X.K (xw X) ⟨sf,pv⟩ Z H (tot Fs) D (M.Fl.caught cs i (M.evSs C hs) (M.evSs C ms η)):=f
 refine ⟨pv,Z,Fs,η,N,A,?_⟩
 cases e:M.evSs C ms η with
 | nx η1=>rw [e] at f; exact f
 | rt w η1=>rw [e] at f; exact f
 | bk η1=>rw [e] at f; exact f
 | no=>rw [e] at f; exact f
 | ex t η1 =>
  rw [e] at f
  intro v σ' Z' H' Fs' A' r st
  cases t with
  | ins c fs vs =>
   have f:Fin X.K (xw X) ⟨sf,pv⟩ Z H (tot Fs) D (if cs.contains c=true then M.Fl.drop i (M.evSs C hs (M.put η1 i (.s,.ins c fs vs))) else .no):=f
   split at f
   ·rename_i hcc
    have r0:=r
    obtain ⟨_,a,dx,Cc,xs,rfl,z1,z2,e1,e2,l,nm,_⟩:=r
    obtain ⟨fI,up,xc,hu⟩:=hcs c (by simpa using hcc) Cc nm
    have A2:=At.set (w:=(.s,.ins c fs vs)) N hi hs' A' r0
    have f:=f.step st
    refine ⟨a,Cc,some dx,fI,up,rfl,e1,xc,hu,pv,Z',_,_,N,A2,?_⟩
    have tf:∀ b,tot (ip Fs' i no) b->tot Fs' b:=fun b z=>(aD z).elim id fun y=>y.elim
    cases e3:M.evSs C hs (M.put η1 i (.s,.ins c fs vs)) with
    | nx η2 =>
     rw [e3] at f
     exact fun σ2 Z2 H2 Fs2 A3 s2=>f _ Z2 H2 Fs2 (At.drop N hi hs' A3) (s2.mono tf fun _ z=>z)
    | rt w η2 =>
     rw [e3] at f
     exact fun v2 σ2 Z2 H2 Fs2 G2 A3 r3 s2=>f v2 _ Z2 H2 Fs2 G2 (At.drop N hi hs' A3) r3 (s2.mono tf fun _ z=>z)
    | bk η2=>rw [e3] at f; exact f.elim
    | ex t η2=>rw [e3] at f; exact f.elim
    | no=>rw [e3] at f; exact f.elim
   ·exact f.elim
  | _=>exact f.elim
end
end MR

namespace L3
open PySem PySem.Spec PyProof.Rows L2
theorem ni {X:Cx}{cv:Value}{rv:V}(rc:∀ u,RelV rv u->u=cv):er X (.builtin "isinstance") (fun xs H Q=>∃ x b,xs=[x,rv]/\((∃ a C dx n fs,x=.ref a/\H a=some (XO a C (some dx) n)/\H dx=some (.xd fs)/\XF X.K C/\a0O X.K (.ref C) cv=some b)\/(x=.non/\a0O X.K (.type "NoneType") cv=some b))/\Q (.bl b) H):=by
 intro pins s σ H xs us Q I r h
 obtain ⟨x,b,rfl,h,q⟩:=h
 obtain ⟨u,w',rfl,ru,rw'⟩:=rF r
 obtain rfl:w'=cv:=rc _ rw'
 rcases h with ⟨a,C,dx,n,fs,rfl,e,d,c,k⟩ | ⟨rfl,k⟩
 ·obtain rfl:u=Value.ref a:=ru
  exact vq I e d c k fun tk=>⟨.bl b,H,I.tok tk,rfl,q⟩
 ·exact jn I ru .non k fun tk=>⟨.bl b,H,I.tok tk,rfl,q⟩
end L3
namespace MR
open PySem PySem.Spec PyProof.Rows L2 L3
section
variable {X:Cx}{sf:Nat->Option Nat}{C:M.Call}{pos p p2 p3:Pos}{ea:Expr}{a:M.E}{h:Bool}{k fld:Str}{cs:List Nat}{cv:Value}{rv:V}
theorem eR {K:a0a}{Z:Fp}{H:Hp}{m:M.Md}{c:Nat}{fs:List Str}{vs:List M.T}{v:V}{G:Fp}(r:Rep K Z H m (.ins c fs vs) v G):∃ a dx xs,v=.ref a/\H a=some (XO a c (some dx) false)/\H dx=some (.xd (fs.zip xs))/\fs.length=vs.length/\XF K c/\RepL K Z H .s vs xs (fun _=>False):=by
 obtain ⟨_,a,dx,C,xs,e,_,_,h1,h2,l,⟨rfl,f⟩,r⟩:=r
 exact ⟨a,dx,xs,e,h1,h2,l,f,r⟩
theorem zK (ha:SE X sf C ea a)(hn:∀ c:Nat,XF X.K c->a0q X.K (.ref c) fld=some none)(hb:attributeBase ea fld X.env (eval ea X.env)=eval ea X.env:=by rfl):SE X sf C (.Attribute ea fld pos) (.op (.att fld) h [a]) :=
 aq (pX ha hb) fun σ H Q hw=>by
  obtain ⟨pv,Z,Fs,η,w,η',A,ev,k⟩:=hw
  obtain ⟨ws,h1,h2⟩:=bj ev
  obtain ⟨⟨m,u⟩,η1,us,e1,e2,rfl⟩:=aj h1
  cases e2
  cases u with
  | ins c fs vs =>
   match fs,vs,h2 with
   | [g],[t],h2 =>
    have h3:(if (g==fld)=true then some ((M.lfM t,t):M.W) else none)=some w:=h2
    split at h3
    ·rename_i hg
     cases h3
     refine ⟨pv,Z,Fs,η,_,η',A,e1,fun x Z' H' Fs' G B r s=>?_⟩
     obtain ⟨a',dx,xs,e,q1,q2,l,f,rl⟩:=eR r
     obtain ⟨y,r',G1,G2,ex,_,_,_,ry,rn⟩:=rl
     cases ex
     obtain rfl:r'=[]:=rn
     refine ⟨a',c,dx,false,[(g,y)],y,e,q1,q2,f,hn c f,?_,?_⟩
     ·rw [<- beq_iff_eq.mp hg]; simp [a0P]
     ·refine k y Z' H' Fs' no B.bare ?_ (s.mono (fun _ z=>z) fun b z=>z.elim .inl fun y=>y.elim)
      show Rep X.K Z' H' (if t.leaf=true then .d else .s) t y no
      split
      ·rename_i hl
       exact ry.leaf (fun _ _ _ q=>q) hl
      ·exact Rep.sany ry
    ·cases h3
  | _=>cases h2
theorem rg {rk:PE X (.Name k p2) (fun σ H Q=>Q rv H)}(rc:∀ u,RelV rv u->u=cv)(hk:∀ c:Nat,XF X.K c->a0O X.K (.ref c) cv=some (cs.contains c))(hk0:a0O X.K (.type "NoneType") cv=some false)(hm:X.mg "isinstance"=none)(ha:SE X sf C ea a)(hg:Gl X "isinstance":=by rfl)
  (hs:starEach [ea,.Name k p2] X.env=(false,eval ea X.env)::starEach [.Name k p2] X.env:=by rfl) (hs2:starEach [.Name k p2] X.env=(false,eval (.Name k p2) X.env)::starEach [] X.env:=by rfl) (hpl:(backTo pos (starEach [.Name k p2] X.env)).any (·.1)=false:=by rfl) :
  SE X sf C (.Call (.Name "isinstance" p3) [ea,.Name k p2] [] pos) (.op (.isX cs) h [a]) :=
 aq (dr (ni rc) hg hm a1Q (aN ha (aN rk bM hs2) hs) (by decide) (by decide) hs hpl) fun σ H Q hw=>by
  obtain ⟨pv,Z,Fs,η,w,η',A,ev,k⟩:=hw
  obtain ⟨ws,h1,h2⟩:=bj ev
  obtain ⟨⟨m,u⟩,η1,us,e1,e2,rfl⟩:=aj h1
  cases e2
  cases u with
  | ins c fs vs =>
   have h3:some ((.d,.bl (cs.contains c)):M.W)=some w:=h2
   cases h3
   refine ⟨pv,Z,Fs,η,_,η',A,e1,fun x Z' H' Fs' G B r s=>?_⟩
   obtain ⟨a',dx,xs,e,q1,q2,l,f,rl⟩:=eR r
   exact ⟨x,_,rfl,.inl ⟨a',c,dx,false,_,e,q1,q2,f,hk c f⟩,bz (aY B s k)⟩
  | non =>
   have h3:some ((.d,.bl false):M.W)=some w:=h2
   cases h3
   refine ⟨pv,Z,Fs,η,_,η',A,e1,fun x Z' H' Fs' G B r s=>?_⟩
   obtain rfl:x=.non:=r
   exact ⟨.non,_,rfl,.inr ⟨rfl,hk0⟩,bz (aY B s k)⟩
  | _=>cases h2
end
end MR

namespace MR
open PySem PySem.Spec PyProof.Rows L2 L3
structure XCl (P:Program)(w:World)(K:a0a)(mg:Str->Option Value)(base:Heap)(x:Str)(c B:Nat)(fld:Str)(fk:Nat):Prop where
 ex:∃ f up fd ps,XC K c f up/\b6 up=true/\up.contains (.ref B)=true/\Binds K fd ps []/\∀ k,ba P w K mg base CX0 (k+1) f fd ps (spI K c fld fk)
 xf:XF K c
 nm:mg x=some (.ref c)
structure XBs (K:a0a)(mg:Str->Option Value)(x:Str)(B:Nat)(cs:List Nat):Prop where
 nm:mg x=some (.ref B)
 cb:∃ upB,b6 upB=true/\∀ h,K.In h->∃ N' names',dS h B N' upB names'
 cs:∀ c∈cs,∃ f up,XC K c f up/\up.contains (.ref B)=true
structure XIs (K:a0a)(mg:Str->Option Value)(x:Str)(cv:Value)(cs:List Nat):Prop where
 nm:mg x=some cv\/(mg x=none/\bootBuiltins x=some cv)
 one:∀ c:Nat,XF K c->a0O K (.ref c) cv=some (cs.contains c)
 non:a0O K (.type "NoneType") cv=some false
section
variable {X:Cx}{sf:Nat->Option Nat}{C:M.Call}{pos pos' p p2 p3:Pos}{ea:Expr}{a:M.E}{x k fld cn:Str}{c B n i C' fk:Nat}{io cs:List Nat}{xx:M.X}{h:Bool}{body suite:List Stmt}{b₀:Stmt}{ms hs:List M.S}
theorem bR (r:XCl X.prog X.w X.K X.mg X.base x c B fld fk)(hr:Room (n+2) X.A)(ha:SE X sf C ea a)(hc:X.calm=true:=by rfl)(hg:Gl X x:=by rfl)
  (hdb:(x==("__debug__":Str))=false:=by decide) (hst:starEach [ea] X.env=(false,eval ea X.env)::starEach [] X.env:=by rfl) (hpl:(backTo p2 (starEach [] X.env)).any (·.1)=false:=by rfl) :
  SS X sf io C (.Raise (some (.Call (.Name x p) [ea] [] p2)) none pos) (.raise c fld fk xx a):=by
 obtain ⟨f,up,fd,ps,xc,hu,_,hb,F⟩:=r.ex
 exact sW (k:=n+1) xc hu ⟨rfl,r.xf⟩ (F n) hb r.nm hr ha hc hg hdb hst hpl
theorem wg (j:Nat)(hN:X.N.Nodup)(b:XBs X.K X.mg cn B cs)(hb:∀ E' pn,SSs (L3.tx X E' pn) sf io C body ms)(hh:∀ a,SSs (L3.hx X a) sf io C (b₀::suite) hs)
  (hst:X.stack=X.env::X.outer:=by rfl) (hf:X.env.frame=some X.env.locals:=by rfl) (hi:i ∉ io:=by decide) (hs':sf i=some j:=by rfl) (hj:X.N[j]?=some x:=by rfl) (hk:X.env.scope.names.lookup x=some .local:=by rfl) (hg:Gl X cn:=by rfl) (hdb:(cn==("__debug__":Str))=false:=by decide) :
  SS X sf io C (.Try body [.ExceptHandler (some (.Name cn p)) (some x) (b₀::suite) pos'] [] [] pos) (.tryC cs ms i hs):=by
 obtain ⟨upB,hu,cb⟩:=b.cb
 exact xv j hN cb hu b.nm (fun c hc C0 nm=>by obtain ⟨rfl,_⟩:=nm; exact b.cs c hc) hb hh hst hf hi hs' hj hk hg hdb
theorem yA (r:XIs X.K X.mg k (.ref C') cs)(hm:X.mg "isinstance"=none)(ha:SE X sf C ea a)(hg:Gl X "isinstance":=by rfl)(hg2:Gl X k:=by rfl)(hd:(k==("__debug__":Str))=false:=by decide)
  (hs:starEach [ea,.Name k p2] X.env=(false,eval ea X.env)::starEach [.Name k p2] X.env:=by rfl) (hs2:starEach [.Name k p2] X.env=(false,eval (.Name k p2) X.env)::starEach [] X.env:=by rfl) (hpl:(backTo pos (starEach [.Name k p2] X.env)).any (·.1)=false:=by rfl) (hb:bootBuiltins k=none:=by kernel_rfl) :
  SE X sf C (.Call (.Name "isinstance" p3) [ea,.Name k p2] [] pos) (.op (.isX cs) h [a]):=by
 have nm:X.mg k=some (.ref C'):=by
  rcases r.nm with z | ⟨_,z⟩
  ·exact z
  ·rw [hb] at z; cases z
 exact rg (rv:=.ref C') (cv:=.ref C') (rk:=fD hg2 nm hd) (fun u z=>z) r.one r.non hm ha hg hs hs2 hpl
theorem yw {T:String}(r:XIs X.K X.mg k (.type T) cs)(hm:X.mg "isinstance"=none)(ha:SE X sf C ea a)(hm2:X.mg k=none)(hb:bootBuiltins k=some (.type T):=by first | exact PyProof.Rows.Boot.«ValueError» | kernel_rfl)(hn:k≠"__name__":=by decide)(hg:Gl X "isinstance":=by rfl)(hg2:Gl X k:=by rfl)(hd:(k==("__debug__":Str))=false:=by decide)
  (hs:starEach [ea,.Name k p2] X.env=(false,eval ea X.env)::starEach [.Name k p2] X.env:=by rfl) (hs2:starEach [.Name k p2] X.env=(false,eval (.Name k p2) X.env)::starEach [] X.env:=by rfl) (hpl:(backTo pos (starEach [.Name k p2] X.env)).any (·.1)=false:=by rfl) :
  SE X sf C (.Call (.Name "isinstance" p3) [ea,.Name k p2] [] pos) (.op (.isX cs) h [a]) :=
 rg (rv:=.ty T) (cv:=.type T) (rk:=wF hg2 hm2 hb hn hd) (fun u z=>z) r.one r.non hm ha hg hs hs2 hpl
end
section
variable {P:Program}{w:World}{K:a0a}{mg:Str->Option Value}{base:Heap}{x:Str}{st:Stmt}{ps N:List Str}{n g:Nat}{C C':M.Call}{fn:M.Fn}
theorem Df.okX (e:Df K mg x st ps)(h:∀ f fd,L2.Fun K x x st f fd->ba P w K mg base (CX1 P w) n f fd ps (spX K C g)):bC P w K mg base n C x g:=by
 obtain ⟨f,fd,F,b,m⟩:=e.ex
 exact ⟨f,fd,ps,h f fd F,m,F.kp,b⟩
theorem Df.zX (e:Df K mg x st ps)(hC:∀ ws,C g ws=.no:=by intro _; rfl):bC P w K mg base n C x g:=e.okX fun _ _ _=>zA hC
theorem Df.sX (e:Df K mg x st ps)(fn:M.Fn)(S:az N ps (defScope st))
  (hb:∀ {f:Addr} {cdv:Value} {A:Around} {outer:List Env} {s:Shared} {H:Hp} {E:XK},Room n (A.deeper (envOfC x (defScope st) s.heap.objs.size f cdv))->SSs (cJ (CX1 P w) P w K mg base N x (defScope st) f cdv A outer s H E) (slN N.length) [] C (defBody st) fn.body)
  (hC:∀ ws,C' g ws=M.runF C fn ws:=by intro _; rfl) (hps:fn.ps=ps.length:=by rfl) (hle:ps.length<=N.length:=by decide) (hio:fn.io=[]:=by rfl):bC P w K mg base (n+1) C' x g :=
 e.okX fun f fd F=>Fun.okX F S hps hle hio (fun _ _ _ _ _ _ h=>hb h) hC
end
end MR

namespace MR
open PySem PySem.Spec PyProof.Rows L2 L3
noncomputable def ro (K:a0a)(C:Addr)(up:List Value)(cd:ClassData)(sl:Array (Option Value)):Bool :=
 (match sl.toList with | [_,_,_,_,some (.builtin m),_]=>m=="ValueError.__new__" | _=>false)&&(cd.mro==.ref C::up&&(!cd.hasDel&&PySem.W.nsOkIn K cd.ns))
noncomputable def lP (K:a0a)(C:Addr)(up:List Value):Bool:=match K.lookup C with
 | some ⟨.type "type",_,.cls cd,sl⟩=>ro K C up cd sl
 | _=>false
theorem eU {K:a0a}{h:Heap}{N:Addr}{mg:Str->Option Value}{x:Str}{r:Option Value}(X:K.In h)(G:h.Ns N mg)(e:a08 K N x=some r):mg x=r:=by
 cases r with
 | none=>exact PySem.W.ns_none_of X G e
 | some v =>
  obtain ⟨o,es,ep,ho,hd,_,hf⟩:=G
  rw [<- hf x]
  unfold a08 at e
  split at e
  ·rename_i q
   cases (X _ _ q).symm.trans ho
   cases hd
   cases z:es.toList.find? (fun y=>y.key.isStr x) with
   | none=>rw [z] at e; dsimp only at e; split at e<;>cases e
   | some en =>
    rw [z] at e
    cases e
    show (es.find? (fun y=>y.key.isStr x)).map (·.val)=_
    rw [<- a1X,z]
    rfl
  ·cases e
theorem r6 {K:a0a}{C:Addr}{up:List Value}(e:lP K C up=true):∃ N,∀ h,K.In h->dS h C N up (h.nsMap N)/\∀ x r,a08 K N x=some r->h.nsMap N x=r:=by
 unfold lP at e
 split at e
 ·rename_i dd cd sl ho
  unfold ro at e
  rw [a0h] at e
  obtain ⟨e1,e2⟩:=e
  split at e1
  ·rename_i k0 k1 k2 k3 m k5 hs
   simp only [a0h,beq_iff_eq,Bool.not_eq_true'] at e1 e2
   obtain ⟨hm,hdel,hns⟩:=e2
   obtain ⟨nm,bs,mro,ns,qn,hd,sn,sub,ab,col,del⟩:=cd
   dsimp only at hm hdel hns
   subst hm hdel e1
   have hsl:sl=#[k0,k1,k2,k3,some (.builtin "ValueError.__new__"),k5]:=by
    obtain ⟨l⟩:=sl
    simp only at hs
    rw [hs]
   subst hsl
   exact ⟨ns,fun h X=>⟨⟨⟨nm,qn,bs,hd,sn,sub,ab,col,dd,k0,k1,k2,k3,k5,X _ _ ho⟩,.of_isNs (a2E X hns)⟩,fun x r q=>eU X (.of_isNs (a2E X hns)) q⟩⟩
  ·cases e1
 ·cases e
noncomputable def fnB (K:a0a)(f:Addr):Bool:=match K.lookup f with
 | some ⟨.type "function",_,_,_⟩=>true
 | _=>false
noncomputable def hJ (K:a0a)(C:Addr):Addr:=match K.lookup C with
 | some ⟨_,_,.cls cd,_⟩=>cd.ns
 | _=>0
noncomputable def xcB (K:a0a)(C f:Addr)(up:List Value):Bool :=
 lP K C up&&(a08 K (hJ K C) "__init__"==some (some (.ref f))&&(PySem.W.tailIn K VE up&&(fnB K f&&(a09 K (.ref C)&&(a0q K (.ref C) "__setattr__"==some (some (.builtin "object.__setattr__"))&&((a1r K C).any (fun cd=>b6 cd.mro)&&a0V K C))))))
theorem ij {K:a0a}{C:Addr}{up:List Value}(e:lP K C up=true):∀ h,K.In h->dS h C (hJ K C) up (h.nsMap (hJ K C))/\∀ x r,a08 K (hJ K C) x=some r->h.nsMap (hJ K C) x=r:=by
 obtain ⟨N,q⟩:=r6 e
 have:∀ h,K.In h->N=hJ K C:=fun h X=>by
  obtain ⟨⟨nm,qn,bs,hd,sn,sub,ab,col,dd,k0,k1,k2,k3,k5,ho⟩,_⟩:=(q h X).1
  unfold lP at e
  unfold hJ
  split at e
  ·rename_i hl
   rw [hl]
   cases (X _ _ hl).symm.trans ho
   rfl
  ·cases e
 intro h X
 rw [<- this h X]
 exact q h X
theorem ez {K:a0a}{C f:Addr}{up:List Value}(e:xcB K C f up=true):XC K C f up:=by
 unfold xcB at e
 simp only [a0h,beq_iff_eq] at e
 obtain ⟨e1,e2,e3,e4,e5,e6,e7,e8⟩:=e
 refine ⟨fun h X=>⟨_,_,(ij e1 h X).1,PySem.W.tail_of_in X e3,(ij e1 h X).2 _ _ e2⟩,fun h X=>?_,e5,e6,e7,e8⟩
 unfold fnB at e4
 split at e4
 ·rename_i hl
  exact ⟨_,X _ _ hl,rfl⟩
 ·cases e4
noncomputable def xfB (K:a0a)(C:Addr):Bool :=
 a0q K (.ref C) "__getattribute__"==some (some (.builtin "BaseException.__getattribute__"))&&(a0q K (.ref C) "__getattr__"==some none&&(a3d K (.ref C) (.type "BaseException")==some true&&(a0V K C&&(a0q K (.ref C) "__class__"==some (some (.builtin "object.__class__"))&&(a1b K (.builtin "object.__class__") "__get__"==some (some (.builtin "getset_descriptor.__get__"))&&(a1x K (.builtin "object.__class__")==some true&&a1y K C (.type "object")==some true))))))
theorem yo {K:a0a}{C f:Addr}{up:List Value}(c:XC K C f up)(hu:b6 up=true)(e:xfB K C=true):XF K C:=by
 unfold xfB at e
 simp only [a0h,beq_iff_eq] at e
 obtain ⟨e1,e2,e3,e4,e5,e6,e7,e8⟩:=e
 exact ⟨⟨f,up,c,hu⟩,⟨e1,e2,e3⟩,e4,e5,e6,e7,e8⟩
noncomputable def pT (K:a0a)(p:Nat->Bool):Bool:=K.all fun q=>!((a1r K q.1).any fun cd=>b6 cd.mro) || p q.1
theorem iy {K:a0a}{p:Nat->Bool}(e:pT K p=true){c:Nat}(x:XF K c):p c=true:=by
 obtain ⟨f,up,xc,_⟩:=x.xc
 have po:=xc.po
 obtain ⟨cd,hc,_⟩:=a1k po
 have:∃ o,(c,o)∈K:=by
  unfold a1r at hc
  split at hc
  ·rename_i hl
   have hl':a0P c K=some _:=hl
   clear hc po xc e x
   induction K with
   | nil=>cases hl'
   | cons q r ih =>
    obtain ⟨a,o⟩:=q
    rw [a04] at hl'
    by_cases z:c=a
    ·exact ⟨o,by rw [z]; exact a0c ..⟩
    ·rw [show (c==a)=false from beq_false_of_ne z] at hl'
     obtain ⟨o',h⟩:=ih hl' hl'
     exact ⟨o',a0e _ h⟩
  ·cases hc
 obtain ⟨o,m⟩:=this
 have q:=a1K.mp e (c,o) m
 rw [po] at q
 exact q
end MR

namespace L3
open PySem PySem.Spec PyProof.Rows L2
theorem jq {X:Cx}{Cs:List Addr}:er X (.builtin "isinstance") (fun xs H Q=>∃ x p b,xs=[x,.ref p]/\SqT X.K H p (Cs.map V.ref)/\((∃ a C dx n fs,x=.ref a/\H a=some (XO a C (some dx) n)/\H dx=some (.xd fs)/\XF X.K C/\a1l X.K (.ref C) (Cs.map Value.ref)=some b)\/(x=.non/\a1l X.K (.type "NoneType") (Cs.map Value.ref)=some b))/\Q (.bl b) H):=by
 intro pins s σ H xs us Q I r h
 obtain ⟨x,p,b,rfl,hp,h,q⟩:=h
 obtain ⟨u,w',rfl,ru,rw'⟩:=rF r
 cases rw'
 obtain ⟨its,rv,pt,hlen⟩:=I.tuple hp
 obtain rfl:its=Cs.map Value.ref:=by
  clear q h hp pt I hlen
  induction Cs generalizing its with
  | nil=>cases rv; rfl
  | cons c cs ih =>
   cases rv with
   | cons a b =>
    cases a
    rw [ih _ b]; rfl
 obtain ⟨⟨oc,od,odt,osl⟩,g1,g2,n,g3⟩:=pt
 have g2':oc=.type "tuple":=g2
 have g3':odt=.seq _ n:=g3
 subst g2' g3'
 have fin:∀ tk,EP X pins σ Q (.bool b) { s with toks:=tk }:=fun tk=>⟨.bl _,H,I.tok tk,rfl,q⟩
 rcases h with ⟨a,C,dx,n,fs,rfl,e,d,c,k⟩ | ⟨rfl,k⟩
 ·obtain rfl:u=Value.ref a:=ru
  obtain ⟨o,vs,t0,e0,e1,e2,e3,e4,e5,e6⟩:XOk a C (some dx) n s.heap:=(I.hok a _ e).1
  obtain ⟨mA,ns,r⟩:∃ mA,s.heap.Ns1 dx mA/\∀ f,RelO (fs.lookup f) (mA f):=I.hok dx _ d
  obtain ⟨od,ho,hl⟩:=bU ns
  have J:a00 s.heap a o C (some od):=⟨e0,e1,by unfold a12; rw [e3],by rw [e2]; exact ho⟩
  exact a25 (je c.xg c.hd c.ca c.cg c.ct c.mo) I.kIn J g1 k (fun z=>nomatch z) fin
 ·obtain rfl:u=Value.none:=ru
  exact a25 a2H I.kIn trivial g1 k (fun z=>nomatch z) fin
end L3
namespace MR
open PySem PySem.Spec PyProof.Rows L2 L3
structure XIt (K:a0a)(Cs cs:List Nat):Prop where
 one:∀ c:Nat,XF K c->a1l K (.ref c) (Cs.map Value.ref)=some (cs.contains c)
 non:a1l K (.type "NoneType") (Cs.map Value.ref)=some false
section
variable {X:Cx}{sf:Nat->Option Nat}{C:M.Call}{pos pos' p p2 p3 p4:Pos}{ea eb ec:Expr}{a c:M.E}{h:Bool}{k:Str}{Cs cs:List Nat}{es:List Expr}{io:List Nat}{xx:M.X}{bs bs':List M.E}{g g':Nat}{vs vs':List Nat}
theorem pn0:PA X [] (fun σ H Q=>Q (([]:List Nat).map V.ref) H):=bM
theorem pn1 {C':Nat}{cs':List Nat}(r:XIs X.K X.mg k (.ref C') cs')(t:PA X es (fun σ H Q=>Q (Cs.map V.ref) H))(hg:Gl X k:=by rfl)(hd:(k==("__debug__":Str))=false:=by decide)(hb:bootBuiltins k=none:=by kernel_rfl)(hs:starEach (.Name k p::es) X.env=(false,eval (.Name k p) X.env)::starEach es X.env:=by rfl):PA X (.Name k p::es) (fun σ H Q=>Q ((C'::Cs).map V.ref) H):=by
 have nm:X.mg k=some (.ref C'):=by
  rcases r.nm with z | ⟨_,z⟩
  ·exact z
  ·rw [hb] at z; cases z
 exact aN (fD hg nm hd) t hs
theorem yE {kt:Nat}{pt:Pos}(r:XIt X.K Cs cs)(t:PA X es (fun σ H Q=>Q (Cs.map V.ref) H))(hl:Cs.length<=100)(hm:X.mg "isinstance"=none)(ha:SE X sf C ea a)(hg:Gl X "isinstance":=by rfl)
  (hs:starEach [ea,.Tuple es kt pt] X.env=(false,eval ea X.env)::starEach [.Tuple es kt pt] X.env:=by rfl) (hs2:starEach [.Tuple es kt pt] X.env=(false,eval (.Tuple es kt pt) X.env)::starEach [] X.env:=by rfl) (hpl:(backTo pos (starEach [.Tuple es kt pt] X.env)).any (·.1)=false:=by rfl) :
  SE X sf C (.Call (.Name "isinstance" p3) [ea,.Tuple es kt pt] [] pos) (.op (.isX cs) h [a]) :=
 aq (dr (jq (Cs:=Cs)) hg hm a1Q (aN ha (aN (nr t) bM hs2) hs) (by decide) (by decide) hs hpl) fun σ H Q hw=>by
  obtain ⟨pv,Z,Fs,η,w,η',A,ev,k⟩:=hw
  obtain ⟨ws,h1,h2⟩:=bj ev
  obtain ⟨⟨m,u⟩,η1,us,e1,e2,rfl⟩:=aj h1
  cases e2
  have hz:(Cs.map V.ref).length<=sizeLine:=by rw [a0b,sizeLine_eq]; omega
  cases u with
  | ins c fs vs =>
   have h3:some ((.d,.bl (cs.contains c)):M.W)=some w:=h2
   cases h3
   refine ⟨pv,Z,Fs,η,_,η',A,e1,fun x Z' H' Fs' G B r' s=>⟨hz,fun p hp=>?_⟩⟩
   obtain ⟨a',dx,xs,e,q1,q2,l,f,rl⟩:=eR r'
   have sm:=gh (o:=.tup (Cs.map V.ref)) hp
   exact ⟨x,p,_,rfl,.inl (.inl ah),.inl ⟨a',c,dx,false,_,e,sm _ _ q1,sm _ _ q2,f,r.one c f⟩,bz (gb sm (aY B s k))⟩
  | non =>
   have h3:some ((.d,.bl false):M.W)=some w:=h2
   cases h3
   refine ⟨pv,Z,Fs,η,_,η',A,e1,fun x Z' H' Fs' G B r' s=>⟨hz,fun p hp=>?_⟩⟩
   obtain rfl:x=.non:=r'
   have sm:=gh (o:=.tup (Cs.map V.ref)) hp
   exact ⟨.non,p,_,rfl,.inl (.inl ah),.inr ⟨rfl,r.non⟩,bz (gb sm (aY B s k))⟩
  | _=>cases h2
theorem oh (j:Nat){i:Nat}{x:Str}(hN:X.N.Nodup)(hc:SB X sf C ec c)(ha:PE X ea (wC X.K (xw X) sf C g bs))(hb:PE X eb (wC X.K (xw X) sf C g' bs'))(hi:i ∉ io:=by decide)(hs:sf i=some j:=by rfl)(hj:X.N[j]?=some x:=by rfl)(hx:L2.Loc X.env.scope x:=by first | exact a0M rfl | exact a0H rfl)
  (hsw:swapsWith (.IfExp ec ea eb p) (some (.Name x pos')) pos.line X.env=pure false:=by rfl) (hf:X.fn x=true\/X.env.scope.names.lookup x=some .local:=by first | exact .inl rfl | exact .inr rfl):SS X sf io C (.Assign [.Name x pos'] (.IfExp ec ea eb p) pos) (.ite xx c [.asgC vs i g bs] [.asgC vs' i g' bs']) :=
 bP (iB (i:=j) hN hj hx (gJ hc ha hb) hsw hf) fun D σ H h=>by
  obtain ⟨pv,Z,Fs,η,w,η',b,A,e,et,q⟩:=nJ D σ H h
  refine ⟨pv,Z,Fs,η,w,η',b,A,e,et,fun Z' H' Fs' A' st=>?_⟩
  have q:=q Z' H' Fs' A' st
  cases b with
  | true =>
   rw [if_pos rfl] at q
   show wC X.K (xw X) sf C g bs σ H' (fun x H1=>cc j x σ H1 D.nx)
   obtain ⟨pv,Z,Fs,η,N,A,f⟩:=fG D σ H' q
   exact jh (k:=M.kAsgC i) (vs:=vs) A f fun w η1 v Z' H' Fs' G h2 B r st=>(show Fin X.K (xw X) ⟨sf,pv⟩ Z _ (tot Fs) D (.nx (M.put η1 i w)) from h2) _ Z' H' _ (At.set N hi hs B r) (st.mono (fun _ z=>z) fun a ha=>aD ha)
  | false =>
   rw [if_neg a0t] at q
   show wC X.K (xw X) sf C g' bs' σ H' (fun x H1=>cc j x σ H1 D.nx)
   obtain ⟨pv,Z,Fs,η,N,A,f⟩:=fG D σ H' q
   exact jh (k:=M.kAsgC i) (vs:=vs') A f fun w η1 v Z' H' Fs' G h2 B r st=>(show Fin X.K (xw X) ⟨sf,pv⟩ Z _ (tot Fs) D (.nx (M.put η1 i w)) from h2) _ Z' H' _ (At.set N hi hs B r) (st.mono (fun _ z=>z) fun a ha=>aD ha)
theorem lR:∀ (tab:List (Str×Int)) (z:Str),dg (bI tab) (.inr z)=(tab.lookup z).map V.int
 | [],_=>rfl
 | (x,i)::r,z=>by
  by_cases hx:z=x
  ·subst hx
   simp [dg,bI,a0P]
  ·have hne:¬ (a2h x:Key)=a2h z:=fun q=>hx (a3y q).symm
   have q:=lR r z
   rw [a04,beq_eq_false_iff_ne.mpr hx]
   unfold dg bI at q ⊢
   rw [a0k,List.find?_cons_of_neg (by simpa using hne)]
   exact q
theorem pD {tab:List (Str×Int)}{d:Option Int}{dv:V}(hd:M.getI none d=.non/\dv=.non\/∃ i,d=some i/\dv=.int i)(hn:cw [] (bI tab)=bI tab)(h15:tab.length<=15)(σ:L2.St)(H:Hp)(Q:VK)(hw:wE X.K sf C (.op (.getK tab d) h [a]) σ H Q):rR ((bI tab).map fun kv=>(tC (kV kv.1),tC kv.2)) σ H fun x H1=>∃ ad,x=.ref ad/\IsD H1 ad/\wE X.K sf C a σ H1 fun y H2=>∃ o,tI H2 ad y o/\Q (o.getD dv) H2:=by
 obtain ⟨pv,Z,Fs,η,w',η',A,ev,k⟩:=hw
 obtain ⟨ws,h1,h2⟩:=bj ev
 obtain ⟨⟨m,t0⟩,η1,us,e1,e2,rfl⟩:=aj h1
 cases e2
 cases t0 with
 | str z =>
  have h3:some ((.d,M.getI (tab.lookup z) d):M.W)=some w':=h2
  cases h3
  intro p hp
  refine cX _ _ ⟨ah,bI tab,rfl,by unfold bI; rw [a0b]; exact h15,?_⟩
  rw [hn]
  have eH:upd (upd H p (.dK [])) p (.dK (bI tab))=upd H p (.dK (bI tab)):=by
   funext q
   by_cases e:q=p
   ·rw [e,ah,ah]
   ·rw [ag e,ag e,ag e]
  rw [eH]
  have st:Step Z H no Z (upd H p (.dK (bI tab))) no:=dM hp bc (fun _ q=>q.elim) Z (fun _ q=>q) fun _ q=>.inl q
  obtain ⟨A',s0⟩:=A.op bc st
  refine ⟨p,rfl,.inl ⟨_,.inl ah⟩,pv,Z,Fs,η,_,η',A',e1,fun y Z' H' Fs' G B r s=>?_⟩
  have np:¬ tot Fs p:=fun q=>by
   obtain ⟨_,xs,e⟩:=A.gd.own p q
   rw [hp] at e; cases e
  have hk:=s.keep p _ ah np
  have s1:Step Z H (tot Fs) Z (upd H p (.dK (bI tab))) (tot Fs):=s0.mono (fun _ q=>q.elim id fun q=>q.elim) fun _ q=>.inl q
  have sx:Step Z H (tot Fs) Z' H' (fun a=>tot Fs' a\/no a):=(s1.trans s).mono (fun _ z=>z) fun a ha=>ha.elim .inl fun z=>z.elim
  refine ⟨(tab.lookup z).map V.int,.inl ⟨bI tab,.inr z,.inl hk,r.1,(lR tab z).symm⟩,?_⟩
  cases hl:tab.lookup z with
  | some i =>
   rw [hl] at k
   exact k (.int i) Z' H' Fs' no B.bare rfl sx
  | none =>
   rw [hl] at k
   rcases hd with ⟨e,rfl⟩ | ⟨i,rfl,rfl⟩
   ·rw [e] at k
    exact k .non Z' H' Fs' no B.bare rfl sx
   ·exact k (.int i) Z' H' Fs' no B.bare rfl sx
 | _=>cases h2
theorem vm {n:Nat}{d:Int}{apos cpos:Pos}{tab:List (Str×Int)}{keys:List (Option Expr)}{values:List Expr}(hp:PPs X p2 keys values ((bI tab).map fun kv=>(tC (kV kv.1),tC kv.2)))(hr:Room n X.A)(ha:SE X sf C ea a)(hb:PE X eb (tC (.int d)))(hn:cw [] (bI tab)=bI tab)(h15:tab.length<=15)(hall:keys.all (·.isSome)=true)(hl:keys.length=values.length)(h0:keys≠[])(hk:keys.length<=15)(m:M2 X (.Dict keys values p2) "get" apos ea eb cpos:=by exact ⟨rfl,rfl,rfl,rfl⟩) :
  SE X sf C (.Call (.Attribute (.Dict keys values p2) "get" apos) [ea,eb] [] cpos) (.op (.getK tab (some d)) h [a]) :=
 aq (mB (xp hr) (n6 hp hall hl h0 hk) ha hb m) (pD (dv:=.int d) (.inr ⟨d,rfl,rfl⟩) hn h15)
theorem n0 {n:Int}{k:Nat}:PE X (.UnaryOp .USub (.Constant (.int n) k p) pos) (tC (.int (-n))):=aq (rP lV cU) fun σ H Q h=>⟨n,rfl,h⟩
end
end MR

namespace A03
open M
open PySem (Str)
noncomputable abbrev q:=Str.ofString
noncomputable abbrev aQ:Nat:=24
noncomputable abbrev af:Nat:=44
noncomputable abbrev aH:Nat:=63
noncomputable abbrev aw:Nat:=82
noncomputable abbrev av:Nat:=101
noncomputable abbrev aG:Nat:=120
noncomputable abbrev aF:Nat:=139
noncomputable def keys_WITHIN:List Str:=[q "num",q "truth",q "pair",q "row"]
noncomputable def tab_WITHIN:List (Str×T):=[(q "num",.int 0),(q "truth",.int 0),(q "pair",.int 2),(q "row",.int 1)]
noncomputable def ay:Fn:={ ps:=1,ns:=2,io:=[],body:=[
  .asg (.q [0] []) 1 (.op .split false [.var 0,.cst (.str (q " "))]),
  .asgC [1] 2 327 [.var 1,.cst (.int 0)],
  .ite (.q [1,2] []) (.op .lt false [.op .ix false [.var 2,.cst (.int 1)],.op .len false [.var 1]]) [
   .raise af (q "at") 0 (.q [2] []) (.op .ix false [.var 2,.cst (.int 1)])] [],
  .ret [] (.op .ix false [.mv 2,.cst (.int 0)])] }
noncomputable def aE:Fn:={ ps:=2,ns:=0,io:=[],body:=[
  .retC [0,1] 328 [.var 0,.var 1,.cst (.int 5)]] }
noncomputable def ae:Fn:={ ps:=3,ns:=5,io:=[],body:=[
  .ite (.q [0,1] []) (.or (.op .ge false [.var 1,.op .len false [.var 0]]) (.inT true keys_WITHIN (.op .ix false [.var 0,.var 1]))) [
   .raise af (q "at") 0 (.q [1] []) (.var 1)] [],
  .asg (.q [0,1] []) 3 (.ixT tab_WITHIN (.op .ix false [.var 0,.var 1])),
  .ite (.q [2] [3]) (.and (.op .gt false [.var 3,.cst (.int 0)]) (.op .eq false [.var 2,.cst (.int 1)])) [
   .raise af (q "at") 0 (.q [1] []) (.var 1)] [],
  .asg (.q [0,1] []) 4 (.lst false [.op .ix false [.var 0,.var 1]]),
  .asg (.q [1] []) 5 (.op .add false [.var 1,.cst (.int 1)]),
  .forS [] [3] .rng [.var 3] [6] [
   .asgC [0,2] 7 328 [.var 0,.var 5,.op .sub false [.var 2,.cst (.int 1)]],
   .app (.q [7] []) 4 (.op .ix false [.var 7,.cst (.int 0)]),
   .asg (.q [7] []) 5 (.op .ix false [.var 7,.cst (.int 1)])],
  .ret [] (.tup [.op .tuple false [.mv 4],.mv 5])] }
noncomputable def f_law_deep:Fn:={ ps:=2,ns:=1,io:=[],body:=[
  .asg (.q [] [0]) 2 (.op .mod false [.var 0,.cst (.int 7)]),
  .ite (.q [] [1,2]) (.or (.op .eq false [.var 1,.cst (.int 0)]) (.op .lt false [.var 2,.cst (.int 2)])) [
   .ret [] (.op .sl3 false [.lst false [.cst (.str (q "num")),.cst (.str (q "truth"))],.op .mod false [.var 0,.cst (.int 2)],.op .add false [.op .mod false [.var 0,.cst (.int 2)],.cst (.int 1)]])] [],
  .ite (.q [] [2]) (.op .eq false [.var 2,.cst (.int 2)]) [
   .ret [] (.op .add false [.op .add false [.lst false [.cst (.str (q "pair"))],.call 322 [.op .fdiv false [.var 0,.cst (.int 7)],.op .sub false [.var 1,.cst (.int 1)]]],.call 322 [.op .fdiv false [.var 0,.cst (.int 343)],.op .sub false [.var 1,.cst (.int 1)]]])] [],
  .ret [] (.op .add false [.lst false [.cst (.str (q "row"))],.call 322 [.op .fdiv false [.mv 0,.cst (.int 7)],.op .sub false [.mv 1,.cst (.int 1)]]])] }
noncomputable def au:Fn:={ ps:=2,ns:=4,io:=[],body:=[
  .asg (.q [0] [1]) 2 (.op .mod false [.var 1,.op .len false [.var 0]]),
  .asg (.q [] [1]) 3 (.op .mod false [.op .fdiv false [.var 1,.cst (.int 7)],.cst (.int 7)]),
  .asg (.q [] []) 4 (.lst false [.cst (.str (q "")),.cst (.str (q "num")),.cst (.str (q "truth")),.cst (.str (q "pair")),.cst (.str (q "row")),.cst (.str (q "rows")),.cst (.str (q "Num")),.cst (.str (q "nu")),.cst (.str (q "x")),.cst (.str (q "yes")),.cst (.str (q "numnum")),.cst (.str (q "1")),.cst (.str (q "pairs")),.cst (.str (q "truths"))]),
  .asg (.q [4] []) 4 (.op .add false [.var 4,.lst false [.cst (.str (q "\n")), .cst (.str (q "num\n")), .cst (.str (q "\tnum")), .cst (.str (q "row\n"))]]),
  .asg (.q [4] [1]) 5 (.op .ix false [.var 4,.op .mod false [.op .fdiv false [.var 1,.cst (.int 49)],.cst (.int 18)]]),
  .ite (.q [] [3]) (.op .eq false [.var 3,.cst (.int 0)]) [
   .ret [0] (.op .add false [.op .sl2 false [.var 0,.var 2],.op .sl1 false [.var 0,.op .add false [.var 2,.cst (.int 1)]]])] [],
  .ite (.q [] [3]) (.op .eq false [.var 3,.cst (.int 1)]) [
   .ret [0] (.op .add false [.op .add false [.op .sl2 false [.var 0,.var 2],.lst false [.mv 5]],.op .sl1 false [.var 0,.var 2]])] [],
  .ite (.q [] [3]) (.op .eq false [.var 3,.cst (.int 2)]) [
   .ret [0] (.op .add false [.op .add false [.op .sl2 false [.var 0,.var 2],.lst false [.op .ix false [.var 0,.var 2]]],.op .sl1 false [.var 0,.var 2]])] [],
  .ite (.q [] [3]) (.op .eq false [.var 3,.cst (.int 3)]) [
   .ret [] (.op .sl2 false [.mv 0,.op .add false [.mv 2,.cst (.int 1)]])] [],
  .ite (.q [] [3]) (.op .eq false [.var 3,.cst (.int 4)]) [
   .ret [0] (.op .add false [.op .add false [.op .sl2 false [.var 0,.var 2],.lst false [.mv 5]],.op .sl1 false [.var 0,.op .add false [.var 2,.cst (.int 1)]]])] [],
  .ite (.q [] [3]) (.op .eq false [.var 3,.cst (.int 5)]) [
   .ret [0] (.op .add false [.op .sl2 false [.var 0,.op .neg false [.cst (.int 1)]],.lst false [.op .add false [.op .ix false [.var 0,.op .neg false [.cst (.int 1)]],.op .ix false [.lst false [.cst (.str (q "\n")), .cst (.str (q "\t")), .cst (.str (q "\n\n"))],.op .mod false [.op .fdiv false [.mv 1,.cst (.int 49)],.cst (.int 3)]]]]])] [],
  .ret [] (.mv 0)] }
noncomputable def bH:Fn:={ ps:=1,ns:=4,io:=[],body:=[
  .asg (.q [] []) 1 (.lst false [.cst (.int 1)]),
  .forS [0] [] .rng [.op .len false [.var 0]] [2] [
   .ite (.q [1] []) (.op .eq false [.op .len false [.var 1],.cst (.int 0)]) [
    .ret [] (.tup [.mv 2,.cst (.bl true)])] [],
   .asg (.l []) 3 (.pop 1 []),
   .asg (.q [0] [2]) 4 (.op (.getK [(q "num",0),(q "truth",0),(q "row",1),(q "pair",2)] (some (-1))) false [.op .ix false [.var 0,.var 2]]),
   .ite (.q [3] [4]) (.or (.op .lt false [.var 4,.cst (.int 0)]) (.and (.op .gt false [.var 4,.cst (.int 0)]) (.op .eq false [.var 3,.cst (.int 5)]))) [
    .ret [] (.tup [.mv 2,.cst (.bl false)])] [],
   .asg (.q [1,3] [4]) 1 (.op .add false [.var 1,.op .mul false [.lst false [.op .add false [.var 3,.cst (.int 1)]],.var 4]])],
  .ret [] (.tup [.op .len false [.mv 0],.op .eq false [.op .len false [.mv 1],.cst (.int 0)]])] }
noncomputable def aI:Fn:={ ps:=2,ns:=5,io:=[],body:=[
  .asg (.q [] []) 2 (.cst (.non)),
  .asg (.q [] []) 3 (.cst (.non)),
  .asg (.q [0,1] []) 4 (.ifx (.var 1) (.op .sl2 false [.lst false [.cst (.str (q "row")),.cst (.str (q "")),.cst (.str (q "num"))],.op .mod false [.op .len false [.var 0],.cst (.int 4)]]) (.lst false [])),
  .tryC [af,aH,aw,av,aG,aF] [
   .ite (.q [1] []) (.var 1) [.asgC [0,4] 2 327 [.op .add false [.var 4,.var 0],.op .len false [.var 4]]] [.asgC [0] 2 326 [.op .join false [.cst (.str (q " ")),.var 0]]]] 5 [
   .asg (.q [5] []) 3 (.var 5)],
  .ite (.q [3] []) (.op .is false [.var 3,.cst (.non)]) [
   .ret [2] (.tup [.cst (.str (q "told")),.ifx (.mv 1) (.tup [.op .ix false [.var 2,.cst (.int 0)],.op .sub false [.op .ix false [.var 2,.cst (.int 1)],.op .len false [.mv 4]]]) (.var 2)])] [],
  .asg (.q [3] []) 6 (.op (.isX [aH,aF,aw,aG,av]) false [.var 3]),
  .ite (.q [3] [6]) (.or (.var 6) (.or (.not (.op (.isX [af]) false [.var 3])) (.not (.op (.isX [af,aH,aw,av,aG,aF,aQ]) false [.var 3])))) [
   .ret [] (.tup [.cst (.str (q "other")),.cst (.non)])] [],
  .ret [] (.tup [.cst (.str (q "no")),.op .sub false [.op (.att (q "at")) false [.mv 3],.op .len false [.mv 4]]])] }
noncomputable def f_law:Fn:={ ps:=1,ns:=5,io:=[],body:=[
  .forS [0] [] .seq [.ifx (.op .gt false [.op .len false [.var 0],.cst (.int 0)]) (.op .sl2 false [.var 0,.cst (.int 16)]) (.lst false [.cst (.int 0)])] [1] [
   .asg (.q [] [1]) 2 (.call 332 [.call 322 [.op .fdiv false [.var 1,.cst (.int 3)],.op .add false [.cst (.int 4),.op .mod false [.var 1,.cst (.int 3)]]],.op .fdiv false [.var 1,.cst (.int 11)]]),
   .ite (.q [2] []) (.op .eq false [.op .len false [.var 2],.cst (.int 0)]) [
    .asg (.q [] []) 2 (.lst false [.cst (.str (q ""))])] [],
   .asgT (.q [2] []) [3,4] (.call 329 [.var 2]),
   .asg (.q [2] []) 5 (.call 331 [.var 2,.cst (.bl false)]),
   .ite (.q [2,3,4] []) (.and (.op .eq false [.var 3,.op .len false [.var 2]]) (.var 4)) [
    .ite (.q [2,3,5] []) (.or (.op .ne false [.op .ix false [.var 5,.cst (.int 0)],.cst (.str (q "told"))]) (.op .ne false [.call 331 [.var 2,.cst (.bl true)],.tup [.cst (.str (q "told")),.tup [.op .ix false [.var 5,.cst (.int 1)],.var 3]]])) [
     .ret [] (.cst (.bl false))] []] [
    .ite (.q [3,5] []) (.op .ne false [.var 5,.tup [.cst (.str (q "no")),.var 3]]) [
     .ret [] (.cst (.bl false))] [
     .ite (.q [2,3,4] []) (.and (.var 4) (.op .ne false [.call 331 [.var 2,.cst (.bl true)],.tup [.cst (.str (q "told")),.tup [.call 326 [.op .join false [.cst (.str (q " ")),.op .sl2 false [.var 2,.var 3]]],.var 3]]])) [
      .ret [] (.cst (.bl false))] [
      .ite (.q [2,3,4] []) (.and (.not (.var 4)) (.op .ne false [.call 331 [.var 2,.cst (.bl true)],.tup [.cst (.str (q "no")),.var 3]])) [
       .ret [] (.cst (.bl false))] []]]]],
  .ret [] (.cst (.bl true))] }
noncomputable def prog:List Fn:=[f_law,zf,zf,zf,zf,zf,zf,zf,zf,zf,zf,zf,zf,zf,zf,zf,zf,zf,zf,zf,zf,zf,zf,zf,zf,zf,zf,zf,zf,zf,zf,zf,zf,zf,zf,zf,zf,zf,zf,zf,zf,zf,zf,zf,zf,zf,zf,zf,zf,zf,zf,zf,zf,zf,zf,zf,zf,zf,zf,zf,zf,zf,zf,zf,zf,zf,zf,zf,zf,zf,zf,zf,zf,zf,zf,zf,zf,zf,zf,zf,zf,zf,zf,zf,zf,zf,zf,zf,zf,zf,zf,zf,zf,zf,zf,zf,zf,zf,zf,zf,zf,zf,zf,zf,zf,zf,zf,zf,zf,zf,zf,zf,zf,zf,zf,zf,zf,zf,zf,zf,zf,zf,zf,zf,zf,zf,zf,zf,zf,zf,zf,zf,zf,zf,zf,zf,zf,zf,zf,zf,zf,zf,zf,zf,zf,zf,zf,zf,zf,zf,zf,zf,zf,zf,zf,zf,zf,zf,zf,zf,zf,zf,zf,zf,zf,zf,zf,zf,zf,zf,zf,zf,zf,zf,zf,zf,zf,zf,zf,zf,zf,zf,zf,zf,zf,zf,zf,zf,zf,zf,zf,zf,zf,zf,zf,zf,zf,zf,zf,zf,zf,zf,zf,zf,zf,zf,zf,zf,zf,zf,zf,zf,zf,zf,zf,zf,zf,zf,zf,zf,zf,zf,zf,zf,zf,zf,zf,zf,zf,zf,zf,zf,zf,zf,zf,zf,zf,zf,zf,zf,zf,zf,zf,zf,zf,zf,zf,zf,zf,zf,zf,zf,zf,zf,zf,zf,zf,zf,zf,zf,zf,zf,zf,zf,zf,zf,zf,zf,zf,zf,zf,zf,zf,zf,zf,zf,zf,zf,zf,zf,zf,zf,zf,zf,zf,zf,zf,zf,zf,zf,zf,zf,zf,zf,zf,zf,zf,zf,zf,zf,zf,zf,zf,zf,zf,zf,zf,zf,zf,zf,zf,zf,zf,zf,zf,zf,zf,zf,zf,zf,zf,zf,f_law_deep,zf,zf,zf,ay,aE,ae,bH,zf,aI,au]
end A03

set_option compiler.extract_closed false
namespace P03
noncomputable section
open M A03
open PySem (Str)
local macro_rules
 | `(tactic| simp_all only [$ls,*])=>`(tactic| simp only [vx,tw,sd,u6,vW,vA,vV,nY,qv,qa,qO,nN,qK,qd,qo,pP,qk,pZ,pI,oX,nS,qD,oQ,oJ,oW,qg,qH,nX,ph,n8,nL,kF,lD,pd,oB,pQ,pj,iq,l8,kOp,mz,kOr,ll,kC3,kC2,kC1,gj,dz,f9,fQ,fO,gT,dF,f7,kl,iK,aM,kX,kT,kT2,kIf,qz,iU,kD,sE,rS,sP,hV,kNx,kRt,iV,oq,mV,okW,iZ,q5,eh,trees,aC,ios,putAll,vk,Ae,ui,vX,vg,qq,pA,oY,vd,tY,sL,tD,tQ,uT,tZ,xt,w6,zo,wW,zi,yZ,nV,nP,o6,oE,wV,tm,k9,nG,mF,kY,s8,qG,pN,mD,mW,zk,wM,yn,yp,kq,kB,lT,tG,uW,sH,tS,tO,uO,wy,vZ,pB,oz,o8,sj,nD,nv,kz,xl,lO,kn,rE,ya,u9,vT,vH,wo,tV,uX,AJ,zG,Aq,Ac,xK,zq,vU,tR,wu,xj,wR,wt,yr,qr,ti,xA,vn,yP,ux,vt,tJ,vL,kW,lu,kx,wQ,mm,m6,qi,oU,oC,o9,vB,sJ,uH,l3,cD,j1,jt,j7,uS,v5,uR,t7,tX,uE,t8,uL,xS,nE,lW,sU,vh,at0,at1,at2,at3,at4,List.cons_append,a2l,a0F,a0k,a0C,a0E,List.replicate_zero,reduceIte,if_true,if_false,String.reduceBEq,Bool.not_true,Bool.not_false,Bool.false_eq_true,a0S,a2F,Bool.and_true,oH,kIo,uk,rZ,jI,lK,jU,jR,jB,lq,jw,k7,j5,jS,gZ,ka,ve,wD,jH,jo,jG,kb,okS,t4,Ao,vJ,uF,uN,qB,yQ,vS,yk,uz,wJ,yY,su,nh,mn,wB,jl,j2,sF,iE,lC,kI,wj,qm,iG,ie,iw,gO,g6,As,uj,sC,nQ,og,mx,k6,j6,ki,tM,ot,zt,zj,xy,xP,zM,yJ,w4,xY,yx,xV,yv,Af,xN,wZ,xI,xm,yC,xo,zV,xr,yh,yy,xX,xE,yF,zp,xB,Ay,AH,Ax,sv,pR,uP,tU,so,vc,vN,AB,$ls,*])
noncomputable abbrev C (n:Nat):Call:=callR prog 1000000 1000001 n
theorem cZ (n:Nat)(ws:List W):C (n+1) 322 ws=runF (C n) f_law_deep ws:=rfl
theorem eX (n:Nat)(ws:List W):C (n+1) 326 ws=runF (C n) ay ws:=rfl
theorem fE (n:Nat)(ws:List W):C (n+1) 327 ws=runF (C n) aE ws:=rfl
theorem bZ (n:Nat)(ws:List W):C (n+1) 328 ws=runF (C n) ae ws:=rfl
theorem g9 (n:Nat)(ws:List W):C (n+1) 329 ws=runF (C n) bH ws:=rfl
theorem cY (n:Nat)(ws:List W):C (n+1) 331 ws=runF (C n) aI ws:=rfl
theorem gK (n:Nat)(ws:List W):C (n+1) 332 ws=runF (C n) au ws:=rfl
theorem qeq (a b:String):(q a==q b)=(a==b):=by
 by_cases h:a=b
 ·subst h; simp
 ·have h2:q a≠q b:=fun z=>h (by
   have:=congrArg (fun s:Str=>s.cps.toList) z
   rw [q,Str.ofString_eq_toList,Str.ofString_eq_toList] at this
   simp only at this
   have h3:a.toList=b.toList:=by
    have inj:∀ l1 l2:List Char,l1.map a17=l2.map a17->l1=l2:=by
     intro l1
     induction l1 with
     | nil=>intro l2 h; cases l2 with
      | nil=>rfl
      | cons=>cases h
     | cons c cs ih=>intro l2 h; cases l2 with
      | nil=>cases h
      | cons d ds =>
       rw [a0k,a0k] at h
       injection h with h1 h2
       rw [ih ds h2,Char.toNat_inj.mp h1]
    exact inj _ _ (by simpa using this)
   exact String.toList_inj.mp h3)
  rw [beq_eq_false_iff_ne.mpr h2,beq_eq_false_iff_ne.mpr h]
noncomputable abbrev sp:Str:=q " "
theorem iM:sp=⟨#[32]⟩:=by decide +kernel
theorem ax (x y:Str):(x++y).cps.toList=x.cps.toList++y.cps.toList:=a2w
theorem o7 {x y:Str}(h:x.cps.toList=y.cps.toList):x=y:=by
 cases x; cases y
 exact congrArg Str.mk (a1I.mp h)
structure Gw (x:Str):Prop where
 sz:x.cps.size<=20
 cp:∀ c∈x.cps.toList,c < 0x110000
 fr:32 ∉ x.cps.toList
theorem ub (s:String)(h1:s.length<=20)(h2:32 ∉ s.toList.map a17):Gw (q s):=by
 have e:(q s).cps.toList=s.toList.map a17:=by rw [q,Str.ofString_eq_toList]
 refine ⟨?_,fun c hc=>?_,by rw [e]; exact h2⟩
 ·rw [<- a0p,e,a0b,a1t]; exact h1
 ·rw [e] at hc
  obtain ⟨ch,_,rfl⟩:=a2N.mp hc
  have h3:=ch.valid
  rcases h3 with h3 | h3
  ·exact a2L h3 (by decide)
  ·exact h3.2
theorem m9 {x:Str}(h1:∀ c∈x.cps.toList,c < 0x110000)(h2:x.cps.size<=LIM):sOk x=true:=by
 unfold sOk
 rw [a0h]
 refine ⟨?_,decide_eq_true h2⟩
 rw [a1z]
 intro c hc
 exact decide_eq_true (h1 c (by simpa using hc))
theorem vb {x:Str}(h:Gw x):sOk x=true:=m9 h.cp (a0n h.sz (by show 20<=16777215; decide))
theorem i3:∀ {ws:List Str},(∀ x∈ws,∀ c∈x.cps.toList,c < 0x110000)->∀ c∈(Str.join sp ws).cps.toList,c < 0x110000
 | [],_,c,hc=>by cases hc
 | [x],h,c,hc=>h x a0c c hc
 | x::y::r,h,c,hc=>by
  have e:(Str.join sp (x::y::r)).cps.toList=x.cps.toList++sp.cps.toList++(Str.join sp (y::r)).cps.toList:=by
   show (x++sp++Str.join sp (y::r)).cps.toList=_
   rw [ax,ax]
  rw [e] at hc
  rcases a0s.mp hc with hc | hc
  ·rcases a0s.mp hc with hc | hc
   ·exact h x a0c c hc
   ·rw [iM] at hc
    rw [a0x.mp hc]; decide
  ·exact i3 (fun z hz=>h z (a0e _ hz)) c hc
theorem eV:∀ {ws:List Str},(∀ x∈ws,Gw x)->(Str.join sp ws).cps.size<=21 * ws.length
 | [],_=>a0m _
 | [x],h=>a0n (h x a0c).sz (by show 20<=21; decide)
 | x::y::r,h=>by
  have ih:=eV (ws:=y::r) fun z hz=>h z (a0e _ hz)
  have h1:=(h x a0c).sz
  have e:(Str.join sp (x::y::r)).cps.size=x.cps.size+1+(Str.join sp (y::r)).cps.size:=by
   rw [<- a0p,<- a0p,<- a0p]
   show (x++sp++Str.join sp (y::r)).cps.toList.length=_
   rw [ax,ax,a0d,a0d,iM]
   rfl
  rw [e,a0g]
  omega
theorem fJ (c:Nat):∀ (x acc y:List Nat),c ∉ x->spl c acc (x++y)=spl c (acc++x) y
 | [],acc,y,_=>by rw [a0F]; rfl
 | a::x,acc,y,h=>by
  have h1:a≠c:=fun z=>h (z ▸ a0c)
  show spl c acc (a::(x++y))=_
  rw [spl,if_neg h1,fJ c x (acc++[a]) y fun z=>h (a0e _ z),a1c]
  rfl
theorem bE:∀ {ws:List Str},ws≠[]->(∀ x∈ws,Gw x)->spl 32 [] (Str.join sp ws).cps.toList=ws.map fun x=>x.cps.toList
 | [],h,_=>absurd rfl h
 | [x],_,h=>by
  have:=fJ 32 x.cps.toList [] [] (h x a0c).fr
  rw [a0F] at this
  exact this
 | x::y::r,_,h=>by
  have ih:=bE (ws:=y::r) (a05 _ _) fun z hz=>h z (a0e _ hz)
  have e:(Str.join sp (x::y::r)).cps.toList=x.cps.toList++32::(Str.join sp (y::r)).cps.toList:=by
   show (x++sp++Str.join sp (y::r)).cps.toList=_
   rw [ax,ax,iM,a1c]; rfl
  rw [e,fJ 32 _ _ _ (h x a0c).fr,a2l,spl,if_pos rfl,ih]
  rfl
theorem jA {ws:List Str}(h0:ws≠[])(h:∀ x∈ws,Gw x):splS (Str.join sp ws)=ws:=by
 unfold splS
 rw [bE h0 h,a3v]
 conv=>rhs; rw [<- List.map_id ws]
 exact List.map_congr_left fun x _=>o7 rfl
theorem cF:∀ ws:List Str,strsOf (ws.map T.str)=some ws
 | []=>rfl
 | x::ws=>by show (strsOf (ws.map T.str)).map (x::·)=_; rw [cF ws]; rfl
noncomputable abbrev sT (ws:List Str):T:=.lst (ws.map T.str)
structure Ws (N:Nat)(ws:List Str):Prop where
 gw:∀ x∈ws,Gw x
 ln:ws.length<=N
theorem Ws.sh {N:Nat}{ws:List Str}(h:∀ x∈ws,Gw x/\x.cps.size<=8)(l:ws.length<=N):Ws N ws:=⟨fun x hx=>(h x hx).1,l⟩
noncomputable def P4 (x:Str):Prop:=Gw x/\x.cps.size<=8
theorem p4 (s:String)(h1:s.length<=8)(h2:32 ∉ s.toList.map a17):P4 (q s):=⟨ub s (by omega) h2,by
 have e:(q s).cps.toList=s.toList.map a17:=by rw [q,Str.ofString_eq_toList]
 rw [<- a0p,e,a0b,a1t]; exact h1⟩
theorem q9 (n:Nat)(c:Int)(m1 m2:Md)(t:Int)(h0:(t==0 || decide (c % 7 < 2))=true):∃ ws:List Str,ws≠[]/\(∀ x∈ws,P4 x)/\ws.length=1/\C (n+1) 322 [(m1,.int c),(m2,.int t)]=.ok ((.o .s,sT ws),[]):=by
 rw [cZ,x_run _ _ _ rfl]
 have go:∀ (w:Str),cut [T.str (q "num"),T.str (q "truth")] (some (c % 2)) (some (c % 2+1))=[T.str w]->Fl.out f_law_deep.io (evSs (C n) f_law_deep.body (a3z some [(m1,T.int c),(m2,T.int t)]++a0f f_law_deep.ns none))=.ok ((.o .s,sT [w]),[]):=fun w h=>by
  cases ht:(t==0) with
  | true =>
   simp_all only [f_law_deep,ht,h,sT,a3z,a0o,decide_true]
  | false =>
   rw [ht,Bool.false_or] at h0
   simp_all only [f_law_deep,ht,h0,h,sT,a3z,a0o,decide_true]
 rcases (show c % 2=0\/c % 2=1 by omega) with h | h
 ·exact ⟨[q "num"],by simp,fun x hx=>by rw [a0x.mp hx]; exact p4 _ (by decide) (by decide),rfl,go _ (by rw [h]; rfl)⟩
 ·exact ⟨[q "truth"],by simp,fun x hx=>by rw [a0x.mp hx]; exact p4 _ (by decide) (by decide),rfl,go _ (by rw [h]; rfl)⟩
theorem deep:∀ (l n:Nat) (c:Int) (m1 m2:Md),l<=8->∃ ws:List Str,ws≠[]/\(∀ x∈ws,P4 x)/\ws.length+1<=2 ^ (l+1)/\C (n+l+1) 322 [(m1,.int c),(m2,.int (l:Nat))]=.ok ((.o .s,sT ws),[])
 | 0,n,c,m1,m2,_=>by
  obtain ⟨ws,h1,h2,h3,h4⟩:=q9 n c m1 m2 0 rfl
  exact ⟨ws,h1,h2,by rw [h3]; decide,h4⟩
 | l+1,n,c,m1,m2,hl=>by
  have hp:2 ^ (l+1+1)=2 * 2 ^ (l+1):=by rw [a2O]; omega
  have hq:2<=2 ^ (l+1):=by rw [a2O]; have:=Nat.one_le_two_pow (n:=l); omega
  have hr:2 ^ (l+1)<=512:=a2s (n:=2) (by decide) (show l+1<=9 by omega)
  have ih:=fun c m1 m2=>deep l n c m1 m2 (by omega)
  have s1:((l+1:Nat):Int)-1=(l:Int):=by omega
  have s0:(((l+1:Nat):Int)==0)=false:=by rw [beq_eq_false_iff_ne]; omega
  cases h2:decide (c % 7 < 2) with
  | true =>
   obtain ⟨ws,h1,h2,h3,h4⟩:=q9 (n+(l+1)) c m1 m2 ((l+1:Nat):Int) (by rw [h2,a1G])
   exact ⟨ws,h1,h2,by omega,h4⟩
  | false =>
   rw [show n+(l+1)+1=(n+l+1)+1 from rfl,cZ,x_run _ _ _ rfl]
   cases h3:(c % 7==2) with
   | true =>
    obtain ⟨u,u1,u2,u3,u4⟩:=ih (c / 7) .d .d
    obtain ⟨v,v1,v2,v3,v4⟩:=ih (c / 343) .d .d
    have f1:fits ([T.str (q "pair")].length+(u.map T.str).length)=true:=decide_eq_true (by rw [a0b,a0j]; show _<=16777215; omega)
    have f3:fits ((T.str (q "pair")::u.map T.str).length+(v.map T.str).length)=true:=decide_eq_true (by rw [a0g,a0b,a0b]; show _<=16777215; omega)
    refine ⟨[q "pair"]++u++v,by simp,fun x hx=>?_,by rw [a0d,a0d,a0j]; omega,?_⟩
    ·rcases a0s.mp hx with z | z
     ·rcases a0s.mp z with z | z
      ·rw [a0x.mp z]; exact p4 _ (by decide) (by decide)
      ·exact u2 x z
     ·exact v2 x z
    ·unfold sT at u4 v4 ⊢
     rw [a0u,a0u,show [q "pair"].map T.str=[T.str (q "pair")] from rfl]
     simp_all only [f_law_deep,s0,s1,h2,h3,u4,v4,if_pos f1,if_pos f3,a0o,decide_true,a0S]
   | false =>
    obtain ⟨u,u1,u2,u3,u4⟩:=ih (c / 7) .d .d
    have f1:fits ([T.str (q "row")].length+(u.map T.str).length)=true:=decide_eq_true (by rw [a0b,a0j]; show _<=16777215; omega)
    refine ⟨[q "row"]++u,by simp,fun x hx=>?_,by rw [a0d,a0j]; omega,?_⟩
    ·rcases a0s.mp hx with z | z
     ·rw [a0x.mp z]; exact p4 _ (by decide) (by decide)
     ·exact u2 x z
    ·unfold sT at u4 ⊢
     rw [a0u,show [q "row"].map T.str=[T.str (q "row")] from rfl]
     simp_all only [f_law_deep,s0,s1,h2,h3,u4,if_pos f1,a0o,decide_true,a0S]
theorem cx {α:Type}(ts:List α)(j:Nat):cut ts none (some (j:Int))=ts.take j:=by
 show (ts.drop 0).take ((if (j:Int) < 0 then ((j:Int)+(ts.length:Int)).toNat else min (j:Int).toNat ts.length)-0)=_
 rw [if_neg (by omega),a2u,a3w,a1f]
 by_cases h:j<=ts.length
 ·rw [Nat.min_eq_left h]
 ·rw [Nat.min_eq_right (by omega),a1B (a0m _),a1B (by omega)]
theorem gm {α:Type}(l:List α)(k:Nat)(h:k<=l.length):cut l (some (k:Int)) none=l.drop k:=by
 have e:sIx l.length 0 (some (k:Int))=k:=by
  show (if (k:Int) < 0 then ((k:Int)+(l.length:Int)).toNat else min (k:Int).toNat l.length)=k
  rw [if_neg (by omega)]; omega
 have e2:sIx l.length l.length none=l.length:=rfl
 rw [cut,e,e2]
 exact a1B (by rw [a0z]; omega)
theorem lj {α:Type}(ys:List α)(z:α):cut (ys++[z]) none (some (-1))=ys:=by
 have e:sIx (ys++[z]).length (ys++[z]).length (some (-1))=ys.length:=by
  show (if (-1:Int) < 0 then ((-1:Int)+((ys++[z]).length:Int)).toNat else min (-1:Int).toNat (ys++[z]).length)=ys.length
  rw [if_pos (by decide),a0d,a0j]; omega
 have e2:sIx (ys++[z]).length 0 none=0:=rfl
 rw [cut,e,e2,a2u,a3w,List.take_left]
theorem vi {α:Type}(ys:List α)(z:α):atI (ys++[z]) (-1)=some z:=by
 unfold atI
 have:ixN (ys++[z]).length (-1)=some ys.length:=by
  unfold ixN
  rw [if_neg (by decide),a0d,a0j,if_pos (by omega)]
  congr 1
  omega
 rw [this]
 simp
noncomputable def W18:List Str:=[q "",q "num",q "truth",q "pair",q "row",q "rows",q "Num",q "nu",q "x",q "yes",q "numnum",q "1",q "pairs",q "truths",q "\n", q "num\n", q "\tnum", q "row\n"]
theorem w18:∀ x∈W18,P4 x:=by
 intro x hx
 simp only [W18,a0W,a1J,or_false] at hx
 rcases hx with rfl | rfl | rfl | rfl | rfl | rfl | rfl | rfl | rfl | rfl | rfl | rfl | rfl | rfl | rfl | rfl | rfl | rfl<;>exact p4 _ (by decide) (by decide)
theorem mC {ws:List Str}{r:Int}(h0:0<=r)(h1:r < (ws.length:Nat)):∃ x∈ws,atI (ws.map T.str) r=some (.str x):=by
 obtain ⟨j,rfl⟩:∃ j:Nat,r=(j:Int):=⟨r.toNat,by omega⟩
 have hj:j < ws.length:=by omega
 exact ⟨ws[j],a2V hj,atN rfl (by rw [a0A,a1w hj]; rfl)⟩
theorem u0 {x y:Str}(h:P4 x)(h2:P4 y):Gw (x++y):=by
 refine ⟨?_,fun c hc=>?_,fun hc=>?_⟩
 ·rw [<- a0p,ax,a0d,a0p,a0p]
  have:=h.2
  have:=h2.2
  omega
 ·rw [ax] at hc
  exact (a0s.mp hc).elim (h.1.cp c) (h2.1.cp c)
 ·rw [ax] at hc
  exact (a0s.mp hc).elim h.1.fr h2.1.fr
theorem zL (n:Nat)(ws:List Str)(c:Int)(m2:Md)(h0:ws≠[])(h:∀ x∈ws,P4 x)(hl:ws.length<=511):∃ us:List Str,(∀ x∈us,Gw x)/\us.length<=512/\C (n+1) 332 [(.o .s,sT ws),(m2,.int c)]=.ok ((.o .s,sT us),[]):=by
 rw [gK,x_run _ _ _ rfl]
 have hp:0 < ws.length:=List.length_pos_iff.mpr h0
 have hL:LIM=16777215:=rfl
 obtain ⟨a,ha⟩:∃ a:Nat,c % ((ws.map T.str).length:Nat)=(a:Int):=⟨(c % ((ws.map T.str).length:Nat)).toNat,(Int.toNat_of_nonneg (Int.emod_nonneg _ (by rw [a0b]; omega))).symm⟩
 have hal:a < ws.length:=by
  have:=Int.emod_lt_of_pos c (show (0:Int) < ((ws.map T.str).length:Nat) by rw [a0b]; omega)
  rw [ha,a0b] at this
  omega
 have d1:decide ((0:Int) < ((ws.map T.str).length:Nat))=true:=decide_eq_true (by rw [a0b]; omega)
 obtain ⟨x,hx,ex⟩:=mC (ws:=W18) (r:=c / 49 % 18) (by omega) (by show _ < ((18:Nat):Int); omega)
 have g:=fun y hy=>(h y hy).1
 have ex':atI [T.str (q ""),T.str (q "num"),T.str (q "truth"),T.str (q "pair"),T.str (q "row"),T.str (q "rows"),T.str (q "Num"),T.str (q "nu"),T.str (q "x"),T.str (q "yes"),T.str (q "numnum"),T.str (q "1"),T.str (q "pairs"),T.str (q "truths"),T.str (q "\n"), T.str (q "num\n"), T.str (q "\tnum"), T.str (q "row\n")] (c / 49 % 18)=some (.str x):=ex
 have c1:=cx (ws.map T.str) a
 have c2:=gm (ws.map T.str) a (by rw [a0b]; omega)
 have c3:cut (ws.map T.str) (some ((a:Int)+1)) none=(ws.map T.str).drop (a+1):=gm (ws.map T.str) (a+1) (by rw [a0b]; omega)
 have c4:cut (ws.map T.str) none (some ((a:Int)+1))=(ws.map T.str).take (a+1):=cx (ws.map T.str) (a+1)
 have a1:atI (ws.map T.str) (a:Int)=some (.str ws[a]):=atN rfl (by rw [a0A,a1w hal]; rfl)
 have fz:fits ([T.str (q ""),T.str (q "num"),T.str (q "truth"),T.str (q "pair"),T.str (q "row"),T.str (q "rows"),T.str (q "Num"),T.str (q "nu"),T.str (q "x"),T.str (q "yes"),T.str (q "numnum"),T.str (q "1"),T.str (q "pairs"),T.str (q "truths")].length+[T.str (q "\n"), T.str (q "num\n"), T.str (q "\tnum"), T.str (q "row\n")].length)=true:=rfl
 obtain ⟨w,hw⟩:∃ w,c / 7 % 7=w:=⟨_,rfl⟩
 have mt:∀ y∈ws.take a,Gw y:=fun y hy=>g y (a1L hy)
 have md:∀ k,∀ y∈ws.drop k,Gw y:=fun k y hy=>g y (List.mem_of_mem_drop hy)
 have fa:∀ k,fits (((ws.map T.str).take a).length+((ws.map T.str).drop k).length)=true:=fun k=>decide_eq_true (by rw [a0w,a0z,a0b]; omega)
 have fb:∀ y:T,fits (((ws.map T.str).take a).length+[y].length)=true:=fun y=>decide_eq_true (by rw [a0w,a0b,a0j]; omega)
 have fc:∀ (y:T) k,fits (((ws.map T.str).take a++[y]).length+((ws.map T.str).drop k).length)=true:=fun y k=>decide_eq_true (by rw [a0d,a0w,a0z,a0b,a0j]; omega)
 rcases (show w=0\/w=1\/w=2\/w=3\/w=4\/w=5\/w=6 by omega) with rfl | rfl | rfl | rfl | rfl | rfl | rfl
 ·refine ⟨ws.take a++ws.drop (a+1),fun y hy=>(a0s.mp hy).elim (mt y) (md _ y),by rw [a0d,a0w,a0z]; omega,?_⟩
  unfold sT
  rw [a0u,a1i,a1O]
  simp_all only [au,ha,d1,hw,ex',c1,c3,if_pos (fa _),if_pos fz,a0o,a1s,decide_true,a0S]
 ·refine ⟨ws.take a++[x]++ws.drop a,fun y hy=>(a0s.mp hy).elim (fun z=>(a0s.mp z).elim (mt y) fun z=>by rw [a0x.mp z]; exact (w18 x hx).1) (md _ y),by rw [a0d,a0d,a0w,a0z,a0j]; omega,?_⟩
  unfold sT
  rw [a0u,a0u,a1i,a1O,show [x].map T.str=[T.str (x)] from rfl]
  simp_all only [au,ha,d1,hw,ex',c1,c2,c3,c4,a1,if_pos (fa _),if_pos (fb _),if_pos (fc _ _),if_pos fz,a0o,a1s,decide_true,a0S]
 ·refine ⟨ws.take a++[ws[a]]++ws.drop a,fun y hy=>(a0s.mp hy).elim (fun z=>(a0s.mp z).elim (mt y) fun z=>by rw [a0x.mp z]; exact g _ (a2V hal)) (md _ y),by rw [a0d,a0d,a0w,a0z,a0j]; omega,?_⟩
  unfold sT
  rw [a0u,a0u,a1i,a1O,show [ws[a]].map T.str=[T.str (ws[a])] from rfl]
  simp_all only [au,ha,d1,hw,ex',c1,c2,c3,c4,a1,if_pos (fa _),if_pos (fb _),if_pos (fc _ _),if_pos fz,a0o,a1s,decide_true,a0S]
 ·refine ⟨ws.take (a+1),fun y hy=>g y (a1L hy),by rw [a0w]; omega,?_⟩
  unfold sT
  rw [a1i]
  simp_all only [au,ha,d1,hw,ex',c1,c2,c3,c4,a1,if_pos (fa _),if_pos (fb _),if_pos (fc _ _),if_pos fz,a0o,a1s,decide_true,a0S]
 ·refine ⟨ws.take a++[x]++ws.drop (a+1),fun y hy=>(a0s.mp hy).elim (fun z=>(a0s.mp z).elim (mt y) fun z=>by rw [a0x.mp z]; exact (w18 x hx).1) (md _ y),by rw [a0d,a0d,a0w,a0z,a0j]; omega,?_⟩
  unfold sT
  rw [a0u,a0u,a1i,a1O,show [x].map T.str=[T.str (x)] from rfl]
  simp_all only [au,ha,d1,hw,ex',c1,c2,c3,c4,a1,if_pos (fa _),if_pos (fb _),if_pos (fc _ _),if_pos fz,a0o,a1s,decide_true,a0S]
 ·obtain ⟨ys,z,rfl⟩:∃ ys z,ws=ys++[z]:=⟨ws.dropLast,ws.getLast h0,(a1N h0).symm⟩
  obtain ⟨v,hv,ev'⟩:=mC (ws:=[q "\n", q "\t", q "\n\n"]) (r:=c / 49 % 3) (by omega) (by show _ < ((3:Nat):Int); omega)
  have ev2:atI [T.str (q "\n"), T.str (q "\t"), T.str (q "\n\n")] (c / 49 % 3)=some (.str v):=ev'
  have pv:P4 v:=by
   simp only [a0W,a1J,or_false] at hv
   rcases hv with rfl | rfl | rfl<;>exact p4 _ (by decide) (by decide)
  have hz:P4 z:=h z (by simp)
  have c5:cut ((ys++[z]).map T.str) none (some (-1))=ys.map T.str:=by rw [a0u]; exact lj _ _
  have a5:atI ((ys++[z]).map T.str) (-1)=some (.str z):=by rw [a0u]; exact vi _ _
  have sz:fits (z.cps.size+v.cps.size)=true:=decide_eq_true (by have:=hz.2; have:=pv.2; omega)
  have fy:fits ((ys.map T.str).length+[T.str (z++v)].length)=true:=decide_eq_true (by rw [a0b,a0j]; rw [a0d,a0j] at hl; omega)
  refine ⟨ys++[z++v],fun y hy=>(a0s.mp hy).elim (fun q=>g y (a0Z _ q)) fun q=>by rw [a0x.mp q]; exact u0 hz pv,by rw [a0d,a0j]; rw [a0d,a0j] at hl; omega,?_⟩
  unfold sT
  rw [show (ys++[z++v]).map T.str=ys.map T.str++[T.str (z++v)] from by rw [a0u]; rfl]
  generalize hus:(ys++[z]).map T.str=us at c5 a5 ha d1
  simp_all only [au,ha,d1,hw,ex',c5,a5,ev2,if_pos sz,if_pos fy,if_pos fz,a0o,a1s,a3k,decide_true,a0S]
 ·refine ⟨ws,g,by omega,?_⟩
  unfold sT
  simp_all only [au,ha,d1,hw,ex',c1,c2,c3,c4,a1,if_pos (fa _),if_pos (fb _),if_pos (fc _ _),if_pos fz,a0o,a1s,decide_true,a0S]
noncomputable def ar (w:Str):Option Nat:=if w=q "num" then some 0 else if w=q "truth" then some 0 else if w=q "pair" then some 2 else if w=q "row" then some 1 else none
noncomputable def tk:Nat->List Str->Nat ⊕ (T×Nat)
 | 0,_=>.inl 0
 | _+1,[]=>.inl 0
 | d+1,w::r=>match ar w with
  | none=>.inl 0
  | some 0=>.inr (.tup [.str w],1)
  | some 1=>if d=0 then .inl 0 else match tk d r with
   | .inl j=>.inl (j+1)
   | .inr (t,c)=>.inr (.tup [.str w,t],c+1)
  | some _=>if d=0 then .inl 0 else match tk d r with
   | .inl j=>.inl (j+1)
   | .inr (t,c)=>match tk d (r.drop c) with
    | .inl j=>.inl (j+c+1)
    | .inr (u,c')=>.inr (.tup [.str w,t,u],c'+c+1)
theorem aU (w:Str):(w=q "num"/\ar w=some 0)\/(w=q "truth"/\ar w=some 0)\/(w=q "pair"/\ar w=some 2)\/(w=q "row"/\ar w=some 1)\/(ar w=none/\w≠q "num"/\w≠q "truth"/\w≠q "pair"/\w≠q "row"):=by
 unfold ar
 by_cases h1:w=q "num"
 ·exact .inl ⟨h1,by rw [if_pos h1]⟩
 by_cases h2:w=q "truth"
 ·exact .inr (.inl ⟨h2,by rw [if_neg h1,if_pos h2]⟩)
 by_cases h3:w=q "pair"
 ·exact .inr (.inr (.inl ⟨h3,by rw [if_neg h1,if_neg h2,if_pos h3]⟩))
 by_cases h4:w=q "row"
 ·exact .inr (.inr (.inr (.inl ⟨h4,by rw [if_neg h1,if_neg h2,if_neg h3,if_pos h4]⟩)))
 exact .inr (.inr (.inr (.inr ⟨by rw [if_neg h1,if_neg h2,if_neg h3,if_neg h4],h1,h2,h3,h4⟩)))
theorem eE:∀ (d:Nat) (ws:List Str),match tk d ws with
  | .inl j=>j<=ws.length
  | .inr (_,c)=>0 < c/\c<=ws.length
 | 0,_=>a1a _
 | _+1,[]=>a1a _
 | d+1,w::r=>by
  have ih:=eE d r
  rcases aU w with ⟨e,h⟩ | ⟨e,h⟩ | ⟨e,h⟩ | ⟨e,h⟩ | ⟨h,_⟩
  ·simp [tk,h]
  ·simp [tk,h]
  ·by_cases hd:d=0
   ·simp [tk,h,hd]
   ·cases h1:tk d r with
    | inl j =>
     rw [h1] at ih
     simp only [tk,h,if_neg hd,h1,a0g]
     omega
    | inr p =>
     obtain ⟨t,c⟩:=p
     rw [h1] at ih
     have ih2:=eE d (r.drop c)
     rw [a0z] at ih2
     cases h2:tk d (r.drop c) with
     | inl j =>
      rw [h2] at ih2
      simp only [tk,h,if_neg hd,h1,h2,a0g]
      simp only at ih ih2
      omega
     | inr p =>
      rw [h2] at ih2
      simp only [tk,h,if_neg hd,h1,h2,a0g]
      simp only at ih ih2
      omega
  ·by_cases hd:d=0
   ·simp [tk,h,hd]
   ·cases h1:tk d r with
    | inl j =>
     rw [h1] at ih
     simp only [tk,h,if_neg hd,h1,a0g]
     omega
    | inr p =>
     rw [h1] at ih
     simp only [tk,h,if_neg hd,h1,a0g]
     simp only at ih
     omega
  ·simp [tk,h]
theorem fS:∀ (d:Nat) (ws:List Str) (t:T) (c:Nat),tk d ws=.inr (t,c)->∀ k,c<=k->tk d (ws.take k)=.inr (t,c)
 | 0,_,_,_,h,_,_=>by cases h
 | _+1,[],_,_,h,_,_=>by cases h
 | d+1,w::r,t,c,h,k,hk=>by
  have hc:0 < c:=by have:=eE (d+1) (w::r); rw [h] at this; exact this.1
  obtain ⟨k,rfl⟩:∃ k',k=k'+1:=⟨k-1,by omega⟩
  rw [List.take_succ_cons]
  rcases aU w with ⟨e,ha⟩ | ⟨e,ha⟩ | ⟨e,ha⟩ | ⟨e,ha⟩ | ⟨ha,_⟩
  ·simp only [tk,ha] at h ⊢; exact h
  ·simp only [tk,ha] at h ⊢; exact h
  ·by_cases hd:d=0
   ·simp [tk,ha,hd] at h
   ·simp only [tk,ha,if_neg hd] at h ⊢
    cases h1:tk d r with
    | inl j=>rw [h1] at h; cases h
    | inr p =>
     obtain ⟨t1,c1⟩:=p
     rw [h1] at h
     simp only at h
     cases h2:tk d (r.drop c1) with
     | inl j=>rw [h2] at h; cases h
     | inr p =>
      obtain ⟨t2,c2⟩:=p
      rw [h2] at h
      simp only [a3l,a3m] at h
      obtain ⟨rfl,rfl⟩:=h
      rw [fS d r t1 c1 h1 k (by omega)]
      simp only
      rw [List.drop_take,fS d (r.drop c1) t2 c2 h2 (k-c1) (by omega)]
  ·by_cases hd:d=0
   ·simp [tk,ha,hd] at h
   ·simp only [tk,ha,if_neg hd] at h ⊢
    cases h1:tk d r with
    | inl j=>rw [h1] at h; cases h
    | inr p =>
     obtain ⟨t1,c1⟩:=p
     rw [h1] at h
     simp only [a3l,a3m] at h
     obtain ⟨rfl,rfl⟩:=h
     rw [fS d r t1 c1 h1 k (by omega)]
  ·simp [tk,ha] at h
theorem dy:∀ (d:Nat) (ws:List Str) (t:T) (c:Nat),tk d ws=.inr (t,c)->∃ ts,t=.tup ts
 | 0,_,_,_,h=>by cases h
 | _+1,[],_,_,h=>by cases h
 | d+1,w::r,t,c,h=>by
  rcases aU w with ⟨e,ha⟩ | ⟨e,ha⟩ | ⟨e,ha⟩ | ⟨e,ha⟩ | ⟨ha,_⟩
  ·simp only [tk,ha] at h; cases h; exact ⟨_,rfl⟩
  ·simp only [tk,ha] at h; cases h; exact ⟨_,rfl⟩
  ·by_cases hd:d=0
   ·simp [tk,ha,hd] at h
   ·simp only [tk,ha,if_neg hd] at h
    cases h1:tk d r with
    | inl j=>rw [h1] at h; cases h
    | inr p =>
     rw [h1] at h
     simp only at h
     cases h2:tk d (r.drop p.2) with
     | inl j=>rw [h2] at h; cases h
     | inr p2=>rw [h2] at h; cases h; exact ⟨_,rfl⟩
  ·by_cases hd:d=0
   ·simp [tk,ha,hd] at h
   ·simp only [tk,ha,if_neg hd] at h
    cases h1:tk d r with
    | inl j=>rw [h1] at h; cases h
    | inr p=>rw [h1] at h; cases h; exact ⟨_,rfl⟩
  ·simp [tk,ha] at h
theorem aP (tg:List Nat)(f:Env->Fl)(x:List W)(r:List (List W))(η:Env):dA tg f (x::r) η=Fl.of η (ofO (aV tg x η)) fun η1=>Fl.turn (f η1) (dA tg f r):=rfl
theorem bb (tg:List Nat)(f:Env->Fl)(η:Env):dA tg f [] η=.nx η:=rfl
theorem bg (t:T)(η:Env)(f:Env->Fl):Fl.seq (.ex t η) f=.ex t η:=rfl
theorem aZ (t:T)(η:Env)(f:Env->Fl):Fl.turn (.ex t η) f=.ex t η:=rfl
theorem a0 (η:Env)(f:Env->Fl):Fl.turn (.nx η) f=f η:=rfl
noncomputable def tkR (a:Nat):Nat ⊕ (T×Nat)->Res (W×List W)
 | .inl j=>.ex (.ins af [q "at"] [.int ((a+j:Nat):Int)])
 | .inr (t,c)=>.ok ((.o (.o .s),.tup [t,.int ((a+c:Nat):Int)]),[])
theorem lg {a:Nat}(h:a<=1000):decide (((a:Int)).natAbs.log2 < 1920)=true:=decide_eq_true (by
 rw [Int.natAbs_natCast]
 by_cases h0:a=0
 ·rw [h0]; decide
 ·exact (Nat.log2_lt h0).mpr (a1Z h (by decide +kernel)))
theorem kw0:keys_WITHIN.contains (q "num")=true/\tab_WITHIN.lookup (q "num")=some (.int 0):=by simp [keys_WITHIN,tab_WITHIN,qeq,a0P]
theorem kw1:keys_WITHIN.contains (q "truth")=true/\tab_WITHIN.lookup (q "truth")=some (.int 0):=by simp [keys_WITHIN,tab_WITHIN,qeq,a0P]
theorem kw2:keys_WITHIN.contains (q "pair")=true/\tab_WITHIN.lookup (q "pair")=some (.int 2):=by simp [keys_WITHIN,tab_WITHIN,qeq,a0P]
theorem kw3:keys_WITHIN.contains (q "row")=true/\tab_WITHIN.lookup (q "row")=some (.int 1):=by simp [keys_WITHIN,tab_WITHIN,qeq,a0P]
theorem bt:(true != true)=false:=rfl
theorem bf:(false != true)=true:=rfl
theorem r0:a0X (0:Int).toNat=[]:=rfl
theorem r1:a0X (1:Int).toNat=[0]:=rfl
theorem r2:a0X (2:Int).toNat=[0,1]:=rfl
theorem z0:(decide (a3a 0 < 4611686018427387904)&&fits (a3x 0))=true:=rfl
theorem z1:(decide (a3a 1 < 4611686018427387904)&&fits (a3x 1))=true:=rfl
theorem z2:(decide (a3a 2 < 4611686018427387904)&&fits (a3x 2))=true:=rfl
theorem tkw:∀ (d n:Nat) (ws:List Str) (a:Nat) (m m1 m2:Md),0 < d->a<=ws.length->ws.length<=1000->C (n+d+1) 328 [(m,sT ws),(m1,.int (a:Nat)),(m2,.int (d:Nat))]=tkR a (tk d (ws.drop a))
 | 0,_,_,_,_,_,_,h,_,_=>absurd h (by decide)
 | d+1,n,ws,a,m,m1,m2,_,ha,hw=>by
  rw [show n+(d+1)+1=(n+d+1)+1 from rfl,bZ,x_run _ _ _ rfl]
  cases hr:ws.drop a with
  | nil =>
   have:ws.length<=a:=by simpa using hr
   have g:decide (((ws.map T.str).length:Int)<=(a:Int))=true:=decide_eq_true (by rw [a0b]; omega)
   unfold sT
   simp_all only [ae,g,lg (show a<=1000 by omega)]
   rfl
  | cons w r =>
   have hl:a < ws.length:=by
    have:=congrArg a2v hr
    rw [a0z,a0g] at this
    omega
   have hr1:ws.drop (a+1)=r:=by rw [<- a1D,hr]; rfl
   have g:decide (((ws.map T.str).length:Int)<=(a:Int))=false:=decide_eq_false (by rw [a0b]; omega)
   have ea:atI (ws.map T.str) (a:Int)=some (.str w):=atN rfl (by
    have:ws[a]?=some w:=by rw [<- a26,hr]; rfl
    rw [a0A,this]; rfl)
   have lga:=lg (show a<=1000 by omega)
   unfold sT
   rcases aU w with ⟨e,h⟩ | ⟨e,h⟩ | ⟨e,h⟩ | ⟨e,h⟩ | ⟨h,n1,n2,n3,n4⟩
   ·subst e
    simp only [tk,h]
    simp_all only [ae,g,ea,kw0.1,kw0.2,bt,z0,r0,a0k,a0C,aP,bb,aZ,a0,bg,a0o,decide_true,decide_false,lga]
    rfl
   ·subst e
    simp only [tk,h]
    simp_all only [ae,g,ea,kw1.1,kw1.2,bt,z0,r0,a0k,a0C,aP,bb,aZ,a0,bg,a0o,decide_true,decide_false,lga]
    rfl
   ·subst e
    by_cases hd:d=0
    ·subst hd
     simp only [tk,h,if_pos]
     simp_all only [ae,g,ea,kw2.1,kw2.2,bt,z2,r2,a0k,a0C,aP,bb,aZ,a0,bg,a0o,decide_true,decide_false,lga,show ((((0+1:Nat):Int))==1)=true from rfl]
     rfl
    ·have e2:(((d+1:Nat):Int)==1)=false:=by rw [beq_eq_false_iff_ne]; omega
     have s1:((d+1:Nat):Int)-1=(d:Int):=by omega
     have ih:∀ m m1 m2,C (n+d+1) 328 [(m,.lst (ws.map T.str)),(m1,.int ((a:Int)+1)),(m2,.int (d:Nat))]=tkR (a+1) (tk d r):=fun m m1 m2=>by rw [<- hr1]; exact tkw d n ws (a+1) m m1 m2 (by omega) (by omega) hw
     have hle:=eE d r
     simp only [tk,h,if_neg hd]
     cases h1:tk d r with
     | inl j =>
      rw [h1] at ih
      have fin:tkR a (.inl (j+1))=.ex (.ins af [q "at"] [.int ((a+1+j:Nat):Int)]):=by show Res.ex (.ins af [q "at"] [.int ((a+(j+1):Nat):Int)])=_; rw [show a+(j+1)=a+1+j by omega]
      rw [fin]
      have ih:∀ m m1 m2,C (n+d+1) 328 [(m,.lst (ws.map T.str)),(m1,.int ((a:Int)+1)),(m2,.int (d:Nat))]=.ex (.ins af [q "at"] [.int ((a+1+j:Nat):Int)]):=ih
      simp_all only [ae,g,ea,kw2.1,kw2.2,bt,z2,r2,a0k,a0C,aP,bb,aZ,a0,bg,a0o,decide_true,decide_false,lga,e2,s1,ih]
      rfl
     | inr p =>
      obtain ⟨t,c⟩:=p
      obtain ⟨t,rfl⟩:=dy d r t c h1
      rw [h1] at ih hle
      have hrl:r.length+(a+1)=ws.length:=by rw [<- hr1,a0z]; omega
      have hle:0 < c/\c<=r.length:=hle
      have ih2:∀ m m1 m2,C (n+d+1) 328 [(m,.lst (ws.map T.str)),(m1,.int ((a+1+c:Nat):Int)),(m2,.int (d:Nat))]=tkR (a+1+c) (tk d (r.drop c)):=fun m m1 m2=>by rw [<- hr1,a1D]; exact tkw d n ws (a+1+c) m m1 m2 (by omega) (by omega) hw
      have lm1:[T.str (q "pair")].length < LIM:=by decide
      have lm2:[T.str (q "pair"),.tup t].length < LIM:=by show 2 < 16777215; decide
      simp only
      cases h2:tk d (r.drop c) with
      | inl j =>
       rw [h2] at ih2
       have fin:tkR a (.inl (j+c+1))=.ex (.ins af [q "at"] [.int ((a+1+c+j:Nat):Int)]):=by show Res.ex (.ins af [q "at"] [.int ((a+(j+c+1):Nat):Int)])=_; rw [show a+(j+c+1)=a+1+c+j by omega]
       simp only
       rw [fin]
       have ih:∀ m m1 m2,C (n+d+1) 328 [(m,.lst (ws.map T.str)),(m1,.int ((a:Int)+1)),(m2,.int (d:Nat))]=.ok ((.o (.o .s),.tup [.tup t,.int ((a+1+c:Nat):Int)]),[]):=ih
       have ih2:∀ m m1 m2,C (n+d+1) 328 [(m,.lst (ws.map T.str)),(m1,.int ((a+1+c:Nat))),(m2,.int (d:Nat))]=.ex (.ins af [q "at"] [.int ((a+1+c+j:Nat):Int)]):=ih2
       simp_all only [ae,g,ea,kw2.1,kw2.2,bt,z2,r2,a0k,a0C,aP,bb,aZ,a0,bg,a0o,decide_true,decide_false,lga,e2,s1,ih,ih2,if_pos lm1,if_pos lm2]
       rfl
      | inr p =>
       obtain ⟨u,c'⟩:=p
       obtain ⟨u,rfl⟩:=dy d _ u c' h2
       rw [h2] at ih2
       have fin:tkR a (.inr (.tup [.str (q "pair"),.tup t,.tup u],c'+c+1))=.ok ((.o (.o .s),.tup [.tup [.str (q "pair"),.tup t,.tup u],.int ((a+1+c+c':Nat):Int)]),[]):=by simp only [tkR]; rw [show a+(c'+c+1)=a+1+c+c' by omega]
       simp only
       rw [fin]
       have ih:∀ m m1 m2,C (n+d+1) 328 [(m,.lst (ws.map T.str)),(m1,.int ((a:Int)+1)),(m2,.int (d:Nat))]=.ok ((.o (.o .s),.tup [.tup t,.int ((a+1+c:Nat):Int)]),[]):=ih
       have ih2:∀ m m1 m2,C (n+d+1) 328 [(m,.lst (ws.map T.str)),(m1,.int ((a+1+c:Nat))),(m2,.int (d:Nat))]=.ok ((.o (.o .s),.tup [.tup u,.int ((a+1+c+c':Nat):Int)]),[]):=ih2
       simp_all only [ae,g,ea,kw2.1,kw2.2,bt,z2,r2,a0k,a0C,aP,bb,aZ,a0,bg,a0o,decide_true,decide_false,lga,e2,s1,ih,ih2,if_pos lm1,if_pos lm2]
   ·subst e
    by_cases hd:d=0
    ·subst hd
     simp only [tk,h,if_pos]
     simp_all only [ae,g,ea,kw3.1,kw3.2,bt,z1,r1,a0k,a0C,aP,bb,aZ,a0,bg,a0o,decide_true,decide_false,lga,show ((((0+1:Nat):Int))==1)=true from rfl]
     rfl
    ·have e2:(((d+1:Nat):Int)==1)=false:=by rw [beq_eq_false_iff_ne]; omega
     have s1:((d+1:Nat):Int)-1=(d:Int):=by omega
     have ih:∀ m m1 m2,C (n+d+1) 328 [(m,.lst (ws.map T.str)),(m1,.int ((a:Int)+1)),(m2,.int (d:Nat))]=tkR (a+1) (tk d r):=fun m m1 m2=>by rw [<- hr1]; exact tkw d n ws (a+1) m m1 m2 (by omega) (by omega) hw
     simp only [tk,h,if_neg hd]
     cases h1:tk d r with
     | inl j =>
      rw [h1] at ih
      have fin:tkR a (.inl (j+1))=.ex (.ins af [q "at"] [.int ((a+1+j:Nat):Int)]):=by show Res.ex (.ins af [q "at"] [.int ((a+(j+1):Nat):Int)])=_; rw [show a+(j+1)=a+1+j by omega]
      rw [fin]
      have ih:∀ m m1 m2,C (n+d+1) 328 [(m,.lst (ws.map T.str)),(m1,.int ((a:Int)+1)),(m2,.int (d:Nat))]=.ex (.ins af [q "at"] [.int ((a+1+j:Nat):Int)]):=ih
      simp_all only [ae,g,ea,kw3.1,kw3.2,bt,z1,r1,a0k,a0C,aP,bb,aZ,a0,bg,a0o,decide_true,decide_false,lga,e2,s1,ih]
      rfl
     | inr p =>
      obtain ⟨t,c⟩:=p
      obtain ⟨t,rfl⟩:=dy d r t c h1
      rw [h1] at ih
      have fin:tkR a (.inr (.tup [.str (q "row"),.tup t],c+1))=.ok ((.o (.o .s),.tup [.tup [.str (q "row"),.tup t],.int ((a+1+c:Nat):Int)]),[]):=by simp only [tkR]; rw [show a+(c+1)=a+1+c by omega]
      simp only
      rw [fin]
      have ih:∀ m m1 m2,C (n+d+1) 328 [(m,.lst (ws.map T.str)),(m1,.int ((a:Int)+1)),(m2,.int (d:Nat))]=.ok ((.o (.o .s),.tup [.tup t,.int ((a+1+c:Nat):Int)]),[]):=ih
      have lm1:[T.str (q "row")].length < LIM:=by decide
      simp_all only [ae,g,ea,kw3.1,kw3.2,bt,z1,r1,a0k,a0C,aP,bb,aZ,a0,bg,a0o,decide_true,decide_false,lga,e2,s1,ih,if_pos lm1]
   ·simp only [tk,h]
    have kc:keys_WITHIN.contains w=false:=by
     unfold keys_WITHIN
     simp [n1,n2,n3,n4]
    simp_all only [ae,g,ea,kc,bf,lga]
    rfl
theorem rM (n:Nat)(ws:List Str)(a:Nat)(m m1:Md)(ha:a<=ws.length)(hw:ws.length<=1000):C (n+7) 327 [(m,sT ws),(m1,.int (a:Nat))]=tkR a (tk 5 (ws.drop a)):=by
 rw [show n+7=(n+6)+1 from rfl,fE,x_run _ _ _ rfl]
 have e:∀ m m1 m2,C (n+6) 328 [(m,sT ws),(m1,.int (a:Nat)),(m2,.int 5)]=tkR a (tk 5 (ws.drop a)):=fun m m1 m2=>tkw 5 n ws a m m1 m2 (by decide) ha hw
 cases h:tk 5 (ws.drop a) with
 | inl j =>
  rw [h] at e
  have e:∀ m m1 m2,C (n+6) 328 [(m,sT ws),(m1,.int (a:Nat)),(m2,.int 5)]=.ex (.ins af [q "at"] [.int ((a+j:Nat):Int)]):=e
  simp_all only [aE,e]
  rfl
 | inr p =>
  obtain ⟨t,c⟩:=p
  rw [h] at e
  have e:∀ m m1 m2,C (n+6) 328 [(m,sT ws),(m1,.int (a:Nat)),(m2,.int 5)]=.ok ((.o (.o .s),.tup [t,.int ((a+c:Nat):Int)]),[]):=e
  simp_all only [aE,e]
  rfl
noncomputable def rdR (ws:List Str):Res (W×List W):=match tk 5 ws with
 | .inl j=>.ex (.ins af [q "at"] [.int ((j:Nat):Int)])
 | .inr (t,c)=>if c < ws.length then .ex (.ins af [q "at"] [.int ((c:Nat):Int)]) else .ok ((.o .s,t),[])
theorem q0 (n:Nat)(ws:List Str)(m:Md)(h0:ws≠[])(hg:∀ x∈ws,Gw x)(hw:ws.length<=1000):C (n+8) 326 [(m,.str (Str.join sp ws))]=rdR ws:=by
 rw [show n+8=(n+7)+1 from rfl,eX,x_run _ _ _ rfl]
 have e1:splS (Str.join sp ws)=ws:=jA h0 hg
 have sz:=eV hg
 have hL:LIM=16777215:=rfl
 have b1:decide ((Str.join sp ws).cps.size+2<=LIM)=true:=decide_eq_true (by omega)
 have b2:ws.all sOk=true:=a1K.mpr fun x hx=>vb (hg x hx)
 have b3:(q " "==Str.ofString " ")=true:=beq_self_eq_true _
 have e:∀ m m1,C (n+7) 327 [(m,.lst (ws.map T.str)),(m1,.int 0)]=tkR 0 (tk 5 ws):=fun m m1=>rM n ws 0 m m1 (a1a _) hw
 unfold rdR
 cases h:tk 5 ws with
 | inl j =>
  rw [h] at e
  have e:∀ m m1,C (n+7) 327 [(m,.lst (ws.map T.str)),(m1,.int 0)]=.ex (.ins af [q "at"] [.int ((j:Nat):Int)]):=fun m m1=>by
   rw [e]; simp only [tkR]; rw [a1v]
  simp_all only [ay,b1,b2,b3,e1,e]
  rfl
 | inr p =>
  obtain ⟨t,c⟩:=p
  obtain ⟨t,rfl⟩:=dy 5 ws t c h
  rw [h] at e
  have hle:=eE 5 ws
  rw [h] at hle
  have hle:0 < c/\c<=ws.length:=hle
  have e:∀ m m1,C (n+7) 327 [(m,.lst (ws.map T.str)),(m1,.int 0)]=.ok ((.o (.o .s),.tup [.tup t,.int ((c:Nat):Int)]),[]):=fun m m1=>by
   rw [e]; simp only [tkR]; rw [a1v]
  simp only
  by_cases hc:c < ws.length
  ·have d1:decide ((c:Int) < ((ws.map T.str).length:Nat))=true:=decide_eq_true (by rw [a0b]; omega)
   rw [if_pos hc]
   simp_all only [ay,b1,b2,b3,e1,e,d1,lg (show c<=1000 by omega)]
   rfl
  ·have d1:decide ((c:Int) < ((ws.map T.str).length:Nat))=false:=decide_eq_false (by rw [a0b]; omega)
   rw [if_neg hc]
   simp_all only [ay,b1,b2,b3,e1,e,d1]
noncomputable def du:List Nat->List Str->Nat->Nat×Bool
 | st,[],a=>(a,st.isEmpty)
 | [],_::_,a=>(a,true)
 | p::st,w::r,a=>match ar w with
  | none=>(a,false)
  | some k=>if 0 < k/\p=5 then (a,false) else du (a0f k (p+1)++st) r (a+1)
theorem iL:∀ (d p:Nat) (st:List Nat) (ws:List Str) (a:Nat),p+d=6->0 < d->du (p::st) ws a=match tk d ws with
  | .inl j=>(a+j,false)
  | .inr (_,c)=>du st (ws.drop c) (a+c)
 | 0,_,_,_,_,_,h=>absurd h (by decide)
 | d+1,p,st,[],a,_,_=>rfl
 | d+1,p,st,w::r,a,hp,_=>by
  rcases aU w with ⟨e,h⟩ | ⟨e,h⟩ | ⟨e,h⟩ | ⟨e,h⟩ | ⟨h,_⟩
  ·simp [du,tk,h]
  ·simp [du,tk,h]
  ·by_cases hd:d=0
   ·have:p=5:=by omega
    simp [du,tk,h,hd,this]
   ·have:¬ p=5:=by omega
    simp only [du,tk,h,if_neg hd,this,and_false,if_false]
    show du ((p+1)::(p+1)::st) r (a+1)=_
    rw [iL d (p+1) ((p+1)::st) r (a+1) (by omega) (by omega)]
    cases h1:tk d r with
    | inl j=>simp only; rw [show a+1+j=a+(j+1) by omega]
    | inr x =>
     obtain ⟨t,c⟩:=x
     simp only
     rw [iL d (p+1) st (r.drop c) (a+1+c) (by omega) (by omega)]
     cases h2:tk d (r.drop c) with
     | inl j=>simp only; rw [show a+1+c+j=a+(j+c+1) by omega]
     | inr x =>
      obtain ⟨u,c'⟩:=x
      simp only
      rw [a1D,show a+1+c+c'=a+(c'+c+1) by omega,a2y,show c+c'=c'+c by omega]
  ·by_cases hd:d=0
   ·have:p=5:=by omega
    simp [du,tk,h,hd,this]
   ·have:¬ p=5:=by omega
    simp only [du,tk,h,if_neg hd,this,and_false,if_false]
    show du ((p+1)::st) r (a+1)=_
    rw [iL d (p+1) st r (a+1) (by omega) (by omega)]
    cases h1:tk d r with
    | inl j=>simp only; rw [show a+1+j=a+(j+1) by omega]
    | inr x =>
     obtain ⟨t,c⟩:=x
     simp only
     rw [show a+1+c=a+(c+1) by omega,a2y]
  ·simp [du,tk,h]
noncomputable abbrev nI (i:Nat):T:=.int (i:Int)
theorem ye (p:Nat)(st:List Nat):eW (.o .s,.lst ((p::st).reverse.map nI)) []=some ((.s,nI p),(.o .s,.lst (st.reverse.map nI))):=by
 rw [List.reverse_cons,a0u]
 simp [eW,Md.kid]
noncomputable abbrev lkT:List (Str×Int):=[(q "num",0),(q "truth",0),(q "row",1),(q "pair",2)]
theorem xM (w:Str):lkT.lookup w=Option.map (fun (k:Nat)=>(k:Int)) (ar w):=by
 rcases aU w with ⟨e,h⟩ | ⟨e,h⟩ | ⟨e,h⟩ | ⟨e,h⟩ | ⟨h,n1,n2,n3,n4⟩
 ·rw [h,e]; simp [lkT,a0P,qeq]
 ·rw [h,e]; simp [lkT,a0P,qeq]
 ·rw [h,e]; simp [lkT,a0P,qeq]
 ·rw [h,e]; simp [lkT,a0P,qeq]
 ·rw [h]
  have f:∀ x,w≠x->(w==x)=false:=fun x hx=>beq_eq_false_iff_ne.mpr hx
  simp [lkT,a0P,f _ n1,f _ n2,f _ n3,f _ n4]
noncomputable abbrev dB:List S:=[
   .ite (.q [1] []) (.op .eq false [.op .len false [.var 1],.cst (.int 0)]) [
    .ret [] (.tup [.mv 2,.cst (.bl true)])] [],
   .asg (.l []) 3 (.pop 1 []),
   .asg (.q [0] [2]) 4 (.op (.getK [(q "num",0),(q "truth",0),(q "row",1),(q "pair",2)] (some (-1))) false [.op .ix false [.var 0,.var 2]]),
   .ite (.q [3] [4]) (.or (.op .lt false [.var 4,.cst (.int 0)]) (.and (.op .gt false [.var 4,.cst (.int 0)]) (.op .eq false [.var 3,.cst (.int 5)]))) [
    .ret [] (.tup [.mv 2,.cst (.bl false)])] [],
   .asg (.q [1,3] [4]) 1 (.op .add false [.var 1,.op .mul false [.lst false [.op .add false [.var 3,.cst (.int 1)]],.var 4]])]
noncomputable abbrev dE:List S:=[.ret [] (.tup [.op .len false [.mv 0],.op .eq false [.op .len false [.mv 1],.cst (.int 0)]])]
theorem vp (x:T):∀ k:Nat,(a0f k [x]).flatten=a0f k x
 | 0=>rfl
 | k+1=>by rw [a0E,a0E,a1q,vp x k]; rfl
theorem gG (n:Nat)(ws:List Str)(hw:ws.length<=1000):∀ (r:List Str) (a:Nat) (st:List Nat) (o2 o3 o4:Option W),ws.drop a=r->a+r.length=ws.length->st.length<=a+1 ->
  ∃ η,Fl.seq (dA [2] (evSs (C n) dB) ((a2z a r.length).map fun (k:Nat)=>[((.d,.int k):W)]) [some (.s,sT ws),some (.o .s,.lst (st.reverse.map nI)),o2,o3,o4]) (evSs (C n) dE)=.rt (.d,.tup [.int ((du st r a).1:Nat),.bl (du st r a).2]) η
 | [],a,st,o2,o3,o4,hr,ha,hs=>by
  have ha':a=ws.length:=by simpa using ha
  subst ha'
  cases st with
  | nil =>
   refine ⟨[none,none,o2,o3,o4],?_⟩
   rw [show (a2z ws.length ([]:List Str).length)=[] from rfl,a0C,bb]
   unfold sT
   simp_all only [a0b,a2W,a0C,a1o,du]
   rfl
  | cons p st =>
   refine ⟨[none,none,o2,o3,o4],?_⟩
   have e0:((((p::st).reverse.map nI).length:Int)==0)=false:=by rw [beq_eq_false_iff_ne,a0b,a1U,a0g]; omega
   rw [show (a2z ws.length ([]:List Str).length)=[] from rfl,a0C,bb]
   unfold sT
   generalize (p::st).reverse.map nI=zz at e0
   simp_all only [a0b,e0,du]
   rfl
 | w::r,a,[],o2,o3,o4,hr,ha,hs=>by
  refine ⟨[some (.s,sT ws),some (.o .s,.lst []),none,o3,o4],?_⟩
  rw [a0g,a2X,a0k,aP]
  simp_all only [a2W,a0C,a1o,du,show (((0:Nat):Int)==0)=true from rfl]
 | w::r,a,p::st,o2,o3,o4,hr,ha,hs=>by
  have e0:((((p::st).reverse.map nI).length:Int)==0)=false:=by rw [beq_eq_false_iff_ne,a0b,a1U,a0g]; omega
  have hr1:ws.drop (a+1)=r:=by rw [<- a1D,hr]; rfl
  have hL:LIM=16777215:=rfl
  have ea:atI (ws.map T.str) (a:Int)=some (.str w):=atN rfl (by
   have:ws[a]?=some w:=by rw [<- a26,hr]; rfl
   rw [a0A,this]; rfl)
  have pk:=ye p st
  have lk:=xM w
  have pn:=ye
  generalize hz:(p::st).reverse.map nI=zz at e0 pk
  rw [a0g,a2X,a0k,aP]
  cases h:ar w with
  | none =>
   have gk:getI (lkT.lookup w) (some (-1))=.int (-1):=by rw [lk,h]; rfl
   refine ⟨[some (.s,sT ws),some (.o .s,.lst (st.reverse.map nI)),none,some (.s,nI p),some (.d,.int (-1))],?_⟩
   unfold sT
   simp_all only [e0,pk,ea,du,h,gk,a0o,a3k,decide_true]
  | some k =>
   have gk:getI (lkT.lookup w) (some (-1))=.int (k:Nat):=by rw [lk,h]; rfl
   have hk:k<=2:=by rcases aU w with ⟨_,e⟩ | ⟨_,e⟩ | ⟨_,e⟩ | ⟨_,e⟩ | ⟨e,_⟩<;>rw [h] at e<;>cases e<;>decide
   have d0:decide ((k:Int) < 0)=false:=decide_eq_false (by omega)
   by_cases hb:0 < k/\p=5
   ·obtain ⟨hb1,rfl⟩:=hb
    have d1:decide ((0:Int) < (k:Int))=true:=decide_eq_true (by omega)
    have d2:(((5:Nat):Int)==5)=true:=rfl
    refine ⟨[some (.s,sT ws),some (.o .s,.lst (st.reverse.map nI)),none,some (.s,nI 5),some (.d,.int (k:Nat))],?_⟩
    unfold sT
    rw [show du (5::st) (w::r) a=(a,false) from by simp [du,h,hb1]]
    simp_all only [e0,pk,ea,gk,d0,d1,d2,nI]
   ·have h1:(st.reverse.map nI)++((a0f ((k:Int)).toNat [T.int ((p:Int)+1)]).flatten)=((a0f k (p+1)++st).reverse.map nI):=by
     rw [a1f,List.reverse_append,a0u,List.reverse_replicate,a2D]
     rw [vp]
     rfl
    have rl:((a0f ((k:Int)).toNat [T.int ((p:Int)+1)]).flatten).length=k:=by rw [a1f,vp,a1n]
    have dk:(decide ((k:Int).natAbs < 4611686018427387904)&&fits ([T.int ((p:Int)+1)].length * ((k:Int)).toNat))=true:=by
     rw [decide_eq_true (by omega),a2F]
     exact decide_eq_true (by rw [a0j,a1f]; omega)
    have fz:fits ((st.reverse.map nI).length+((a0f ((k:Int)).toNat [T.int ((p:Int)+1)]).flatten).length)=true:=decide_eq_true (by rw [rl,a0b,a1U]; rw [a0g] at hs ha; omega)
    obtain ⟨η,e⟩:=gG n ws hw r (a+1) (a0f k (p+1)++st) (some (.d,.int (a:Nat))) (some (.s,nI p)) (some (.d,.int (k:Nat))) hr1 (by rw [a0g] at ha; omega) (by rw [a0d,a1n]; rw [a0g] at hs; omega)
    refine ⟨η,?_⟩
    simp only [du,h,if_neg hb]
    rw [<- e]
    cases hd1:decide ((0:Int) < (k:Int)) with
    | true =>
     have d2:((p:Int)==5)=false:=by
      rw [beq_eq_false_iff_ne]
      have:=of_decide_eq_true hd1
      omega
     unfold sT
     simp_all only [e0,pk,ea,gk,d0,hd1,d2,nI,if_pos dk,if_pos fz,h1]
    | false =>
     unfold sT
     simp_all only [e0,pk,ea,gk,d0,hd1,nI,if_pos dk,if_pos fz,h1]
theorem due (n:Nat)(ws:List Str)(m:Md)(hw:ws.length<=1000):C (n+1) 329 [(m,sT ws)]=.ok ((.d,.tup [.int ((du [1] ws 0).1:Nat),.bl (du [1] ws 0).2]),[]):=by
 rw [g9,x_run _ _ _ rfl]
 obtain ⟨η,e⟩:=gG n ws hw ws 0 [1] none none none rfl (a1v _) (by simp)
 have hL:LIM=16777215:=rfl
 have b1:(decide (((ws.map T.str).length:Int).natAbs < 4611686018427387904)&&fits ((ws.map T.str).length:Int).toNat)=true:=by
  rw [a0b,decide_eq_true (by omega),a2F]
  exact decide_eq_true (by rw [a1f]; omega)
 have rr:a0X ((ws.map T.str).length:Int).toNat=a2z 0 ws.length:=by rw [a0b,a1f,List.range_eq_range']
 unfold sT at *
 rw [show ([1]:List Nat).reverse.map nI=[T.int 1] from rfl] at e
 simp_all only [bH,if_pos b1,rr,e]
theorem qM {ws:List Str}(h:∀ x∈ws,Gw x):(ws.map fun s=>s.cps.size+sp.cps.size).sum<=21 * ws.length:=by
 induction ws with
 | nil=>exact a0m _
 | cons x r ih =>
  have h1:=(h x a0c).sz
  have h2:=ih fun y hy=>h y (a0e _ hy)
  have h3:sp.cps.size=1:=by rw [iM]; rfl
  rw [a0k,a1P,a0g]
  omega
theorem rm {ws:List Str}(hg:∀ x∈ws,Gw x)(hw:ws.length<=1000):(sOk (Str.join (q " ") ws)&&decide ((ws.map fun s=>s.cps.size+(q " ").cps.size).sum<=LIM))=true:=by
 have hL:LIM=16777215:=rfl
 have h1:=eV hg
 have h2:=qM hg
 rw [a0h]
 exact ⟨m9 (i3 fun x hx=>(hg x hx).cp) (by show (Str.join sp ws).cps.size<=_; omega),decide_eq_true (by show (ws.map fun s=>s.cps.size+sp.cps.size).sum<=_; omega)⟩
theorem lh (m:Md)(c:Nat)(fs:List Str)(vs:List T):lf m (.ins c fs vs)=m:=rfl
noncomputable def A3:List Str:=[q "row",q "",q "num"]
theorem zH (ws:List Str):cut [T.str (q "row"),T.str (q ""),T.str (q "num")] none (some (((ws.map T.str).length:Int) % 4))=(A3.take (ws.length % 4)).map T.str:=by
 rw [a0b,show ((ws.length:Int) % 4)=((ws.length % 4:Nat):Int) by omega,cx,a1i]
 rfl
theorem ke0:[af,aH,aw,av,aG,aF].contains af=true:=rfl
theorem ke1:[aH,aF,aw,aG,av].contains af=false:=rfl
theorem ke2:[af].contains af=true:=rfl
theorem ke3:[af,aH,aw,av,aG,aF,aQ].contains af=true:=rfl
theorem yL (n:Nat)(ws:List Str)(m:Md)(h0:ws≠[])(hg:∀ x∈ws,Gw x)(hw:ws.length<=1000):(∀ ts,rdR ws=.ok ((.o .s,.tup ts),[])->C (n+9) 331 [(m,sT ws),(.d,.bl false)]=.ok ((.o .s,.tup [.str (q "told"),.tup ts]),[])) /\
  (∀ j:Nat,rdR ws=.ex (.ins af [q "at"] [.int (j:Nat)])->C (n+9) 331 [(m,sT ws),(.d,.bl false)]=.ok ((.d,.tup [.str (q "no"),.int (j:Nat)]),[])):=by
 have e:=fun m=>q0 n ws m h0 hg hw
 have jb:=rm hg hw
 have st:=cF ws
 rw [show n+9=(n+8)+1 from rfl,cY,x_run _ _ _ rfl]
 refine ⟨fun t ht=>?_,fun j hj=>?_⟩
 ·rw [ht] at e
  unfold sT
  simp_all only [aI,jb,st,e]
 ·rw [hj] at e
  have s1:(j:Int)-((([]:List T).length:Nat):Int)=(j:Int):=by rw [a1o]; omega
  unfold sT
  simp_all only [aI,jb,st,e,lh,bg,ke0,ke1,ke2,ke3,beq_self_eq_true,s1]
theorem yB (n:Nat)(ws:List Str)(m:Md)(hw:ws.length<=900):(∀ ts c,tk 5 ws=.inr (.tup ts,c)->C (n+8) 331 [(m,sT ws),(.d,.bl true)]=.ok ((.o (.o .s),.tup [.str (q "told"),.tup [.tup ts,.int (c:Nat)]]),[])) /\
  (∀ j:Nat,tk 5 ws=.inl j->C (n+8) 331 [(m,sT ws),(.d,.bl true)]=.ok ((.d,.tup [.str (q "no"),.int (j:Nat)]),[])):=by
 obtain ⟨A,hA⟩:∃ A,A3.take (ws.length % 4)=A:=⟨_,rfl⟩
 have hl:A.length<=3:=by rw [<- hA,a0w]; exact a2R _ _
 have c4:=zH ws
 rw [hA] at c4
 have hL:LIM=16777215:=rfl
 have e:∀ m m1,C (n+7) 327 [(m,.lst (A.map T.str++ws.map T.str)),(m1,.int ((A.map T.str).length:Nat))]=tkR A.length (tk 5 ws):=fun m m1=>by
  have:=rM n (A++ws) A.length m m1 (by rw [a0d]; omega) (by rw [a0d]; omega)
  rw [List.drop_left] at this
  rw [<- a0u,a0b]
  exact this
 have fz:fits ((A.map T.str).length+(ws.map T.str).length)=true:=decide_eq_true (by rw [a0b,a0b]; omega)
 rw [show n+8=(n+7)+1 from rfl,cY,x_run _ _ _ rfl]
 refine ⟨fun ts c ht=>?_,fun j hj=>?_⟩
 ·rw [ht] at e
  have e:∀ m m1,C (n+7) 327 [(m,.lst (A.map T.str++ws.map T.str)),(m1,.int ((A.map T.str).length:Nat))]=.ok ((.o (.o .s),.tup [.tup ts,.int ((A.length+c:Nat):Int)]),[]):=e
  have s1:((A.length+c:Nat):Int)-((A.map T.str).length:Int)=(c:Int):=by rw [a0b]; omega
  unfold sT
  simp_all only [aI,c4,e,if_pos fz,s1,a0o,decide_true]
 ·rw [hj] at e
  have e:∀ m m1,C (n+7) 327 [(m,.lst (A.map T.str++ws.map T.str)),(m1,.int ((A.map T.str).length:Nat))]=.ex (.ins af [q "at"] [.int ((A.length+j:Nat):Int)]):=e
  have s1:((A.length+j:Nat):Int)-((A.map T.str).length:Int)=(j:Int):=by rw [a0b]; omega
  unfold sT
  simp_all only [aI,c4,e,if_pos fz,lh,bg,ke0,ke1,ke2,ke3,beq_self_eq_true,s1,a0o,decide_true]
theorem iY (C:Call):∀ (a b:List S) (η:Env),evSs C (a++b) η=(evSs C a η).seq (evSs C b)
 | [],b,η=>rfl
 | s::a,b,η=>by
  show (evS C s η).seq (evSs C (a++b))=((evS C s η).seq (evSs C a)).seq (evSs C b)
  cases evS C s η<;>first | rfl | exact iY C a b _
theorem go1 {C:Call}{a b:List S}{η η':Env}(h:evSs C a η=.nx η'):evSs C (a++b) η=evSs C b η':=by rw [iY,h]; rfl
theorem i4:∀ (d:Nat) (ws:List Str) (t:T) (c:Nat),tk d ws=.inr (t,c)->eqT t t=true/\dp t<=d+1
 | 0,_,_,_,h=>by cases h
 | _+1,[],_,_,h=>by cases h
 | d+1,w::r,t,c,h=>by
  have e1:eqT (.str w) (.str w)=true:=beq_self_eq_true w
  rcases aU w with ⟨e,ha⟩ | ⟨e,ha⟩ | ⟨e,ha⟩ | ⟨e,ha⟩ | ⟨ha,_⟩
  ·simp only [tk,ha] at h; cases h
   exact ⟨by show (eqT (.str w) (.str w)&&true)=true; rw [e1]; rfl,by show max (dp (.str w)) 0+1<=_; show max 0 0+1<=_; omega⟩
  ·simp only [tk,ha] at h; cases h
   exact ⟨by show (eqT (.str w) (.str w)&&true)=true; rw [e1]; rfl,by show max 0 0+1<=_; omega⟩
  ·by_cases hd:d=0
   ·simp [tk,ha,hd] at h
   ·simp only [tk,ha,if_neg hd] at h
    cases h1:tk d r with
    | inl j=>rw [h1] at h; cases h
    | inr p =>
     obtain ⟨t1,c1⟩:=p
     rw [h1] at h
     simp only at h
     cases h2:tk d (r.drop c1) with
     | inl j=>rw [h2] at h; cases h
     | inr p2 =>
      obtain ⟨t2,c2⟩:=p2
      rw [h2] at h; cases h
      obtain ⟨q1,q2⟩:=i4 d r t1 c1 h1
      obtain ⟨q3,q4⟩:=i4 d (r.drop c1) t2 c2 h2
      exact ⟨by show (eqT (.str w) (.str w)&&(eqT t1 t1&&(eqT t2 t2&&true)))=true; rw [e1,q1,q3]; rfl,by show max 0 (max (dp t1) (max (dp t2) 0))+1<=_; omega⟩
  ·by_cases hd:d=0
   ·simp [tk,ha,hd] at h
   ·simp only [tk,ha,if_neg hd] at h
    cases h1:tk d r with
    | inl j=>rw [h1] at h; cases h
    | inr p =>
     obtain ⟨t1,c1⟩:=p
     rw [h1] at h; cases h
     obtain ⟨q1,q2⟩:=i4 d r t1 c1 h1
     exact ⟨by show (eqT (.str w) (.str w)&&(eqT t1 t1&&true))=true; rw [e1,q1]; rfl,by show max 0 (max (dp t1) 0)+1<=_; omega⟩
  ·simp [tk,ha] at h
theorem lH (h:Bool)(m n:Md)(j:Int):oSem .ne h [(m,.tup [.str (q "no"),.int j]),(n,.tup [.str (q "no"),.int j])]=some (.d,.bl false):=by
 rw [yN h m n _ _ (by show max 0 (max 0 0)+1<=64; decide) (by show max 0 (max 0 0)+1<=64; decide)]
 show some (Md.d,T.bl (!((q "no"==q "no")&&((j==j)&&true))))=_
 rw [beq_self_eq_true,beq_self_eq_true]; rfl
theorem qy (h:Bool)(m n:Md)(t:T)(j:Int)(e:eqT t t=true)(hd:dp t<=6):oSem .ne h [(m,.tup [.str (q "told"),.tup [t,.int j]]),(n,.tup [.str (q "told"),.tup [t,.int j]])]=some (.d,.bl false):=by
 have:dp (.tup [.str (q "told"),.tup [t,.int j]])<=64:=by
  show max 0 (max (max (dp t) (max 0 0)+1) 0)+1<=64
  omega
 rw [yN h m n _ _ this this]
 show some (Md.d,T.bl (!((q "told"==q "told")&&((eqT t t&&((j==j)&&true))&&true))))=_
 rw [beq_self_eq_true,beq_self_eq_true,e]; rfl
theorem xF (ws:List Str):du [1] ws 0=match tk 5 ws with
  | .inl j=>(j,false)
  | .inr (_,c)=>(c,true):=by
 rw [iL 5 1 [] ws 0 rfl (by decide)]
 cases tk 5 ws with
 | inl j=>simp only [a1v]
 | inr p =>
  simp only [a1v]
  cases ws.drop p.2<;>rfl
noncomputable def sB:List S:=match f_law.body with
 | [.forS _ _ _ _ _ b,_]=>b
 | _=>[]
noncomputable abbrev BW (i j:Nat):List S:=(sB.drop i).take j
theorem words (ns:List Int)(c:Int)(m1:Md)(o2 o3 o4 o5:Option W):∃ ws:List Str,ws≠[]/\(∀ x∈ws,Gw x)/\ws.length<=512/\evSs (C 39) (BW 0 2) [some (.s,.scr ns),some (m1,.int c),o2,o3,o4,o5]=.nx [some (.s,.scr ns),some (m1,.int c),some (.o .s,sT ws),o3,o4,o5]:=by
 obtain ⟨l,hl⟩:∃ l:Nat,4+c % 3=(l:Int):=⟨(4+c % 3).toNat,by omega⟩
 obtain ⟨u,u1,u2,u3,u4⟩:=deep l (38-l) (c / 3) .d .d (by omega)
 rw [show 38-l+l+1=39 by omega] at u4
 have hp:2 ^ (l+1)<=512:=a2s (n:=2) (by decide) (show l+1<=9 by omega)
 obtain ⟨us,v1,v2,v3⟩:=zL 38 u (c / 11) .d u1 u2 (by omega)
 rw [show 38+1=39 from rfl] at v3
 cases us with
 | nil =>
  refine ⟨[q ""],by simp,fun x hx=>by rw [a0x.mp hx]; exact (p4 _ (by decide) (by decide)).1,by decide,?_⟩
  simp_all only [BW,sB,f_law,a2n,a2o,hl,u4,v3,a0o,decide_true,a0S,sT,a0C,a1o,a0k,show (((0:Nat):Int)==0)=true from rfl]
 | cons x r =>
  have e0:((((x::r).map T.str).length:Int)==0)=false:=by rw [beq_eq_false_iff_ne,a0b,a0g]; omega
  refine ⟨x::r,by simp,v1,v2,?_⟩
  unfold sT at *
  generalize hz:(x::r).map T.str=zz at e0 v3
  simp_all only [BW,sB,f_law,a2n,a2o,hl,u4,v3,a0o,decide_true,a0S,e0]
theorem turn (ns:List Int)(c:Int)(m1:Md)(o2 o3 o4 o5:Option W):∃ p1 p2 p3 p4 p5,evSs (C 39) sB [some (.s,.scr ns),some (m1,.int c),o2,o3,o4,o5]=.nx [some (.s,.scr ns),p1,p2,p3,p4,p5]:=by
 obtain ⟨ws,h0,hg,hw,H1⟩:=words ns c m1 o2 o3 o4 o5
 rw [show sB=BW 0 2++BW 2 3 from rfl,go1 H1]
 have d1:=fun m=>due 38 ws m (by omega)
 have hd:=xF ws
 have tF:=fun m=>yL 30 ws m h0 hg (by omega)
 have tT:=fun m=>yB 31 ws m (by omega)
 rw [show 30+9=39 from rfl] at tF
 rw [show 31+8=39 from rfl] at tT
 rw [show 38+1=39 from rfl] at d1
 cases ht:tk 5 ws with
 | inl j =>
  rw [ht] at hd
  have hr:rdR ws=.ex (.ins af [q "at"] [.int (j:Nat)]):=by unfold rdR; rw [ht]
  rw [show du [1] ws 0=(j,false) from hd] at d1
  have f:=fun m=>(tF m).2 j hr
  have t:=fun m=>(tT m).2 j ht
  cases hb:((j:Int)==((ws.map T.str).length:Int)) with
  | true =>
   refine ⟨some (m1,.int c),some (.o .s,sT ws),some (.d,.int (j:Nat)),some (.d,.bl false),some (.d,.tup [.str (q "no"),.int (j:Nat)]),?_⟩
   unfold sT at *
   simp_all only [BW,sB,f_law,a2n,a2o,d1,f,t,hb,lH]
  | false =>
   refine ⟨some (m1,.int c),some (.o .s,sT ws),some (.d,.int (j:Nat)),some (.d,.bl false),some (.d,.tup [.str (q "no"),.int (j:Nat)]),?_⟩
   unfold sT at *
   simp_all only [BW,sB,f_law,a2n,a2o,d1,f,t,hb,lH]
 | inr p =>
  obtain ⟨t,k⟩:=p
  obtain ⟨t,rfl⟩:=dy 5 ws t k ht
  obtain ⟨q1,q2⟩:=i4 5 ws _ k ht
  rw [ht] at hd
  rw [show du [1] ws 0=(k,true) from hd] at d1
  have hle:=eE 5 ws
  rw [ht] at hle
  have hle:0 < k/\k<=ws.length:=hle
  have tt:=fun m=>(tT m).1 t k ht
  have nt:=fun h m n=>qy h m n (.tup t) (k:Int) q1 q2
  by_cases hk:k < ws.length
  ·have hr:rdR ws=.ex (.ins af [q "at"] [.int (k:Nat)]):=by unfold rdR; rw [ht]; simp only; rw [if_pos hk]
   have f:=fun m=>(tF m).2 k hr
   have hb:((k:Int)==((ws.map T.str).length:Int))=false:=by rw [beq_eq_false_iff_ne,a0b]; omega
   have gt:∀ x∈ws.take k,Gw x:=fun x hx=>hg x (a1L hx)
   have lt:(ws.take k).length=k:=by rw [a0w]; omega
   have hr2:rdR (ws.take k)=.ok ((.o .s,.tup t),[]):=by unfold rdR; rw [fS 5 ws _ k ht k (a0m _)]; simp only; rw [if_neg (by omega)]
   have e:=fun m=>q0 31 (ws.take k) m (by intro z; rw [z] at lt; simp at lt; omega) gt (by omega)
   rw [hr2,show 31+8=39 from rfl] at e
   have jb:=rm gt (by omega)
   have st:=cF (ws.take k)
   have ck:cut (ws.map T.str) none (some (k:Int))=(ws.take k).map T.str:=by rw [cx,a1i]
   refine ⟨some (m1,.int c),some (.o .s,sT ws),some (.d,.int (k:Nat)),some (.d,.bl true),some (.d,.tup [.str (q "no"),.int (k:Nat)]),?_⟩
   unfold sT at *
   simp_all only [BW,sB,f_law,a2n,a2o,d1,f,tt,hb,lH,nt,ck,jb,st,e]
  ·have hr:rdR ws=.ok ((.o .s,.tup t),[]):=by unfold rdR; rw [ht]; simp only; rw [if_neg hk]
   have f:=fun m=>(tF m).1 t hr
   have hb:((k:Int)==((ws.map T.str).length:Int))=true:=by rw [beq_iff_eq,a0b]; omega
   refine ⟨some (m1,.int c),some (.s,sT ws),some (.d,.int (k:Nat)),some (.d,.bl true),some (.o .s,.tup [.str (q "told"),.tup t]),?_⟩
   unfold sT at *
   simp_all only [BW,sB,f_law,a2n,a2o,d1,f,tt,hb,beq_self_eq_true,nt]
theorem gg {α:Type}{tg:List Nat}{f:Env->Fl}{g:α->List W}(I:List α->Env->Prop):∀ (ts pre:List α) (η:Env),I pre η->(∀ p x r η,pre++ts=p++x::r->I p η->∃ η1 η2,aV tg (g x) η=some η1/\f η1=.nx η2/\I (p++[x]) η2) ->
  ∃ η',dA tg f (ts.map g) η=.nx η'/\I (pre++ts) η'
 | [],pre,η,h,_=>⟨η,rfl,by rw [a0F]; exact h⟩
 | x::ts,pre,η,h,k=>by
  obtain ⟨η1,η2,h1,h2,h3⟩:=k pre x ts η rfl h
  obtain ⟨η',e,hi⟩:=gg I ts (pre++[x]) η2 h3 fun p y r η e=>k p y r η (by rw [<- e,a1c]; rfl)
  refine ⟨η',?_,by rw [a1c] at hi; exact hi⟩
  rw [a0k]
  show Fl.of _ (ofO (aV tg (g x) η)) _=_
  rw [h1]
  show Fl.turn (f η1) _=_
  rw [h2]
  exact e
theorem pure_law (ns:List Int):∃ m bs,C 40 0 [(.d,.scr ns)]=.ok ((m,.bl true),bs):=by
 rw [show C 40 0 [(.d,.scr ns)]=runF (C 39) f_law [(.d,.scr ns)] from rfl,x_run _ _ _ rfl]
 have lp:∀ (cs:List Int) (m:Md),∃ p1 p2 p3 p4 p5,dA [1] (evSs (C 39) sB) ((cs.map T.int).map fun t=>[((m,t):W)]) [some (.s,.scr ns),none,none,none,none,none]=.nx [some (.s,.scr ns),p1,p2,p3,p4,p5]:=fun cs m=>by
  obtain ⟨η',e,p1,p2,p3,p4,p5,rfl⟩:=gg (tg:=[1]) (f:=evSs (C 39) sB) (g:=fun c=>[((m,.int c):W)]) (fun _ η=>∃ p1 p2 p3 p4 p5,η=[some (.s,.scr ns),p1,p2,p3,p4,p5]) cs [] _ ⟨none,none,none,none,none,rfl⟩ (fun p x r η e ⟨p1,p2,p3,p4,p5,he⟩=>by
   subst he
   obtain ⟨o1,o2,o3,o4,o5,h⟩:=turn ns x m p2 p3 p4 p5
   exact ⟨_,_,rfl,h,o1,o2,o3,o4,o5,rfl⟩)
  rw [a3v]
  exact ⟨p1,p2,p3,p4,p5,e⟩
 rw [show f_law.body=[.forS [0] [] .seq [.ifx (.op .gt false [.op .len false [.var 0],.cst (.int 0)]) (.op .sl2 false [.var 0,.cst (.int 16)]) (.lst false [.cst (.int 0)])] [1] sB,.ret [] (.cst (.bl true))] from rfl,show f_law.io=[] from rfl,show f_law.ns=5 from rfl]
 cases hn:decide ((0:Int) < (ns.length:Int)) with
 | true =>
  obtain ⟨p1,p2,p3,p4,p5,e⟩:=lp (cut ns none (some 16)) .s
  refine ⟨.d,[],?_⟩
  simp_all only [hn,e]
 | false =>
  obtain ⟨p1,p2,p3,p4,p5,e⟩:=lp [0] .s
  refine ⟨.d,[],?_⟩
  rw [show ([(0:Int)].map T.int).map (fun t=>[((.s,t):W)])=[[(.s,.int 0)]] from rfl] at e
  simp_all only [hn,e]
end
end P03

namespace A03
open PySem PySem.Spec PyProof.Rows L2 L3 MR
noncomputable def top (i:Nat):Stmt:=PySem.Challenge.pw_broadrow_k03_no_kinds_texts.main.body.getD i (.Pass ⟨0,0,0,0⟩)
noncomputable abbrev kf:Stmt:=top 11
noncomputable abbrev kj:Stmt:=top 12
noncomputable abbrev jJ:Stmt:=top 13
noncomputable abbrev mO:Stmt:=top 15
noncomputable abbrev l0:Stmt:=top 16
noncomputable abbrev kU:Stmt:=top 17
noncomputable abbrev lA:Stmt:=top 18
noncomputable abbrev s0:Stmt:=top 19
structure Glb (K:a0a)(w:World)(mg:Str->Option Value):Prop where
 DEEPEST:∃ t,mg "DEEPEST"=some (.int 5 t)
 k_WITHIN:uY K w mg "WITHIN" keys_WITHIN
 c_WITHIN:vy K w mg "WITHIN" tab_WITHIN
structure Xs (P:Program)(w:World)(K:a0a)(mg:Str->Option Value)(base:Heap):Prop where
 b_BroadError:XBs K mg "BroadError" aQ [af,aH,aw,av,aG,aF]
 f_at:∀ c:Nat,XF K c->a0q K (.ref c) "at"=some none
 i_NoKind:XIs K mg "NoKind" (.ref aH) [aH]
 i_NoLine:XIs K mg "NoLine" (.ref aF) [aF]
 i_NoPlace:XIs K mg "NoPlace" (.ref aw) [aw]
 i_NoRule:XIs K mg "NoRule" (.ref aG) [aG]
 i_NoText:XIs K mg "NoText" (.ref af) [af]
 i_NoThing:XIs K mg "NoThing" (.ref av) [av]
 i_ValueError:XIs K mg "ValueError" (.type "ValueError") [af,aH,aw,av,aG,aF,aQ]
 m_ValueError:mg "ValueError"=none
 r_NoText:XCl P w K mg base "NoText" af aQ "at" 0
 t_NoKind_NoLine_NoPlace_NoRule_NoThing:XIt K [aH,aF,aw,aG,av] [aH,aF,aw,aG,av]
structure Calls (P:Program)(w:World)(K:a0a)(mg:Str->Option Value)(base:Heap)(n:Nat)(C:M.Call):Prop where
 c326:ao P w K mg base n C "read_kind" 326 []
 x326:bC P w K mg base n C "read_kind" 326
 c327:ao P w K mg base n C "take_kind" 327 []
 x327:bC P w K mg base n C "take_kind" 327
 c328:ao P w K mg base n C "take_kind_within" 328 []
 x328:bC P w K mg base n C "take_kind_within" 328
 c322:ao P w K mg base n C "_law_deep" 322 []
 c332:ao P w K mg base n C "_law_bent" 332 []
 c329:ao P w K mg base n C "_law_due" 329 []
 c331:ao P w K mg base n C "_law_told" 331 []
noncomputable abbrev DD (x:Str)(st:Stmt)(N:List Str)(fn:M.Fn):Prop:=∀ {P:Program} {w:World} {K:a0a} {mg:Str->Option Value} {base:Heap} {n:Nat} {C:M.Call} {f:Addr} {cdv:Value} {A:Around} {outer:List Env} {s:Shared} {H:Hp} {E:XK},Xs P w K mg base->Calls P w K mg base (n+2) C->Txt mg->Glb K w mg->Room (n+2) (A.deeper (envOfC x (defScope st) s.heap.objs.size f cdv))->SSs (cJ CX0 P w K mg base N x (defScope st) f cdv A outer s H E).nox (slN N.length) fn.io C (defBody st) fn.body
noncomputable abbrev DX (x:Str)(st:Stmt)(N:List Str)(fn:M.Fn):Prop:=∀ {P:Program} {w:World} {K:a0a} {mg:Str->Option Value} {base:Heap} {n:Nat} {C:M.Call} {f:Addr} {cdv:Value} {A:Around} {outer:List Env} {s:Shared} {H:Hp} {E:XK},Xs P w K mg base->Calls P w K mg base (n+2) C->Txt mg->Glb K w mg->Room (n+2) (A.deeper (envOfC x (defScope st) s.heap.objs.size f cdv))->SSs (cJ (CX1 P w) P w K mg base N x (defScope st) f cdv A outer s H E) (slN N.length) [] C (defBody st) fn.body
theorem om:az ["text","words","taken"] ["text"] (defScope kf):=fsc
theorem zC:DD "read_kind" kf ["text","words","taken"] ay:=fun {_ _ _ _ _ _ _ _ _ _ _ s _ _} xs cs T G hr =>
 have S:=om
 (@ssc _ _ _ _ _ _ _ _ (@aR _ _ _ _ _ _ _ 1 _ _ _ _ S.nd (lb (sV 0) sS) (by decide) (by rfl) (by rfl) (by first | exact a0M rfl | exact a0H rfl) (by rfl) (by first | exact .inl rfl | exact .inr rfl))
    (@ssc _ _ _ _ _ _ _ _ (i9 2 S.nd (bN cs.x327 hr (@slx _ _ _ _ _ _ _ (sV 1) (@slx _ _ _ _ _ _ _ sI sl0 (by rfl)) (by rfl))))
    (@ssc _ _ _ _ _ _ _ _ (@zIf _ _ _ _ _ _ _ _ _ _ _ _ (nM (@aW _ _ _ _ _ _ _ _ _ (sV 2) sI (by intro _ _; rfl)) (b0 (hm:=T.len) (ha:=(sV 1)))) (@ss1 _ _ _ _ _ _ (bR xs.r_NoText hr (@aW _ _ _ _ _ _ _ _ _ (sV 2) sI (by intro _ _; rfl)))) ss0)
    (@ss1 _ _ _ _ _ _ (@aX _ _ _ _ _ _ _ _ (@aW _ _ _ _ _ _ _ _ _ (sM 2) sI (by intro _ _; rfl)))))))
theorem Ag:DX "read_kind" kf ["text","words","taken"] ay:=fun {_ _ _ _ _ _ _ _ _ _ _ s _ _} xs cs T G hr =>
 have S:=om
 (@ssc _ _ _ _ _ _ _ _ (@aR _ _ _ _ _ _ _ 1 _ _ _ _ S.nd (lb (sV 0) sS) (by decide) (by rfl) (by rfl) (by first | exact a0M rfl | exact a0H rfl) (by rfl) (by first | exact .inl rfl | exact .inr rfl))
    (@ssc _ _ _ _ _ _ _ _ (i9 2 S.nd (bN cs.x327 hr (@slx _ _ _ _ _ _ _ (sV 1) (@slx _ _ _ _ _ _ _ sI sl0 (by rfl)) (by rfl))))
    (@ssc _ _ _ _ _ _ _ _ (@zIf _ _ _ _ _ _ _ _ _ _ _ _ (nM (@aW _ _ _ _ _ _ _ _ _ (sV 2) sI (by intro _ _; rfl)) (b0 (hm:=T.len) (ha:=(sV 1)))) (@ss1 _ _ _ _ _ _ (bR xs.r_NoText hr (@aW _ _ _ _ _ _ _ _ _ (sV 2) sI (by intro _ _; rfl)))) ss0)
    (@ss1 _ _ _ _ _ _ (@aX _ _ _ _ _ _ _ _ (@aW _ _ _ _ _ _ _ _ _ (sM 2) sI (by intro _ _; rfl)))))))
theorem oN:az ["words","at"] ["words","at"] (defScope kj):=fsc
theorem zI:DD "take_kind" kj ["words","at"] aE:=fun {_ _ _ _ _ _ _ _ _ _ _ s _ _} xs cs T G hr =>
 have S:=oN
 (@ss1 _ _ _ _ _ _ (rG (bN cs.x328 hr (@slx _ _ _ _ _ _ _ (sV 0) (@slx _ _ _ _ _ _ _ (sV 1) (@slx _ _ _ _ _ _ _ (sGc G.DEEPEST) sl0 (by rfl)) (by rfl)) (by rfl)))))
theorem zw:DX "take_kind" kj ["words","at"] aE:=fun {_ _ _ _ _ _ _ _ _ _ _ s _ _} xs cs T G hr =>
 have S:=oN
 (@ss1 _ _ _ _ _ _ (rG (bN cs.x328 hr (@slx _ _ _ _ _ _ _ (sV 0) (@slx _ _ _ _ _ _ _ (sV 1) (@slx _ _ _ _ _ _ _ (sGc G.DEEPEST) sl0 (by rfl)) (by rfl)) (by rfl)))))
theorem qw:az ["words","at","depth","many","kind","after","number","taken"] ["words","at","depth"] (defScope jJ):=fsc
theorem zu:DD "take_kind_within" jJ ["words","at","depth","many","kind","after","number","taken"] ae:=fun {_ _ _ _ _ _ _ _ _ _ _ s _ _} xs cs T G hr =>
 have S:=qw
 (@ssc _ _ _ _ _ _ _ _ (@zIf _ _ _ _ _ _ _ _ _ _ _ _ (tW (wOr (wG (sV 1) (b0 (hm:=T.len) (ha:=(sV 0)))) (wO1 (i0 G.k_WITHIN (@aW _ _ _ _ _ _ _ _ _ (sV 0) (sV 1) (by intro _ _; rfl)))))) (@ss1 _ _ _ _ _ _ (bR xs.r_NoText hr (sV 1))) ss0)
    (@ssc _ _ _ _ _ _ _ _ (@aR _ _ _ _ _ _ _ 3 _ _ _ _ S.nd (yS G.c_WITHIN (@aW _ _ _ _ _ _ _ _ _ (sV 0) (sV 1) (by intro _ _; rfl))) (by decide) (by rfl) (by rfl) (by first | exact a0M rfl | exact a0H rfl) (by rfl) (by first | exact .inl rfl | exact .inr rfl))
    (@ssc _ _ _ _ _ _ _ _ (@zIf _ _ _ _ _ _ _ _ _ _ _ _ (tW (kg (qI (sV 3) sI) (wA1 (cH hr (sV 2) sI)))) (@ss1 _ _ _ _ _ _ (bR xs.r_NoText hr (sV 1))) ss0)
    (@ssc _ _ _ _ _ _ _ _ (@aR _ _ _ _ _ _ _ 4 _ _ _ _ S.nd (@sLx _ _ _ _ _ _ _ (by decide) (@slx _ _ _ _ _ _ _ (@aW _ _ _ _ _ _ _ _ _ (sV 0) (sV 1) (by intro _ _; rfl)) sl0 (by rfl))) (by decide) (by rfl) (by rfl) (by first | exact a0M rfl | exact a0H rfl) (by rfl) (by first | exact .inl rfl | exact .inr rfl))
    (@ssc _ _ _ _ _ _ _ _ (@aR _ _ _ _ _ _ _ 5 _ _ _ _ S.nd (bh (sV 1) sI) (by decide) (by rfl) (by rfl) (by first | exact a0M rfl | exact a0H rfl) (by rfl) (by first | exact .inl rfl | exact .inr rfl))
    (@ssc _ _ _ _ _ _ _ _ (i1 6 S.nd (wz (hm:=T.range) (ha:=(sV 3))) (@ssc _ _ _ _ _ _ _ _ (i9 7 S.nd (bN cs.x328 hr (@slx _ _ _ _ _ _ _ (sV 0) (@slx _ _ _ _ _ _ _ (sV 5) (@slx _ _ _ _ _ _ _ (ig (sV 2) sI) sl0 (by rfl)) (by rfl)) (by rfl))))
     (@ssc _ _ _ _ _ _ _ _ (xi 4 (@aW _ _ _ _ _ _ _ _ _ (sV 7) sI (by intro _ _; rfl)))
     (@ss1 _ _ _ _ _ _ (@aR _ _ _ _ _ _ _ 5 _ _ _ _ S.nd (@aW _ _ _ _ _ _ _ _ _ (sV 7) sI (by intro _ _; rfl)) (by decide) (by rfl) (by rfl) (by first | exact a0M rfl | exact a0H rfl) (by rfl) (by first | exact .inl rfl | exact .inr rfl))))))
    (@ss1 _ _ _ _ _ _ (@aX _ _ _ _ _ _ _ _ (@sTx _ _ _ _ _ _ _ (by decide) (@slx _ _ _ _ _ _ _ (m4 (hm:=T.tup) (ha:=(sM 4))) (@slx _ _ _ _ _ _ _ (sM 5) sl0 (by rfl)) (by rfl)))))))))))
theorem zW:DX "take_kind_within" jJ ["words","at","depth","many","kind","after","number","taken"] ae:=fun {_ _ _ _ _ _ _ _ _ _ _ s _ _} xs cs T G hr =>
 have S:=qw
 (@ssc _ _ _ _ _ _ _ _ (@zIf _ _ _ _ _ _ _ _ _ _ _ _ (tW (wOr (wG (sV 1) (b0 (hm:=T.len) (ha:=(sV 0)))) (wO1 (i0 G.k_WITHIN (@aW _ _ _ _ _ _ _ _ _ (sV 0) (sV 1) (by intro _ _; rfl)))))) (@ss1 _ _ _ _ _ _ (bR xs.r_NoText hr (sV 1))) ss0)
    (@ssc _ _ _ _ _ _ _ _ (@aR _ _ _ _ _ _ _ 3 _ _ _ _ S.nd (yS G.c_WITHIN (@aW _ _ _ _ _ _ _ _ _ (sV 0) (sV 1) (by intro _ _; rfl))) (by decide) (by rfl) (by rfl) (by first | exact a0M rfl | exact a0H rfl) (by rfl) (by first | exact .inl rfl | exact .inr rfl))
    (@ssc _ _ _ _ _ _ _ _ (@zIf _ _ _ _ _ _ _ _ _ _ _ _ (tW (kg (qI (sV 3) sI) (wA1 (cH hr (sV 2) sI)))) (@ss1 _ _ _ _ _ _ (bR xs.r_NoText hr (sV 1))) ss0)
    (@ssc _ _ _ _ _ _ _ _ (@aR _ _ _ _ _ _ _ 4 _ _ _ _ S.nd (@sLx _ _ _ _ _ _ _ (by decide) (@slx _ _ _ _ _ _ _ (@aW _ _ _ _ _ _ _ _ _ (sV 0) (sV 1) (by intro _ _; rfl)) sl0 (by rfl))) (by decide) (by rfl) (by rfl) (by first | exact a0M rfl | exact a0H rfl) (by rfl) (by first | exact .inl rfl | exact .inr rfl))
    (@ssc _ _ _ _ _ _ _ _ (@aR _ _ _ _ _ _ _ 5 _ _ _ _ S.nd (bh (sV 1) sI) (by decide) (by rfl) (by rfl) (by first | exact a0M rfl | exact a0H rfl) (by rfl) (by first | exact .inl rfl | exact .inr rfl))
    (@ssc _ _ _ _ _ _ _ _ (i1 (hp:=PassesOwn.leaving) 6 S.nd (wz (hm:=T.range) (ha:=(sV 3))) (@ssc _ _ _ _ _ _ _ _ (i9 7 S.nd (bN cs.x328 hr (@slx _ _ _ _ _ _ _ (sV 0) (@slx _ _ _ _ _ _ _ (sV 5) (@slx _ _ _ _ _ _ _ (ig (sV 2) sI) sl0 (by rfl)) (by rfl)) (by rfl))))
     (@ssc _ _ _ _ _ _ _ _ (xi 4 (@aW _ _ _ _ _ _ _ _ _ (sV 7) sI (by intro _ _; rfl)))
     (@ss1 _ _ _ _ _ _ (@aR _ _ _ _ _ _ _ 5 _ _ _ _ S.nd (@aW _ _ _ _ _ _ _ _ _ (sV 7) sI (by intro _ _; rfl)) (by decide) (by rfl) (by rfl) (by first | exact a0M rfl | exact a0H rfl) (by rfl) (by first | exact .inl rfl | exact .inr rfl))))))
    (@ss1 _ _ _ _ _ _ (@aX _ _ _ _ _ _ _ _ (@sTx _ _ _ _ _ _ _ (by decide) (@slx _ _ _ _ _ _ _ (m4 (hm:=T.tup) (ha:=(sM 4))) (@slx _ _ _ _ _ _ _ (sM 5) sl0 (by rfl)) (by rfl)))))))))))
theorem yf:az ["cell","left","way"] ["cell","left"] (defScope mO):=fsc
theorem zU:DD "_law_deep" mO ["cell","left","way"] f_law_deep:=fun {_ _ _ _ _ _ _ _ _ _ _ s _ _} xs cs T G hr =>
 have S:=yf
 (@ssc _ _ _ _ _ _ _ _ (@aR _ _ _ _ _ _ _ 2 _ _ _ _ S.nd (eT (sV 0) sI) (by decide) (by rfl) (by rfl) (by first | exact a0M rfl | exact a0H rfl) (by rfl) (by first | exact .inl rfl | exact .inr rfl))
    (@ssc _ _ _ _ _ _ _ _ (@zIf _ _ _ _ _ _ _ _ _ _ _ _ (tW (wOr (cH hr (sV 1) sI) (wO1 (nM (sV 2) sI)))) (@ss1 _ _ _ _ _ _ (@aX _ _ _ _ _ _ _ _ (zS (@sLx _ _ _ _ _ _ _ (by decide) (@slx _ _ _ _ _ _ _ sS (@slx _ _ _ _ _ _ _ sS sl0 (by rfl)) (by rfl))) (eT (sV 0) sI) (bh (eT (sV 0) sI) sI)))) ss0)
    (@ssc _ _ _ _ _ _ _ _ (@zIf _ _ _ _ _ _ _ _ _ _ _ _ (cH hr (sV 2) sI) (@ss1 _ _ _ _ _ _ (@aX _ _ _ _ _ _ _ _ (bh (bh (@sLx _ _ _ _ _ _ _ (by decide) (@slx _ _ _ _ _ _ _ sS sl0 (by rfl))) (bL cs.c322 hr (@bB _ _ _ _ _ _ _ (gn (sV 0) sI) (@bB _ _ _ _ _ _ _ (ig (sV 1) sI) sa0 (by intro _ z; cases z) (by rfl)) (by intro _ z; cases z) (by rfl)))) (bL cs.c322 hr (@bB _ _ _ _ _ _ _ (gn (sV 0) sI) (@bB _ _ _ _ _ _ _ (ig (sV 1) sI) sa0 (by intro _ z; cases z) (by rfl)) (by intro _ z; cases z) (by rfl)))))) ss0)
    (@ss1 _ _ _ _ _ _ (@aX _ _ _ _ _ _ _ _ (bh (@sLx _ _ _ _ _ _ _ (by decide) (@slx _ _ _ _ _ _ _ sS sl0 (by rfl))) (bL cs.c322 hr (@bB _ _ _ _ _ _ _ (gn (sM 0) sI) (@bB _ _ _ _ _ _ _ (ig (sM 1) sI) sa0 (by intro _ z; cases z) (by rfl)) (by intro _ z; cases z) (by rfl)))))))))
theorem yD:az ["words","cell","at","way","some","other"] ["words","cell"] (defScope l0):=fsc
theorem Ab:DD "_law_bent" l0 ["words","cell","at","way","some","other"] au:=fun {_ _ _ _ _ _ _ _ _ _ _ s _ _} xs cs T G hr =>
 have S:=yD
 (@ssc _ _ _ _ _ _ _ _ (@aR _ _ _ _ _ _ _ 2 _ _ _ _ S.nd (eT (sV 1) (b0 (hm:=T.len) (ha:=(sV 0)))) (by decide) (by rfl) (by rfl) (by first | exact a0M rfl | exact a0H rfl) (by rfl) (by first | exact .inl rfl | exact .inr rfl))
    (@ssc _ _ _ _ _ _ _ _ (@aR _ _ _ _ _ _ _ 3 _ _ _ _ S.nd (eT (gn (sV 1) sI) sI) (by decide) (by rfl) (by rfl) (by first | exact a0M rfl | exact a0H rfl) (by rfl) (by first | exact .inl rfl | exact .inr rfl))
    (@ssc _ _ _ _ _ _ _ _ (@aR _ _ _ _ _ _ _ 4 _ _ _ _ S.nd (@sLx _ _ _ _ _ _ _ (by decide) (@slx _ _ _ _ _ _ _ sS (@slx _ _ _ _ _ _ _ sS (@slx _ _ _ _ _ _ _ sS (@slx _ _ _ _ _ _ _ sS (@slx _ _ _ _ _ _ _ sS (@slx _ _ _ _ _ _ _ sS (@slx _ _ _ _ _ _ _ sS (@slx _ _ _ _ _ _ _ sS (@slx _ _ _ _ _ _ _ sS (@slx _ _ _ _ _ _ _ sS (@slx _ _ _ _ _ _ _ sS (@slx _ _ _ _ _ _ _ sS (@slx _ _ _ _ _ _ _ sS (@slx _ _ _ _ _ _ _ sS sl0 (by rfl)) (by rfl)) (by rfl)) (by rfl)) (by rfl)) (by rfl)) (by rfl)) (by rfl)) (by rfl)) (by rfl)) (by rfl)) (by rfl)) (by rfl)) (by rfl))) (by decide) (by rfl) (by rfl) (by first | exact a0M rfl | exact a0H rfl) (by rfl) (by first | exact .inl rfl | exact .inr rfl))
    (@ssc _ _ _ _ _ _ _ _ (@aR _ _ _ _ _ _ _ 4 _ _ _ _ S.nd (bh (sV 4) (@sLx _ _ _ _ _ _ _ (by decide) (@slx _ _ _ _ _ _ _ sS (@slx _ _ _ _ _ _ _ sS (@slx _ _ _ _ _ _ _ sS (@slx _ _ _ _ _ _ _ sS sl0 (by rfl)) (by rfl)) (by rfl)) (by rfl)))) (by decide) (by rfl) (by rfl) (by first | exact a0M rfl | exact a0H rfl) (by rfl) (by first | exact .inl rfl | exact .inr rfl))
    (@ssc _ _ _ _ _ _ _ _ (@aR _ _ _ _ _ _ _ 5 _ _ _ _ S.nd (@aW _ _ _ _ _ _ _ _ _ (sV 4) (eT (gn (sV 1) sI) sI) (by intro _ _; rfl)) (by decide) (by rfl) (by rfl) (by first | exact a0M rfl | exact a0H rfl) (by rfl) (by first | exact .inl rfl | exact .inr rfl))
    (@ssc _ _ _ _ _ _ _ _ (@zIf _ _ _ _ _ _ _ _ _ _ _ _ (cH hr (sV 3) sI) (@ss1 _ _ _ _ _ _ (@aX _ _ _ _ _ _ _ _ (bh (fF (sV 0) (sV 2)) (p8 (sV 0) (bh (sV 2) sI))))) ss0)
    (@ssc _ _ _ _ _ _ _ _ (@zIf _ _ _ _ _ _ _ _ _ _ _ _ (cH hr (sV 3) sI) (@ss1 _ _ _ _ _ _ (@aX _ _ _ _ _ _ _ _ (bh (bh (fF (sV 0) (sV 2)) (@sLx _ _ _ _ _ _ _ (by decide) (@slx _ _ _ _ _ _ _ (sM 5) sl0 (by rfl)))) (p8 (sV 0) (sV 2))))) ss0)
    (@ssc _ _ _ _ _ _ _ _ (@zIf _ _ _ _ _ _ _ _ _ _ _ _ (cH hr (sV 3) sI) (@ss1 _ _ _ _ _ _ (@aX _ _ _ _ _ _ _ _ (bh (bh (fF (sV 0) (sV 2)) (@sLx _ _ _ _ _ _ _ (by decide) (@slx _ _ _ _ _ _ _ (@aW _ _ _ _ _ _ _ _ _ (sV 0) (sV 2) (by intro _ _; rfl)) sl0 (by rfl)))) (p8 (sV 0) (sV 2))))) ss0)
    (@ssc _ _ _ _ _ _ _ _ (@zIf _ _ _ _ _ _ _ _ _ _ _ _ (cH hr (sV 3) sI) (@ss1 _ _ _ _ _ _ (@aX _ _ _ _ _ _ _ _ (fF (sM 0) (bh (sM 2) sI)))) ss0)
    (@ssc _ _ _ _ _ _ _ _ (@zIf _ _ _ _ _ _ _ _ _ _ _ _ (cH hr (sV 3) sI) (@ss1 _ _ _ _ _ _ (@aX _ _ _ _ _ _ _ _ (bh (bh (fF (sV 0) (sV 2)) (@sLx _ _ _ _ _ _ _ (by decide) (@slx _ _ _ _ _ _ _ (sM 5) sl0 (by rfl)))) (p8 (sV 0) (bh (sV 2) sI))))) ss0)
    (@ssc _ _ _ _ _ _ _ _ (@zIf _ _ _ _ _ _ _ _ _ _ _ _ (cH hr (sV 3) sI) (@ss1 _ _ _ _ _ _ (@aX _ _ _ _ _ _ _ _ (bh (fF (sV 0) (wY sI)) (@sLx _ _ _ _ _ _ _ (by decide) (@slx _ _ _ _ _ _ _ (bh (@aW _ _ _ _ _ _ _ _ _ (sV 0) (wY sI) (by intro _ _; rfl)) (@aW _ _ _ _ _ _ _ _ _ (@sLx _ _ _ _ _ _ _ (by decide) (@slx _ _ _ _ _ _ _ sS (@slx _ _ _ _ _ _ _ sS (@slx _ _ _ _ _ _ _ sS sl0 (by rfl)) (by rfl)) (by rfl))) (eT (gn (sM 1) sI) sI) (by intro _ _; rfl))) sl0 (by rfl)))))) ss0)
    (@ss1 _ _ _ _ _ _ (@aX _ _ _ _ _ _ _ _ (sM 0))))))))))))))
theorem yH:az ["words","waiting","at","deep","many"] ["words"] (defScope kU):=fsc
theorem Am:DD "_law_due" kU ["words","waiting","at","deep","many"] bH:=fun {_ _ _ _ _ _ _ _ _ _ _ s _ _} xs cs T G hr =>
 have S:=yH
 (@ssc _ _ _ _ _ _ _ _ (@aR _ _ _ _ _ _ _ 1 _ _ _ _ S.nd (@sLx _ _ _ _ _ _ _ (by decide) (@slx _ _ _ _ _ _ _ sI sl0 (by rfl))) (by decide) (by rfl) (by rfl) (by first | exact a0M rfl | exact a0H rfl) (by rfl) (by first | exact .inl rfl | exact .inr rfl))
    (@ssc _ _ _ _ _ _ _ _ (i1 2 S.nd (wz (hm:=T.range) (ha:=(b0 (hm:=T.len) (ha:=(sV 0))))) (@ssc _ _ _ _ _ _ _ _ (@zIf _ _ _ _ _ _ _ _ _ _ _ _ (cH hr (b0 (hm:=T.len) (ha:=(sV 1))) sI) (@ss1 _ _ _ _ _ _ (@aX _ _ _ _ _ _ _ _ (@sTx _ _ _ _ _ _ _ (by decide) (@slx _ _ _ _ _ _ _ (sM 2) (@slx _ _ _ _ _ _ _ sO sl0 (by rfl)) (by rfl))))) ss0)
     (@ssc _ _ _ _ _ _ _ _ (@aR _ _ _ _ _ _ _ 3 _ _ _ _ S.nd (w9 1) (by decide) (by rfl) (by rfl) (by first | exact a0M rfl | exact a0H rfl) (by rfl) (by first | exact .inl rfl | exact .inr rfl))
     (@ssc _ _ _ _ _ _ _ _ (@aR _ _ _ _ _ _ _ 4 _ _ _ _ S.nd (vm (tab:=[(a1A "num",0),(a1A "truth",0),(a1A "row",1),(a1A "pair",2)]) (pd1 dX cU (pd1 dX cU (pd1 dX cU (pd1 dX cU pd0)))) hr (@aW _ _ _ _ _ _ _ _ _ (sV 0) (sV 2) (by intro _ _; rfl)) n0 (by rfl) (by decide) (by rfl) (by rfl) (by intro z; cases z) (by decide)) (by decide) (by rfl) (by rfl) (by first | exact a0M rfl | exact a0H rfl) (by rfl) (by first | exact .inl rfl | exact .inr rfl))
     (@ssc _ _ _ _ _ _ _ _ (@zIf _ _ _ _ _ _ _ _ _ _ _ _ (tW (wOr (nM (sV 4) sI) (wO1 (tW (kg (qI (sV 4) sI) (wA1 (cH hr (sV 3) sI))))))) (@ss1 _ _ _ _ _ _ (@aX _ _ _ _ _ _ _ _ (@sTx _ _ _ _ _ _ _ (by decide) (@slx _ _ _ _ _ _ _ (sM 2) (@slx _ _ _ _ _ _ _ sO sl0 (by rfl)) (by rfl))))) ss0)
     (@ss1 _ _ _ _ _ _ (@aR _ _ _ _ _ _ _ 1 _ _ _ _ S.nd (bh (sV 1) (AK (@sLx _ _ _ _ _ _ _ (by decide) (@slx _ _ _ _ _ _ _ (bh (sV 3) sI) sl0 (by rfl))) (sV 4))) (by decide) (by rfl) (by rfl) (by first | exact a0M rfl | exact a0H rfl) (by rfl) (by first | exact .inl rfl | exact .inr rfl))))))))
    (@ss1 _ _ _ _ _ _ (@aX _ _ _ _ _ _ _ _ (@sTx _ _ _ _ _ _ _ (by decide) (@slx _ _ _ _ _ _ _ (b0 (hm:=T.len) (ha:=(sM 0))) (@slx _ _ _ _ _ _ _ (sEq hr (b0 (hm:=T.len) (ha:=(sM 1))) sI) sl0 (by rfl)) (by rfl)))))))
theorem x8:az ["words","taking","told","caught","ahead","e","others"] ["words","taking"] (defScope lA):=fsc
theorem AI:DD "_law_told" lA ["words","taking","told","caught","ahead","e","others"] aI:=fun {_ _ _ _ _ _ _ _ _ _ _ s _ _} xs cs T G hr =>
 have S:=x8
 (@ssc _ _ _ _ _ _ _ _ (@aR _ _ _ _ _ _ _ 2 _ _ _ _ S.nd sN (by decide) (by rfl) (by rfl) (by first | exact a0M rfl | exact a0H rfl) (by rfl) (by first | exact .inl rfl | exact .inr rfl))
    (@ssc _ _ _ _ _ _ _ _ (@aR _ _ _ _ _ _ _ 3 _ _ _ _ S.nd sN (by decide) (by rfl) (by rfl) (by first | exact a0M rfl | exact a0H rfl) (by rfl) (by first | exact .inl rfl | exact .inr rfl))
    (@ssc _ _ _ _ _ _ _ _ (@aR _ _ _ _ _ _ _ 4 _ _ _ _ S.nd (sIf (tB (sV 1)) (fF (@sLx _ _ _ _ _ _ _ (by decide) (@slx _ _ _ _ _ _ _ sS (@slx _ _ _ _ _ _ _ sS (@slx _ _ _ _ _ _ _ sS sl0 (by rfl)) (by rfl)) (by rfl))) (eT (b0 (hm:=T.len) (ha:=(sV 0))) sI)) (@sLx _ _ _ _ _ _ _ (by decide) sl0)) (by decide) (by rfl) (by rfl) (by first | exact a0M rfl | exact a0H rfl) (by rfl) (by first | exact .inl rfl | exact .inr rfl))
    (@ssc _ _ _ _ _ _ _ _ (wg 5 S.nd xs.b_BroadError (fun _ _=>(@ss1 _ _ _ _ _ _ (oh 2 S.nd (tB (sV 1)) (bN cs.x327 hr (@slx _ _ _ _ _ _ _ (bh (sV 4) (sV 0)) (@slx _ _ _ _ _ _ _ (b0 (hm:=T.len) (ha:=(sV 4))) sl0 (by rfl)) (by rfl))) (bN cs.x326 hr (@slx _ _ _ _ _ _ _ (rL sS (sV 0)) sl0 (by rfl)))))) (fun _=>(@ss1 _ _ _ _ _ _ (@aR _ _ _ _ _ _ _ 3 _ _ _ _ S.nd (sV 5) (by decide) (by rfl) (by rfl) (by first | exact a0M rfl | exact a0H rfl) (by rfl) (by first | exact .inl rfl | exact .inr rfl)))))
    (@ssc _ _ _ _ _ _ _ _ (@zIf _ _ _ _ _ _ _ _ _ _ _ _ (zO (sV 3) sN) (@ss1 _ _ _ _ _ _ (@aX _ _ _ _ _ _ _ _ (@sTx _ _ _ _ _ _ _ (by decide) (@slx _ _ _ _ _ _ _ sS (@slx _ _ _ _ _ _ _ (sIf (tB (sM 1)) (@sTx _ _ _ _ _ _ _ (by decide) (@slx _ _ _ _ _ _ _ (@aW _ _ _ _ _ _ _ _ _ (sV 2) sI (by intro _ _; rfl)) (@slx _ _ _ _ _ _ _ (ig (@aW _ _ _ _ _ _ _ _ _ (sV 2) sI (by intro _ _; rfl)) (b0 (hm:=T.len) (ha:=(sM 4)))) sl0 (by rfl)) (by rfl))) (sV 2)) sl0 (by rfl)) (by rfl))))) ss0)
    (@ssc _ _ _ _ _ _ _ _ (@aR _ _ _ _ _ _ _ 6 _ _ _ _ S.nd (yE xs.t_NoKind_NoLine_NoPlace_NoRule_NoThing (pn1 xs.i_NoKind (pn1 xs.i_NoLine (pn1 xs.i_NoPlace (pn1 xs.i_NoRule (pn1 xs.i_NoThing pn0))))) (by decide) T.isin (sV 3)) (by decide) (by rfl) (by rfl) (by first | exact a0M rfl | exact a0H rfl) (by rfl) (by first | exact .inl rfl | exact .inr rfl))
    (@ssc _ _ _ _ _ _ _ _ (@zIf _ _ _ _ _ _ _ _ _ _ _ _ (tW (wOr (tB (sV 6)) (wOr (mK (tB (yA xs.i_NoText T.isin (sV 3)))) (wO1 (mK (tB (yw xs.i_ValueError T.isin (sV 3) xs.m_ValueError))))))) (@ss1 _ _ _ _ _ _ (@aX _ _ _ _ _ _ _ _ (@sTx _ _ _ _ _ _ _ (by decide) (@slx _ _ _ _ _ _ _ sS (@slx _ _ _ _ _ _ _ sN sl0 (by rfl)) (by rfl))))) ss0)
    (@ss1 _ _ _ _ _ _ (@aX _ _ _ _ _ _ _ _ (@sTx _ _ _ _ _ _ _ (by decide) (@slx _ _ _ _ _ _ _ sS (@slx _ _ _ _ _ _ _ (ig (zK (sM 3) xs.f_at) (b0 (hm:=T.len) (ha:=(sM 4)))) sl0 (by rfl)) (by rfl))))))))))))
theorem S0:az ["script","cell","words","at","whole","told"] ["script"] (defScope s0):=fsc
theorem D0:DD "law" s0 ["script","cell","words","at","whole","told"] f_law:=fun {_ _ _ _ _ _ _ _ _ _ _ s _ _} xs cs T G hr =>
 have S:=S0
 (@ssc _ _ _ _ _ _ _ _ (i1 1 S.nd (zx (sIf (qI (b0 (hm:=T.len) (ha:=(sV 0))) sI) (fF (sV 0) sI) (@sLx _ _ _ _ _ _ _ (by decide) (@slx _ _ _ _ _ _ _ sI sl0 (by rfl))))) (@ssc _ _ _ _ _ _ _ _ (@aR _ _ _ _ _ _ _ 2 _ _ _ _ S.nd (bL cs.c332 hr (@bB _ _ _ _ _ _ _ (bL cs.c322 hr (@bB _ _ _ _ _ _ _ (gn (sV 1) sI) (@bB _ _ _ _ _ _ _ (bh sI (eT (sV 1) sI)) sa0 (by intro _ z; cases z) (by rfl)) (by intro _ z; cases z) (by rfl))) (@bB _ _ _ _ _ _ _ (gn (sV 1) sI) sa0 (by intro _ z; cases z) (by rfl)) (by intro _ z; cases z) (by rfl))) (by decide) (by rfl) (by rfl) (by first | exact a0M rfl | exact a0H rfl) (by rfl) (by first | exact .inl rfl | exact .inr rfl))
      (@ssc _ _ _ _ _ _ _ _ (@zIf _ _ _ _ _ _ _ _ _ _ _ _ (cH hr (b0 (hm:=T.len) (ha:=(sV 2))) sI) (@ss1 _ _ _ _ _ _ (@aR _ _ _ _ _ _ _ 2 _ _ _ _ S.nd (@sLx _ _ _ _ _ _ _ (by decide) (@slx _ _ _ _ _ _ _ sS sl0 (by rfl))) (by decide) (by rfl) (by rfl) (by first | exact a0M rfl | exact a0H rfl) (by rfl) (by first | exact .inl rfl | exact .inr rfl))) ss0)
      (@ssc _ _ _ _ _ _ _ _ (x9 3 4 S.nd (bL cs.c329 hr (@bB _ _ _ _ _ _ _ (sV 2) sa0 (by intro _ z; cases z) (by rfl))))
      (@ssc _ _ _ _ _ _ _ _ (@aR _ _ _ _ _ _ _ 5 _ _ _ _ S.nd (bL cs.c331 hr (@bB _ _ _ _ _ _ _ (sV 2) (@bB _ _ _ _ _ _ _ sO sa0 (by intro _ z; cases z) (by rfl)) (by intro _ z; cases z) (by rfl))) (by decide) (by rfl) (by rfl) (by first | exact a0M rfl | exact a0H rfl) (by rfl) (by first | exact .inl rfl | exact .inr rfl))
      (@ss1 _ _ _ _ _ _ (@zIf _ _ _ _ _ _ _ _ _ _ _ _ (tW (kg (cH hr (sV 3) (b0 (hm:=T.len) (ha:=(sV 2)))) (wA1 (tB (sV 4))))) (@ss1 _ _ _ _ _ _ (@zIf _ _ _ _ _ _ _ _ _ _ _ _ (tW (wOr (ko hr (@aW _ _ _ _ _ _ _ _ _ (sV 5) sI (by intro _ _; rfl)) sS) (wO1 (ko hr (bL cs.c331 hr (@bB _ _ _ _ _ _ _ (sV 2) (@bB _ _ _ _ _ _ _ sO sa0 (by intro _ z; cases z) (by rfl)) (by intro _ z; cases z) (by rfl))) (@sTx _ _ _ _ _ _ _ (by decide) (@slx _ _ _ _ _ _ _ sS (@slx _ _ _ _ _ _ _ (@sTx _ _ _ _ _ _ _ (by decide) (@slx _ _ _ _ _ _ _ (@aW _ _ _ _ _ _ _ _ _ (sV 5) sI (by intro _ _; rfl)) (@slx _ _ _ _ _ _ _ (sV 3) sl0 (by rfl)) (by rfl))) sl0 (by rfl)) (by rfl))))))) (@ss1 _ _ _ _ _ _ (@aX _ _ _ _ _ _ _ _ sO)) ss0)) (@ss1 _ _ _ _ _ _ (@zIf _ _ _ _ _ _ _ _ _ _ _ _ (ko hr (sV 5) (@sTx _ _ _ _ _ _ _ (by decide) (@slx _ _ _ _ _ _ _ sS (@slx _ _ _ _ _ _ _ (sV 3) sl0 (by rfl)) (by rfl)))) (@ss1 _ _ _ _ _ _ (@aX _ _ _ _ _ _ _ _ sO)) (@ss1 _ _ _ _ _ _ (@zIf _ _ _ _ _ _ _ _ _ _ _ _ (tW (kg (tB (sV 4)) (wA1 (ko hr (bL cs.c331 hr (@bB _ _ _ _ _ _ _ (sV 2) (@bB _ _ _ _ _ _ _ sO sa0 (by intro _ z; cases z) (by rfl)) (by intro _ z; cases z) (by rfl))) (@sTx _ _ _ _ _ _ _ (by decide) (@slx _ _ _ _ _ _ _ sS (@slx _ _ _ _ _ _ _ (@sTx _ _ _ _ _ _ _ (by decide) (@slx _ _ _ _ _ _ _ (bL cs.c326 hr (@bB _ _ _ _ _ _ _ (rL sS (fF (sV 2) (sV 3))) sa0 (by intro _ z; cases z) (by rfl))) (@slx _ _ _ _ _ _ _ (sV 3) sl0 (by rfl)) (by rfl))) sl0 (by rfl)) (by rfl))))))) (@ss1 _ _ _ _ _ _ (@aX _ _ _ _ _ _ _ _ sO)) (@ss1 _ _ _ _ _ _ (@zIf _ _ _ _ _ _ _ _ _ _ _ _ (tW (kg (mK (tB (sV 4))) (wA1 (ko hr (bL cs.c331 hr (@bB _ _ _ _ _ _ _ (sV 2) (@bB _ _ _ _ _ _ _ sO sa0 (by intro _ z; cases z) (by rfl)) (by intro _ z; cases z) (by rfl))) (@sTx _ _ _ _ _ _ _ (by decide) (@slx _ _ _ _ _ _ _ sS (@slx _ _ _ _ _ _ _ (sV 3) sl0 (by rfl)) (by rfl))))))) (@ss1 _ _ _ _ _ _ (@aX _ _ _ _ _ _ _ _ sO)) ss0)))))))))))))
    (@ss1 _ _ _ _ _ _ (@aX _ _ _ _ _ _ _ _ sO)))
end A03

namespace A03
open PySem PySem.Spec PyProof.Rows L2 L3 MR
noncomputable abbrev Cl (n:Nat):M.Call:=M.callR prog 1000000 1000001 n
section
variable {P:Program}{w:World}{K:a0a}{mg:Str->Option Value}{base:Heap}
theorem all (d326:Df K mg "read_kind" kf ["text"])(d327:Df K mg "take_kind" kj ["words","at"])(d328:Df K mg "take_kind_within" jJ ["words","at","depth"])(d322:Df K mg "_law_deep" mO ["cell","left"])(d332:Df K mg "_law_bent" l0 ["words","cell"])(d329:Df K mg "_law_due" kU ["words"])(d331:Df K mg "_law_told" lA ["words","taking"])  (T:Txt mg)(G:Glb K w mg)(xs:Xs P w K mg base):∀ n,Calls P w K mg base (n+2) (Cl n)
 | 0 =>
  have c326:ao P w K mg base (0+2) (Cl 0) "read_kind" 326 []:=d326.z
  have x326:bC P w K mg base (0+2) (Cl 0) "read_kind" 326:=d326.zX
  have c327:ao P w K mg base (0+2) (Cl 0) "take_kind" 327 []:=d327.z
  have x327:bC P w K mg base (0+2) (Cl 0) "take_kind" 327:=d327.zX
  have c328:ao P w K mg base (0+2) (Cl 0) "take_kind_within" 328 []:=d328.z
  have x328:bC P w K mg base (0+2) (Cl 0) "take_kind_within" 328:=d328.zX
  have c322:ao P w K mg base (0+2) (Cl 0) "_law_deep" 322 []:=d322.z
  have c332:ao P w K mg base (0+2) (Cl 0) "_law_bent" 332 []:=d332.z
  have c329:ao P w K mg base (0+2) (Cl 0) "_law_due" 329 []:=d329.z
  have c331:ao P w K mg base (0+2) (Cl 0) "_law_told" 331 []:=d331.z
  ⟨c326,x326,c327,x327,c328,x328,c322,c332,c329,c331⟩
 | n+1 =>
  have c:=all d326 d327 d328 d322 d332 d329 d331  T G xs n
  have c326:ao P w K mg base ((n+1)+2) (Cl (n+1)) "read_kind" 326 []:=d326.s ay om (C:=Cl n) (by intro f cdv A outer s H E h; exact @zC P w K mg base n (Cl n) f cdv A outer s H E xs c T G h)
  have x326:bC P w K mg base ((n+1)+2) (Cl (n+1)) "read_kind" 326:=d326.sX ay om (C:=Cl n) (by intro f cdv A outer s H E h; exact @Ag P w K mg base n (Cl n) f cdv A outer s H E xs c T G h)
  have c327:ao P w K mg base ((n+1)+2) (Cl (n+1)) "take_kind" 327 []:=d327.s aE oN (C:=Cl n) (by intro f cdv A outer s H E h; exact @zI P w K mg base n (Cl n) f cdv A outer s H E xs c T G h)
  have x327:bC P w K mg base ((n+1)+2) (Cl (n+1)) "take_kind" 327:=d327.sX aE oN (C:=Cl n) (by intro f cdv A outer s H E h; exact @zw P w K mg base n (Cl n) f cdv A outer s H E xs c T G h)
  have c328:ao P w K mg base ((n+1)+2) (Cl (n+1)) "take_kind_within" 328 []:=d328.s ae qw (C:=Cl n) (by intro f cdv A outer s H E h; exact @zu P w K mg base n (Cl n) f cdv A outer s H E xs c T G h)
  have x328:bC P w K mg base ((n+1)+2) (Cl (n+1)) "take_kind_within" 328:=d328.sX ae qw (C:=Cl n) (by intro f cdv A outer s H E h; exact @zW P w K mg base n (Cl n) f cdv A outer s H E xs c T G h)
  have c322:ao P w K mg base ((n+1)+2) (Cl (n+1)) "_law_deep" 322 []:=d322.s f_law_deep yf (C:=Cl n) (by intro f cdv A outer s H E h; exact @zU P w K mg base n (Cl n) f cdv A outer s H E xs c T G h)
  have c332:ao P w K mg base ((n+1)+2) (Cl (n+1)) "_law_bent" 332 []:=d332.s au yD (C:=Cl n) (by intro f cdv A outer s H E h; exact @Ab P w K mg base n (Cl n) f cdv A outer s H E xs c T G h)
  have c329:ao P w K mg base ((n+1)+2) (Cl (n+1)) "_law_due" 329 []:=d329.s bH yH (C:=Cl n) (by intro f cdv A outer s H E h; exact @Am P w K mg base n (Cl n) f cdv A outer s H E xs c T G h)
  have c331:ao P w K mg base ((n+1)+2) (Cl (n+1)) "_law_told" 331 []:=d331.s aI x8 (C:=Cl n) (by intro f cdv A outer s H E h; exact @AI P w K mg base n (Cl n) f cdv A outer s H E xs c T G h)
  ⟨c326,x326,c327,x327,c328,x328,c322,c332,c329,c331⟩
end
theorem pure_law:∀ ns:List Int,ns.length<=63->∃ m bs,Cl 40 0 [(.d,.scr ns)]=.ok ((m,.bl true),bs):=fun ns _=>P03.pure_law ns
theorem all_mk {l:a2m}{w:World}{K:a0a}{h:Heap}{mg:Str->Option Value}{fa:Addr}(X:K.In h)(G:h.Ns mainGlobals mg)(hfa:mg "law"=some (.ref fa))(r326:Raw K "read_kind" kf .none)(r327:Raw K "take_kind" kj .none)(r328:Raw K "take_kind_within" jJ .none)(r322:Raw K "_law_deep" mO .none)(r332:Raw K "_law_bent" l0 .none)(r329:Raw K "_law_due" kU .none)(r331:Raw K "_law_told" lA .none)(r0:Raw K "law" s0 .none)(g0:∃ t,a08 K mainGlobals "DEEPEST"=some (some (.int 5 t)))(q_WITHIN:∃ T,TabRaw K w "WITHIN" T/\T.map a3g=keys_WITHIN/\CstL K tab_WITHIN T)(tx:vQ K ["isinstance","int","tuple","list","bool","sum","len","all","zip","range","enumerate","any","max","min","sorted","str","repr","abs","dict","set","reversed"])(xs:∀ base,Xs l.prog w K mg base) :
  ∃ fd:FuncData,(∀ (s:Shared) (v:Value),BindsTo s fd ⟨[v],[]⟩ [("script",v)])/\∀ base:Heap,K.In base->base.Ns mainGlobals mg->ba l.prog w K mg base CX0 42 fa fd ["script"] (spS K (Cl 40) 0 []):=by
 have d326:Df K mg "read_kind" kf ["text"]:=d6 X G r326 fun _ _ _ _ _ _ us hl=>match us,hl with | [_],_=>rfl
 have d327:Df K mg "take_kind" kj ["words","at"]:=d6 X G r327 fun _ _ _ _ _ _ us hl=>match us,hl with | [_,_],_=>rfl
 have d328:Df K mg "take_kind_within" jJ ["words","at","depth"]:=d6 X G r328 fun _ _ _ _ _ _ us hl=>match us,hl with | [_,_,_],_=>rfl
 have d322:Df K mg "_law_deep" mO ["cell","left"]:=d6 X G r322 fun _ _ _ _ _ _ us hl=>match us,hl with | [_,_],_=>rfl
 have d332:Df K mg "_law_bent" l0 ["words","cell"]:=d6 X G r332 fun _ _ _ _ _ _ us hl=>match us,hl with | [_,_],_=>rfl
 have d329:Df K mg "_law_due" kU ["words"]:=d6 X G r329 fun _ _ _ _ _ _ us hl=>match us,hl with | [_],_=>rfl
 have d331:Df K mg "_law_told" lA ["words","taking"]:=d6 X G r331 fun _ _ _ _ _ _ us hl=>match us,hl with | [_,_],_=>rfl
 have T:=wq X G tx
 obtain ⟨_,q_WITHIN,qk_WITHIN,qc_WITHIN⟩:=q_WITHIN
 have Gm:Glb K w mg:=⟨(let ⟨t,z⟩:=g0; ⟨t,a0R X G z⟩),(oi X G q_WITHIN qk_WITHIN),(p7 X G q_WITHIN qc_WITHIN)⟩
 exact ou X G hfa r0 (fun _ _ _ _ _ _ _ _=>.of_eq rfl) fun f fd F base=>Fun.okM F S0 rfl (by decide) (by decide) (by decide) (fun _ _ _ _ _ _ h=>D0 (xs base) (all d326 d327 d328 d322 d332 d329 d331  T Gm (xs base) 39) T Gm h) fun _=>rfl
end A03

namespace I03
open PySem PySem.Spec PyProof.Rows L2 L3 MR
noncomputable def top (i:Nat):Stmt:=PySem.Challenge.pw_broadrow_k03_no_kinds_texts.main.body.getD i (.Pass ⟨0,0,0,0⟩)
noncomputable def sr:Stmt->List Stmt
 | .ClassDef _ _ _ b _ _ _ _ _ _ _=>b
 | _=>[]
noncomputable def ini (i:Nat):Stmt:=(sr (top i)).getD 0 (.Pass ⟨0,0,0,0⟩)
noncomputable abbrev s_NoText:Stmt:=ini 2
theorem mG:az ["self","at"] ["self","at"] (defScope s_NoText):=fsc
theorem ok_NoText {P:Program}{w:World}{K:a0a}{mg:Str->Option Value}{base:Heap}{f:Addr}{fd:FuncData}{B C fI:Addr}{up:List Value}{k:Nat}(F:L2.Fun K "__init__" "NoText.__init__" s_NoText f fd)(hm:mg "BroadError"=some (.ref B))(b:XB K B)(c:XC K C fI up)(tk:a1S K C "at"=some none) :
  ba P w K mg base CX0 (k+1) f fd ["self","at"] (spI K C "at" 0):=by
 have len:∀ vs H Q E,spI K C "at" 0 vs H Q E->vs.length=["self","at"].length:=fun vs H Q E ⟨a,n,e,_⟩=>by rw [e]; rfl
 refine F.ok mG len fun cdv A outer s H vs Q E hr h=>⟨_,gp (jd (lN (B:=B) b rfl hm (aN (bJ (i:=0) rfl (.inl rfl)) (aN (pY (by decide) (bJ (i:=1) rfl (.inl rfl))) bM))) rfl) (iT (oZ (bJ (i:=0) rfl (.inl rfl)) (bJ (i:=1) rfl (.inl rfl)) rfl)),?_⟩
 obtain ⟨a,y,rfl,⟨n,rfl,hn⟩,ha,q⟩:=h
 exact ⟨.ref a,rfl,.int n,rfl,n,rfl,hn,fun y=>⟨a,C,none,true,[.str y],fI,up,rfl,(by show 1<=sizeLine; rw [sizeLine_eq]; omega),ha,c,.int n,rfl,.ref a,rfl,a,C,true,fI,up,rfl,ha,c,tk,q⟩⟩
end I03

set_option maxHeartbeats 0
namespace H03
open PySem PySem.W TP
noncomputable abbrev pr:Program:=PySem.Challenge.pw_broadrow_k03_no_kinds_texts
noncomputable def tn (i:Nat):Stmt:=pr.main.body.getD i (.Pass p0)
noncomputable def rc:List Rc:=[.m,
.x "BroadError" 206 (.ref 24) (fun P=>[tu [.type "ValueError"],⟨.type "builtin_function_or_method",none,.fields #[.builtin "type.__prepare__",.type "type"],#[]⟩,di [en P "__module__" 196 (.str "broadrow.errors" 187),en P "__qualname__" 198 (.str "BroadError" 197),en P "__firstlineno__" 200 (.int (2) 199),en P "__static_attributes__" 201 (.ref 22)] 4,tu [],fe [],cdo "BroadError" "BroadError" 191 194 2 0 0 18 false .none .none .none,⟨.type "frame",none,.plain,#[some (.ref 20),some (.ref 3),some (.ref 17),none,some (.str "broadrow.errors" 187),none,some (.ref 0)]⟩,tu [],di [en P "__module__" 196 (.str "broadrow.errors" 187),en P "__firstlineno__" 200 (.int (2) 199),en P "__static_attributes__" 201 (.ref 22),en P "__weakref__" 203 (.ref 25),en P "__doc__" 204 .none] 3,⟨.type "type",none,.cls {name:="BroadError",bases:=[.type "ValueError"],mro:=[.ref 24,.type "ValueError",.type "Exception",.type "BaseException",.type "object"],ns:=23,qualname:="BroadError",subclasses:=[.ref 44,.ref 63,.ref 82,.ref 101,.ref 120,.ref 139]},#[some (.ref 15),none,some (.str "BroadError" 189),some (.str "BroadError" 197),some (.builtin "ValueError.__new__"),some (.bool true)]⟩,⟨.type "getset_descriptor",none,.fields #[.str "__weakref__" 202,.ref 24,.builtin "ExceptionGroup.__weakref__",.none],#[]⟩,⟨.type "super",none,.fields #[.ref 24,.ref 24,.ref 24],#[]⟩,⟨.type "builtin_function_or_method",none,.fields #[.builtin "object.__init_subclass__",.ref 24],#[]⟩]) [iv 2,iv 0,.ref 20] 28 207,
.x "NoText" 231 (.ref 44) (fun P=>[tu [.ref 24],⟨.type "builtin_function_or_method",none,.fields #[.builtin "type.__prepare__",.type "type"],#[]⟩,di [en P "__module__" 214 (.str "broadrow.errors" 187),en P "__qualname__" 216 (.str "NoText" 215),en P "__firstlineno__" 218 (.int (4) 217),en P "__init__" 226 (.ref 41),en P "__static_attributes__" 228 (.ref 42)] 5,tu [],fe [iv 6,iv 4,.ref 40],cdo "NoText" "NoText" 209 212 4 0 0 31 false .none .none .none,⟨.type "frame",none,.plain,#[some (.ref 33),some (.ref 3),some (.ref 30),none,some (.str "broadrow.errors" 187),none,some (.ref 0)]⟩,tu [],fe [],tu [.str "self" 222,.str "at" 223],tu [],ofn .none (cb (tn 2) 0) "NoText.__init__" 0 .none .none .none,cdo "__init__" "NoText.__init__" 219 224 6 2 3 35 true (.ref 37) (.ref 38) (.ref 39),ofn (.type "function") (cb (tn 2) 0) "NoText.__init__" 3 .none (.str "broadrow.errors" 187) (.ref 40),tu [.str "at" 227],di [en P "__module__" 214 (.str "broadrow.errors" 187),en P "__firstlineno__" 218 (.int (4) 217),en P "__init__" 226 (.ref 41),en P "__static_attributes__" 228 (.ref 42),en P "__doc__" 229 .none] 2,⟨.type "type",none,.cls {name:="NoText",bases:=[.ref 24],mro:=[.ref 44,.ref 24,.type "ValueError",.type "Exception",.type "BaseException",.type "object"],ns:=43,qualname:="NoText"},#[some (.ref 28),none,some (.str "NoText" 207),some (.str "NoText" 215),some (.builtin "ValueError.__new__"),some (.bool true)]⟩,⟨.type "super",none,.fields #[.ref 44,.ref 44,.ref 44],#[]⟩,⟨.type "builtin_function_or_method",none,.fields #[.builtin "object.__init_subclass__",.ref 44],#[]⟩]) [iv 4,iv 0,.ref 33] 47 232,
.x "NoKind" 256 (.ref 63) (fun P=>[tu [.ref 24],⟨.type "builtin_function_or_method",none,.fields #[.builtin "type.__prepare__",.type "type"],#[]⟩,di [en P "__module__" 239 (.str "broadrow.errors" 187),en P "__qualname__" 241 (.str "NoKind" 240),en P "__firstlineno__" 243 (.int (9) 242),en P "__init__" 251 (.ref 60),en P "__static_attributes__" 253 (.ref 61)] 5,tu [],fe [iv 11,iv 4,.ref 59],cdo "NoKind" "NoKind" 234 237 9 0 0 50 false .none .none .none,⟨.type "frame",none,.plain,#[some (.ref 52),some (.ref 3),some (.ref 49),none,some (.str "broadrow.errors" 187),none,some (.ref 0)]⟩,tu [],fe [],tu [.str "self" 247,.str "place" 248],tu [],ofn .none (cb (tn 3) 0) "NoKind.__init__" 0 .none .none .none,cdo "__init__" "NoKind.__init__" 244 249 11 2 3 54 true (.ref 56) (.ref 57) (.ref 58),ofn (.type "function") (cb (tn 3) 0) "NoKind.__init__" 3 .none (.str "broadrow.errors" 187) (.ref 59),tu [.str "place" 252],di [en P "__module__" 239 (.str "broadrow.errors" 187),en P "__firstlineno__" 243 (.int (9) 242),en P "__init__" 251 (.ref 60),en P "__static_attributes__" 253 (.ref 61),en P "__doc__" 254 .none] 2,⟨.type "type",none,.cls {name:="NoKind",bases:=[.ref 24],mro:=[.ref 63,.ref 24,.type "ValueError",.type "Exception",.type "BaseException",.type "object"],ns:=62,qualname:="NoKind"},#[some (.ref 47),none,some (.str "NoKind" 232),some (.str "NoKind" 240),some (.builtin "ValueError.__new__"),some (.bool true)]⟩,⟨.type "super",none,.fields #[.ref 63,.ref 63,.ref 63],#[]⟩,⟨.type "builtin_function_or_method",none,.fields #[.builtin "object.__init_subclass__",.ref 63],#[]⟩]) [iv 9,iv 0,.ref 52] 66 257,
.x "NoPlace" 281 (.ref 82) (fun P=>[tu [.ref 24],⟨.type "builtin_function_or_method",none,.fields #[.builtin "type.__prepare__",.type "type"],#[]⟩,di [en P "__module__" 264 (.str "broadrow.errors" 187),en P "__qualname__" 266 (.str "NoPlace" 265),en P "__firstlineno__" 268 (.int (14) 267),en P "__init__" 276 (.ref 79),en P "__static_attributes__" 278 (.ref 80)] 5,tu [],fe [iv 16,iv 4,.ref 78],cdo "NoPlace" "NoPlace" 259 262 14 0 0 69 false .none .none .none,⟨.type "frame",none,.plain,#[some (.ref 71),some (.ref 3),some (.ref 68),none,some (.str "broadrow.errors" 187),none,some (.ref 0)]⟩,tu [],fe [],tu [.str "self" 272,.str "place" 273],tu [],ofn .none (cb (tn 4) 0) "NoPlace.__init__" 0 .none .none .none,cdo "__init__" "NoPlace.__init__" 269 274 16 2 3 73 true (.ref 75) (.ref 76) (.ref 77),ofn (.type "function") (cb (tn 4) 0) "NoPlace.__init__" 3 .none (.str "broadrow.errors" 187) (.ref 78),tu [.str "place" 277],di [en P "__module__" 264 (.str "broadrow.errors" 187),en P "__firstlineno__" 268 (.int (14) 267),en P "__init__" 276 (.ref 79),en P "__static_attributes__" 278 (.ref 80),en P "__doc__" 279 .none] 2,⟨.type "type",none,.cls {name:="NoPlace",bases:=[.ref 24],mro:=[.ref 82,.ref 24,.type "ValueError",.type "Exception",.type "BaseException",.type "object"],ns:=81,qualname:="NoPlace"},#[some (.ref 66),none,some (.str "NoPlace" 257),some (.str "NoPlace" 265),some (.builtin "ValueError.__new__"),some (.bool true)]⟩,⟨.type "super",none,.fields #[.ref 82,.ref 82,.ref 82],#[]⟩,⟨.type "builtin_function_or_method",none,.fields #[.builtin "object.__init_subclass__",.ref 82],#[]⟩]) [iv 14,iv 0,.ref 71] 85 282,
.x "NoThing" 306 (.ref 101) (fun P=>[tu [.ref 24],⟨.type "builtin_function_or_method",none,.fields #[.builtin "type.__prepare__",.type "type"],#[]⟩,di [en P "__module__" 289 (.str "broadrow.errors" 187),en P "__qualname__" 291 (.str "NoThing" 290),en P "__firstlineno__" 293 (.int (19) 292),en P "__init__" 301 (.ref 98),en P "__static_attributes__" 303 (.ref 99)] 5,tu [],fe [iv 21,iv 4,.ref 97],cdo "NoThing" "NoThing" 284 287 19 0 0 88 false .none .none .none,⟨.type "frame",none,.plain,#[some (.ref 90),some (.ref 3),some (.ref 87),none,some (.str "broadrow.errors" 187),none,some (.ref 0)]⟩,tu [],fe [],tu [.str "self" 297,.str "number" 298],tu [],ofn .none (cb (tn 5) 0) "NoThing.__init__" 0 .none .none .none,cdo "__init__" "NoThing.__init__" 294 299 21 2 3 92 true (.ref 94) (.ref 95) (.ref 96),ofn (.type "function") (cb (tn 5) 0) "NoThing.__init__" 3 .none (.str "broadrow.errors" 187) (.ref 97),tu [.str "number" 302],di [en P "__module__" 289 (.str "broadrow.errors" 187),en P "__firstlineno__" 293 (.int (19) 292),en P "__init__" 301 (.ref 98),en P "__static_attributes__" 303 (.ref 99),en P "__doc__" 304 .none] 2,⟨.type "type",none,.cls {name:="NoThing",bases:=[.ref 24],mro:=[.ref 101,.ref 24,.type "ValueError",.type "Exception",.type "BaseException",.type "object"],ns:=100,qualname:="NoThing"},#[some (.ref 85),none,some (.str "NoThing" 282),some (.str "NoThing" 290),some (.builtin "ValueError.__new__"),some (.bool true)]⟩,⟨.type "super",none,.fields #[.ref 101,.ref 101,.ref 101],#[]⟩,⟨.type "builtin_function_or_method",none,.fields #[.builtin "object.__init_subclass__",.ref 101],#[]⟩]) [iv 19,iv 0,.ref 90] 104 307,
.x "NoRule" 331 (.ref 120) (fun P=>[tu [.ref 24],⟨.type "builtin_function_or_method",none,.fields #[.builtin "type.__prepare__",.type "type"],#[]⟩,di [en P "__module__" 314 (.str "broadrow.errors" 187),en P "__qualname__" 316 (.str "NoRule" 315),en P "__firstlineno__" 318 (.int (24) 317),en P "__init__" 326 (.ref 117),en P "__static_attributes__" 328 (.ref 118)] 5,tu [],fe [iv 26,iv 4,.ref 116],cdo "NoRule" "NoRule" 309 312 24 0 0 107 false .none .none .none,⟨.type "frame",none,.plain,#[some (.ref 109),some (.ref 3),some (.ref 106),none,some (.str "broadrow.errors" 187),none,some (.ref 0)]⟩,tu [],fe [],tu [.str "self" 322,.str "text" 323],tu [],ofn .none (cb (tn 6) 0) "NoRule.__init__" 0 .none .none .none,cdo "__init__" "NoRule.__init__" 319 324 26 2 3 111 true (.ref 113) (.ref 114) (.ref 115),ofn (.type "function") (cb (tn 6) 0) "NoRule.__init__" 3 .none (.str "broadrow.errors" 187) (.ref 116),tu [.str "text" 327],di [en P "__module__" 314 (.str "broadrow.errors" 187),en P "__firstlineno__" 318 (.int (24) 317),en P "__init__" 326 (.ref 117),en P "__static_attributes__" 328 (.ref 118),en P "__doc__" 329 .none] 2,⟨.type "type",none,.cls {name:="NoRule",bases:=[.ref 24],mro:=[.ref 120,.ref 24,.type "ValueError",.type "Exception",.type "BaseException",.type "object"],ns:=119,qualname:="NoRule"},#[some (.ref 104),none,some (.str "NoRule" 307),some (.str "NoRule" 315),some (.builtin "ValueError.__new__"),some (.bool true)]⟩,⟨.type "super",none,.fields #[.ref 120,.ref 120,.ref 120],#[]⟩,⟨.type "builtin_function_or_method",none,.fields #[.builtin "object.__init_subclass__",.ref 120],#[]⟩]) [iv 24,iv 0,.ref 109] 123 332,
.x "NoLine" 356 (.ref 139) (fun P=>[tu [.ref 24],⟨.type "builtin_function_or_method",none,.fields #[.builtin "type.__prepare__",.type "type"],#[]⟩,di [en P "__module__" 339 (.str "broadrow.errors" 187),en P "__qualname__" 341 (.str "NoLine" 340),en P "__firstlineno__" 343 (.int (29) 342),en P "__init__" 351 (.ref 136),en P "__static_attributes__" 353 (.ref 137)] 5,tu [],fe [iv 31,iv 4,.ref 135],cdo "NoLine" "NoLine" 334 337 29 0 0 126 false .none .none .none,⟨.type "frame",none,.plain,#[some (.ref 128),some (.ref 3),some (.ref 125),none,some (.str "broadrow.errors" 187),none,some (.ref 0)]⟩,tu [],fe [],tu [.str "self" 347,.str "text" 348],tu [],ofn .none (cb (tn 7) 0) "NoLine.__init__" 0 .none .none .none,cdo "__init__" "NoLine.__init__" 344 349 31 2 3 130 true (.ref 132) (.ref 133) (.ref 134),ofn (.type "function") (cb (tn 7) 0) "NoLine.__init__" 3 .none (.str "broadrow.errors" 187) (.ref 135),tu [.str "text" 352],di [en P "__module__" 339 (.str "broadrow.errors" 187),en P "__firstlineno__" 343 (.int (29) 342),en P "__init__" 351 (.ref 136),en P "__static_attributes__" 353 (.ref 137),en P "__doc__" 354 .none] 2,⟨.type "type",none,.cls {name:="NoLine",bases:=[.ref 24],mro:=[.ref 139,.ref 24,.type "ValueError",.type "Exception",.type "BaseException",.type "object"],ns:=138,qualname:="NoLine"},#[some (.ref 123),none,some (.str "NoLine" 332),some (.str "NoLine" 340),some (.builtin "ValueError.__new__"),some (.bool true)]⟩,⟨.type "super",none,.fields #[.ref 139,.ref 139,.ref 139],#[]⟩,⟨.type "builtin_function_or_method",none,.fields #[.builtin "object.__init_subclass__",.ref 139],#[]⟩]) [iv 29,iv 0,.ref 128] 142 357,
.m,
.c,
.x "WITHIN" 373 (.ref 142) (fun P=>[di [en P "num" 361 (.int (0) 362),en P "truth" 363 (.int (0) 364),en P "pair" 365 (.int (2) 366),en P "row" 367 (.int (1) 368)] 4]) [] 143 374,
.d,
.d,
.d,
.m,
.d,
.d,
.d,
.d,
.d]
theorem c0 (w:World):Cut pr rc 0 15 187 p0 1 10 15 189 ⟨1,0,1,8⟩ w:=fun o=>by kernel_rfl
theorem c1 (w:World):Cut pr rc 1 15 189 ⟨1,0,1,8⟩ 7 1657 142 357 ⟨29,0,33,24⟩ w:=fun o=>by kernel_rfl
theorem c8 (w:World):Cut pr rc 8 142 357 ⟨29,0,33,24⟩ 2 19 142 361 ⟨35,0,35,7⟩ w:=fun o=>by kernel_rfl
theorem c10 (w:World):Cut pr rc 10 142 361 ⟨35,0,35,7⟩ 1 71 143 374 ⟨36,0,36,6⟩ w:=byRow2 (P:=Cut pr rc 10 142 361 ⟨35,0,35,7⟩ 1 71 143 374 ⟨36,0,36,6⟩) "special-get-raises" (fun w o=>by kernel_rfl) (fun w o=>by kernel_rfl) w
theorem c11 (w:World):Cut pr rc 11 143 374 ⟨36,0,36,6⟩ 9 274 199 464 ⟨110,0,126,15⟩ w:=fun o=>by kernel_rfl
theorem ch:Ch pr rc 20 199 464 0 15 187 p0 (10+(1657+(19+(71+(274+(2)))))):=cI c0 ( cI c1 ( cI c8 ( cI c10 ( cI c11 (v9 (by kernel_rfl))))))
noncomputable def q:Program:=view pr [19]
noncomputable def lo:List Str:=(["BroadError","NoText","NoKind","NoPlace","NoThing","NoRule","NoLine","DEEPEST","WITHIN","read_kind","take_kind","take_kind_within","_law_deep","_law_bent","_law_due","_law_told"]:List String).map Str.ofString
noncomputable def as:List Addr:=[3,24,44,63,82,101,120,139,142,148,149,155,156,162,163,169,170,176,177,183,184,190,191,197,198,2,23,43,41,40,62,60,59,81,79,78,100,98,97,119,117,116,138,136,135]
noncomputable def K:Params->Frag:=kK pr rc 20 as
noncomputable def hk:Hook:=hkk pr rc 20 199
noncomputable abbrev Xt (s:Shared):Bool:=xlAt q [] s&&recOk (RowW.records (OpenRow.toRowW (OpenLaw.row PySem.Challenge.rw_broadrow_k03_no_kinds_texts))) s
theorem kin (w:World)(h:Heap)(Y:hk.says w h):(K w.params).In h:=An (by kernel_rfl) (by kernel_rfl) Y
theorem lk (w:World):(fun o=>((staticsOk (importedModules pr.main.body) (boot_heap w.params) (hp pr rc 20 199 w.params)&&namesBound pr (hp pr rc 20 199 w.params)&&gensDone ⟨hp pr rc 20 199 w.params,#[],{},464,o⟩&&laidKept (boot_heap w.params) (hp pr rc 20 199 w.params)),openSeen q lo (importedModules pr.main.body) Xt true ⟨hp pr rc 20 199 w.params,#[],{},464,o⟩,Hook.obs hk ⟨hp pr rc 20 199 w.params,#[],{},464,o⟩))=fun _=>(true,openGood q lo,Hook.val hk w):=by kernel_rfl
theorem e1:opening pr=plainProg pr.main.scope.names:=by kernel_rfl
theorem e2:behindTheImports pr=pr.main.body:=by kernel_rfl
theorem e3 (s:Shared):fenceModules? pr s=some s:=by kernel_rfl
theorem pre (w:World)(o:OsState):topGo treeTable pr w 11 an 12 ⟨boot_heap w.params,a3i [],boot_drawn,boot_toks,o⟩ (topStub pr)=some ((sT pr rc w.params 0 15 187 o).abs,⟨denote treeTable (cE pr),cE pr,p0,B0⟩):=by kernel_rfl
theorem blk (w:World)(o:OsState):segRun treeTable pr w 11 an 1 1 (sT pr rc w.params 0 15 187 o).abs (blockOf (behindTheImports pr) (ev pr) (cE pr) p0 B0)=some (.next,(sT pr rc w.params 0 15 187 o).abs,cE pr,p0):=by kernel_rfl
theorem left:LeftO pr q lo Xt (Hook.obs hk) (Hook.val hk) 4178:=qF e1 (by kernel_rfl) e3 e2 qt pre blk ch (by kernel_rfl) lk
end H03

namespace A03
open PySem PySem.Spec PyProof.Rows L2 L3 MR
noncomputable abbrev KK (w:World):a0a:=H03.K w.params
noncomputable abbrev UB:List Value:=.ref 24::VE
theorem x44 (w:World):XC (KK w) 44 41 UB:=ez (by kernel_rfl)
theorem x63 (w:World):XC (KK w) 63 60 UB:=ez (by kernel_rfl)
theorem x82 (w:World):XC (KK w) 82 79 UB:=ez (by kernel_rfl)
theorem zy (w:World):XC (KK w) 101 98 UB:=ez (by kernel_rfl)
theorem AD (w:World):XC (KK w) 120 117 UB:=ez (by kernel_rfl)
theorem Aa (w:World):XC (KK w) 139 136 UB:=ez (by kernel_rfl)
theorem xb (w:World):XB (KK w) 24:=⟨by kernel_rfl,by kernel_rfl,by kernel_rfl⟩
theorem zF (w:World):XF (KK w) 44:=yo (x44 w) (by rfl) (by kernel_rfl)
theorem AG (w:World):∃ fd,L2.Fun (KK w) "__init__" "NoText.__init__" I03.s_NoText 41 fd/\Binds (KK w) fd ["self","at"] []:=by
 refine ⟨a01 "__init__" "NoText.__init__" (defArgs I03.s_NoText) (defBody I03.s_NoText) (defScope I03.s_NoText) .none .none .none (TP.pmO ((KK w).lookup 41)) none (.ref 40) .none,?_⟩
 have F:L2.Fun (KK w) "__init__" "NoText.__init__" I03.s_NoText 41 (a01 "__init__" "NoText.__init__" (defArgs I03.s_NoText) (defBody I03.s_NoText) (defScope I03.s_NoText) .none .none .none (TP.pmO ((KK w).lookup 41)) none (.ref 40) .none):=⟨⟨.type "function",none,_,_,_,_,_,_,#[],rfl,by kernel_rfl,by kernel_rfl⟩,by kernel_rfl⟩
 exact ⟨F,F.binds fun _ _ _ _ _ _ us hl=>match us,hl with | [_,_],_=>rfl⟩
theorem fnm (w:World)(f:Str)(e:pT (KK w) (fun c=>a0q (KK w) (.ref c) f==some none)=true)(c:Nat)(x:XF (KK w) c):a0q (KK w) (.ref c) f=some none:=beq_iff_eq.mp (iy (p:=fun c=>a0q (KK w) (.ref c) f==some none) e x)
theorem one (w:World)(cv:Value)(cs:List Nat)(e:pT (KK w) (fun c=>a0O (KK w) (.ref c) cv==some (cs.contains c))=true)(c:Nat)(x:XF (KK w) c):a0O (KK w) (.ref c) cv=some (cs.contains c):=beq_iff_eq.mp (iy (p:=fun c=>a0O (KK w) (.ref c) cv==some (cs.contains c)) e x)
theorem any (w:World)(Cs cs:List Nat)(e:pT (KK w) (fun c=>a1l (KK w) (.ref c) (Cs.map Value.ref)==some (cs.contains c))=true)(c:Nat)(x:XF (KK w) c):a1l (KK w) (.ref c) (Cs.map Value.ref)=some (cs.contains c):=beq_iff_eq.mp (iy (p:=fun c=>a1l (KK w) (.ref c) (Cs.map Value.ref)==some (cs.contains c)) e x)
theorem xs_mk {P:Program}{w:World}{h:Heap}{mg:Str->Option Value}(X:(KK w).In h)(G:h.Ns mainGlobals mg)(base:Heap):Xs P w (KK w) mg base:=by
 have nB:mg "BroadError"=some (.ref 24):=a0R X G (by kernel_rfl)
 refine ⟨⟨nB,⟨VE,rfl,fun h X=>⟨_,_,(ij (K:=KK w) (C:=24) (up:=VE) (by kernel_rfl) h X).1⟩⟩,?_⟩,fnm w _ (by kernel_rfl),⟨.inl (a0R X G (by kernel_rfl)),one w _ _ (by kernel_rfl),by kernel_rfl⟩,⟨.inl (a0R X G (by kernel_rfl)),one w _ _ (by kernel_rfl),by kernel_rfl⟩,⟨.inl (a0R X G (by kernel_rfl)),one w _ _ (by kernel_rfl),by kernel_rfl⟩,⟨.inl (a0R X G (by kernel_rfl)),one w _ _ (by kernel_rfl),by kernel_rfl⟩,⟨.inl (a0R X G (by kernel_rfl)),one w _ _ (by kernel_rfl),by kernel_rfl⟩,⟨.inl (a0R X G (by kernel_rfl)),one w _ _ (by kernel_rfl),by kernel_rfl⟩,⟨.inr ⟨eU X G (by kernel_rfl),PyProof.Rows.Boot.«ValueError»⟩,one w _ _ (by kernel_rfl),by kernel_rfl⟩,eU X G (by kernel_rfl),?_,⟨any w _ _ (by kernel_rfl),by kernel_rfl⟩⟩
 ·intro c hc
  simp only [a0W,a1J,or_false] at hc
  rcases hc with rfl | rfl | rfl | rfl | rfl | rfl
  ·exact ⟨_,_,x44 w,by decide +kernel⟩
  ·exact ⟨_,_,x63 w,by decide +kernel⟩
  ·exact ⟨_,_,x82 w,by decide +kernel⟩
  ·exact ⟨_,_,zy w,by decide +kernel⟩
  ·exact ⟨_,_,AD w,by decide +kernel⟩
  ·exact ⟨_,_,Aa w,by decide +kernel⟩
 ·obtain ⟨fd,F,b⟩:=AG w
  exact ⟨⟨41,UB,fd,["self","at"],x44 w,rfl,by decide +kernel,b,fun k=>I03.ok_NoText F nB (xb w) (x44 w) (by kernel_rfl)⟩,zF w,a0R X G (by kernel_rfl)⟩
end A03

set_option maxHeartbeats 4000000
open PySem PySem.W PyProof.Rows
set_option maxRecDepth 100000 in
set_option maxHeartbeats 0 in
theorem PySem.Challenge.cw_broadrow_k03_no_kinds_texts_holds : PySem.Challenge.rw_broadrow_k03_no_kinds_texts.Holds := by
 w_on; o_law
 refine holds_open (q:=H03.q) (loose:=H03.lo) (Xt:=H03.Xt) (XP:=XL H03.q []) (Yf:=Hook.obs H03.hk) (Ya:=Hook.val H03.hk) (YP:=Hook.says H03.hk) (N:=4178) (d:=TP.drec (H03.tn 19)) (kwd:=[]) H03.left (Hook.of H03.hk) (Hook.keeps H03.hk) (fun s e=>xl_of s (a0v.mp e).1) XL.keeps (by kernel_rfl) (by kernel_rfl) (by kernel_rfl) (fun s e=>recFacts_of (a0v.mp e).2) (by rfl) (by first | assumption | decide +kernel) (by decide +kernel) ⟨rfl,rfl,rfl,rfl,rfl,by decide +kernel⟩ ?hw ?hc
 case hw=>w_witness2
 refine MR.walkX (sx:="script") (l:=PySem.Challenge.rw_broadrow_k03_no_kinds_texts) (k:=42) (C:=A03.Cl 40) (ix:=0) (K:=H03.K) A03.pure_law rfl (by kernel_rfl) ⟨rfl,by decide,by decide,rfl⟩ H03.kin ?F
 case F =>
  intro w mg fa h KX G hmg
  refine' A03.all_mk KX G hmg ?zr326 ?zr327 ?zr328 ?zr322 ?zr332 ?zr329 ?zr331 ?zr0 ?zg0 ?zq_WITHIN ?ztx ?zxs
  case zg0=>exact ⟨TP.tkO (nsIn (H03.K w.params) mainGlobals "DEEPEST"),by kernel_rfl⟩
  case zq_WITHIN=>exact ⟨_,TP.tab_mk (by kernel_rfl) (by kernel_rfl) (by kernel_rfl) (by kernel_rfl),by kernel_rfl,TP.cst_of (n:=9) (by kernel_rfl)⟩
  case zxs=>exact fun base=>A03.xs_mk KX G base
  case ztx=>refine' ⟨?_,?_,?_,?_,?_,?_,?_,?_,?_,?_,?_,?_,?_,?_,?_,?_,?_,?_,?_,?_,?_,trivial⟩<;>kernel_rfl
  all_goals exact TP.raw_mk (by kernel_rfl) (by kernel_rfl) (by kernel_rfl) (by kernel_rfl)
