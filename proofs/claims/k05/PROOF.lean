import PyProof.Rows.All
import Wide.All
import OpenK.AllK
import Wide.FinOn
import Lean
import PyProof.EqAt
import PyProof.EqKinds
import PyProof.TupleCall
import PySem.Challenge.RW_broadrow_k05_worths_written_and_read
open PySem.W renaming Frag → a0a, kia_one → a0F, kitOne → a0Y, fnOf → a07, kia_tup → a1g, kitx_list → a1C, keepIn → a1E, kitx_tuple → a1O, nsIn → a1R, codeIn → a1T, methodObj → a1U, mg_of → a13, cellsFrom_some → a19, instObj → a2d, OpenLaw → a2h, lookIn → a2m, kitAny → a2n, kitx_none → a2z, kitx_bool → a2A, kitx_dict → a2B, plainGet → a2F, kitx_int → a2G, kitx_str → a2H, findIn → a2Y, WalkO → a24
open List renaming length_append → a0b, mem_cons_self → a0c, length_map → a0d, mem_cons_of_mem → a0e, mem_append_right → a0f, replicate → a0g, size_toArray → a0h, length_cons → a0k, append_assoc → a0n, append_nil → a0p, getElem?_eq_some_iff → a0q, mem_singleton → a0r, length_singleton → a0t, map_cons → a0u, getElem?_cons_succ → a0v, mem_cons → a0w, any_cons → a0y, any_nil → a0B, getElem?_map → a0C, length_replicate → a0G, range → a0H, getElem?_append_right → a0I, mem_append_left → a0J, mem_append → a0L, cons_ne_nil → a0M, replicate_succ → a0N, nil_append → a0Q, filterMap_cons → a0S, getElem?_append_left → a0U, getElem?_eq_getElem → a0V, all_eq_true → a0W, getElem?_cons_zero → a0X, mem_map → a0Z, getD_eq_getElem?_getD → a04, flatten_cons → a06, length_take → a1a, not_mem_nil → a1c, nodup_cons → a1e, getElem?_set_ne → a1j, mem_of_getElem? → a1k, cons_append → a1n, map_eq_nil_iff → a1o, map_nil → a1r, getElem?_replicate → a1t, getElem?_set_self → a1y, take_of_length_le → a1A, mem_range → a1D, map_append → a1L, length_range → a1X, sum_cons → a14, length_drop → a16, lookup_cons → a17, append_eq_nil_iff → a2c, of_mem_zip → a2f, map_map → a2k, length → a2o, mem_filterMap → a2r, map_take → a2t, append_of_mem → a2v, zipIdx_cons → a2K, drop_length → a2L, mem_filter → a2P, foldl_cons → a2Q, forIn_cons → a2R, zipIdx_nil → a2S, length_set → a2U, length_nil → a2X, forIn_nil → a2Z, drop_zero → a20, foldl → a21, take_nil → a25, drop_nil → a26
open Nat renaming lt_of_lt_of_le → a0i, le_refl → a0j, le_trans → a0s, ne_of_lt → a0A, toDigits → a00, zero_le → a03, lt_succ_self → a05, lt_irrefl → a08, le_of_ble_eq_true → a1f, ne_of_gt → a1p, isDigit_of_mem_toDigits → a1J, lt_of_le_of_lt → a1P, min_le_right → a15, le_of_lt → a2e, add_comm → a2g, zero_add → a2D, le_of_not_lt → a2J, succ_le_succ → a2M, toList_repr → a2W, succ_mul → a3a, mul_comm → a3b, lt_trans → a3f
open Bool renaming false_ne_true → a0l, and_eq_true → a0m, or_false → a0x, or_true → a1s, and_eq_true_iff → a1G, false_eq_true → a2u, true_or → a2E, or_eq_true → a2T
open PySem.Str renaming join → a0o, ofString → a1S, mk → a2i
open Option.some renaming inj → a0z, injEq → a10
open PyProof.Rows renaming slot_tuple_getitem → a0D, boot_bool → a0K, boot_int → a0O, boot_list → a0R, boot_tuple → a09, callWith_type1 → a1d, boot_isinstance → a1I, signs_ofString → a1K, boot_str → a2j, callWith_builtin1 → a2C, intText_free_32 → a2N, intText_free_93 → a2O, digit_range → a23, eq_dataH → a3c, ne_dataH → a3d
open Array renaming length_toList → a0E, all_eq_true' → a1u, toList_inj → a1F, append_assoc → a1N, toList_append → a2q, mk → a27, toList → a29
open Char renaming toNat → a0P
open PySem renaming mem_of_lookup → a0T, Str → a02, call → a22, Within → a28
open True renaming intro → a01
open Or renaming inr → a1b, inl → a1z
open PySem.W.KIN renaming signs_num → a1h, val_back → a1m
open False renaming elim → a1i
open String renaming length_toList → a1l, toList_append → a2l
open Option renaming isSome_iff_exists → a1q, bind_eq_some_iff → a1w, map_eq_some_iff → a1B, bind_some → a18, toList_none → a2s, getD_none → a2I
open PySem.F renaming plainAttrs_list → a1v, args_tuple_add_2 → a1V, slot_list_append → a1Y, type_list_append → a1Z, entry_tuple_add → a11, slot_tuple_add → a2a, plainAttrs_str → a2b
open Int renaming emod_lt_of_pos → a1x, emod_nonneg → a1M, toNat_natCast → a1W, negSucc → a2V
open List.cons renaming inj → a1H
open Prod renaming snd → a1Q, fst → a3g
open And renaming left → a12
open Prod.mk renaming inj → a2p
open Sum renaming inl → a2w, inr → a2x
open Ne renaming symm → a2y
open Classical renaming em → a3e
open List.Pairwise renaming nil → a3h
set_option genSizeOf false
set_option genInjectivity false
set_option Elab.async false
set_option linter.all false
set_option maxRecDepth 100000
namespace L2
open PySem PySem.Spec PyProof.Rows
noncomputable abbrev Key:=Sum Int Str
noncomputable def rj:Key->Value->Bool
 | .inl k,v=>Value.isInt k v
 | .inr x,v=>Value.isStrOf x v
noncomputable def zl (w:World):Key->Int
 | .inl k=>hashInt k
 | .inr x=>hashStr w x
theorem aE:∀ {k:Key} {v:Value},rj k v=true->(∃ i t,k=a2w i/\v=Value.int i t)\/(∃ x t,k=a2x x/\v=Value.str x t)
 | .inl i,v,h=>by
  obtain ⟨t,e⟩:=Value.isInt_shape (k:=i) (v:=v) h
  exact .inl ⟨i,t,rfl,e⟩
 | .inr x,v,h=>by
  obtain ⟨t,e⟩:=Value.isStrOf_shape (x:=x) (v:=v) h
  exact .inr ⟨x,t,rfl,e⟩
theorem rY (a b:Int):decide ((a2w a:Key)=a2w b)=(a==b):=by
 by_cases e:a=b
 ·subst e; simp
 ·have h:¬ (a2w a:Key)=a2w b:=fun q=>e (Sum.inl.inj q)
  rw [decide_eq_false h]
  exact (beq_eq_false_iff_ne.mpr e).symm
theorem vo (a b:Str):decide ((a2x a:Key)=a2x b)=decide (a=b):=by
 by_cases e:a=b
 ·subst e; simp
 ·have h:¬ (a2x a:Key)=a2x b:=fun q=>e (Sum.inr.inj q)
  rw [decide_eq_false h,decide_eq_false e]
theorem rX (a:Int)(b:Str):decide ((a2w a:Key)=a2x b)=false:=decide_eq_false (fun q=>nomatch q)
theorem tj (a:Str)(b:Int):decide ((a2x a:Key)=a2w b)=false:=decide_eq_false (fun q=>nomatch q)
noncomputable def fv (prog:Program)(w:World):PySem.KeyKind prog w Key where
 is:=rj
 hash:=zl w
 inj:=fun v a b ha hb=>by
  rcases aE ha with ⟨i,t,rfl,rfl⟩ | ⟨x,t,rfl,rfl⟩
  ·rcases aE hb with ⟨j,u,rfl,e⟩ | ⟨y,u,rfl,e⟩
   ·injection e with e1 _; rw [e1]
   ·exact nomatch e
  ·rcases aE hb with ⟨j,u,rfl,e⟩ | ⟨y,u,rfl,e⟩
   ·exact nomatch e
   ·injection e with e1 _; rw [e1]
 byValue:=fun k v h=>by
  rcases aE h with ⟨i,t,rfl,rfl⟩ | ⟨x,t,rfl,rfl⟩<;>rfl
 pyHash:=fun hv h=>by
  rcases aE hv with ⟨i,t,rfl,rfl⟩ | ⟨x,t,rfl,rfl⟩
  ·exact wpAny_pyHash_int h
  ·exact wpAny_pyHash_str h
 eqBool:=fun hu hv h=>by
  rcases aE hu with ⟨i,t,rfl,rfl⟩ | ⟨x,t,rfl,rfl⟩
  ·rcases aE hv with ⟨j,u,rfl,rfl⟩ | ⟨y,u,rfl,rfl⟩
   ·rw [rY] at h; exact wpAny_eqBool_int h
   ·rw [rX] at h; exact SeqAt.EqAt.int_str i t y u _ _ _ _ h
  ·rcases aE hv with ⟨j,u,rfl,rfl⟩ | ⟨y,u,rfl,rfl⟩
   ·rw [tj] at h; exact SeqAt.EqAt.str_int x t j u _ _ _ _ h
   ·rw [vo] at h; exact wpAny_eqBool_str h
 «strs»:=fun k x t v h=>by
  rcases aE h with ⟨i,u,rfl,e⟩ | ⟨y,u,rfl,e⟩
  ·exact nomatch e
  ·injection e with e1 _
   subst e1
   cases v<;>rfl
end L2
namespace L2
open PySem PySem.Spec PyProof.Rows
set_option genInjectivity true
inductive V where
 | non | bl (b:Bool) | int (i:Int) | str (x:Str) | byt (b:Array UInt8) | flt (b:UInt64) | ref (a:Addr) | ty (n:String)
 deriving DecidableEq
set_option genInjectivity false
noncomputable def RelV:V->Value->Prop
 | .non,u=>u=Value.none
 | .bl b,u=>u=Value.bool b
 | .int i,u=>∃ t,u=Value.int i t
 | .str x,u=>∃ t,u=Value.str x t
 | .byt b,u=>∃ t,u=Value.bytes b t
 | .flt b,u=>∃ t,u=Value.float b t
 | .ref a,u=>u=Value.ref a
 | .ty n,u=>u=Value.type n
noncomputable abbrev Vals:List V->List Value->Prop:=Paired RelV
theorem Vals.length {xs:List V}{us:List Value}(r:Vals xs us):xs.length=us.length:=Paired.length r
theorem Vals.get:∀ {xs:List V} {us:List Value} {i:Nat} {x:V},Vals xs us->xs[i]?=some x->∃ u,us[i]?=some u/\RelV x u
 | _,_,_,_,.nil,e=>by simp at e
 | _,_,0,_,.cons r _,e=>by simp at e; subst e; exact ⟨_,rfl,r⟩
 | _,_,i+1,x,.cons _ t,e=>by
  obtain ⟨u,h1,h2⟩:=Vals.get (i:=i) (x:=x) t (by simpa using e)
  exact ⟨u,by simpa using h1,h2⟩
theorem Vals.append:∀ {xs ys:List V} {us ws:List Value},Vals xs us->Vals ys ws->Vals (xs++ys) (us++ws)
 | _,_,_,_,.nil,s=>s
 | _,_,_,_,.cons r t,s=>.cons r (Vals.append t s)
theorem Vals.take:∀ {xs:List V} {us:List Value} (n:Nat),Vals xs us->Vals (xs.take n) (us.take n)
 | _,_,0,_=>.nil
 | _,_,_+1,.nil=>.nil
 | _,_,n+1,.cons r t=>.cons r (Vals.take n t)
theorem Vals.drop:∀ {xs:List V} {us:List Value} (n:Nat),Vals xs us->Vals (xs.drop n) (us.drop n)
 | _,_,0,r=>r
 | _,_,_+1,.nil=>.nil
 | _,_,n+1,.cons _ t=>Vals.drop n t
noncomputable def vN:Option V->Option Value->Prop
 | some v,some u=>RelV v u
 | none,none=>True
 | _,_=>False
noncomputable def KV {κ:Type}:List (κ×V)->List (κ×Value)->Prop:=Paired fun (p:κ×V) (q:κ×Value)=>p.1=q.1/\RelV p.2 q.2
noncomputable def kV:Key->V
 | .inl i=>.int i
 | .inr x=>.str x
inductive HO where
 | lst (xs:List V)
 | tup (xs:List V)
 | dK (kvs:List (Key×V)) | dT (kvs:List (List Key×V))
 | set (S:Int->Bool) (n:Nat)
 | ins (C dx:Addr) (fs:List (Str×V))
 | own (x:Addr)
 | xd (fs:List (Str×V))
 | met (f x:Addr)
 | rng (lo hi:Int)
 | frz (o:Obj) (u:HO)
 | tbl (ps:Array Value)
 | ext (φ:Heap->Prop)
noncomputable abbrev Hp:=Addr->Option HO
noncomputable def upd (H:Hp)(a:Addr)(o:HO):Hp:=fun b=>if b=a then some o else H b
theorem aq {H:Hp}{a:Addr}{o:HO}:upd H a o a=some o:=by unfold upd; rw [if_pos rfl]
theorem ab {H:Hp}{a b:Addr}{o:HO}(h:b≠a):upd H a o b=H b:=by unfold upd; rw [if_neg h]
theorem az {H:Hp}{a b:Addr}{o:HO}(h:H a=some o)(h':H b=none):a≠b:=by
 intro e; subst e; rw [h] at h'; cases h'
section
variable (P:Program)(w:World)
noncomputable def ObjOk (H:Hp)(h:Heap)(a:Addr):HO->Prop
 | .lst xs=>xs.length<=sizeLine/\∃ (its:List Value) (n:Nat),Vals xs its/\h.get? a=some { cls:=.type "list",data:=.seq its.toArray n }
 | .tup xs=>xs.length<=sizeLine/\∃ its:List Value,Vals xs its/\IsTup h a its.toArray
 | .dK kvs=>kvs.length<=sizeLine/\(a==sysModules)=false/\∃ vs,KV kvs vs/\h.DictOf (fv P w) a vs
 | .dT kvs=>kvs.length<=sizeLine/\(a==sysModules)=false/\∃ xs:List (List Key×Addr×Value),
   Paired (fun (p:List Key×V) (q:List Key×Addr×Value)=>p.1=q.1/\H q.2.1=some (.tup (p.1.map kV))/\RelV p.2 q.2.2) kvs xs /\
   ∃ o es ep,h.get? a=some o/\o.ExactDict/\o.data=.dict es ep/\es.toList=xs.map (entryOfKey (tupleKind (fv P w)))/\(xs.map (·.1)).Nodup
 | .set S n=>h.SetOf (intKind P w) a S n
 | .ins C dx fs=>H dx=some (.own a)/\fs.length<=1000/\dx≠a/\h.get? a=some (a2d C dx) /\
   ∃ mA,h.Ns1 dx mA/\(∀ f,vN (fs.lookup f) (mA f))/\a28 mA (fs.map (·.1))
 | .own _=>∃ o,h.get? a=some o
 | .xd fs=>∃ mA,h.Ns1 a mA/\∀ f,vN (fs.lookup f) (mA f)
 | .rng lo hi=>∃ t u v,h.get? a=some { cls:=.type "range",data:=.fields #[.int lo t,.int hi u,.int 1 v] }
 | .frz o u=>h.get? a=some o/\ObjOk H h a u
 | .tbl ps=>h.get? a=some { cls:=.none,data:=.fields ps }
 | .met f x=>h.get? a=some (a1U (.ref f) (.ref x))
 | .ext φ=>φ h/\(∃ o,h.get? a=some o)/\∀ h1 h2:Heap,φ h1->(∀ o,h1.get? a=some o->h2.get? a=some o)->φ h2
noncomputable def HOk (H:Hp)(h:Heap):Prop:=∀ a o,H a=some o->ObjOk P w H h a o
end
section
variable {P:Program}{w:World}{H H':Hp}{h h':Heap}{a:Addr}{o:HO}
theorem ObjOk.lt (x:ObjOk P w H h a o):a < h.objs.size:=by
 cases o with
 | lst xs=>obtain ⟨_,_,_,_,e⟩:=x; exact Heap.lt_size e
 | tup xs=>obtain ⟨_,_,_,p⟩:=x; exact p.lt
 | dK kvs=>obtain ⟨_,_,_,_,o,_,_,e,_⟩:=x; exact Heap.lt_size e
 | dT kvs=>obtain ⟨_,_,_,_,o,_,_,e,_⟩:=x; exact Heap.lt_size e
 | set S n=>obtain ⟨o,_,_,_,e,_⟩:=x; exact Heap.lt_size e
 | ins C dx fs=>obtain ⟨_,_,_,e,_⟩:=x; exact Heap.lt_size e
 | own y=>obtain ⟨_,e⟩:=x; exact Heap.lt_size e
 | xd fs=>obtain ⟨_,⟨_,_,_,e,_⟩,_⟩:=x; exact Heap.lt_size e
 | rng lo hi=>obtain ⟨_,_,_,e⟩:=x; exact Heap.lt_size e
 | frz ob u=>obtain ⟨e,_⟩:=x; exact Heap.lt_size e
 | tbl ps=>exact Heap.lt_size (show h.get? a=some _ from x)
 | met f y=>exact Heap.lt_size (show h.get? a=some _ from x)
 | ext φ=>obtain ⟨_,⟨_,e⟩,_⟩:=x; exact Heap.lt_size e
theorem Paired.mapP {α β:Type}{F G:α->β->Prop}:∀ {l₁:List α} {l₂:List β},Paired F l₁ l₂->(∀ a b,F a b->G a b)->Paired G l₁ l₂
 | _,_,.nil,_=>.nil
 | _,_,.cons r t,f=>.cons (f _ _ r) (Paired.mapP t f)
theorem ObjOk.stay (x:ObjOk P w H h a o)(k:∀ b u,(b=a\/H b=some (.own a))->h.get? b=some u->h'.get? b=some u)
  (ho:∀ b,H b=some (.own a)->H' b=some (.own a)) (ht:∀ b xs,H b=some (.tup xs)->H' b=some (.tup xs)):ObjOk P w H' h' a o:=by
 induction o with
 | lst xs=>obtain ⟨z,its,n,r,e⟩:=x; exact ⟨z,its,n,r,k _ _ (.inl rfl) e⟩
 | tup xs=>obtain ⟨z,its,r,ob,e,c⟩:=x; exact ⟨z,its,r,ob,k _ _ (.inl rfl) e,c⟩
 | dK kvs=>obtain ⟨z,y,vs,r,ob,es,ep,e,c⟩:=x; exact ⟨z,y,vs,r,ob,es,ep,k _ _ (.inl rfl) e,c⟩
 | dT kvs =>
  obtain ⟨z,y,xs,r,ob,es,ep,e,c⟩:=x
  exact ⟨z,y,xs,Paired.mapP r fun p q z=>⟨z.1,ht _ _ z.2.1,z.2.2⟩,ob,es,ep,k _ _ (.inl rfl) e,c⟩
 | set S n=>obtain ⟨ob,es,ep,t,e,c⟩:=x; exact ⟨ob,es,ep,t,k _ _ (.inl rfl) e,c⟩
 | ins C dx fs =>
  obtain ⟨d,z,ne,e,mA,⟨od,es,ep,e2,c⟩,r⟩:=x
  exact ⟨ho _ d,z,ne,k _ _ (.inl rfl) e,mA,⟨od,es,ep,k _ _ (.inr d) e2,c⟩,r⟩
 | own y=>obtain ⟨ob,e⟩:=x; exact ⟨ob,k _ _ (.inl rfl) e⟩
 | xd fs=>obtain ⟨mA,⟨od,es,ep,e,c⟩,r⟩:=x; exact ⟨mA,⟨od,es,ep,k _ _ (.inl rfl) e,c⟩,r⟩
 | rng lo hi=>obtain ⟨t,u,v,e⟩:=x; exact ⟨t,u,v,k _ _ (.inl rfl) e⟩
 | frz ob u ih=>obtain ⟨e,q⟩:=x; exact ⟨k _ _ (.inl rfl) e,ih q⟩
 | tbl ps =>
  have e:h.get? a=some { cls:=.none,data:=.fields ps }:=x
  show h'.get? a=some { cls:=.none,data:=.fields ps }
  exact k a _ (.inl rfl) e
 | met f y =>
  have e:h.get? a=some (a1U (.ref f) (.ref y)):=x
  show h'.get? a=some (a1U (.ref f) (.ref y))
  exact k a _ (.inl rfl) e
 | ext φ=>obtain ⟨p,⟨o,e⟩,st⟩:=x; exact ⟨st _ _ p fun o q=>k _ _ (.inl rfl) q,⟨o,k _ _ (.inl rfl) e⟩,st⟩
theorem HOk.lt (x:HOk P w H h)(e:H a=some o):a < h.objs.size:=(x a o e).lt
theorem HOk.fresh (x:HOk P w H h)(e:h.objs.size<=a):H a=none:=by
 cases q:H a with
 | none=>rfl
 | some u=>exact absurd (a0i (x.lt q) e) (a08 _)
theorem HOk.kept (x:HOk P w H h)(k:∀ b u,h.get? b=some u->h'.get? b=some u):HOk P w H h':=fun a o e =>
 (x a o e).stay (fun b u _ q=>k b u q) (fun _ q=>q) fun _ _ q=>q
theorem HOk.laid (x:HOk P w H h)(k:∀ b u,h.get? b=some u->h'.get? b=some u)(hp:h.objs.size<=a)(new:ObjOk P w (upd H a o) h' a o):HOk P w (upd H a o) h':=fun b u e=>by
 have hn:=x.fresh hp
 by_cases hb:b=a
 ·subst hb; rw [aq] at e; cases e; exact new
 ·rw [ab hb] at e
  exact (x b u e).stay (fun c v _ q=>k c v q) (fun c q=>by rw [ab (az q hn)]; exact q) fun c xs q=>by rw [ab (az q hn)]; exact q
end
noncomputable def Rd (H:Hp)(a:Addr)(u:HO):Prop:=H a=some u\/∃ o,H a=some (.frz o u)
theorem Rd.ok {P:Program}{w:World}{H:Hp}{h:Heap}{a:Addr}{u:HO}(r:Rd H a u)(x:HOk P w H h):ObjOk P w H h a u:=by
 rcases r with r | ⟨o,r⟩
 ·exact x a u r
 ·obtain ⟨_,q⟩:=x a _ r
  exact q
noncomputable def Mut:Option HO->Prop
 | some (.lst _)=>True
 | some (.dK _)=>True
 | some (.dT _)=>True
 | some (.set _ _)=>True
 | some (.ins _ _ _)=>True
 | some (.ext _)=>True
 | _=>False
section
variable {P:Program}{w:World}{H:Hp}{h h':Heap}{x e:Addr}{o':HO}
theorem HOk.write (ok:HOk P w H h)(mu:Mut (H x))(he:e=x\/H e=some (.own x))(k:∀ b u,b≠e->h.get? b=some u->h'.get? b=some u)(heo:∃ u,h'.get? e=some u)
  (new:ObjOk P w (upd H x o') h' x o'):HOk P w (upd H x o') h':=fun b u q=>by
 have nown:∀ c y,H c=some (.own y)->c≠x:=fun c y r z=>by subst z; rw [r] at mu; exact mu
 have ntup:∀ c xs,H c=some (.tup xs)->c≠x:=fun c xs r z=>by subst z; rw [r] at mu; exact mu
 by_cases hb:b=x
 ·subst hb; rw [aq] at q; cases q; exact new
 ·rw [ab hb] at q
  by_cases hbe:b=e
  ·have q':H b=some (.own x):=by
    rcases he with z | z
    ·exact absurd (hbe.trans z) hb
    ·rw [hbe]; exact z
   rw [q] at q'; cases q'
   obtain ⟨v,hv⟩:=heo
   exact ⟨v,by rw [hbe]; exact hv⟩
  ·refine (ok b u q).stay (fun c v hc r=>k c v ?_ r) (fun c r=>by rw [ab (nown c b r)]; exact r) fun c xs r=>by rw [ab (ntup c xs r)]; exact r
   rcases hc with rfl | hc
   ·exact hbe
   ·rintro rfl
    rcases he with z | z
    ·exact nown c b hc z
    ·rw [hc] at z; cases z; exact hb rfl
end
structure Un (fs ex:List Addr)(H H':Hp)(h h':Heap):Prop where
 keep:∀ b o,h.get? b=some o->H b=none->b ∉ fs->b ∉ ex->h'.get? b=some o
 slot:∀ b o,h.get? b=some o->H b=none->b∈fs->b ∉ ex->∃ sl,h'.get? b=some { o with slots:=sl }
 free:∀ b o,h.get? b=some o->H b=none->b ∉ ex->H' b=none
 there:∀ b o,h.get? b=some o->b ∉ ex->∃ o',h'.get? b=some o'
 tups:∀ b xs,H b=some (.tup xs)->H' b=some (.tup xs)
 frzs:∀ b o u,H b=some (.frz o u)->H' b=some (.frz o u)
 tbls:∀ b ps,H b=some (.tbl ps)->∃ more,H' b=some (.tbl (ps++more))
section
variable {fs fs' ex ex':List Addr}{H H1 H2:Hp}{h h1 h2 h':Heap}{a x e:Addr}{o:HO}
theorem Un.any (u:Un fs ex H H1 h h1){b:Addr}{ob:Obj}(q:h.get? b=some ob)(n:H b=none)(hx:b ∉ ex):∃ sl,h1.get? b=some { ob with slots:=sl }:=by
 by_cases hb:b∈fs
 ·exact u.slot b ob q n hb hx
 ·exact ⟨ob.slots,u.keep b ob q n hb hx⟩
theorem Un.kept (k:∀ b u,h.get? b=some u->h'.get? b=some u):Un fs ex H H h h' :=
 ⟨fun b ob q _ _ _=>k b ob q,fun b ob q _ _ _=>⟨ob.slots,k b ob q⟩,fun _ _ _ n _=>n,fun b ob q _=>⟨ob,k b ob q⟩,fun _ _ q=>q,fun _ _ _ q=>q,fun _ ps q=>⟨#[],by rw [q]; simp⟩⟩
theorem Un.refl:Un fs ex H H h h:=Un.kept fun _ _ q=>q
theorem Un.laid (k:∀ b u,h.get? b=some u->h'.get? b=some u)(hp:h.objs.size<=a)(hn:H a=none):Un fs ex H (upd H a o) h h' where
 keep:=fun b u q _ _ _=>k b u q
 slot:=fun b u q _ _ _=>⟨u.slots,k b u q⟩
 free:=fun b u q n _=>by rw [ab (a0A (a0i (Heap.lt_size q) hp))]; exact n
 there:=fun b u q _=>⟨u,k b u q⟩
 tups:=fun b xs q=>by rw [ab (az q hn)]; exact q
 frzs:=fun b u xs q=>by rw [ab (az q hn)]; exact q
 tbls:=fun b ps q=>⟨#[],by rw [ab (az q hn),q]; simp⟩
theorem Un.write (mu:Mut (H x))(he:e=x\/H e=some (.own x))(k:∀ b u,b≠e->h.get? b=some u->h'.get? b=some u)(heo:∃ u,h'.get? e=some u):Un fs ex H (upd H x o) h h':=by
 have hx:∀ b,H b=none->b≠x:=fun b n z=>by subst z; rw [n] at mu; exact mu
 have hb:∀ b,H b=none->b≠e:=fun b n z=>by
  subst z
  rcases he with r | r
  ·exact hx b n r
  ·rw [n] at r; cases r
 have hm:∀ b u,H b=some u->¬ Mut (some u)->b≠x:=fun b u q nm z=>by subst z; rw [q] at mu; exact nm mu
 refine ⟨fun b u q n _ _=>k b u (hb b n) q,fun b u q n _ _=>⟨u.slots,k b u (hb b n) q⟩,fun b u q n _=>by rw [ab (hx b n)]; exact n,fun b u q _=>?_,
  fun b xs q=>by rw [ab (hm b _ q fun z=>z)]; exact q,fun b u xs q=>by rw [ab (hm b _ q fun z=>z)]; exact q,fun b ps q=>⟨#[],by rw [ab (hm b _ q fun z=>z),q]; simp⟩⟩
 by_cases hbe:b=e
 ·subst hbe; exact heo
 ·exact ⟨u,k b u hbe q⟩
end
noncomputable def trk (h:Heap)(H:Hp):List Addr:=(a0H h.objs.size).filter fun a=>(H a).isSome
noncomputable def fy (h:Heap)(H:Hp):Heap:=PySem.W.hideAll h (trk h H)
theorem jF (h:Heap)(H:Hp):(fy h H).objs.size=h.objs.size:=PySem.W.hideAll_size _ _
theorem lz {h:Heap}{H:Hp}{b:Addr}{o:Obj}(e:h.get? b=some o)(n:H b=none):(fy h H).get? b=some o :=
 PySem.W.hideAll_get _ e fun hm=>by
  have q:(H b).isSome=true:=(a2P.mp hm).2
  rw [n] at q; simp at q
theorem qr {h:Heap}{H:Hp}{b:Addr}{o:Obj}(e:(fy h H).get? b=some o):h.get? b=some o/\H b=none:=by
 have e':h.get? b=some o:=PySem.W.of_hideAll (trk h H) e
 refine ⟨e',?_⟩
 cases q:H b with
 | none=>rfl
 | some x =>
  have hm:b∈trk h H:=a2P.mpr ⟨a1D.mpr (Heap.lt_size e'),by simp [q]⟩
  have z:(fy h H).get? b=none:=PySem.W.hideAll_none (trk h H) hm
  rw [z] at e; cases e
noncomputable def pL (g h:Heap)(L:Addr):List (Addr×Obj):=(a0H h.objs.size).filterMap fun a=>if a=L\/(g.get? a).isSome=true then none else (h.get? a).map fun o=>(a,o)
noncomputable def rest (g h:Heap)(L d:Addr):List (Addr×Obj):=(pL g h L).filter fun p=>decide (p.1≠d)
end L2
namespace L2
open PySem PySem.Spec PyProof.Rows
structure Mod (K:a0a)(mg:Str->Option Value)(base:Heap):Prop where
 kin:K.In base
 glob:base.Ns mainGlobals mg
 blt:∃ mb,base.Ns builtinsNs mb/\∀ x:Str,x≠"__name__"->mb x=bootBuiltins x
 nolimit:base.NoLimit
structure Cx where
 prog:Program
 w:World
 K:a0a
 mg:Str->Option Value
 base:Heap
 A:Around
 N:List Str
 s₀:Shared
 H₀:Hp
 env:Env
 outer:List Env
 stack:List Env
 ex:List Addr
 fn:Str->Bool
 calm:Bool
 pn:List (Addr×Obj)
 xe:Value->Shared->Prop
noncomputable def frs (l:List Env):List Addr:=l.filterMap (·.frame)
noncomputable abbrev Cx.fs (X:Cx):List Addr:=frs X.outer
noncomputable def Vis (sc:Scope)(x:Str):Prop:=sc.names.lookup x=some .local\/sc.names.lookup x=some .cell\/sc.names.lookup x=some .free
noncomputable def Loc (sc:Scope)(x:Str):Prop:=sc.names.lookup x=some .local\/sc.names.lookup x=some .cell
noncomputable def yA (env:Env)(h:Heap)(m:Str->Option Value)(x:Str)(u:Value):Prop :=
 (env.kindOf x=some .local/\m x=some u)\/((env.kindOf x=some .cell\/env.kindOf x=some .free)/\∃ c,env.cells.lookup x=some c/\h.IsCell c (some u))
structure Cx.Ok (X:Cx):Prop where
 mod:Mod X.K X.mg X.base
 kind:X.env.scope.kind=.function
 glob:X.env.globals=mainGlobals
 blt:X.env.builtins=builtinsNs
 above:X.s₀.heap.objs.size<=X.env.locals
 inj:∀ x y c,X.env.cells.lookup x=some c->X.env.cells.lookup y=some c->x=y
 has:∀ x,(X.env.kindOf x=some .cell\/X.env.kindOf x=some .free)->∃ c,X.env.cells.lookup x=some c
 cab:∀ x c,X.fn x=true->X.env.cells.lookup x=some c->X.s₀.heap.objs.size<=c
 hd:X.calm=true->X.A.handled=none
 frames:X.A.frames=some X.stack
 stk:X.stack=X.outer\/(X.stack=X.env::X.outer/\X.env.frame=some X.env.locals)
 exf:∀ b∈X.ex,b≠X.env.locals/\∀ x c,X.env.cells.lookup x=some c->c≠b
 bs:∀ b o,X.base.get? b=some o->X.s₀.heap.get? b=some o/\X.H₀ b=none
 bsz:X.base.objs.size<=X.s₀.heap.objs.size
 noex:∀ b o,X.base.get? b=some o->b ∉ X.ex
 exfs:∀ b∈X.ex,b ∉ X.fs
 funs:X.s₀.heap.FunFrames X.base X.outer
 frf:∀ b∈X.fs,X.H₀ b=none
structure Inv (X:Cx)(pins:List (Addr×Obj))(σ:List (Option V))(H:Hp)(s:Shared):Prop where
 ok:X.Ok
 os:s.os=X.s₀.os
 bare:AllBare s.gens
 base:Un X.fs X.ex X.H₀ H X.s₀.heap s.heap
 loc:∃ m,s.heap.Ns X.env.locals m/\∀ (i:Nat) (x:Str) (v:V),X.N[i]?=some x->σ[i]?=some (some v)->Vis X.env.scope x->∃ u,RelV v u/\yA X.env s.heap m x u
 cell:∀ x c,X.env.cells.lookup x=some c->∃ v,s.heap.IsCell c v
 free:H X.env.locals=none
 freeC:∀ x c,X.env.cells.lookup x=some c->H c=none
 pin:∀ p∈X.pn++pins,s.heap.get? p.1=some p.2/\H p.1=none/\p.1≠X.env.locals/\p.1 ∉ X.fs/\∀ v,p.2.data≠.cell v
 hok:HOk X.prog X.w H s.heap
 len:σ.length=X.N.length
section
variable {X:Cx}{pins:List (Addr×Obj)}{σ:List (Option V)}{H H':Hp}{s:Shared}{h':Heap}
theorem Cx.Ok.nofr (ok:X.Ok){b:Addr}{o:Obj}(e:X.base.get? b=some o):b ∉ X.fs:=fun hb=>by
 have:=(ok.funs.mem hb).1
 rw [e] at this; cases this
theorem Inv.bs (I:Inv X pins σ H s):∀ b o,X.base.get? b=some o->s.heap.get? b=some o/\H b=none:=fun b o e =>
 ⟨I.base.keep b o (I.ok.bs b o e).1 (I.ok.bs b o e).2 (I.ok.nofr e) (I.ok.noex b o e),I.base.free b o (I.ok.bs b o e).1 (I.ok.bs b o e).2 (I.ok.noex b o e)⟩
theorem Inv.bk (I:Inv X pins σ H s):∀ b o,X.base.get? b=some o->s.heap.get? b=some o:=fun b o e=>(I.bs b o e).1
theorem Inv.mod (I:Inv X pins σ H s):Mod X.K X.mg X.base:=I.ok.mod
theorem Inv.kIn (I:Inv X pins σ H s):X.K.In s.heap:=I.ok.mod.kin.keeps I.bk
theorem Inv.fr (I:Inv X pins σ H s):∃ m,Fr X.base X.env.locals s.heap m :=
 let ⟨m,hn,_⟩:=I.loc
 ⟨m,hn,I.bk,a0s I.ok.bsz I.ok.above⟩
theorem Inv.lt (I:Inv X pins σ H s):X.env.locals < s.heap.objs.size:=let ⟨_,hn,_⟩:=I.loc; hn.lt
theorem Inv.sz (I:Inv X pins σ H s):X.s₀.heap.objs.size<=s.heap.objs.size:=a0s I.ok.above (a2e I.lt)
theorem Inv.nofs (I:Inv X pins σ H s){a:Addr}(h:s.heap.objs.size<=a):a ∉ X.fs:=fun hb=>by
 obtain ⟨_,o,ho,_⟩:=I.ok.funs.mem hb
 exact absurd (a0i (Heap.lt_size ho) (a0s I.sz h)) (a08 _)
theorem Inv.cne (I:Inv X pins σ H s):∀ x c,X.env.cells.lookup x=some c->c≠X.env.locals:=fun x c e z=>by
 obtain ⟨v,o,ho,hd⟩:=I.cell x c e
 obtain ⟨m,⟨o',es,ep,ho',hd',_⟩,_⟩:=I.loc
 rw [z,ho'] at ho; cases ho; rw [hd'] at hd; cases hd
theorem Inv.funs (I:Inv X pins σ H s):s.heap.FunFrames X.base X.outer:=by
 have all:∀ (l:List Env),(∀ b∈frs l,b∈X.fs)->X.s₀.heap.FunFrames X.base l->s.heap.FunFrames X.base l:=by
  intro l
  induction l with
  | nil=>intro _ _; trivial
  | cons env r ih =>
   intro hs hl
   obtain ⟨hk,⟨L,o,hf,hn,ho,hd⟩,hr⟩:=hl
   have hL:L∈X.fs:=hs L (by unfold frs; rw [a0S,hf]; exact a0c)
   obtain ⟨sl,e⟩:=I.base.slot L o ho (I.ok.frf L hL) hL fun z=>I.ok.exfs L z hL
   exact ⟨hk,⟨L,_,hf,hn,e,hd⟩,ih (fun b hb=>hs b (by unfold frs; rw [a0S,hf]; exact a0e _ hb)) hr⟩
 exact all X.outer (fun _ hb=>hb) I.ok.funs
theorem Inv.stack (I:Inv X pins σ H s):s.heap.FunFrames X.base X.stack:=by
 rcases I.ok.stk with e | ⟨e,hf⟩
 ·rw [e]; exact I.funs
 ·rw [e]
  obtain ⟨m,hn,_⟩:=I.loc
  refine .cons (by rw [I.ok.kind]; decide) hf hn ?_ I.funs
  exact Heap.get?_none_of_le (a0s I.ok.bsz I.ok.above)
theorem Inv.stkSub (I:Inv X pins σ H s):∀ b∈frs X.stack,b∈X.env.locals::X.fs:=fun b hb=>by
 rcases I.ok.stk with e | ⟨e,hf⟩
 ·rw [e] at hb; exact a0e _ hb
 ·rw [e] at hb
  unfold frs at hb
  rw [a0S,hf] at hb
  exact hb
theorem Inv.stkFree (I:Inv X pins σ H s):∀ b∈frs X.stack,H b=none:=fun b hb=>by
 rcases a0w.mp (I.stkSub b hb) with e | hb
 ·rw [e]; exact I.free
 ·obtain ⟨_,o,ho,_⟩:=I.ok.funs.mem hb
  exact I.base.free b o ho (I.ok.frf b hb) fun z=>I.ok.exfs b z hb
theorem Inv.step {g':Array GenState}{t':Nat}{d':Drawn}{ch:List Addr}(I:Inv X pins σ H s)
  (hch:∀ b∈ch,(b∈X.ex\/X.s₀.heap.objs.size<=b)/\b≠X.env.locals/\(∀ x c,X.env.cells.lookup x=some c->c≠b)/\∀ p∈X.pn++pins,p.1≠b)
  (keep:∀ b o,b≠X.env.locals->b ∉ X.fs->b ∉ ch->s.heap.get? b=some o->H b=none->h'.get? b=some o)
  (slot:∀ b o,b≠X.env.locals->b∈X.fs->b ∉ ch->s.heap.get? b=some o->H b=none->∃ sl,h'.get? b=some { o with slots:=sl }) (free:∀ b o,b ∉ ch->s.heap.get? b=some o->H b=none->H' b=none)
  (there:∀ b o,b ∉ ch->s.heap.get? b=some o->∃ o',h'.get? b=some o')
  (tups:∀ b xs,H b=some (.tup xs)->H' b=some (.tup xs)) (frzs:∀ b o u,H b=some (.frz o u)->H' b=some (.frz o u)) (tbls:∀ b ps,H b=some (.tbl ps)->∃ more,H' b=some (.tbl (ps++more)))
  (ns:∀ m,s.heap.Ns X.env.locals m->h'.Ns X.env.locals m) (hok:HOk X.prog X.w H' h') (hg:AllBare g') :
  Inv X pins σ H' { s with heap:=h',gens:=g',drawn:=d',toks:=t' }:=by
 have neL:∀ b o,X.s₀.heap.get? b=some o->b≠X.env.locals:=fun b o e=>a0A (a0i (Heap.lt_size e) I.ok.above)
 have neC:∀ b o,X.s₀.heap.get? b=some o->b ∉ X.ex->b ∉ ch:=fun b o e hx hb=>by
  rcases (hch b hb).1 with z | z
  ·exact hx z
  ·exact absurd (a0i (Heap.lt_size e) z) (a08 _)
 have cellK:∀ x c,X.env.cells.lookup x=some c->∀ v,s.heap.IsCell c v->h'.IsCell c v:=fun x c e v ⟨o,ho,hd⟩=>by
  have nch:c ∉ ch:=fun z=>(hch c z).2.2.1 x c e rfl
  by_cases hc:c∈X.fs
  ·obtain ⟨sl,q⟩:=slot c o (I.cne x c e) hc nch ho (I.freeC x c e)
   exact ⟨_,q,hd⟩
  ·exact ⟨o,keep c o (I.cne x c e) hc nch ho (I.freeC x c e),hd⟩
 refine ⟨I.ok,I.os,hg,⟨fun b o e n hb hx=>?_,fun b o e n hb hx=>?_,fun b o e n hx=>?_,fun b o e hx=>?_,fun b xs e=>tups b xs (I.base.tups b xs e),fun b o xs e=>frzs b o xs (I.base.frzs b o xs e),fun b ps e=>?_⟩,?_,fun x c e=>?_,?_,fun x c e=>?_,fun p hp=>?_,hok,I.len⟩
 ·exact keep b o (neL b o e) hb (neC b o e hx) (I.base.keep b o e n hb hx) (I.base.free b o e n hx)
 ·obtain ⟨sl,e1⟩:=I.base.slot b o e n hb hx
  obtain ⟨sl',e2⟩:=slot b _ (neL b o e) hb (neC b o e hx) e1 (I.base.free b o e n hx)
  exact ⟨sl',e2⟩
 ·obtain ⟨o',e1⟩:=I.base.there b o e hx
  exact free b o' (neC b o e hx) e1 (I.base.free b o e n hx)
 ·obtain ⟨o',e1⟩:=I.base.there b o e hx
  exact there b o' (neC b o e hx) e1
 ·obtain ⟨m1,e1⟩:=I.base.tbls b ps e
  obtain ⟨m2,e2⟩:=tbls b _ e1
  exact ⟨m1++m2,by rw [e2,a1N]⟩
 ·obtain ⟨m,hn,hl⟩:=I.loc
  refine ⟨m,ns m hn,fun i x v e1 e2 e3=>?_⟩
  obtain ⟨u,r,l⟩:=hl i x v e1 e2 e3
  refine ⟨u,r,?_⟩
  rcases l with l | ⟨k,c,e,z⟩
  ·exact .inl l
  ·exact .inr ⟨k,c,e,cellK x c e _ z⟩
 ·obtain ⟨v,z⟩:=I.cell x c e
  exact ⟨v,cellK x c e v z⟩
 ·obtain ⟨m,⟨o,_,_,ho,_⟩,_⟩:=I.loc
  exact free _ o (fun z=>(hch _ z).2.1 rfl) ho I.free
 ·obtain ⟨v,o,ho,hd⟩:=I.cell x c e
  exact free c o (fun z=>(hch c z).2.2.1 x c e rfl) ho (I.freeC x c e)
 ·obtain ⟨e,n,ne,nf,d⟩:=I.pin p hp
  have nch:p.1 ∉ ch:=fun z=>(hch p.1 z).2.2.2 p hp rfl
  exact ⟨keep p.1 p.2 ne nf nch e n,free p.1 p.2 nch e n,ne,nf,d⟩
theorem Inv.un {t':Nat}(I:Inv X pins σ H s)(u:Un X.fs [] H H' s.heap h')(hok:HOk X.prog X.w H' h'):Inv X pins σ H' { s with heap:=h',toks:=t' }:=by
 obtain ⟨m,⟨o,es,ep,ho,r⟩,_⟩:=id I.loc
 obtain ⟨sl,hL⟩:=u.any ho I.free (by simp)
 exact I.step (g':=s.gens) (d':=s.drawn) (ch:=[]) (fun _ z=>nomatch z) (fun b o _ hb _ e n=>u.keep b o e n hb (by simp)) (fun b o _ hb _ e n=>u.slot b o e n hb (by simp)) (fun b o _ e n=>u.free b o e n (by simp)) (fun b o _ e=>u.there b o e (by simp)) u.tups u.frzs u.tbls (fun m' hm=>by
  obtain ⟨o',es',ep',ho',r'⟩:=hm
  rw [ho] at ho'; cases ho'
  exact ⟨_,es',ep',hL,r'⟩) hok I.bare
theorem Inv.call {g':Array GenState}{t':Nat}{d':Drawn}{ch:List Addr}(I:Inv X pins σ H s)(u:Un (frs X.stack) ch H H' s.heap h')(hok:HOk X.prog X.w H' h')(hg:AllBare g')
  (hch:∀ b∈ch,(b∈X.ex\/X.s₀.heap.objs.size<=b)/\b≠X.env.locals/\(∀ x c,X.env.cells.lookup x=some c->c≠b)/\∀ p∈X.pn++pins,p.1≠b) :
  Inv X pins σ H' { s with heap:=h',gens:=g',drawn:=d',toks:=t' }:=by
 obtain ⟨m,⟨o,es,ep,ho,r⟩,_⟩:=id I.loc
 obtain ⟨sl,hL⟩:=u.any ho I.free fun z=>(hch _ z).2.1 rfl
 exact I.step (ch:=ch) hch (fun b o hL hb hc e n=>u.keep b o e n (fun z=>(a0w.mp (I.stkSub b z)).elim hL hb) hc) (fun b o _ _ hc e n=>u.any e n hc) (fun b o hc e n=>u.free b o e n hc) (fun b o hc e=>u.there b o e hc) u.tups u.frzs u.tbls (fun m' hm=>by
  obtain ⟨o',es',ep',ho',r'⟩:=hm
  rw [ho] at ho'; cases ho'
  exact ⟨_,es',ep',hL,r'⟩) hok hg
theorem Inv.turned {t':Nat}{it:Addr}(I:Inv X pins σ H s)(k:∀ b o,b≠it->s.heap.get? b=some o->h'.get? b=some o)(hn:H it=none)(hL:it≠X.env.locals)
  (h1:it∈X.ex\/X.s₀.heap.objs.size<=it) (h2:∀ x c,X.env.cells.lookup x=some c->c≠it) (h3:∀ p∈X.pn++pins,p.1≠it):Inv X pins σ H { s with heap:=h',toks:=t' }:=by
 have nit:∀ b u,H b=some u->b≠it:=fun b u e z=>by rw [z,hn] at e; cases e
 refine I.step (g':=s.gens) (d':=s.drawn) (ch:=[it]) (fun b hb=>?_) (fun b o _ _ hc e _=>k b o (fun z=>hc (by simp [z])) e) (fun b o _ _ hc e _=>⟨o.slots,k b o (fun z=>hc (by simp [z])) e⟩) (fun _ _ _ _ n=>n)
  (fun b o hc e=>⟨o,k b o (fun z=>hc (by simp [z])) e⟩) (fun _ _ e=>e) (fun _ _ _ e=>e) (fun b ps e=>⟨#[],by rw [e]; simp⟩) (fun m hm=>?_) (fun b u e=>?_) I.bare
 ·have e:b=it:=by simpa using hb
  subst e
  exact ⟨h1,hL,h2,h3⟩
 ·obtain ⟨o,es,ep,ho,r⟩:=hm
  exact ⟨o,es,ep,k _ o (a2y hL) ho,r⟩
 ·refine (I.hok b u e).stay (fun c v hc q=>k c v ?_ q) (fun _ q=>q) fun _ _ q=>q
  rcases hc with z | z
  ·rw [z]; exact nit b u e
  ·exact nit c _ z
theorem Inv.tok (I:Inv X pins σ H s)(t:Nat):Inv X pins σ H { s with toks:=t }:=I.un (h':=s.heap) (t':=t) Un.refl I.hok
theorem Inv.kept {t':Nat}(I:Inv X pins σ H s)(k:∀ b u,s.heap.get? b=some u->h'.get? b=some u):Inv X pins σ H { s with heap:=h',toks:=t' }:=I.un (Un.kept k) (I.hok.kept k)
theorem Inv.laid {a:Addr}{o:HO}{t':Nat}(I:Inv X pins σ H s)(k:∀ b u,s.heap.get? b=some u->h'.get? b=some u)(hp:s.heap.objs.size<=a)(new:ObjOk X.prog X.w (upd H a o) h' a o) :
  Inv X pins σ (upd H a o) { s with heap:=h',toks:=t' }:=I.un (Un.laid k hp (I.hok.fresh hp)) (I.hok.laid k hp new)
theorem Inv.write {x e:Addr}{o:HO}{t':Nat}(I:Inv X pins σ H s)(mu:Mut (H x))(he:e=x\/H e=some (.own x))(k:∀ b u,b≠e->s.heap.get? b=some u->h'.get? b=some u)(heo:∃ u,h'.get? e=some u)
  (new:ObjOk X.prog X.w (upd H x o) h' x o):Inv X pins σ (upd H x o) { s with heap:=h',toks:=t' }:=I.un (Un.write mu he k heo) (I.hok.write mu he k heo new)
theorem Inv.weak {σ':List (Option V)}(I:Inv X pins σ H s)(hl:σ'.length=σ.length)(w:∀ (i:Nat) v,σ'[i]?=some (some v)->σ[i]?=some (some v)):Inv X pins σ' H s :=
 ⟨I.ok,I.os,I.bare,I.base,let ⟨m,hn,hl'⟩:=I.loc; ⟨m,hn,fun i x v e1 e2 e3=>hl' i x v e1 (w i v e2) e3⟩,I.cell,I.free,I.freeC,I.pin,I.hok,hl.trans I.len⟩
theorem Inv.pins_of {pins':List (Addr×Obj)}(I:Inv X pins σ H s)(h:∀ p∈pins',s.heap.get? p.1=some p.2/\H p.1=none/\p.1≠X.env.locals/\p.1 ∉ X.fs/\∀ v,p.2.data≠.cell v):Inv X pins' σ H s :=
 ⟨I.ok,I.os,I.bare,I.base,I.loc,I.cell,I.free,I.freeC,fun p hp=>(a0L.mp hp).elim (fun z=>I.pin p (a0J _ z)) (h p),I.hok,I.len⟩
theorem g9 {N:List Str}(hN:N.Nodup){i j:Nat}{x:Str}(a:N[i]?=some x)(b:N[j]?=some x):i=j:=by
 obtain ⟨h1,e1⟩:=a0q.mp a
 obtain ⟨h2,e2⟩:=a0q.mp b
 exact (List.getElem_inj hN).mp (e1.trans e2.symm)
theorem eE {M:Model}{A:Around}{E:Value->Shared->Prop}{i:Nat}{x:Str}{v:V}{u:Value}{Q:Unit->Shared->Prop}(I:Inv X pins σ H s)(hN:X.N.Nodup)(hi:X.N[i]?=some x)(hx:Loc X.env.scope x)(r:RelV v u)
  (h:∀ s',Inv X pins (σ.set i (some v)) H s'->(∃ a,Heap.SameBut a s.heap s'.heap/\(a=X.env.locals\/X.env.cells.lookup x=some a))->Q () s') (hf:X.fn x=true\/X.env.scope.names.lookup x=some .local:=by first | exact .inl rfl | exact .inr rfl | assumption):wpAny M A (storeName X.env x u) Q E s:=by
 obtain ⟨m,hn,hl⟩:=id I.loc
 have hcls:(X.env.scope.kind==.class || (X.env.scope.kind==.module&&X.env.locals != X.env.globals))=false:=by rw [I.ok.kind]; rfl
 have hiσ:i < σ.length:=by rw [I.len]; exact (a0q.mp hi).1
 have cne:=I.cne
 have tracked:∀ {a:Addr} {h':Heap},(∃ o,s.heap.get? a=some o/\H a=none)->Heap.SameBut a s.heap h'->HOk X.prog X.w H h':=fun {a h'} ha hs b ob e=>by
  obtain ⟨_,_,hfree⟩:=ha
  refine (I.hok b ob e).stay (fun c w' hc q=>(hs.2 c ?_).trans q) (fun _ q=>q) fun _ _ q=>q
  rintro rfl
  rcases hc with rfl | hc
  ·rw [hfree] at e; cases e
  ·rw [hfree] at hc; cases hc
 rcases hx with hk | hk
 ·refine wpAny_storeName_local hk hn (fun h' hn' hs=>?_) hcls
  obtain ⟨oL,_,_,hoL,_⟩:=id hn
  refine h _ ⟨I.ok,I.os,I.bare,⟨fun b o e n hb hx=>?_,fun b o e n hb hx=>?_,I.base.free,fun b o e hx=>?_,I.base.tups,I.base.frzs,I.base.tbls⟩,⟨_,hn',fun j y v' e1 e2 e3=>?_⟩,fun y c e=>?_,I.free,I.freeC,fun p hp=>?_,tracked ⟨oL,hoL,I.free⟩ hs,by simpa using I.len⟩ ⟨_,hs,.inl rfl⟩
  ·exact (hs.2 b (a0A (a0i (Heap.lt_size e) I.ok.above))).trans (I.base.keep b o e n hb hx)
  ·obtain ⟨sl,e1⟩:=I.base.slot b o e n hb hx
   exact ⟨sl,(hs.2 b (a0A (a0i (Heap.lt_size e) I.ok.above))).trans e1⟩
  ·obtain ⟨o',e1⟩:=I.base.there b o e hx
   exact ⟨o',(hs.2 b (a0A (a0i (Heap.lt_size e) I.ok.above))).trans e1⟩
  ·by_cases hj:j=i
   ·subst hj
    rw [hi] at e1; cases e1
    rw [a1y hiσ] at e2
    cases e2
    exact ⟨u,r,.inl ⟨hk,by simp⟩⟩
   ·rw [a1j (a2y hj)] at e2
    obtain ⟨u',r',q⟩:=hl j y v' e1 e2 e3
    refine ⟨u',r',?_⟩
    rcases q with ⟨k,e⟩ | ⟨k,c,e,z⟩
    ·refine .inl ⟨k,?_⟩
     have:y≠x:=fun e=>hj (g9 hN e1 (e ▸ hi))
     simp [this,e]
    ·exact .inr ⟨k,c,e,z.sameBut hs (cne y c e)⟩
  ·obtain ⟨w',z⟩:=I.cell y c e
   exact ⟨w',z.sameBut hs (cne y c e)⟩
  ·obtain ⟨e,n,ne,nf,d⟩:=I.pin p hp
   exact ⟨(hs.2 p.1 ne).trans e,n,ne,nf,d⟩
 ·have hfn:X.fn x=true:=by
   rcases hf with z | z
   ·exact z
   ·rw [z] at hk; cases hk
  obtain ⟨c,hc⟩:=I.ok.has x (.inl hk)
  obtain ⟨w',z⟩:=I.cell x c hc
  refine wpAny_storeName_cell I.ok.kind hk hc z (fun h' hc' hs=>?_)
  obtain ⟨oc,hoc,hocd⟩:=id z
  refine h { s with heap:=h' } ⟨I.ok,I.os,I.bare,⟨fun b o e n hb hx=>?_,fun b o e n hb hx=>?_,I.base.free,fun b o e hx=>?_,I.base.tups,I.base.frzs,I.base.tbls⟩,⟨m,hn.sameBut hs (a2y (cne x c hc)),fun j y v' e1 e2 e3=>?_⟩,fun y c' e=>?_,I.free,I.freeC,fun p hp=>?_,tracked ⟨oc,hoc,I.freeC x c hc⟩ hs,by simpa using I.len⟩ ⟨c,hs,.inr hc⟩
  ·exact (hs.2 b (a0A (a0i (Heap.lt_size e) (I.ok.cab x c hfn hc)))).trans (I.base.keep b o e n hb hx)
  ·obtain ⟨sl,e1⟩:=I.base.slot b o e n hb hx
   exact ⟨sl,(hs.2 b (a0A (a0i (Heap.lt_size e) (I.ok.cab x c hfn hc)))).trans e1⟩
  ·obtain ⟨o',e1⟩:=I.base.there b o e hx
   exact ⟨o',(hs.2 b (a0A (a0i (Heap.lt_size e) (I.ok.cab x c hfn hc)))).trans e1⟩
  ·by_cases hj:j=i
   ·subst hj
    rw [hi] at e1; cases e1
    rw [a1y hiσ] at e2
    cases e2
    exact ⟨u,r,.inr ⟨.inl hk,c,hc,hc'⟩⟩
   ·rw [a1j (a2y hj)] at e2
    obtain ⟨u',r',q⟩:=hl j y v' e1 e2 e3
    refine ⟨u',r',?_⟩
    rcases q with q | ⟨k,c',e,z'⟩
    ·exact .inl q
    ·refine .inr ⟨k,c',e,z'.sameBut hs ?_⟩
     rintro rfl
     exact hj (g9 hN e1 (I.ok.inj _ _ _ e hc ▸ hi))
  ·by_cases hcc:c'=c
   ·subst hcc; exact ⟨_,hc'⟩
   ·obtain ⟨w2,z2⟩:=I.cell y c' e
    exact ⟨w2,z2.sameBut hs hcc⟩
  ·obtain ⟨e,n,ne,nf,d⟩:=I.pin p hp
   refine ⟨(hs.2 p.1 ?_).trans e,n,ne,nf,d⟩
   intro q
   rw [q,hoc] at e
   have q':oc=p.2:=a0z e
   exact d w' (by rw [<- q']; exact hocd)
theorem gZ {M:Model}{A:Around}{E:Value->Shared->Prop}{i:Nat}{x:Str}{v:V}{u:Value}{Q:Unit->Shared->Prop}(I:Inv X pins σ H s)(hN:X.N.Nodup)(hi:X.N[i]?=some x)(hx:Loc X.env.scope x)(r:RelV v u)
  (h:∀ s',Inv X pins (σ.set i (some v)) H s'->Q () s') (hf:X.fn x=true\/X.env.scope.names.lookup x=some .local:=by first | exact .inl rfl | exact .inr rfl | assumption):wpAny M A (storeName X.env x u) Q E s :=
 eE I hN hi hx r (fun s' I' _=>h s' I') hf
theorem Inv.call' {s':Shared}{ch:List Addr}(I:Inv X pins σ H s)(ho:s'.os=s.os)(u:Un (frs X.stack) ch H H' s.heap s'.heap)(hok:HOk X.prog X.w H' s'.heap)(hg:AllBare s'.gens)
  (hch:∀ b∈ch,(b∈X.ex\/X.s₀.heap.objs.size<=b)/\b≠X.env.locals/\(∀ x c,X.env.cells.lookup x=some c->c≠b)/\∀ p∈X.pn++pins,p.1≠b):Inv X pins σ H' s':=by
 obtain ⟨h',g',d',t',o'⟩:=s'
 have e:o'=s.os:=ho
 subst e
 exact I.call (g':=g') (t':=t') (d':=d') u hok hg hch
end
noncomputable abbrev XK:=Value->Option Addr->Hp->Prop
noncomputable abbrev St:=List (Option V)
noncomputable abbrev VK:=V->Hp->Prop
noncomputable abbrev TE:=St->Hp->VK->Prop
noncomputable abbrev TT:=St->Hp->(Bool->Hp->Prop)->Prop
noncomputable abbrev TA:=St->Hp->(List V->Hp->Prop)->Prop
structure bz where
 nx:St->Hp->Prop
 rt:VK
 bk:St->Hp->Prop:=fun _ _=>False
 ct:St->Hp->Prop:=fun _ _=>False
noncomputable abbrev TS:=bz->St->Hp->Prop
noncomputable def EP (X:Cx)(pins:List (Addr×Obj))(σ:St)(Q:VK)(u:Value)(s':Shared):Prop:=∃ v H',Inv X pins σ H' s'/\RelV v u/\Q v H'
noncomputable def TP (X:Cx)(pins:List (Addr×Obj))(σ:St)(Q:Bool->Hp->Prop)(b:Bool)(s':Shared):Prop:=∃ H',Inv X pins σ H' s'/\Q b H'
noncomputable def AP (X:Cx)(pins:List (Addr×Obj))(σ:St)(Q:List V->Hp->Prop)(us:List Value)(s':Shared):Prop:=∃ vs H',Inv X pins σ H' s'/\Vals vs us/\Q vs H'
noncomputable def SP (X:Cx)(pins:List (Addr×Obj))(D:bz)(f:Flow)(s':Shared):Prop :=
 match f with
 | .next=>∃ σ' H',Inv X pins σ' H' s'/\D.nx σ' H'
 | .brk=>∃ σ' H',Inv X pins σ' H' s'/\D.bk σ' H'
 | .cont=>∃ σ' H',Inv X pins σ' H' s'/\D.ct σ' H'
 | .ret u=>∃ v σ' H',Inv X pins σ' H' s'/\RelV v u/\D.rt v H'
noncomputable def PE (X:Cx)(e:Expr)(t:TE):Prop :=
 ∀ (pins:List (Addr×Obj)) (s:Shared) (σ:St) (H:Hp) (Q:VK),Inv X pins σ H s->t σ H Q->wpAny (model X.prog X.w) X.A (eval e X.env) (EP X pins σ Q) X.xe s
noncomputable def PT (X:Cx)(e:Expr)(t:TT):Prop :=
 ∀ (pins:List (Addr×Obj)) (s:Shared) (σ:St) (H:Hp) (Q:Bool->Hp->Prop),Inv X pins σ H s->t σ H Q->wpAny (model X.prog X.w) X.A (isTrue e X.env (eval e X.env)) (TP X pins σ Q) X.xe s
noncomputable def PW (X:Cx)(e:Expr)(t:TT):Prop :=
 ∀ (whole:Sem Value) (pins:List (Addr×Obj)) (s:Shared) (σ:St) (H:Hp) (Q:Bool->Hp->Prop),Inv X pins σ H s->t σ H Q->wpAny (model X.prog X.w) X.A (isTrue e X.env whole) (TP X pins σ Q) X.xe s
theorem PW.pt {X:Cx}{e:Expr}{t:TT}(h:PW X e t):PT X e t:=h _
noncomputable def PA (X:Cx)(es:List Expr)(t:TA):Prop :=
 ∀ (pos:Pos) (pins:List (Addr×Obj)) (s:Shared) (σ:St) (H:Hp) (Q:List V->Hp->Prop),Inv X pins σ H s->t σ H Q->wpAny (model X.prog X.w) X.A (spliced (backTo pos (starEach es X.env))) (AP X pins σ Q) X.xe s
noncomputable def PS (X:Cx)(st:Stmt)(t:TS):Prop :=
 ∀ (pins:List (Addr×Obj)) (s:Shared) (σ:St) (H:Hp) (D:bz),Inv X pins σ H s->t D σ H->wpAny (model X.prog X.w) X.A (exec st X.env) (SP X pins D) X.xe s
noncomputable def PSs (X:Cx)(st:List Stmt)(t:TS):Prop :=
 ∀ (pins:List (Addr×Obj)) (s:Shared) (σ:St) (H:Hp) (D:bz),Inv X pins σ H s->t D σ H->wpAny (model X.prog X.w) X.A (execs st X.env) (SP X pins D) X.xe s
theorem thn {α:Type}{t:Sem α}{Q Q':α->Shared->Prop}{M:Model}{A:Around}{E:Value->Shared->Prop}{s:Shared}(h:wpAny M A t Q E s)(hQ:∀ a s,Q a s->Q' a s):wpAny M A t Q' E s:=wpAny_mono h hQ fun _ _ x=>x
end L2
namespace L2
open PySem PySem.Spec PyProof.Rows
section
variable {X:Cx}
noncomputable def oW (i:Nat):TE:=fun σ H Q=>∃ v,σ[i]?=some (some v)/\Q v H
noncomputable def tC (v:V):TE:=fun _ H Q=>Q v H
theorem cU {i:Nat}{x:Str}{pos:Pos}(hN:X.N[i]?=some x)(hv:Vis X.env.scope x)(hd:(x==("__debug__":Str))=false:=by decide)(hcd:(x==("__classdict__":Str))=false:=by decide):PE X (.Name x pos) (oW i):=by
 intro pins s σ H Q I h
 obtain ⟨v,e,h⟩:=h
 obtain ⟨m,hn,hl⟩:=I.loc
 obtain ⟨u,r,l⟩:=hl i x v hN e hv
 have fin:EP X pins σ Q u s:=⟨v,H,I,r,h⟩
 rcases l with ⟨hk,hm⟩ | ⟨hk,c,hc,hcell⟩
 ·exact wpAny_Name (wpAny_loadName_local I.ok.kind hk hn hm fin) hd
 ·rcases hk with hk | hk
  ·exact wpAny_Name (wpAny_loadName_cell I.ok.kind hk hc hcell fin) hd
  ·exact wpAny_Name (wpAny_loadName_free I.ok.kind hk hc hcell fin hcd) hd
theorem k6 {i j pos}:PE X (.Constant (.int i) j pos) (tC (.int i)):=fun _ _ _ H _ I h=>wpAny_Constant_int ⟨.int i,H,I.tok _,⟨_,rfl⟩,h⟩
theorem xK {b j pos}:PE X (.Constant (.bool b) j pos) (tC (.bl b)):=fun _ _ _ H _ I h=>Constant_bool ⟨.bl b,H,I,rfl,h⟩
theorem uO {j pos}:PE X (.Constant .none j pos) (tC .non):=fun _ _ _ H _ I h=>Constant_none ⟨.non,H,I,rfl,h⟩
theorem sv {x j pos}:PE X (.Constant (.str x) j pos) (tC (.str x)):=fun _ _ _ H _ I h=>Calls.Constant_str ⟨.str x,H,I.tok _,⟨_,rfl⟩,h⟩
noncomputable def Gl (X:Cx)(x:Str):Prop:=X.env.kindOf x=some .globalImplicit
theorem iT {E:Value->Shared->Prop}{pins:List (Addr×Obj)}{s:Shared}{σ:St}{H:Hp}{x:Str}{u:Value}{pos:Pos}{Q:Value->Shared->Prop}(I:Inv X pins σ H s)(hg:Gl X x)(hm:X.mg x=some u)(h:Q u s)
  (hd:(x==("__debug__":Str))=false:=by decide):wpAny (model X.prog X.w) X.A (eval (.Name x pos) X.env) Q E s :=
 Calls.Name_function_global I.ok.kind hg (Calls.loadGlobal_global (by rw [I.ok.glob]; exact I.mod.glob.keeps I.bk) hm h) hd
theorem dJ {E:Value->Shared->Prop}{pins:List (Addr×Obj)}{s:Shared}{σ:St}{H:Hp}{x:Str}{u:Value}{pos:Pos}{Q:Value->Shared->Prop}(I:Inv X pins σ H s)(hg:Gl X x)(hm:X.mg x=none)(hv:bootBuiltins x=some u)(h:Q u s)
  (hn:x≠"__name__":=by decide) (hd:(x==("__debug__":Str))=false:=by decide):wpAny (model X.prog X.w) X.A (eval (.Name x pos) X.env) Q E s:=by
 obtain ⟨mb,h1,h2⟩:=I.mod.blt
 exact Calls.Name_function_global I.ok.kind hg (Calls.loadGlobal_builtin (by rw [I.ok.glob]; exact I.mod.glob.keeps I.bk) hm (by rw [I.ok.blt]; exact h1.keeps I.bk) ((h2 x hn).trans hv) h) hd
theorem qP {x:Str}{v:V}{u:Value}{pos:Pos}(hg:Gl X x)(hm:X.mg x=some u)(r:RelV v u)(hd:(x==("__debug__":Str))=false:=by decide):PE X (.Name x pos) (tC v) :=
 fun _ _ _ H _ I h=>iT I hg hm ⟨v,H,I,r,h⟩ hd
theorem oV {x:Str}{v:V}{u:Value}{pos:Pos}(hg:Gl X x)(hm:X.mg x=none)(hv:bootBuiltins x=some u)(r:RelV v u)(hn:x≠"__name__":=by decide)(hd:(x==("__debug__":Str))=false:=by decide):PE X (.Name x pos) (tC v) :=
 fun _ _ _ H _ I h=>dJ I hg hm hv ⟨v,H,I,r,h⟩ hn hd
variable {a b:Expr}{ta tb:TE}{pos:Pos}
noncomputable def PC (X:Cx)(op:CmpOp)(a b:Expr)(t:TE):Prop :=
 ∀ (pins:List (Addr×Obj)) (s:Shared) (σ:St) (H:Hp) (Q:VK),Inv X pins σ H s->t σ H Q ->
  wpAny (model X.prog X.w) X.A (eval a X.env) (fun v s₁=>wpAny (model X.prog X.w) X.A (eval b X.env) (fun u s₂=>wpAny (model X.prog X.w) X.A (compareOp op v u) (EP X pins σ Q) X.xe s₂) X.xe s₁) X.xe s
noncomputable def tB (t:TE):TT:=fun σ H Q=>t σ H fun x H1=>∃ c,x=.bl c/\Q c H1
variable {tA tB':TT}{rest:List Expr}
noncomputable def tOr (t u:TT):TT:=fun σ H Q=>t σ H fun c H1=>if c=true then Q true H1 else u σ H1 Q
noncomputable def xH (t:TT):TT:=fun σ H Q=>t σ H fun c H1=>Q (!c) H1
theorem uV (ha:PT X a tA):PW X (.BoolOp .Or [a] pos) tA:=by
 intro wh pins s σ H Q I h
 refine isTrue_or (thn (ha pins s σ H Q I h) fun c s1 e=>?_)
 cases c with
 | false=>exact isTrue_or_nil e
 | true=>exact e
theorem wU (ha:PT X a tA)(hb:PW X (.BoolOp .Or (b::rest) pos) tB'):PW X (.BoolOp .Or (a::b::rest) pos) (tOr tA tB'):=by
 intro wh pins s σ H Q I h
 refine isTrue_or (thn (ha pins s σ H _ I h) fun c s1 ⟨H1,I1,q1⟩=>?_)
 cases c with
 | true=>exact ⟨H1,I1,q1⟩
 | false=>exact hb wh pins s1 σ H1 Q I1 q1
theorem uM (ha:PT X a tA):PT X (.UnaryOp .Not a pos) (xH tA):=by
 intro pins s σ H Q I h
 exact isTrue_not (ha pins s σ H (fun c H1=>Q (!c) H1) I h)
theorem se {op}{t:TE}(h:PE X a t):PE X (.BoolOp op [a] pos) t:=fun pins s σ H Q I hw=>BoolOp_one (h pins s σ H Q I hw)
noncomputable def tIf (t:TT)(ta tb:TE):TE:=fun σ H Q=>t σ H fun c H1=>if c=true then ta σ H1 Q else tb σ H1 Q
theorem mn {c:Expr}(hc:PT X c tA)(ha:PE X a ta)(hb:PE X b tb):PE X (.IfExp c a b pos) (tIf tA ta tb):=by
 intro pins s σ H Q I h
 refine wpAny_IfExp (thn (hc pins s σ H _ I h) fun d s1 ⟨H1,I1,q1⟩=>?_)
 cases d with
 | true=>exact ha pins s1 σ H1 Q I1 q1
 | false=>exact hb pins s1 σ H1 Q I1 q1
end
end L2
namespace L2
open PySem PySem.Spec PyProof.Rows
noncomputable def SqL (K:a0a)(H:Hp)(a:Addr)(xs:List V):Prop :=
 Rd H a (.lst xs) \/
  ∃ (o:Obj) (its:Array Value) (n:Nat),K.lookup a=some o/\o.cls=.type "list"/\o.dict=none/\o.data=.seq its n/\its.size<=sizeLine/\Vals xs its.toList
noncomputable def SqT (K:a0a)(H:Hp)(a:Addr)(xs:List V):Prop :=
 Rd H a (.tup xs) \/
  ∃ (o:Obj) (its:Array Value) (n:Nat),K.lookup a=some o/\o.cls=.type "tuple"/\o.data=.seq its n/\its.size<=sizeLine/\Vals xs its.toList
noncomputable def yZ:Value->Option V
 | .none=>some .non
 | .bool b=>some (.bl b)
 | .int i _=>some (.int i)
 | .str x _=>some (.str x)
 | .bytes b _=>some (.byt b)
 | .float b _=>some (.flt b)
 | .ref a=>some (.ref a)
 | .type n=>some (.ty n)
 | _=>none
theorem RelV.abs {x:V}{u:Value}(r:RelV x u):yZ u=some x:=by
 cases x with
 | non=>cases r; rfl
 | bl _=>cases r; rfl
 | int _=>obtain ⟨t,rfl⟩:=r; rfl
 | str _=>obtain ⟨t,rfl⟩:=r; rfl
 | byt _=>obtain ⟨t,rfl⟩:=r; rfl
 | flt _=>obtain ⟨t,rfl⟩:=r; rfl
 | ref _=>cases r; rfl
 | ty _=>cases r; rfl
theorem RelV.inj {x y:V}{u:Value}(r:RelV x u)(q:RelV y u):x=y:=a0z (r.abs.symm.trans q.abs)
theorem Vals.inj:∀ {xs ys:List V} {us:List Value},Vals xs us->Vals ys us->xs=ys
 | _,_,_,.nil,.nil=>rfl
 | _,_,_,.cons r t,.cons r' t'=>by rw [r.inj r',Vals.inj t t']
section
variable {X:Cx}{pins:List (Addr×Obj)}{σ:St}{H:Hp}{s:Shared}{a:Addr}{xs ys:List V}
theorem SqL.of {K:a0a}(h:H a=some (.lst xs)):SqL K H a xs:=.inl (.inl h)
theorem SqT.of {K:a0a}(h:H a=some (.tup xs)):SqT K H a xs:=.inl (.inl h)
theorem Inv.list (I:Inv X pins σ H s)(h:SqL X.K H a xs):∃ its:List Value,Vals xs its/\PlainL s.heap a its.toArray/\xs.length<=sizeLine:=by
 rcases h with h | ⟨o,its,n,hk,hc,hd,hs,hz,r⟩
 ·obtain ⟨z,its,n,r,e⟩:=h.ok I.hok
  exact ⟨its,r,⟨_,n,e,rfl,rfl,rfl⟩,z⟩
 ·refine ⟨its.toList,r,⟨o,n,I.kIn a o hk,hc,hd,by simpa using hs⟩,?_⟩
  have e:=r.length
  simp only [a0E] at e
  omega
theorem Inv.tuple (I:Inv X pins σ H s)(h:SqT X.K H a xs):∃ its:List Value,Vals xs its/\IsTup s.heap a its.toArray/\xs.length<=sizeLine:=by
 rcases h with h | ⟨o,its,n,hk,hc,hs,hz,r⟩
 ·obtain ⟨z,its,r,p⟩:=h.ok I.hok
  exact ⟨its,r,p,z⟩
 ·refine ⟨its.toList,r,⟨o,I.kIn a o hk,hc,n,by simpa using hs⟩,?_⟩
  have e:=r.length
  simp only [a0E] at e
  omega
theorem Inv.list_inj (I:Inv X pins σ H s)(h:SqL X.K H a xs)(h':SqL X.K H a ys):xs=ys:=by
 obtain ⟨its,r,⟨o,n,e,_,_,d⟩,_⟩:=I.list h
 obtain ⟨its',r',⟨o',n',e',_,_,d'⟩,_⟩:=I.list h'
 rw [e] at e'; cases e'
 rw [d] at d'
 injection d' with d1 _
 have:its=its':=by simpa using congrArg a29 d1
 subst this
 exact r.inj r'
theorem Inv.tuple_inj (I:Inv X pins σ H s)(h:SqT X.K H a xs)(h':SqT X.K H a ys):xs=ys:=by
 obtain ⟨its,r,⟨o,e,_,n,d⟩,_⟩:=I.tuple h
 obtain ⟨its',r',⟨o',e',_,n',d'⟩,_⟩:=I.tuple h'
 rw [e] at e'; cases e'
 rw [d] at d'
 injection d' with d1 _
 have:its=its':=by simpa using congrArg a29 d1
 subst this
 exact r.inj r'
end
noncomputable abbrev Cx.wish (X:Cx)(E:Value->Shared->Prop):Cx:={ X with xe:=E }
noncomputable abbrev Cx.nox (X:Cx):Cx:=X.wish fun _ _=>False
theorem Cx.Ok.wish {X:Cx}(ok:X.Ok)(E:Value->Shared->Prop):(X.wish E).Ok :=
 ⟨ok.mod,ok.kind,ok.glob,ok.blt,ok.above,ok.inj,ok.has,ok.cab,ok.hd,ok.frames,ok.stk,ok.exf,ok.bs,ok.bsz,ok.noex,ok.exfs,ok.funs,ok.frf⟩
theorem Cx.Ok.unwish {X:Cx}{E:Value->Shared->Prop}(ok:(X.wish E).Ok):X.Ok :=
 ⟨ok.mod,ok.kind,ok.glob,ok.blt,ok.above,ok.inj,ok.has,ok.cab,ok.hd,ok.frames,ok.stk,ok.exf,ok.bs,ok.bsz,ok.noex,ok.exfs,ok.funs,ok.frf⟩
section
variable {X:Cx}{pins:List (Addr×Obj)}{σ:St}{H:Hp}{s:Shared}{E:Value->Shared->Prop}
theorem Inv.wish (I:Inv X pins σ H s)(E:Value->Shared->Prop):Inv (X.wish E) pins σ H s:=⟨I.ok.wish E,I.os,I.bare,I.base,I.loc,I.cell,I.free,I.freeC,I.pin,I.hok,I.len⟩
theorem Inv.unwish (I:Inv (X.wish E) pins σ H s):Inv X pins σ H s:=⟨I.ok.unwish,I.os,I.bare,I.base,I.loc,I.cell,I.free,I.freeC,I.pin,I.hok,I.len⟩
theorem SP.unwish {D:bz}{f:Flow}{s':Shared}(h:SP (X.wish E) pins D f s'):SP X pins D f s':=by
 cases f with
 | next=>obtain ⟨σ',H',I,q⟩:=h; exact ⟨σ',H',I.unwish,q⟩
 | brk=>obtain ⟨σ',H',I,q⟩:=h; exact ⟨σ',H',I.unwish,q⟩
 | cont=>obtain ⟨σ',H',I,q⟩:=h; exact ⟨σ',H',I.unwish,q⟩
 | ret u=>obtain ⟨v,σ',H',I,r,q⟩:=h; exact ⟨v,σ',H',I.unwish,r,q⟩
theorem PSs.nox {st:List Stmt}{t:TS}(h:PSs X.nox st t):PSs X st t:=fun pins s σ H D I hw =>
 wpAny_mono (h pins s σ H D (I.wish _) hw) (fun _ _ q=>q.unwish) fun _ _ z=>a1i z
end
section
variable {X:Cx}{st:Stmt}{rest:List Stmt}{t u:TS}{e:Expr}{te:TE}{pos:Pos}
noncomputable def qR:TS:=fun D σ H=>D.nx σ H
noncomputable def xD (t u:TS):TS:=fun D σ H=>t { D with nx:=u D } σ H
theorem pk:PSs X [] qR:=fun _ _ σ H _ I h=>wpAny_execs_nil ⟨σ,H,I,h⟩
theorem kj (h1:PS X st t)(h2:PSs X rest u):PSs X (st::rest) (xD t u):=by
 intro pins s σ H D I h
 refine wpAny_execs_cons (thn (h1 pins s σ H { D with nx:=u D } I h) fun f s1 q=>?_)
 cases f with
 | next =>
  obtain ⟨σ',H',I',q⟩:=q
  exact h2 pins s1 σ' H' D I' q
 | ret v=>exact q
 | brk=>exact q
 | cont=>exact q
theorem oC (h1:PS X st t):PSs X [st] t:=by
 intro pins s σ H D I h
 refine wpAny_execs_cons (thn (h1 pins s σ H D I h) fun f s1 q=>?_)
 cases f with
 | next=>exact wpAny_execs_nil q
 | ret v=>exact q
 | brk=>exact q
 | cont=>exact q
theorem Inv.quiet {pins:List (Addr×Obj)}{σ:St}{H:Hp}{s:Shared}(I:Inv X pins σ H s):interactive X.env=false:=by simp [interactive,I.ok.kind]
noncomputable def qX (te:TE):TS:=fun D σ H=>te σ H fun _ H1=>D.nx σ H1
theorem fB (he:PE X e te)(hs:swapsWith e none pos.line X.env=pure false:=by rfl):PS X (.Expr e pos) (qX te):=by
 intro pins s σ H D I h
 exact wpAny_Expr_any (thn (he pins s σ H _ I h) fun v s1 ⟨x,H1,I1,r1,q1⟩=>⟨σ,H1,I1,q1⟩) I.quiet hs
noncomputable def wu (te:TE):TS:=fun D σ H=>te σ H D.rt
theorem uk (he:PE X e te):PS X (.Return (some e) pos) (wu te):=by
 intro pins s σ H D I h
 exact wpAny_Return_some (thn (he pins s σ H _ I h) fun v s1 ⟨x,H1,I1,r1,q1⟩=>⟨x,σ,H1,I1,r1,q1⟩)
noncomputable def x9 (c:TT)(t u:TS):TS:=fun D σ H=>c σ H fun b H1=>if b=true then t D σ H1 else u D σ H1
theorem xo {c:Expr}{a b:List Stmt}{tc:TT}(hc:PT X c tc)(ha:PSs X a t)(hb:PSs X b u):PS X (.If c a b pos) (x9 tc t u):=by
 intro pins s σ H D I h
 refine wpAny_If (thn (hc pins s σ H _ I h) fun d s1 ⟨H1,I1,q1⟩=>?_)
 cases d with
 | true=>exact ha pins s1 σ H1 D I1 q1
 | false=>exact hb pins s1 σ H1 D I1 q1
end
noncomputable abbrev TG:=V->St->Hp->(St->Hp->Prop)->Prop
noncomputable abbrev TGs:=List V->St->Hp->(St->Hp->Prop)->Prop
noncomputable def PG (X:Cx)(target:Expr)(t:TG):Prop :=
 ∀ (pins:List (Addr×Obj)) (s:Shared) (σ:St) (H:Hp) (v:V) (u:Value) (Q:St->Hp->Prop),Inv X pins σ H s->RelV v u->t v σ H Q ->
  wpAny (model X.prog X.w) X.A (assign target X.env u) (fun _ s'=>∃ σ' H',Inv X pins σ' H' s'/\Q σ' H') X.xe s
noncomputable def PGs (X:Cx)(ts:List Expr)(t:TGs):Prop :=
 ∀ (pins:List (Addr×Obj)) (s:Shared) (σ:St) (H:Hp) (vs:List V) (us:List Value) (Q:St->Hp->Prop),Inv X pins σ H s->Vals vs us->t vs σ H Q ->
  wpAny (model X.prog X.w) X.A (assignInOrder ((assignEach ts X.env).map (·.2)) us) (fun _ s'=>∃ σ' H',Inv X pins σ' H' s'/\Q σ' H') X.xe s
section
variable {X:Cx}{pos:Pos}
noncomputable def bR (i:Nat):TG:=fun v σ H Q=>Q (σ.set i (some v)) H
theorem df {i:Nat}{x:Str}(hN:X.N.Nodup)(hi:X.N[i]?=some x)(hx:Loc X.env.scope x)(hf:X.fn x=true\/X.env.scope.names.lookup x=some .local:=by first | exact .inl rfl | exact .inr rfl | assumption):PG X (.Name x pos) (bR i):=by
 intro pins s σ H v u Q I r h
 exact wpAny_assign_Name (gZ I hN hi hx r (fun s' I'=>⟨_,H,I',h⟩) hf)
noncomputable def rV:TGs:=fun vs σ H Q=>vs=[]/\Q σ H
noncomputable def gB (t:TG)(u:TGs):TGs:=fun vs σ H Q=>∃ v r,vs=v::r/\t v σ H fun σ' H'=>u r σ' H' Q
theorem qD:PGs X [] rV:=by
 intro pins s σ H vs us Q I r h
 obtain ⟨e,h⟩:=h
 subst e
 cases r
 exact assignInOrder_nil ⟨σ,H,I,h⟩
theorem gS {e:Expr}{es:List Expr}{t:TG}{u:TGs}(h1:PG X e t)(h2:PGs X es u)
  (hs:(assignEach (e::es) X.env).map (·.2)=assign e X.env::(assignEach es X.env).map (·.2):=by rfl):PGs X (e::es) (gB t u):=by
 intro pins s σ H vs us Q I r h
 obtain ⟨v,vr,e1,h⟩:=h
 subst e1
 cases r with
 | cons r rr =>
  rw [hs]
  refine assignInOrder_cons (thn (h1 pins s σ H _ _ _ I r h) fun _ s1 ⟨σ1,H1,I1,q1⟩=>?_)
  exact h2 pins s1 σ1 H1 _ _ Q I1 rr q1
noncomputable def vH (K:a0a)(n:Nat)(t:TGs):TG:=fun v σ H Q=>∃ a xs,v=.ref a/\SqT K H a xs/\xs.length=n/\t xs σ H Q
theorem vM {es:List Expr}{k:Nat}{t:TGs}{n:Nat}(hc:X.calm=true)(h:PGs X es t)
  (hn:(assignEach es X.env).length=n:=by rfl) (hst:(assignEach es X.env).findIdx? (·.1)=none:=by rfl):PG X (.Tuple es k pos) (vH X.K n t):=by
 intro pins s σ H v u Q I r hw
 obtain ⟨a,xs,e1,hq,hl,hw⟩:=hw
 subst e1
 cases r
 obtain ⟨its,rv,ht,hz⟩:=I.tuple hq
 refine assign_Tuple_tuple (I.ok.hd hc) ht (by simp [hn,<- hl,rv.length]) hst fun h' hx=>?_
 have I1:Inv X pins σ H { s with heap:=h' }:=I.kept (t':=s.toks) fun b o e=>hx b o (a0A (Heap.lt_size e)) e
 exact h pins _ σ H xs _ Q I1 (by simpa using rv) hw
noncomputable def pE (te:TE)(g:TG):TS:=fun D σ H=>te σ H fun x H1=>g x σ H1 D.nx
theorem vA {i:Nat}{x:Str}{e:Expr}{te:TE}{pos':Pos}(hN:X.N.Nodup)(hi:X.N[i]?=some x)(hx:Loc X.env.scope x)(he:PE X e te)(hs:swapsWith e (some (.Name x pos')) pos.line X.env=pure false:=by rfl)(hf:X.fn x=true\/X.env.scope.names.lookup x=some .local:=by first | exact .inl rfl | exact .inr rfl | assumption) :
  PS X (.Assign [.Name x pos'] e pos) (pE te (bR i)):=by
 intro pins s σ H D I h
 refine wpAny_Assign_Name (thn (he pins s σ H _ I h) fun v s1 ⟨y,H1,I1,r1,q1⟩=>?_) hs
 exact gZ I1 hN hi hx r1 (fun s2 I2=>⟨_,H1,I2,q1⟩) hf
end
section
variable {X:Cx}{pos:Pos}
noncomputable def ke (c:TT)(tb:TS):TS:=fun D σ H=>∃ W:Nat->St->Hp->Prop,(∃ m,W m σ H)/\∀ m σ H,W m σ H ->
 c σ H fun b H1=>if b=true then ∃ N:St->Hp->Prop,(∀ σ' H',N σ' H'->∃ m',m' < m/\W m' σ' H')/\tb { D with nx:=N,ct:=N,bk:=D.nx } σ H1 else D.nx σ H1
theorem ll {c:Expr}{body:List Stmt}{tc:TT}{tb:TS}(hp:PassesOwn (model X.prog X.w) X.A X.env X.xe)(hc:PT X c tc)(hb:PSs X body tb):PS X (.While c body [] pos) (ke tc tb):=by
 intro pins s σ H D I h
 obtain ⟨W,⟨m0,w0⟩,turn⟩:=h
 refine wpAny_While (codeAny_whileLoop (fun n s'=>∃ σ' H',Inv X pins σ' H' s'/\W n σ' H') ?_ m0 ⟨σ,H,I,w0⟩)
 rintro n s1 ⟨σ1,H1,I1,w1⟩
 refine wpAny_passesOwn hp (thn (hc pins s1 σ1 H1 _ I1 (turn n σ1 H1 w1)) fun b s2 ⟨H2,I2,q2⟩=>?_)
 cases b with
 | true =>
  obtain ⟨N,hN,q2⟩:=q2
  rw [if_pos rfl]
  refine wpAny_passesOwn hp (thn (hb pins s2 σ1 H2 _ I2 q2) fun f s3 q3=>?_)
  cases f with
  | next =>
   obtain ⟨σ3,H3,I3,n3⟩:=q3
   obtain ⟨m',hm,w3⟩:=hN σ3 H3 n3
   exact ⟨m',hm,σ3,H3,I3,w3⟩
  | cont =>
   obtain ⟨σ3,H3,I3,n3⟩:=q3
   obtain ⟨m',hm,w3⟩:=hN σ3 H3 n3
   exact ⟨m',hm,σ3,H3,I3,w3⟩
  | brk=>exact q3
  | ret v=>exact q3
 | false =>
  rw [if_neg a0l]
  exact wpAny_execs_nil ⟨σ1,H2,I2,q2⟩
end
structure It where
 go:Nat->Hp->Prop
 yld:Nat->Hp->V->Hp->Prop
 stop:Nat->Hp->Prop
noncomputable def dZ (X:Cx)(pins:List (Addr×Obj))(H:Hp)(b:Addr):Prop :=
 H b=none/\b≠X.env.locals/\b ∉ X.fs/\(b∈X.ex\/X.s₀.heap.objs.size<=b)/\(∀ x c,X.env.cells.lookup x=some c->c≠b)/\∀ p∈X.pn++pins,p.1≠b
theorem Inv.fpOk {X:Cx}{pins:List (Addr×Obj)}{σ:St}{H H':Hp}{s:Shared}{b:Addr}(I:Inv X pins σ H s)(hb:s.heap.objs.size<=b)(hn:H' b=none):dZ X pins H' b:=by
 refine ⟨hn,a1p (a0i I.lt hb),I.nofs hb,.inr (a0s I.sz hb),fun x c e z=>?_,fun p hp z=>?_⟩
 ·obtain ⟨v,q⟩:=I.cell x c e
  exact absurd (a0i q.lt (by rw [z]; exact hb)) (a08 _)
 ·exact absurd (a0i (Heap.lt_size (I.pin p hp).1) (by rw [z]; exact hb)) (a08 _)
structure kD (P:Program)(w:World)(K:a0a)(tg:Expr)(J:It)(fp:List Addr)(it:Addr)(tn:Nat->Heap->Prop):Prop where
 mem:it∈fp
 obj:∀ i h,tn i h->∀ b∈fp,∃ o,h.get? b=some o/\∀ v,o.data≠.cell v
 keep:∀ i h h',tn i h->(∀ b∈fp,∀ o,h.get? b=some o->h'.get? b=some o)->tn i h'
 item:∀ (X:Cx),X.prog=P->X.w=w->X.K=K->X.calm=true->∀ (i:Nat) (pins:List (Addr×Obj)) (s:Shared) (σ:St) (H:Hp) (E:Value->Shared->Prop),Inv X pins σ H s->(∀ b∈fp,dZ X pins H b)->tn i s.heap->J.go i H ->
  wpAny (model P w) X.A (pyNext (.ref it)) (fun r s1=>∃ u,r=some u /\
   wpAny (model P w) X.A (letOwnedTupleGo tg (.ref it) u) (fun _ s2=>∃ x H',Inv X pins σ H' s2/\RelV x u/\J.yld i H x H'/\tn (i+1) s2.heap/\∀ b∈fp,H' b=none) E s1) E s
 done:∀ (X:Cx),X.prog=P->X.w=w->X.K=K->X.calm=true->∀ (i:Nat) (pins:List (Addr×Obj)) (s:Shared) (σ:St) (H:Hp) (E:Value->Shared->Prop),Inv X pins σ H s->(∀ b∈fp,dZ X pins H b)->tn i s.heap->J.stop i H ->
  wpAny (model P w) X.A (pyNext (.ref it)) (fun r s1=>r=none/\Inv X pins σ H s1) E s
 self:∀ (A:Around) (i:Nat) (s:Shared) (Q:Value->Shared->Prop) (E:Value->Shared->Prop),tn i s.heap->Q (.ref it) s->wpAny (model P w) A (pyIter (.ref it)) Q E s
noncomputable abbrev TI:=St->Hp->(It->Hp->Prop)->Prop
noncomputable def PIE (X:Cx)(pins:List (Addr×Obj))(σ:St)(tg:Expr)(R:It->Hp->Prop)(itv:Value)(s2:Shared):Prop :=
 ∃ (it:Addr) (fp:List Addr) (tn:Nat->Heap->Prop) (J:It) (H':Hp),itv=.ref it/\Inv X pins σ H' s2/\kD X.prog X.w X.K tg J fp it tn/\tn 0 s2.heap/\(∀ b∈fp,dZ X pins H' b)/\R J H'
noncomputable def PI (X:Cx)(tg iter:Expr)(wi:TI):Prop :=
 ∀ (pins:List (Addr×Obj)) (s:Shared) (σ:St) (H:Hp) (R:It->Hp->Prop),Inv X pins σ H s->wi σ H R ->
  wpAny (model X.prog X.w) X.A (eval iter X.env) (fun v s1=>wpAny (model X.prog X.w) X.A (pyIter v) (PIE X pins σ tg R) X.xe s1) X.xe s
theorem lV {M:Model}{A:Around}{E:Value->Shared->Prop}{s:Shared}{tg:Expr}{it:Addr}{u:Value}{o:Obj}{n:String}{vs:Array Value}{Q:Unit->Shared->Prop}(ho:s.heap.get? it=some o)(hc:o.cls=.type n)(hd:o.data=.fields vs)
  (hn:["enumerate","zip","dict_itemiterator","dict_reverseitemiterator","odict_iterator","itertools.zip_longest","itertools.pairwise"].contains n=false) (hQ:Q () s):wpAny M A (letOwnedTupleGo tg (.ref it) u) Q E s:=by
 unfold letOwnedTupleGo
 cases tg<;>first
  | exact wpAny_pure hQ
  | (cases u<;>first
    | exact wpAny_pure hQ
    | (refine wpAny_bind (wpAny_load ho ?_)
       rw [hc,hd]
       show wpAny M A (if (["enumerate","zip","dict_itemiterator","dict_reverseitemiterator","odict_iterator","itertools.zip_longest","itertools.pairwise"].contains n&&vs[0]?==some (rawInt _))=true then _ else _) Q E s
       rw [if_neg (by intro h; rw [hn,Bool.false_and] at h; cases h)]
       exact wpAny_pure hQ))
noncomputable def Itl (K:a0a)(a:Addr):It :=
 ⟨fun i H=>∃ xs x,SqL K H a xs/\xs[i]?=some x,fun i H x H'=>H'=H/\∀ xs,SqL K H a xs->xs[i]?=some x,fun i H=>∃ xs,SqL K H a xs/\xs.length<=i⟩
noncomputable def Itt (K:a0a)(a:Addr):It :=
 ⟨fun i H=>∃ xs x,SqT K H a xs/\xs[i]?=some x,fun i H x H'=>H'=H/\∀ xs,SqT K H a xs->xs[i]?=some x,fun i H=>∃ xs,SqT K H a xs/\xs.length<=i⟩
noncomputable def Itr (lo:Int)(n:Nat):It:=⟨fun i _=>i < n,fun i H x H'=>H'=H/\x=.int (lo+i),fun i _=>n<=i⟩
theorem jU {P:Program}{w:World}{K:a0a}{tg:Expr}(a it:Addr):kD P w K tg (Itl K a) [it] it (fun i h=>h.IsListIter it a i) where
 mem:=by simp
 obj:=fun i h st b hb=>by
  have e:b=it:=by simpa using hb
  subst e
  obtain ⟨o,e,c,d⟩:=st
  exact ⟨o,e,fun v z=>by rw [d] at z; cases z⟩
 keep:=fun i h h' st k=>st.at fun o e=>k it (by simp) o e
 item:=by
  intro X hP hw hK hc i pins s σ H E I hf st hg
  subst hP hw hK
  obtain ⟨xs,x,hq,hx⟩:=hg
  obtain ⟨its,rv,p,hz⟩:=I.list hq
  obtain ⟨u,hu,ru⟩:=rv.get hx
  obtain ⟨f0,f1,f2,f3,f4,f5⟩:=hf it (by simp)
  refine wpAny_pyNext_list_item st p.isList (x:=u) (by simpa using hu) fun h' st' sb=>?_
  have I1:Inv X pins σ H { s with heap:=h' }:=I.turned (t':=s.toks) (fun b o hb e=>(sb.2 b hb).trans e) f0 f1 f3 f4 f5
  obtain ⟨o,e,c,d⟩:=id st'
  exact ⟨u,rfl,lV (s:={ s with heap:=h' }) e c d (by decide) ⟨x,H,I1,ru,⟨rfl,fun ys hy=>by rw [I.list_inj hy hq]; exact hx⟩,st',fun b hb=>(hf b hb).1⟩⟩
 done:=by
  intro X hP hw hK hc i pins s σ H E I hf st hg
  subst hP hw hK
  obtain ⟨xs,hq,hx⟩:=hg
  obtain ⟨its,rv,p,hz⟩:=I.list hq
  obtain ⟨f0,f1,f2,f3,f4,f5⟩:=hf it (by simp)
  have hl:=rv.length
  exact wpAny_pyNext_list_end (I.ok.hd hc) st p.isList (by simp; omega) fun h' eb=>⟨rfl,I.turned (t':=s.toks) (fun b o hb e=>eb b o hb e) f0 f1 f3 f4 f5⟩
 self:=fun _ _ _ _ _ st h=>wpAny_pyIter_listiter st h
theorem hU {P:Program}{w:World}{K:a0a}{tg:Expr}(a it:Addr):kD P w K tg (Itt K a) [it] it (fun i h=>h.IsTupleIter it a i) where
 mem:=by simp
 obj:=fun i h st b hb=>by
  have e:b=it:=by simpa using hb
  subst e
  obtain ⟨o,e,c,d⟩:=st
  exact ⟨o,e,fun v z=>by rw [d] at z; cases z⟩
 keep:=fun i h h' st k=>st.at fun o e=>k it (by simp) o e
 item:=by
  intro X hP hw hK hc i pins s σ H E I hf st hg
  subst hP hw hK
  obtain ⟨xs,x,hq,hx⟩:=hg
  obtain ⟨its,rv,p,hz⟩:=I.tuple hq
  obtain ⟨u,hu,ru⟩:=rv.get hx
  obtain ⟨f0,f1,f2,f3,f4,f5⟩:=hf it (by simp)
  refine wpAny_pyNext_tuple_item st (show s.heap.IsTuple a its.toArray from p) (x:=u) (by simpa using hu) fun h' st' sb=>?_
  have I1:Inv X pins σ H { s with heap:=h' }:=I.turned (t':=s.toks) (fun b o hb e=>(sb.2 b hb).trans e) f0 f1 f3 f4 f5
  obtain ⟨o,e,c,d⟩:=id st'
  exact ⟨u,rfl,lV (s:={ s with heap:=h' }) e c d (by decide) ⟨x,H,I1,ru,⟨rfl,fun ys hy=>by rw [I.tuple_inj hy hq]; exact hx⟩,st',fun b hb=>(hf b hb).1⟩⟩
 done:=by
  intro X hP hw hK hc i pins s σ H E I hf st hg
  subst hP hw hK
  obtain ⟨xs,hq,hx⟩:=hg
  obtain ⟨its,rv,p,hz⟩:=I.tuple hq
  obtain ⟨f0,f1,f2,f3,f4,f5⟩:=hf it (by simp)
  have hl:=rv.length
  exact wpAny_pyNext_tuple_end (I.ok.hd hc) st (show s.heap.IsTuple a its.toArray from p) (by simp; omega) fun h' eb=>⟨rfl,I.turned (t':=s.toks) (fun b o hb e=>eb b o hb e) f0 f1 f3 f4 f5⟩
 self:=fun _ _ _ _ _ st h=>wpAny_pyIter_tupleiter st h
theorem iK {P:Program}{w:World}{K:a0a}{tg:Expr}(it:Addr)(lo:Int)(n:Nat):kD P w K tg (Itr lo n) [it] it (fun i h=>IsRangeIter h it (lo+(i:Nat) * 1) ((n:Int)-(i:Nat)) 1) where
 mem:=by simp
 obj:=fun i h st b hb=>by
  have e:b=it:=by simpa using hb
  subst e
  exact ⟨_,st,fun v z=>by
   have z':Data.fields _=Data.cell v:=z
   cases z'⟩
 keep:=fun i h h' st k=>k it (by simp) _ st
 item:=by
  intro X hP hw hK hc i pins s σ H E I hf st hg
  subst hP hw hK
  obtain ⟨f0,f1,f2,f3,f4,f5⟩:=hf it (by simp)
  have W:=Walks.range (prog:=X.prog) (w:=X.w) (I.ok.hd hc) it lo 1 n
  refine W.item i s _ _ hg st fun v h' tk hv st' kk=>?_
  obtain ⟨t,rfl⟩:=hv
  have I1:Inv X pins σ H { s with heap:=h',toks:=tk }:=I.turned (fun b o hb e=>kk b o (by simpa using hb) e) f0 f1 f3 f4 f5
  refine ⟨_,rfl,lV (s:={ s with heap:=h',toks:=tk }) (n:="range_iterator") st' rfl rfl (by decide) ⟨.int (lo+i),H,I1,⟨t,?_⟩,⟨rfl,rfl⟩,st',fun b hb=>(hf b hb).1⟩⟩
  rw [Int.mul_one]
 done:=by
  intro X hP hw hK hc i pins s σ H E I hf st hg
  subst hP hw hK
  obtain ⟨f0,f1,f2,f3,f4,f5⟩:=hf it (by simp)
  exact wpAny_pyNext_range_end (I.ok.hd hc) st (by have:n<=i:=hg; omega) fun h' eb=>⟨rfl,I.turned (t':=s.toks) (fun b o hb e=>eb b o hb e) f0 f1 f3 f4 f5⟩
 self:=fun _ _ _ _ _ st h=>wpAny_pyIter_rangeiter st h
end L2
namespace L2
open PySem PySem.Spec PyProof.Rows
section
variable {X:Cx}{tg:Expr}
noncomputable def ro (K:a0a)(tl:TE):TI:=fun σ H R=>tl σ H fun x H1=>∃ a,x=.ref a/\(∃ xs,SqL K H1 a xs)/\R (Itl K a) H1
noncomputable def yk (K:a0a)(tl:TE):TI:=fun σ H R=>tl σ H fun x H1=>∃ a,x=.ref a/\(∃ xs,SqT K H1 a xs)/\R (Itt K a) H1
theorem pV {l:Expr}{tl:TE}(hl:PE X l tl):PI X tg l (ro X.K tl):=by
 intro pins s σ H R I h
 refine thn (hl pins s σ H _ I h) fun v s1 ⟨x,H1,I1,r1,q1⟩=>?_
 obtain ⟨a,e,⟨xs,hq⟩,q⟩:=q1
 subst e
 cases r1
 obtain ⟨its,rv,p,hz⟩:=I1.list hq
 refine wpAny_pyIter_list p.isList ?_
 refine ⟨s1.heap.objs.size,[s1.heap.objs.size],_,_,H1,rfl,I1.kept (t':=s1.toks) fun b o e=>Heap.get?_push_of_some _ e,jU a _,⟨_,Heap.get?_push_size _ rfl,rfl,rfl⟩,fun b hb=>?_,q⟩
 have e:b=s1.heap.objs.size:=by simpa using hb
 subst e
 exact I1.fpOk (a0j _) (I1.hok.fresh (a0j _))
theorem t9 {l:Expr}{tl:TE}(hl:PE X l tl):PI X tg l (yk X.K tl):=by
 intro pins s σ H R I h
 refine thn (hl pins s σ H _ I h) fun v s1 ⟨x,H1,I1,r1,q1⟩=>?_
 obtain ⟨a,e,⟨xs,hq⟩,q⟩:=q1
 subst e
 cases r1
 obtain ⟨its,rv,p,hz⟩:=I1.tuple hq
 refine wpAny_pyIter_tuple (show s1.heap.IsTuple a its.toArray from p) ?_
 refine ⟨s1.heap.objs.size,[s1.heap.objs.size],_,_,H1,rfl,I1.kept (t':=s1.toks) fun b o e=>Heap.get?_push_of_some _ e,hU a _,⟨_,Heap.get?_push_size _ rfl,rfl,rfl⟩,fun b hb=>?_,q⟩
 have e:b=s1.heap.objs.size:=by simpa using hb
 subst e
 exact I1.fpOk (a0j _) (I1.hok.fresh (a0j _))
theorem mO {pins:List (Addr×Obj)}{σ:St}{H:Hp}{s:Shared}{R:It->Hp->Prop}{E:Value->Shared->Prop}{lo hi:Int}{t u v:Tok}{tk:Nat}(I:Inv X pins σ H s)(h1:-(2 ^ 62)<=lo)(h2:lo < 2 ^ 62)(h3:-(2 ^ 62)<=hi)(h4:hi < 2 ^ 62)
  (q:R (Itr lo (hi-lo).toNat) H):wpAny (model X.prog X.w) X.A (pyIter (.ref s.heap.objs.size)) (PIE X pins σ tg R) E { s with heap:=s.heap.push { cls:=.type "range",data:=.fields #[.int lo t,.int hi u,.int 1 v] },toks:=tk }:=by
 refine wpAny_pyIter_range (IsRange.new ..) (small_one h1 h2 h3 h4) ?_
 have I1:Inv X pins σ H { s with heap:=s.heap.push { cls:=.type "range",data:=.fields #[.int lo t,.int hi u,.int 1 v] },toks:=tk }:=I.kept fun b o e=>Heap.get?_push_of_some _ e
 refine ⟨(s.heap.push { cls:=.type "range",data:=.fields #[.int lo t,.int hi u,.int 1 v] }).objs.size,[(s.heap.push { cls:=.type "range",data:=.fields #[.int lo t,.int hi u,.int 1 v] }).objs.size],_,_,H,rfl,
  I1.kept (t':=tk) fun b o e=>Heap.get?_push_of_some _ e,iK _ lo (hi-lo).toNat,?_,fun b hb=>?_,q⟩
 ·have e1:lo+((0:Nat):Int) * 1=lo:=by simp
  have e2:(((hi-lo).toNat:Nat):Int)-((0:Nat):Int)=Builtin.Range.rangeSize lo hi 1:=by rw [rangeSize_one]; split<;>omega
  show IsRangeIter _ _ (lo+((0:Nat):Int) * 1) ((((hi-lo).toNat:Nat):Int)-((0:Nat):Int)) 1
  rw [e1,e2]
  exact Heap.get?_push_size _ rfl
 ·have e:b=(s.heap.push { cls:=.type "range",data:=.fields #[.int lo t,.int hi u,.int 1 v] }).objs.size:=by simpa using hb
  subst e
  exact I1.fpOk (a0j _) (I1.hok.fresh (a0j _))
noncomputable def q9 (ta:TA):TI:=fun σ H R=>ta σ H fun vs H1=>∃ j:Int,vs=[.int j]/\-(2 ^ 62)<=j/\j < 2 ^ 62/\R (Itr 0 j.toNat) H1
theorem jT {a:Expr}{ta:TA}{p pos:Pos}(hg:Gl X "range")(hm:X.mg "range"=none)(ha:PA X [a] ta)(hs:starEach [a] X.env=[(false,eval a X.env)]:=by rfl):PI X tg (.Call (.Name "range" p) [a] [] pos) (q9 ta):=by
 intro pins s σ H R I h
 refine Call_ (dJ I hg hm boot_range (a1d (thn (ha pos pins s σ H _ I h) fun us s1 ⟨vs,H1,I1,r1,q1⟩=>?_) hs rfl))
 obtain ⟨j,e,q1,q2,q⟩:=q1
 subst e
 cases r1 with
 | cons r rr =>
  cases rr
  obtain ⟨t,rfl⟩:=r
  exact call_range_1 (mO I1 (by omega) (by omega) q1 q2 (by simpa using q))
noncomputable def xB (wi:TI)(g:TG)(tb:TS):TS:=fun D σ H=>wi σ H fun J H1=>∃ W:Nat->Nat->St->Hp->Prop,(∃ m,W 0 m σ H1)/\∀ i m σ H,W i m σ H ->
 (J.stop i H/\D.nx σ H)\/(J.go i H/\∃ N:St->Hp->Prop,(∀ σ' H',N σ' H'->∃ m',m' < m/\W (i+1) m' σ' H')/\∀ x H',J.yld i H x H'->g x σ H' fun σ2 H2=>tb { D with nx:=N,ct:=N,bk:=D.nx } σ2 H2)
noncomputable def dP (fp:List Addr)(h:Heap):List (Addr×Obj):=fp.filterMap fun b=>(h.get? b).map fun o=>(b,o)
theorem aW {fp:List Addr}{h:Heap}{b:Addr}{o:Obj}(hb:b∈fp)(e:h.get? b=some o):(b,o)∈dP fp h:=a2r.mpr ⟨b,hb,by rw [e]; rfl⟩
theorem jl {fp:List Addr}{h:Heap}{p:Addr×Obj}(hp:p∈dP fp h):p.1∈fp/\h.get? p.1=some p.2:=by
 obtain ⟨b,hb,e⟩:=a2r.mp hp
 cases q:h.get? b with
 | none=>rw [q] at e; cases e
 | some o =>
  rw [q] at e
  have e':(b,o)=p:=a0z e
  subst e'
  exact ⟨hb,q⟩
theorem Inv.pinned {pins:List (Addr×Obj)}{σ:St}{H:Hp}{s:Shared}{fp:List Addr}(I:Inv X pins σ H s)(hf:∀ b∈fp,dZ X pins H b)(ho:∀ b∈fp,∃ o,s.heap.get? b=some o/\∀ v,o.data≠.cell v):Inv X (pins++dP fp s.heap) σ H s :=
 I.pins_of fun p hp=>(a0L.mp hp).elim (fun z=>I.pin p (a0f _ z)) fun z=>by
  obtain ⟨hb,e⟩:=jl z
  obtain ⟨f0,f1,f2,_⟩:=hf p.1 hb
  obtain ⟨o,e',d⟩:=ho p.1 hb
  rw [e] at e'; cases e'
  exact ⟨e,f0,f1,f2,d⟩
theorem Inv.unpinned {pins pl:List (Addr×Obj)}{σ:St}{H:Hp}{s:Shared}(I:Inv X (pins++pl) σ H s):Inv X pins σ H s:=I.pins_of fun p hp=>I.pin p (a0f _ (a0J _ hp))
theorem sk {iter:Expr}{body:List Stmt}{wi:TI}{g:TG}{tb:TS}{pos:Pos}(hp:PassesOwn (model X.prog X.w) X.A X.env X.xe)(hc:X.calm=true)(hi:PI X tg iter wi)(hg:PG X tg g)(hb:PSs X body tb)
  (hs:∀ x,foldedSetIterable iter X.env x=pure x:=by intro _; rfl):PS X (.For tg iter body [] pos) (xB wi g tb):=by
 intro pins s σ H D I h
 refine wpAny_For (thn (hi pins s σ H _ I h) fun v s1 h1=>thn h1 fun itv s2 h2=>?_) hs
 obtain ⟨it,fp,tn,J,H2,e,I2,T,st2,f2,W,⟨m0,w0⟩,turn⟩:=h2
 subst e
 -- what stays true of the iterator's objects through the loop
 have stat:∀ {H':Hp},(∀ b∈fp,H' b=none)->∀ b∈fp,dZ X pins H' b:=fun hn b hb=>⟨hn b hb,(f2 b hb).2⟩
 refine codeAny_forLoop_any (fun n s'=>∃ i σ' H',Inv X pins σ' H' s'/\tn i s'.heap/\(∀ b∈fp,H' b=none)/\W i n σ' H') ?_ m0 ⟨0,σ,H2,I2,st2,fun b hb=>(f2 b hb).1,w0⟩
 rintro n s3 ⟨i,σ3,H3,I3,st3,fr3,w3⟩
 rcases turn i n σ3 H3 w3 with ⟨stop,qn⟩ | ⟨go,N,hN,step⟩
 ·refine wpAny_passesOwn hp (thn (T.done X rfl rfl rfl hc i pins s3 σ3 H3 X.xe I3 (stat fr3) st3 stop) fun r s4 ⟨hr,I4⟩=>?_)
  subst hr
  exact wpAny_execs_nil ⟨σ3,H3,I4,qn⟩
 ·refine wpAny_passesOwn hp (thn (T.item X rfl rfl rfl hc i pins s3 σ3 H3 X.xe I3 (stat fr3) st3 go) fun r s4 ⟨u,hr,h4⟩=>?_)
  subst hr
  refine wpAny_passesOwn hp (thn h4 fun _ s5 ⟨x,H5,I5,r5,y5,st5,fr5⟩=>?_)
  have I5':=I5.pinned (stat fr5) (T.obj _ _ st5)
  refine wpAny_passesOwn hp (thn (hg _ s5 σ3 H5 x u _ I5' r5 (step x H5 y5)) fun _ s6 ⟨σ6,H6,I6,q6⟩=>?_)
  refine wpAny_passesOwn hp (thn (hb _ s6 σ6 H6 _ I6 q6) fun f s7 q7=>?_)
  have again:∀ {σ7:St} {H7:Hp},Inv X (pins++dP fp s5.heap) σ7 H7 s7->N σ7 H7->∃ m,m < n/\∃ i σ' H',Inv X pins σ' H' s7/\tn i s7.heap/\(∀ b∈fp,H' b=none)/\W i m σ' H':=fun {σ7 H7} I7 n7=>by
   obtain ⟨m',hm,w7⟩:=hN σ7 H7 n7
   refine ⟨m',hm,i+1,σ7,H7,I7.unpinned,T.keep _ _ _ st5 fun b hb o e=>(I7.pin (b,o) (a0f _ (a0f _ (aW hb e)))).1,fun b hb=>?_,w7⟩
   obtain ⟨o,e,d⟩:=T.obj _ _ st5 b hb
   exact (I7.pin (b,o) (a0f _ (a0f _ (aW hb e)))).2.1
  cases f with
  | next=>obtain ⟨σ7,H7,I7,n7⟩:=q7; exact again I7 n7
  | cont=>obtain ⟨σ7,H7,I7,n7⟩:=q7; exact again I7 n7
  | brk=>obtain ⟨σ7,H7,I7,q7⟩:=q7; exact ⟨σ7,H7,I7.unpinned,q7⟩
  | ret v=>obtain ⟨x7,σ7,H7,I7,r7,q7⟩:=q7; exact ⟨x7,σ7,H7,I7.unpinned,r7,q7⟩
end
end L2
namespace L2
open PySem PySem.Spec PyProof.Rows
noncomputable abbrev R2:=V->V->Hp->VK->Prop
noncomputable def OpR (X:Cx)(f:Value->Value->Sem Value)(r:R2):Prop :=
 ∀ (pins:List (Addr×Obj)) (s:Shared) (σ:St) (H:Hp) (x y:V) (v u:Value) (Q:VK),Inv X pins σ H s->RelV x v->RelV y u->r x y H Q ->
  wpAny (model X.prog X.w) X.A (f v u) (EP X pins σ Q) X.xe s
noncomputable def UnR (X:Cx)(f:Value->Sem Value)(r:V->Hp->VK->Prop):Prop :=
 ∀ (pins:List (Addr×Obj)) (s:Shared) (σ:St) (H:Hp) (x:V) (v:Value) (Q:VK),Inv X pins σ H s->RelV x v->r x H Q ->
  wpAny (model X.prog X.w) X.A (f v) (EP X pins σ Q) X.xe s
noncomputable def bL (X:Cx)(f:Value)(r:List V->Hp->VK->Prop):Prop :=
 ∀ (pins:List (Addr×Obj)) (s:Shared) (σ:St) (H:Hp) (xs:List V) (us:List Value) (Q:VK),Inv X pins σ H s->Vals xs us->r xs H Q ->
  wpAny (model X.prog X.w) X.A (call f us) (EP X pins σ Q) X.xe s
noncomputable def yV (X:Cx)(r:V->Hp->(Bool->Hp->Prop)->Prop):Prop :=
 ∀ (pins:List (Addr×Obj)) (s:Shared) (σ:St) (H:Hp) (x:V) (v:Value) (Q:Bool->Hp->Prop),Inv X pins σ H s->RelV x v->r x H Q ->
  wpAny (model X.prog X.w) X.A (truthy v) (TP X pins σ Q) X.xe s
noncomputable def tOp (r:R2)(ta tb:TE):TE:=fun σ H Q=>ta σ H fun x H1=>tb σ H1 fun y H2=>r x y H2 Q
noncomputable def tUn (r:V->Hp->VK->Prop)(ta:TE):TE:=fun σ H Q=>ta σ H fun x H1=>r x H1 Q
noncomputable def rI (C:Int->Int->Prop)(g:Int->Int->V):R2:=fun x y H Q=>∃ i j,x=.int i/\y=.int j/\C i j/\Q (g i j) H
noncomputable def rI0 (g:Int->Int->V):R2:=fun x y H Q=>∃ i j,x=.int i/\y=.int j/\Q (g i j) H
noncomputable def rU (g:Int->V):V->Hp->VK->Prop:=fun x H Q=>∃ i,x=.int i/\Q (g i) H
section
variable {X:Cx}{a b c:Expr}{ta tb tc:TE}{pos:Pos}
theorem vh (ha:PE X a ta)(hb:PE X b tb){pins:List (Addr×Obj)}{s:Shared}{σ:St}{H:Hp}{R:V->V->Hp->Prop}(I:Inv X pins σ H s)
  (h:ta σ H fun x H1=>tb σ H1 fun y H2=>R x y H2) {Q:Value->Shared->Prop} {f:Value->Value->Sem Value}
  (hf:∀ v u s2 x y H2,Inv X pins σ H2 s2->RelV x v->RelV y u->R x y H2->wpAny (model X.prog X.w) X.A (f v u) Q X.xe s2) :
  wpAny (model X.prog X.w) X.A (eval a X.env) (fun v s₁=>wpAny (model X.prog X.w) X.A (eval b X.env) (fun u s₂=>wpAny (model X.prog X.w) X.A (f v u) Q X.xe s₂) X.xe s₁) X.xe s:=by
 refine thn (ha pins s σ H _ I h) fun v s1 ⟨x,H1,I1,r1,q1⟩=>?_
 refine thn (hb pins s1 σ H1 _ I1 q1) fun u s2 ⟨y,H2,I2,r2,q2⟩=>?_
 exact hf v u s2 x y H2 I2 r1 r2 q2
theorem eG {op:Operator}{r:R2}(ho:OpR X (binaryOp op) r)(ha:PE X a ta)(hb:PE X b tb):PE X (.BinOp a op b pos) (tOp r ta tb):=by
 intro pins s σ H Q I h
 exact wpAny_BinOp (vh ha hb I h fun v u s2 x y H2 I2 rx ry q=>ho pins s2 σ H2 x y v u Q I2 rx ry q)
theorem xQ {op:UnaryOp}{r:V->Hp->VK->Prop}(ho:UnR X (unaryOp op) r)(ha:PE X a ta):PE X (.UnaryOp op a pos) (tUn r ta):=by
 intro pins s σ H Q I h
 exact UnaryOp_ (thn (ha pins s σ H _ I h) fun v s1 ⟨x,H1,I1,r1,q1⟩=>ho pins s1 σ H1 x v Q I1 r1 q1)
theorem opI {f:Value->Value->Sem Value}{C:Int->Int->Prop}{g:Int->Int->Int}
  (rule:∀ (i j:Int) (t u:Tok) (s:Shared) (Q:Value->Shared->Prop) (E:Value->Shared->Prop),C i j->Q (.int (g i j) s.toks) { s with toks:=s.toks+1 }->wpAny (model X.prog X.w) X.A (f (.int i t) (.int j u)) Q E s) :
  OpR X f (rI C fun i j=>.int (g i j)):=by
 intro pins s σ H x y v u Q I rx ry h
 obtain ⟨i,j,rfl,rfl,hc,q⟩:=h
 obtain ⟨t,rfl⟩:=rx
 obtain ⟨t',rfl⟩:=ry
 exact rule i j t t' s _ _ hc ⟨.int (g i j),H,I.tok _,⟨_,rfl⟩,q⟩
theorem yc {f:Value->Value->Sem Value}{g:Int->Int->Int}
  (rule:∀ (i j:Int) (t u:Tok) (s:Shared) (Q:Value->Shared->Prop) (E:Value->Shared->Prop),Q (.int (g i j) s.toks) { s with toks:=s.toks+1 }->wpAny (model X.prog X.w) X.A (f (.int i t) (.int j u)) Q E s) :
  OpR X f (rI0 fun i j=>.int (g i j)):=by
 intro pins s σ H x y v u Q I rx ry h
 obtain ⟨i,j,rfl,rfl,q⟩:=h
 obtain ⟨t,rfl⟩:=rx
 obtain ⟨t',rfl⟩:=ry
 exact rule i j t t' s _ _ ⟨.int (g i j),H,I.tok _,⟨_,rfl⟩,q⟩
theorem nP {f:Value->Value->Sem Value}{g:Int->Int->Bool}
  (rule:∀ (i j:Int) (t u:Tok) (s:Shared) (Q:Value->Shared->Prop) (E:Value->Shared->Prop),Q (.bool (g i j)) s->wpAny (model X.prog X.w) X.A (f (.int i t) (.int j u)) Q E s) :
  OpR X f (rI0 fun i j=>.bl (g i j)):=by
 intro pins s σ H x y v u Q I rx ry h
 obtain ⟨i,j,rfl,rfl,q⟩:=h
 obtain ⟨t,rfl⟩:=rx
 obtain ⟨t',rfl⟩:=ry
 exact rule i j t t' s _ _ ⟨.bl (g i j),H,I,rfl,q⟩
noncomputable def tK (i j:Int):Prop:=0 < j/\j < 1073741824
noncomputable def t4 (i j:Int):Prop:=0<=j/\j<=1000000/\i.natAbs < 2 ^ 64
noncomputable def CMul (i j:Int):Prop:=(-(2 ^ 64) < i/\i < 2 ^ 64)\/(-(2 ^ 64) < j/\j < 2 ^ 64)
theorem CMul.ok {i j:Int}(h:CMul i j):IntMulOk i j:=by
 rcases h with ⟨h1,h2⟩ | ⟨h1,h2⟩
 ·exact .of_left (intBits_le_64 h1 h2)
 ·exact .of_right (intBits_le_64 h1 h2)
theorem op_add:OpR X (binaryOp .Add) (rI0 fun i j=>.int (i+j)):=yc fun _ _ _ _ _ _ _ q=>add_int q
theorem vc:OpR X (binaryOp .Sub) (rI0 fun i j=>.int (i-j)):=yc fun _ _ _ _ _ _ _ q=>sub_int q
theorem op_mul:OpR X (binaryOp .Mult) (rI CMul fun i j=>.int (i * j)):=opI fun _ _ _ _ _ _ _ hc q=>mul_int q hc.ok
theorem qi:OpR X (binaryOp .FloorDiv) (rI tK fun i j=>.int (i / j)):=opI fun i j _ _ _ _ _ hc q=>by
 have h1:(0:Int) < j:=hc.1
 have h2:j < 1073741824:=hc.2
 exact floordiv_int (by omega) (by rw [Int.fdiv_eq_ediv_of_nonneg i (by omega)]; exact q) (.inl (PyProof.noPylong_small (by omega)))
theorem sF:OpR X (binaryOp .Mod) (rI (fun _ j=>0 < j) fun i j=>.int (i % j)):=opI fun i j _ _ _ _ _ hc q=>by
 have h1:(0:Int) < j:=hc
 exact mod_int' (by omega) (by rw [Int.fmod_eq_emod_of_nonneg i (by omega)]; exact q)
theorem uC:OpR X (binaryOp .Pow) (rI t4 fun i j=>.int (i ^ j.toNat)):=opI fun _ _ _ _ _ _ _ hc q=>pow_int_small hc.1 hc.2.1 hc.2.2 q
theorem unI {f:Value->Sem Value}{g:Int->Int}
  (rule:∀ (i:Int) (t:Tok) (s:Shared) (Q:Value->Shared->Prop) (E:Value->Shared->Prop),Q (.int (g i) s.toks) { s with toks:=s.toks+1 }->wpAny (model X.prog X.w) X.A (f (.int i t)) Q E s) :
  UnR X f (rU fun i=>.int (g i)):=by
 intro pins s σ H x v Q I rx h
 obtain ⟨i,rfl,q⟩:=h
 obtain ⟨t,rfl⟩:=rx
 exact rule i t s _ _ ⟨.int (g i),H,I.tok _,⟨_,rfl⟩,q⟩
theorem sG:UnR X (unaryOp .USub) (rU fun i=>.int (-i)):=unI fun _ _ _ _ _ q=>neg_int q
end
section
variable {X:Cx}{a b c:Expr}{ta tb tc:TE}{pos:Pos}
theorem sL {pins:List (Addr×Obj)}{σ:St}{H:Hp}{s:Shared}{Q:VK}{k k':Bool}(I:Inv X pins σ H s)(q:Q (.bl k) H)(e:k=k'):EP X pins σ Q (.bool k') s:=by
 subst e
 exact ⟨.bl k,H,I,rfl,q⟩
theorem rq:OpR X (compareOp .Lt) (rI0 fun i j=>.bl (decide (i < j))):=nP fun _ _ _ _ _ _ _ q=>lt_int q
theorem qU:OpR X (compareOp .LtE) (rI0 fun i j=>.bl (decide (i<=j))):=nP fun _ _ _ _ _ _ _ q=>le_int q
theorem wm:OpR X (compareOp .Gt) (rI0 fun i j=>.bl (decide (j < i))):=nP fun _ _ _ _ _ _ _ q=>gt_int q
theorem vW:OpR X (compareOp .GtE) (rI0 fun i j=>.bl (decide (j<=i))):=nP fun _ _ _ _ _ _ _ q=>ge_int q
theorem nJ:OpR X (compareOp .Is) (fun x y H Q=>y=.non/\Q (.bl (decide (x=.non))) H):=by
 intro pins s σ H x y v u Q I rx ry h
 obtain ⟨rfl,q⟩:=h
 cases ry
 refine is_none_gen (sL I q ?_)
 cases x<;>first
  | (cases rx; rfl)
  | (obtain ⟨t,rfl⟩:=rx; rfl)
theorem OpR.or {f:Value->Value->Sem Value}{r r':R2}(h:OpR X f r)(h':OpR X f r'):OpR X f (fun x y H Q=>r x y H Q\/r' x y H Q):=by
 intro pins s σ H x y v u Q I rx ry q
 rcases q with q | q
 ·exact h pins s σ H x y v u Q I rx ry q
 ·exact h' pins s σ H x y v u Q I rx ry q
theorem bF (b:Expr){op:CmpOp}(h:op≠.In:=by decide)(h2:op≠.NotIn:=by decide):behindInMarks op b=false:=by
 have e1:(op==CmpOp.In)=false:=by cases op<;>first | rfl | exact absurd rfl h
 have e2:(op==CmpOp.NotIn)=false:=by cases op<;>first | rfl | exact absurd rfl h2
 cases b<;>simp [behindInMarks,e1,e2]
theorem fW {op:CmpOp}{r:R2}(ho:OpR X (compareOp op) r)(ha:PE X a ta)(hb:PE X b tb)(hm:behindInMarks op b=false):PE X (.Compare a [op] [b] pos) (tOp r ta tb):=by
 intro pins s σ H Q I h
 exact wpAny_Compare1 (vh ha hb I h fun v u s2 x y H2 I2 rx ry q=>ho pins s2 σ H2 x y v u Q I2 rx ry q) hm
noncomputable def rC (t:TE):TT:=fun σ H Q=>t σ H fun x H'=>∃ k,x=.bl k/\Q k H'
theorem pf {op:CmpOp}{r:R2}(ho:OpR X (compareOp op) r)(ha:PE X a ta)(hb:PE X b tb)(hm:behindInMarks op b=false):PT X (.Compare a [op] [b] pos) (rC (tOp r ta tb)):=by
 intro pins s σ H Q I h
 refine wpAny_isTrue_Compare1 (thn (ha pins s σ H _ I h) fun v s1 ⟨x,H1,I1,r1,q1⟩=>thn (hb pins s1 σ H1 _ I1 q1) fun u s2 ⟨y,H2,I2,r2,q2⟩ =>
  thn (ho pins s2 σ H2 x y v u _ I2 r1 r2 q2) fun c s3 ⟨z,H3,I3,r3,k,e,q3⟩=>?_) hm
 subst e
 cases r3
 exact wpAny_truthy_bool ⟨H3,I3,q3⟩
noncomputable def mT (r r':R2)(ta tb tc:TE):TE:=fun σ H Q=>ta σ H fun x H1=>tb σ H1 fun y H2=>r x y H2 fun z H3=>∃ k,z=.bl k /\
 (if k=true then tc σ H3 fun w' H4=>r' y w' H4 Q else Q (.bl false) H3)
theorem kN {op op':CmpOp}{r r':R2}(ho:OpR X (compareOp op) r)(ho':OpR X (compareOp op') r')(ha:PE X a ta)(hb:PE X b tb)(hc:PE X c tc)
  (hm:lastMarks [op,op'] [b,c]=false:=by with_unfolding_all rfl):PE X (.Compare a [op,op'] [b,c] pos) (mT r r' ta tb tc):=by
 intro pins s σ H Q I h
 refine Compare_chain (thn (ha pins s σ H _ I h) fun v s1 ⟨x,H1,I1,r1,q1⟩=>chain_link (thn (hb pins s1 σ H1 _ I1 q1) fun u s2 ⟨y,H2,I2,r2,q2⟩ =>
  thn (ho pins s2 σ H2 x y v u _ I2 r1 r2 q2) fun d s3 ⟨z,H3,I3,r3,k,e,q3⟩=>?_)) hm
 subst e
 cases r3
 refine wpAny_truthy_bool ?_
 cases k with
 | false=>exact ite_ff ⟨.bl false,H3,I3,rfl,q3⟩
 | true=>exact ite_tt (chain_last (thn (hc pins s3 σ H3 _ I3 q3) fun w' s4 ⟨z',H4,I4,r4,q4⟩=>ho' pins s4 σ H4 y z' u w' Q I4 r2 r4 q4))
noncomputable def nT (K:a0a)(x:V)(H:Hp)(k:Bool):Prop :=
 match x with
 | .non=>k=false
 | .bl b=>k=b
 | .int i=>k=(i != 0)
 | .str y=>y.length<=sizeLine/\k=((y.length:Int) != 0)
 | .byt y=>y.size<=sizeLine/\k=((y.size:Int) != 0)
 | .ref p=>(∃ xs,SqL K H p xs/\k=!xs.isEmpty)\/(∃ xs,SqT K H p xs/\k=!xs.isEmpty)\/∃ kvs,H p=some (.dK kvs)/\k=!kvs.isEmpty
 | _=>False
theorem iq {κ:Type}{kvs:List (κ×V)}{vs:List (κ×Value)}(r:KV kvs vs):(!vs.isEmpty)=!kvs.isEmpty:=by
 cases r<;>rfl
theorem dE {xs:List V}{its:List Value}(r:Vals xs its):(!its.toArray.isEmpty)=!xs.isEmpty:=by
 cases r<;>simp
theorem dw:(sizeLine:Nat) < 2 ^ 63:=by rw [sizeLine_eq]; decide
theorem kJ:yV X (fun x H Q=>∃ k,nT X.K x H k/\Q k H):=by
 intro pins s σ H x v Q I rx h
 obtain ⟨k,e,q⟩:=h
 have hl:=dw
 have hs:sizeLine=16777216:=sizeLine_eq
 cases x with
 | non =>
  cases rx
  have e':k=false:=e
  subst e'
  exact truthy_none ⟨H,I,q⟩
 | bl b =>
  cases rx
  have e':k=b:=e
  subst e'
  exact wpAny_truthy_bool ⟨H,I,q⟩
 | int i =>
  obtain ⟨t,rfl⟩:=rx
  have e':k=(i != 0):=e
  subst e'
  exact PySem.P.truthy_int ⟨H,I,q⟩
 | str y =>
  obtain ⟨t,rfl⟩:=rx
  obtain ⟨hy,e'⟩:y.length<=sizeLine/\k=((y.length:Int) != 0):=e
  subst e'
  exact PySem.P.truthy_str (by omega) ⟨H,I.tok _,q⟩
 | byt y =>
  obtain ⟨t,rfl⟩:=rx
  obtain ⟨hy,e'⟩:y.size<=sizeLine/\k=((y.size:Int) != 0):=e
  subst e'
  exact PySem.W.truthy_bytes (by omega) ⟨H,I.tok _,q⟩
 | ref p =>
  cases rx
  have e':(∃ xs,SqL X.K H p xs/\k=!xs.isEmpty)\/(∃ xs,SqT X.K H p xs/\k=!xs.isEmpty)\/∃ kvs,H p=some (.dK kvs)/\k=!kvs.isEmpty:=e
  rcases e' with ⟨xs,hx,e'⟩ | ⟨xs,hx,e'⟩ | ⟨kvs,hx,e'⟩
  ·subst e'
   obtain ⟨its,r,pl,hz⟩:=I.list hx
   have hlen:=r.length
   exact wpAny_truthy_list pl.isList (by simp only [a0h]; omega) ⟨H,I.tok _,by rw [dE r]; exact q⟩
  ·subst e'
   obtain ⟨its,r,pl,hz⟩:=I.tuple hx
   have hlen:=r.length
   exact truthy_tuple pl (by simp only [a0h]; omega) ⟨H,I.tok _,by rw [dE r]; exact q⟩
  ·subst e'
   obtain ⟨hz,hS,vs,r,m⟩:kvs.length<=sizeLine/\(p==sysModules)=false/\∃ vs,KV kvs vs/\s.heap.DictOf (fv X.prog X.w) p vs:=I.hok p _ hx
   have hlen:kvs.length=vs.length:=Paired.length r
   exact wpAny_truthy_dict hS m (by omega) ⟨H,I.tok _,by rw [iq r]; exact q⟩
 | _=>exact (show False from e).elim
theorem nD (ha:PE X a ta)(he:∀ whole,isTrue a X.env whole=(do let v <- whole; standAt a.pos; holding [v] (truthy v))) :
  PT X a (fun σ H Q=>ta σ H fun x H'=>∃ k,nT X.K x H' k/\Q k H'):=by
 intro pins s σ H Q I h
 exact isTrue_plain (thn (ha pins s σ H _ I h) fun v s1 ⟨x,H1,I1,r1,q1⟩=>kJ pins s1 σ H1 x v Q I1 r1 q1) (he _)
theorem op_add_str:OpR X (binaryOp .Add) (fun x y H Q=>∃ i j,x=.str i/\y=.str j/\i.length+j.length<=sizeLine/\Q (.str (i++j)) H):=by
 intro pins s σ H x y v u Q I rx ry h
 obtain ⟨i,j,rfl,rfl,hz,q⟩:=h
 obtain ⟨t,rfl⟩:=rx
 obtain ⟨t',rfl⟩:=ry
 exact add_str (fun t' tk=>⟨.str (i++j),H,I.tok _,⟨_,rfl⟩,q⟩) hz
theorem dh {x:V}{us:List Value}(r:Vals [x] us):∃ u,us=[u]/\RelV x u:=by
 cases r with
 | cons r1 r2=>cases r2; exact ⟨_,rfl,r1⟩
theorem gP {x y:V}{us:List Value}(r:Vals [x,y] us):∃ u w',us=[u,w']/\RelV x u/\RelV y w':=by
 cases r with
 | cons r1 r2 =>
  cases r2 with
  | cons r3 r4=>cases r4; exact ⟨_,_,rfl,r1,r3⟩
theorem jh (hc:X.calm=true):bL X (.builtin "max") (fun xs H Q=>∃ i j,xs=[.int i,.int j]/\Q (.int (if j > i then j else i)) H):=by
 intro pins s σ H xs us Q I r h
 obtain ⟨i,j,rfl,q⟩:=h
 obtain ⟨u,w',rfl,⟨t,rfl⟩,⟨t',rfl⟩⟩:=gP r
 refine max_two_ints (I.ok.hd hc) fun h' tk k=>⟨_,H,I.kept k,?_,q⟩
 by_cases hj:j > i
 ·rw [if_pos hj,if_pos hj]; exact ⟨_,rfl⟩
 ·rw [if_neg hj,if_neg hj]; exact ⟨_,rfl⟩
theorem jH (hc:X.calm=true):bL X (.builtin "min") (fun xs H Q=>∃ i j,xs=[.int i,.int j]/\Q (.int (if j < i then j else i)) H):=by
 intro pins s σ H xs us Q I r h
 obtain ⟨i,j,rfl,q⟩:=h
 obtain ⟨u,w',rfl,⟨t,rfl⟩,⟨t',rfl⟩⟩:=gP r
 refine min_two_ints (I.ok.hd hc) fun h' tk k=>⟨_,H,I.kept k,?_,q⟩
 by_cases hj:j < i
 ·rw [if_pos hj,if_pos hj]; exact ⟨_,rfl⟩
 ·rw [if_neg hj,if_neg hj]; exact ⟨_,rfl⟩
theorem jV:bL X (.type "int") (fun xs H Q=>(∃ i,xs=[.int i]/\Q (.int i) H)\/∃ k,xs=[.bl k]/\Q (.int (if k then 1 else 0)) H):=by
 intro pins s σ H xs us Q I r h
 rcases h with ⟨i,rfl,q⟩ | ⟨k,rfl,q⟩
 ·obtain ⟨u,rfl,t,rfl⟩:=dh r
  exact call_int_int ⟨.int i,H,I,⟨_,rfl⟩,q⟩
 ·obtain ⟨u,rfl,r1⟩:=dh r
  cases r1
  exact call_int_bool ⟨.int (if k then 1 else 0),H,I.tok _,⟨_,rfl⟩,q⟩
noncomputable def ye (K:a0a)(x:V)(H:Hp)(n:Nat):Prop :=
 match x with
 | .str y=>y.length<=sizeLine/\n=y.length
 | .byt y=>y.size<=sizeLine/\n=y.size
 | .ref p=>(∃ xs,SqL K H p xs/\n=xs.length)\/∃ xs,SqT K H p xs/\n=xs.length
 | _=>False
theorem kR:bL X (.builtin "len") (fun xs H Q=>∃ x n,xs=[x]/\ye X.K x H n/\Q (.int n) H):=by
 intro pins s σ H xs us Q I r h
 obtain ⟨x,n,rfl,e,q⟩:=h
 obtain ⟨u,rfl,rx⟩:=dh r
 have hl:=dw
 have hs:sizeLine=16777216:=sizeLine_eq
 cases x with
 | str y =>
  obtain ⟨t,rfl⟩:=rx
  obtain ⟨hy,e'⟩:y.length<=sizeLine/\n=y.length:=e
  subst e'
  exact len_str (by omega) ⟨.int _,H,I.tok _,⟨_,rfl⟩,q⟩
 | byt y =>
  obtain ⟨t,rfl⟩:=rx
  obtain ⟨hy,e'⟩:y.size<=sizeLine/\n=y.size:=e
  subst e'
  exact PySem.W.len_bytes (by omega) ⟨.int _,H,I.tok _,⟨_,rfl⟩,q⟩
 | ref p =>
  cases rx
  have e':(∃ xs,SqL X.K H p xs/\n=xs.length)\/∃ xs,SqT X.K H p xs/\n=xs.length:=e
  rcases e' with ⟨xs,hx,e'⟩ | ⟨xs,hx,e'⟩
  ·subst e'
   obtain ⟨its,r',pl,hz⟩:=I.list hx
   have hlen:=r'.length
   exact Calls.call_len_list pl.isList (by simp only [a0h]; omega) ⟨.int xs.length,H,I.tok _,⟨_,by simp only [a0h]; rw [hlen]⟩,q⟩
  ·subst e'
   obtain ⟨its,r',pl,hz⟩:=I.tuple hx
   have hlen:=r'.length
   exact len_tuple pl (by simp only [a0h]; omega) ⟨.int xs.length,H,I.tok _,⟨_,by simp only [a0h]; rw [hlen]⟩,q⟩
 | _=>exact (show False from e).elim
end
end L2
namespace L2
open PySem PySem.Spec PyProof.Rows
structure ObjM (h:Heap)(x dx C:Addr)(mA:Str->Option Value):Prop where
 obj:h.get? x=some (a2d C dx)
 ns:h.Ns1 dx mA
 ne:dx≠x
theorem jB {h:Heap}{dx:Addr}{mA:Str->Option Value}(n:h.Ns1 dx mA):∃ od,h.get? dx=some od/\∀ name,a2m name od=some (mA name):=by
 obtain ⟨o,es,ep,ho,hd,hk,_,hm⟩:=n
 refine ⟨o,ho,fun name=>?_⟩
 have e:=hm name
 unfold nsFind findBy at e
 rw [<- Array.find?_toList] at e
 unfold a2m
 rw [hd]
 dsimp only
 split
 ·rename_i y q
  rw [q] at e
  exact congrArg some e
 ·rename_i q
  rw [q] at e
  have a:es.toList.any (·.refKey)=false:=by
   rw [List.any_eq_false]
   intro y hy
   obtain ⟨z,t,hkey⟩:=hk y (Array.mem_toList_iff.mp hy)
   simp [DictEntry.refKey,hkey]
  have a':¬ es.toList.any (·.refKey)=true:=by rw [a]; exact a0l
  rw [if_neg a']
  exact congrArg some e
theorem ObjM.look {h:Heap}{x dx C:Addr}{mA:Str->Option Value}(I:ObjM h x dx C mA):∃ od,PySem.W.InstAt h x (a2d C dx) C (some od)/\∀ name,a2m name od=some (mA name) :=
 let ⟨od,ho,hl⟩:=jB I.ns
 ⟨od,⟨I.obj,rfl,rfl,ho⟩,hl⟩
noncomputable def pW (f:Str)(v:V):List (Str×V)->List (Str×V)
 | []=>[(f,v)]
 | (g,x)::r=>if g=f then (g,v)::r else (g,x)::pW f v r
section
variable {P:Program}{w:World}{H H':Hp}{h h':Heap}{a C dx:Addr}{fs fs':List (Str×V)}
theorem oa (hok:HOk P w H h)(e:H a=some (.ins C dx fs)):∃ mA,ObjM h a dx C mA/\(∀ f,vN (fs.lookup f) (mA f))/\a28 mA (fs.map (·.1))/\fs.length<=1000/\H dx=some (.own a):=by
 obtain ⟨d,z,ne,ob,mA,n,r,q⟩:=(show ObjOk P w H h a (.ins C dx fs) from hok a _ e)
 exact ⟨mA,⟨ob,n,ne⟩,r,q,z,d⟩
end
structure Cls (K:a0a)(C:Addr):Prop where
 pg:a2F K C Str.empty=true
 hd:PySem.W.hasDictIn K C=true
 po:PySem.W.plainOver K C=true
 sa:a2Y K (.ref C) "__setattr__"=some (some (.builtin "object.__setattr__"))
theorem Cls.get {K:a0a}{C:Addr}(c:Cls K C)(f:Str):a2F K C f=true:=c.pg
section
variable {X:Cx}{pins:List (Addr×Obj)}{σ:St}{H:Hp}{s:Shared}{A:Around}{E:Value->Shared->Prop}{Q:Value->Shared->Prop}{c:Value}{b:Bool}
inductive c6 (K:a0a)(H:Hp):V->Value->Prop where
 | non:c6 K H .non (.type "NoneType")
 | bl (x:Bool):c6 K H (.bl x) (.type "bool")
 | int (i:Int):c6 K H (.int i) (.type "int")
 | str (x:Str):c6 K H (.str x) (.type "str")
 | flt (x:UInt64):c6 K H (.flt x) (.type "float")
 | lst {a:Addr} {xs:List V} (e:H a=some (.lst xs)):c6 K H (.ref a) (.type "list")
 | frz {a:Addr} {o:Obj} {xs:List V} (e:H a=some (.frz o (.lst xs))):c6 K H (.ref a) (.type "list")
 | tup {a:Addr} {xs:List V} (e:H a=some (.tup xs)):c6 K H (.ref a) (.type "tuple")
 | dK {a:Addr} {kvs:List (Key×V)} (e:H a=some (.dK kvs)):c6 K H (.ref a) (.type "dict")
 | dT {a:Addr} {kvs:List (List Key×V)} (e:H a=some (.dT kvs)):c6 K H (.ref a) (.type "dict")
 | ins {a C dx:Addr} {fs:List (Str×V)} (e:H a=some (.ins C dx fs)) (cl:Cls K C) (ha:a2Y K (.ref C) "__class__"=some (some (.builtin "object.__class__")))
   (hn:PySem.W.specialIn K (.builtin "object.__class__") "__get__"=some (some (.builtin "getset_descriptor.__get__"))) (htk:PySem.W.takesIn K (.builtin "object.__class__")=some true)
   (hm:PySem.W.mroIn K C (.type "object")=some true):c6 K H (.ref a) (.ref C)
theorem bU {x:V}{u t:Value}(I:Inv X pins σ H s)(rx:RelV x u)(ty:c6 X.K H x t)(e:a0Y X.K t c=some b)(h:∀ tk,Q (.bool b) { s with toks:=tk }) :
  wpAny (model X.prog X.w) A (call (.builtin "isinstance") [u,c]) Q E s:=by
 cases ty with
 | non=>cases (show u=Value.none from rx); exact a0F a2z I.kIn a01 e (fun z=>nomatch z) h
 | bl y=>cases (show u=Value.bool y from rx); exact a0F a2A I.kIn a01 e (fun z=>nomatch z) h
 | int i=>obtain ⟨t,q⟩:=(show ∃ t,u=Value.int i t from rx); cases q; exact a0F a2G I.kIn a01 e (fun z=>nomatch z) h
 | str y=>obtain ⟨t,q⟩:=(show ∃ t,u=Value.str y t from rx); cases q; exact a0F a2H I.kIn a01 e (fun z=>nomatch z) h
 | flt y=>obtain ⟨t,q⟩:=(show ∃ t,u=Value.float y t from rx); cases q; exact a0F PySem.W.kitx_float I.kIn a01 e (fun z=>nomatch z) h
 | @lst a xs ea =>
  cases (show u=Value.ref a from rx)
  obtain ⟨_,_,n,_,h1⟩:=(show ObjOk X.prog X.w H s.heap a (.lst xs) from I.hok a _ ea)
  exact a0F a1C I.kIn ⟨_,h1,rfl⟩ e (fun z=>nomatch z) h
 | @frz a ob xs ea =>
  cases (show u=Value.ref a from rx)
  obtain ⟨_,_,_,n,_,h1⟩:=(show ObjOk X.prog X.w H s.heap a (.frz ob (.lst xs)) from I.hok a _ ea)
  exact a0F a1C I.kIn ⟨_,h1,rfl⟩ e (fun z=>nomatch z) h
 | @tup a xs ea =>
  cases (show u=Value.ref a from rx)
  obtain ⟨_,_,_,p⟩:=(show ObjOk X.prog X.w H s.heap a (.tup xs) from I.hok a _ ea)
  obtain ⟨o,h1,h2,_⟩:=p
  exact a0F a1O I.kIn ⟨o,h1,h2⟩ e (fun z=>nomatch z) h
 | @dK a kvs ea =>
  cases (show u=Value.ref a from rx)
  obtain ⟨_,_,vs,_,p⟩:=(show ObjOk X.prog X.w H s.heap a (.dK kvs) from I.hok a _ ea)
  obtain ⟨o,es,ep,h1,h2,_⟩:=p
  exact a0F a2B I.kIn ⟨o,h1,h2.1⟩ e (fun z=>nomatch z) h
 | @dT a kvs ea =>
  cases (show u=Value.ref a from rx)
  obtain ⟨_,_,xs,_,o,es,ep,h1,h2,_⟩:=(show ObjOk X.prog X.w H s.heap a (.dT kvs) from I.hok a _ ea)
  exact a0F a2B I.kIn ⟨o,h1,h2.1⟩ e (fun z=>nomatch z) h
 | @ins a C dx fs ea cl ha hn htk hm =>
  cases (show u=Value.ref a from rx)
  obtain ⟨mA,O,_⟩:=oa I.hok ea
  obtain ⟨od,J,_⟩:=O.look
  exact a0F (PySem.W.kitx_own (cl.get _) cl.hd ha hn htk hm) I.kIn J e (fun z=>nomatch z) h
end
end L2
namespace L2
open PySem PySem.Spec PyProof.Rows
structure Room (k:Nat)(A:Around):Prop where
 hd:A.handled=none
 dp:A.depth+3 * k+5 < recursionLimit
 un:A.units+16 * k+200 < cLine
theorem Room.deeper {k:Nat}{A:Around}(r:Room (k+1) A)(env:Env):Room k (A.deeper env) :=
 ⟨r.hd,by have:=r.dp; show A.depth+1+3 * k+5 < _; omega,by have:=r.un; show A.units+3+16 * k+200 < _; omega⟩
theorem Room.depth {k:Nat}{A:Around}(r:Room k A):A.depth < recursionLimit:=by have:=r.dp; omega
theorem Room.units {k:Nat}{A:Around}(r:Room k A):A.units+64 < cLine:=by have:=r.un; omega
noncomputable def sU:TA:=fun _ H Q=>Q [] H
noncomputable def mw (ta:TE)(tr:TA):TA:=fun σ H Q=>ta σ H fun x H1=>tr σ H1 fun xs H2=>Q (x::xs) H2
section
variable {X:Cx}{e:Expr}{es:List Expr}{te:TE}{t:TA}{pos:Pos}
theorem b9:PA X [] sU:=fun _ _ _ _ H Q I h=>Calls.spliced_nil ⟨[],H,I,.nil,h⟩
theorem aZ (ha:PE X e te)(hr:PA X es t)(hs:starEach (e::es) X.env=(false,eval e X.env)::starEach es X.env:=by rfl):PA X (e::es) (mw te t):=by
 intro pos pins s σ H Q I h
 rw [hs]
 show wpAny _ _ (spliced ((false,eval e X.env)::backTo pos (starEach es X.env))) _ _ s
 refine Calls.spliced_cons (thn (ha pins s σ H _ I h) fun u s1 ⟨x,H1,I1,r1,q1⟩=>?_)
 exact thn (hr pos pins s1 σ H1 _ I1 q1) fun us s2 ⟨xs,H2,I2,r2,q2⟩=>⟨x::xs,H2,I2,.cons r1 r2,q2⟩
noncomputable def vR (t:TA):TE:=fun σ H Q=>t σ H fun xs H1=>xs.length<=sizeLine/\∀ p,H1 p=none->Q (.ref p) (upd H1 p (.tup xs))
noncomputable def yi (t:TA):TE:=fun σ H Q=>t σ H fun xs H1=>xs.length<=sizeLine/\∀ p,H1 p=none->Q (.ref p) (upd H1 p (.lst xs))
theorem mN {x1}(h:PA X es t):PE X (.Tuple es x1 pos) (vR t):=by
 intro pins s σ H Q I hq
 refine wpAny_Tuple_spliced (thn (h pos pins s σ H _ I hq) fun us s1 ⟨xs,H1,I1,r,z,q⟩=>⟨by rw [<- r.length]; exact z,?_⟩)
 have hf:H1 s1.heap.objs.size=none:=I1.hok.fresh (a0j _)
 refine ⟨.ref s1.heap.objs.size,upd H1 s1.heap.objs.size (.tup xs),I1.laid (t':=s1.toks) (fun b u e=>Heap.get?_push_of_some _ e) (a0j _) ?_,rfl,q _ hf⟩
 exact ⟨z,us,r,⟨_,Heap.get?_push_size _ rfl,rfl,_,rfl⟩⟩
theorem sX (h:PA X es t):PE X (.List es pos) (yi t):=by
 intro pins s σ H Q I hq
 refine wpAny_List_spliced (thn (h pos pins s σ H _ I hq) fun us s1 ⟨xs,H1,I1,r,z,q⟩=>⟨by rw [<- r.length]; exact z,?_⟩)
 have hf:H1 s1.heap.objs.size=none:=I1.hok.fresh (a0j _)
 refine ⟨.ref s1.heap.objs.size,upd H1 s1.heap.objs.size (.lst xs),I1.laid (t':=s1.toks) (fun b u e=>Heap.get?_push_of_some _ e) (a0j _) ?_,rfl,q _ hf⟩
 exact ⟨z,us,0,r,Heap.get?_push_size _ rfl⟩
end
noncomputable abbrev Sp:=List V->Hp->VK->XK->Prop
noncomputable abbrev CXT:=List Env->Hp->Shared->XK->Value->Shared->Prop
structure qj (P:Program)(w:World)(K:a0a)(mg:Str->Option Value)(base:Heap)(A:Around)(outer:List Env)(s:Shared)(H:Hp):Prop where
 frames:A.frames=some outer
 mod:Mod K mg base
 bs:∀ b o,base.get? b=some o->s.heap.get? b=some o/\H b=none
 bsz:base.objs.size<=s.heap.objs.size
 funs:s.heap.FunFrames base outer
 frf:∀ b∈frs outer,H b=none
 hok:HOk P w H s.heap
 bare:AllBare s.gens
noncomputable def CE (outer:List Env)(P:Program)(w:World)(H:Hp)(s:Shared)(Q:VK)(u:Value)(s':Shared):Prop :=
 ∃ v H',s'.os=s.os/\AllBare s'.gens/\Un (frs outer) [] H H' s.heap s'.heap/\HOk P w H' s'.heap/\RelV v u/\Q v H'
noncomputable def CR (CX:CXT)(outer:List Env)(P:Program)(w:World)(H:Hp)(s:Shared)(Q:VK)(E:XK)(r:Result)(s':Shared):Prop :=
 match r with
 | .ok (.ret u)=>CE outer P w H s Q u s'
 | .ok _=>False
 | .error e=>CX outer H s E e s'
structure cw (P:Program)(w:World)(K:a0a)(mg:Str->Option Value)(base:Heap)(CX:CXT)(k:Nat)(f:Addr)(fd:FuncData)(ps:List Str)(sp:Sp):Prop where
 len:∀ vs H Q E,sp vs H Q E->vs.length=ps.length
 run:∀ (A:Around) (outer:List Env) (s:Shared) (H:Hp) (args:Args) (us:List Value) (vs:List V) (Q:VK) (E:XK),Room k A->qj P w K mg base A outer s H->BindsTo s fd args (ps.zip us)->Vals vs us->sp vs H Q E ->
  codeAny (model P w) A (.call (.ref f) args) (CR CX outer P w H s Q E) s
section
variable {X:Cx}{pins:List (Addr×Obj)}{σ:St}{H:Hp}{s s':Shared}
theorem Inv.env0 (I:Inv X pins σ H s):qj X.prog X.w X.K X.mg X.base X.A X.stack s H :=
 ⟨I.ok.frames,I.ok.mod,I.bs,a0s I.ok.bsz I.sz,I.stack,I.stkFree,I.hok,I.bare⟩
theorem Inv.after {Q:VK}{u:Value}(I:Inv X pins σ H s)(h:CE X.stack X.prog X.w H s Q u s'):EP X pins σ Q u s':=by
 obtain ⟨v,H',os,bare,un,hok,r,q⟩:=h
 obtain ⟨hh,g,d,t,os'⟩:=s'
 obtain rfl:os'=s.os:=os
 exact ⟨v,H',I.call (h':=hh) (g':=g) (d':=d) (t':=t) (ch:=[]) un hok bare (fun b z=>absurd z (by simp)),r,q⟩
end
noncomputable def xS (sp:Sp)(dvs:List V)(E:XK)(t:TA):TE:=fun σ H Q=>t σ H fun vs H1=>sp (vs++dvs) H1 Q E
noncomputable def Binds (K:a0a)(fd:FuncData)(ps:List Str)(ds:List Value):Prop :=
 ∀ (s:Shared) (us:List Value),K.In s.heap->(us++ds).length=ps.length->BindsTo s fd ⟨us,[]⟩ (ps.zip (us++ds))
theorem Binds.all {K:a0a}{fd:FuncData}{ps:List Str}(h:∀ us:List Value,us.length=ps.length->bindArgs fd ⟨us,[]⟩=pure (ps.zip us)):Binds K fd ps []:=fun s us _ hl=>by
 rw [a0p] at hl ⊢
 exact .of_eq (h us hl)
noncomputable def ic (CX:CXT)(X:Cx)(E:XK):Prop:=∀ (pins:List (Addr×Obj)) (σ:St) (H:Hp) (s:Shared) (e:Value) (s':Shared),Inv X pins σ H s->CX X.stack H s E e s'->X.xe e s'
section
variable {X:Cx}{CX:CXT}{k:Nat}{f C:Addr}{fd:FuncData}{ps:List Str}{sp:Sp}{dvs:List V}{ds:List Value}{E:XK}{x m:Str}{p pos apos:Pos}{e o:Expr}{es:List Expr}{ta:TE}{t:TA}
theorem u7 {pins:List (Addr×Obj)}{σ:St}{H:Hp}{s:Shared}{Q:VK}{us:List Value}{vs:List V}(F:cw X.prog X.w X.K X.mg X.base CX k f fd ps sp)(hr:Room k X.A)(hb:Binds X.K fd ps ds)(hd:Vals dvs ds)(hx:ic CX X E)
  (I:Inv X pins σ H s) (r:Vals vs us) (h:sp (vs++dvs) H Q E):wpAny (model X.prog X.w) X.A (call (.ref f) us) (EP X pins σ Q) X.xe s:=by
 have r2:Vals (vs++dvs) (us++ds):=r.append hd
 have hl:(us++ds).length=ps.length:=by rw [<- r2.length]; exact F.len _ _ _ _ h
 refine wpAny_call (codeAny_mono (F.run X.A X.stack s H ⟨us,[]⟩ (us++ds) (vs++dvs) Q E hr I.env0 (hb s us I.kIn hl) r2 h) fun r s' hq=>?_)
 cases r with
 | error e=>exact hx pins σ H s e s' I hq
 | ok fl =>
  cases fl with
  | ret u=>exact I.after hq
  | next=>exact a1i hq
  | brk=>exact a1i hq
  | cont=>exact a1i hq
theorem pj (F:cw X.prog X.w X.K X.mg X.base CX k f fd ps sp)(hr:Room k X.A)(hg:Gl X x)(hm:X.mg x=some (.ref f))(hk:a1E X.K (.ref f)=true)(hb:Binds X.K fd ps ds)(hd:Vals dvs ds)(hx:ic CX X E)
  (ha:PA X (e::es) t) (hdb:(x==("__debug__":Str))=false:=by decide) (he:starEach (e::es) X.env=(false,eval e X.env)::starEach es X.env:=by rfl) (hpl:(backTo pos (starEach es X.env)).any (·.1)=false:=by rfl) :
  PE X (.Call (.Name x p) (e::es) [] pos) (xS sp dvs E t):=by
 intro pins s σ H Q I h
 refine wpAny_Call_Name_kw (iT I hg hm ?_ hdb)
 refine PySem.W.callWith_K (h₀:=X.base) I.ok.mod.kin hk (thn (ha pos pins s σ H _ I h) fun us s1 ⟨vs,H1,I1,r,q⟩=>⟨I1.kIn,?_⟩) he hpl
 exact u7 F hr hb hd hx I1 r q
end
structure ao (N P:List Str)(sc:Scope):Prop where
 kind:sc.kind=.function
 co:sc.isCoroutine=false
 gen:sc.isGenerator=false
 nd:N.Nodup
 pre:N.take P.length=P
 par:∀ x∈P,sc.names.lookup x=some .local\/sc.names.lookup x=some .cell
 nofree:∀ y∈sc.names,y.2≠.free
theorem eK {kindOf:Str->Option NameKind}{x:Str}:∀ {binds:List (Str×Value)} {m:Str->Option Value},(∀ v,(x,v) ∉ binds)->bindL kindOf binds m x=m x
 | [],_,_=>rfl
 | (n,v)::r,m,h=>by
  unfold bindL
  rw [eK fun w hw=>h w (a0e _ hw)]
  split
  ·have:x≠n:=by rintro rfl; exact h v a0c
   simp [this]
  ·rfl
theorem eX {kindOf:Str->Option NameKind}{x:Str}:∀ {binds:List (Str×Value)} {m:Str->Option Value},(∀ v,(x,v) ∉ binds)->bindC kindOf binds m x=m x
 | [],_,_=>rfl
 | (n,v)::r,m,h=>by
  unfold bindC
  rw [eX fun w hw=>h w (a0e _ hw)]
  split
  ·rfl
  ·have:x≠n:=by rintro rfl; exact h v a0c
   simp [this]
theorem eD {kindOf:Str->Option NameKind}{x:Str}{v:Value}:∀ {P:List Str} {vs:List Value} {i:Nat} {m:Str->Option Value},P.Nodup->P[i]?=some x->vs[i]?=some v->kindOf x=some .local ->
  bindL kindOf (P.zip vs) m x=some v
 | [],_,_,_,_,h,_,_=>by simp at h
 | _::_,[],_,_,_,_,h,_=>by simp at h
 | p::P,w::vs,0,m,nd,h1,h2,hk=>by
  simp at h1 h2; subst h1; subst h2
  show bindL kindOf ((p,w)::P.zip vs) m p=_
  unfold bindL
  rw [eK fun v hv=>(a1e.mp nd).1 (a2f hv).1,if_pos hk]
  simp
 | p::P,w::vs,i+1,m,nd,h1,h2,hk=>by
  show bindL kindOf ((p,w)::P.zip vs) m x=_
  unfold bindL
  exact eD (i:=i) (a1e.mp nd).2 (by simpa using h1) (by simpa using h2) hk
theorem eV {kindOf:Str->Option NameKind}{x:Str}{v:Value}:∀ {P:List Str} {vs:List Value} {i:Nat} {m:Str->Option Value},P.Nodup->P[i]?=some x->vs[i]?=some v->kindOf x≠some .local ->
  bindC kindOf (P.zip vs) m x=some v
 | [],_,_,_,_,h,_,_=>by simp at h
 | _::_,[],_,_,_,_,h,_=>by simp at h
 | p::P,w::vs,0,m,nd,h1,h2,hk=>by
  simp at h1 h2; subst h1; subst h2
  show bindC kindOf ((p,w)::P.zip vs) m p=_
  unfold bindC
  rw [eX fun v hv=>(a1e.mp nd).1 (a2f hv).1,if_neg hk]
  simp
 | p::P,w::vs,i+1,m,nd,h1,h2,hk=>by
  show bindC kindOf ((p,w)::P.zip vs) m x=_
  unfold bindC
  exact eV (i:=i) (a1e.mp nd).2 (by simpa using h1) (by simpa using h2) hk
noncomputable def start (N:List Str)(vs:List V):St:=vs.map some++a0g (N.length-vs.length) none
noncomputable def fg (CX:CXT)(P:Program)(w:World)(K:a0a)(mg:Str->Option Value)(base:Heap)(N:List Str)(qual:Str)(scope:Scope)(f:Addr)(cd:Value)(A:Around)(outer:List Env)(s:Shared)(H:Hp)(E:XK):Cx where
 prog:=P
 w:=w
 K:=K
 mg:=mg
 base:=base
 A:=A.deeper (envOfC qual scope s.heap.objs.size f cd)
 N:=N
 s₀:=s
 H₀:=H
 env:=envOfC qual scope s.heap.objs.size f cd
 outer:=outer
 stack:=envOfC qual scope s.heap.objs.size f cd::outer
 ex:=[]
 calm:=true
 fn:=fun _=>true
 pn:=[]
 xe:=fun e s'=>wpAny (model P w) (A.deeper (envOfC qual scope s.heap.objs.size f cd)) (leaving (envOfC qual scope s.heap.objs.size f cd) e) (fun _ s''=>CX outer H s E e s'') (fun e' s''=>CX outer H s E e' s'') s'
theorem gm {sc:Scope}{n:Nat}{x:Str}(h:sc.names.lookup x=some .cell):∃ c,(cellsFrom n sc.names []).lookup x=some c:=by
 have q:=a19 sc.names n [] (.inl h)
 exact a1q.mp q
theorem jK {CX:CXT}{P:Program}{w:World}{K:a0a}{mg:Str->Option Value}{base:Heap}{N ps:List Str}{qual:Str}{scope:Scope}{f:Addr}{cd:Value}{A:Around}{outer:List Env}{s s1:Shared}{H:Hp}{E:XK}{us:List Value}{vs:List V}
  (S:ao N ps scope) (hd:A.handled=none) (e0:qj P w K mg base A outer s H) (hl:vs.length=ps.length) (r:Vals vs us)
  (x:InCallC s s.heap.objs.size (bindL (envOfC qual scope s.heap.objs.size f cd).kindOf (ps.zip us) fun _=>none) (cellsFrom (s.heap.objs.size+1) scope.names []) (bindC (envOfC qual scope s.heap.objs.size f cd).kindOf (ps.zip us) fun _=>none) s1) :
  Inv (fg CX P w K mg base N qual scope f cd A outer s H E) [] (start N vs) H s1:=by
 have hpl:ps.length<=N.length:=by have:=congrArg a2o S.pre; rw [a1a] at this; omega
 obtain ⟨h1,tk,rfl,hk⟩:=x.done
 have noA:∀ b:Addr,b ∉ (fg CX P w K mg base N qual scope f cd A outer s H E).ex:=fun b z=>absurd (show b∈([]:List Addr) from z) (by simp)
 refine ⟨⟨e0.mod,S.kind,rfl,rfl,a0j _,fun y z c h1 h2=>?_,fun y hy=>?_,fun y c _ h=>?_,fun _=>hd,Around.frames_deeper e0.frames,.inr ⟨rfl,rfl⟩,fun b z=>absurd z (noA b),e0.bs,e0.bsz,fun b _ _=>noA b,fun b z=>absurd z (noA b),e0.funs,e0.frf⟩,
  rfl,e0.bare,Un.kept hk,⟨_,x.toInCall.ns,fun i y v h1 h2 h3=>?_⟩,fun y c h=>⟨_,x.cell y c h⟩,e0.hok.fresh (a0j _),fun y c h=>?_,fun p hp=>absurd (show p∈([]:List (Addr×Obj)) from hp) (by simp),e0.hok.kept hk,?_⟩
 ·exact name_of_addr x.apart (a0T h1) (a0T h2)
 ·have hy:scope.names.lookup y=some .cell\/scope.names.lookup y=some .free:=hy
  rcases hy with hy | hy
  ·exact gm hy
  ·exact absurd rfl (S.nofree _ (a0T hy))
 ·exact a2e (x.above y c (a0T h))
 ·have hi:i < vs.length:=by
   unfold start at h2
   by_cases hi:i < vs.length
   ·exact hi
   ·rw [a0I (by simpa using hi)] at h2
    rw [a1t] at h2
    split at h2<;>cases h2
  have ha:vs[i]?=some v:=by
   unfold start at h2
   rw [a0U (by simpa using hi),a0C] at h2
   cases e:vs[i]? with
   | none=>rw [e] at h2; cases h2
   | some a=>rw [e] at h2; cases h2; rfl
  obtain ⟨u,hu,rv⟩:=r.get ha
  have hp:ps[i]?=some y:=by
   rw [<- S.pre,List.getElem?_take_of_lt (by omega)]; exact h1
  have ndP:ps.Nodup:=by rw [<- S.pre]; exact S.nd.sublist (List.take_sublist _ _)
  refine ⟨u,rv,?_⟩
  rcases S.par y (a1k hp) with k | k
  ·exact .inl ⟨k,eD ndP hp hu k⟩
  ·obtain ⟨c,e⟩:=gm (n:=s.heap.objs.size+1) k
   refine .inr ⟨.inl k,c,e,?_⟩
   have q:=x.cell y c e
   rw [eV ndP hp hu (by show scope.names.lookup y≠_; rw [k]; decide)] at q
   exact q
 ·exact e0.hok.fresh (a2e (x.above y c (a0T h)))
 ·unfold start
  show _=N.length
  rw [a0b,a0d,a0G]
  omega
theorem wK {CX:CXT}{P:Program}{w:World}{K:a0a}{mg:Str->Option Value}{base:Heap}{k:Nat}{f:Addr}{name qual:Str}{params:Arguments}{body:List Stmt}{scope:Scope}{dV kV doc pm cdv ct oc:Value}{an od:Option Addr}
  {osl:Array (Option Value)} {N ps:List Str} {sp:Sp} (lk:K.lookup f=some ⟨oc,od,.func (a07 name qual params body scope dV kV doc pm an cdv ct),osl⟩) (hcd:a1T K cdv qual=true) (S:ao N ps scope)
  (len:∀ vs H Q E,sp vs H Q E->vs.length=ps.length)
  (hbody:∀ (A:Around) (outer:List Env) (s:Shared) (H:Hp) (vs:List V) (Q:VK) (E:XK),Room k (A.deeper (envOfC qual scope s.heap.objs.size f cdv))->sp vs H Q E ->
   ∃ t,PSs (fg CX P w K mg base N qual scope f cdv A outer s H E) body t/\t { nx:=fun _ H'=>Q .non H',rt:=Q } (start N vs) H) :
  cw P w K mg base CX (k+1) f (a07 name qual params body scope dV kV doc pm an cdv ct) ps sp:=by
 refine ⟨len,fun A outer s H args us vs Q E hr e0 hb r hsp=>?_⟩
 have hl:=len _ _ _ _ hsp
 have KX:K.In s.heap:=e0.mod.kin.keeps fun b o e=>(e0.bs b o e).1
 have lim:s.heap.NoLimit:=e0.mod.nolimit.keeps fun b o e=>(e0.bs b o e).1
 have hkind:∀ y∈ps.zip us,scope.names.lookup y.1=some .local\/(scope.names.lookup y.1=some .cell/\((cellsFrom (s.heap.objs.size+1) scope.names []).lookup y.1).isSome=true):=fun ⟨n,v⟩ hy=>by
  rcases S.par n (a2f hy).1 with q | q
  ·exact .inl q
  ·exact .inr ⟨q,a19 _ _ _ (.inl q)⟩
 refine codeAny_call_function hr.depth (KX _ _ lk) rfl S.co S.gen rfl (PySem.W.codeRec_of KX hcd) (hb _ _ _ _ ?_)
 refine wpAny_newFunctionEnv_cells S.kind hkind fun env he s1 x=>?_
 subst he
 refine ⟨lim.keeps x.toInCall.keep,codeAny_func ?_⟩
 obtain ⟨t,ht,hq⟩:=hbody A outer s H vs Q E (hr.deeper _) hsp
 have I:Inv (fg CX P w K mg base N qual scope f cdv A outer s H E) [] (start N vs) H s1:=jK S hr.hd e0 hl r x
 refine wpAny_mono (ht [] s1 (start N vs) H _ I hq) (fun fl s' hs=>?_) fun e s' hs=>hs
 have fin:∀ {σ':St} {H':Hp} {v:V} {u:Value},Inv (fg CX P w K mg base N qual scope f cdv A outer s H E) [] σ' H' s'->RelV v u->Q v H'->CE outer P w H s Q u s' :=
  fun {σ' H' v u} J rv q=>⟨v,H',J.os,J.bare,J.base,J.hok,rv,q⟩
 cases fl with
 | ret u =>
  obtain ⟨v,σ',H',J,rv,q⟩:=hs
  exact fin J rv q
 | next =>
  obtain ⟨σ',H',J,q⟩:=hs
  exact fin (v:=V.non) (u:=Value.none) J rfl q
 | brk =>
  obtain ⟨_,_,_,q⟩:=hs
  exact a1i q
 | cont =>
  obtain ⟨_,_,_,q⟩:=hs
  exact a1i q
end L2
namespace L2
open PySem PySem.Spec PyProof.Rows
section
variable {X:Cx}{x:Str}{p pos:Pos}{e:Expr}{es:List Expr}{t:TA}{id T:String}{r:List V->Hp->VK->Prop}
noncomputable def tCB (r:List V->Hp->VK->Prop)(t:TA):TE:=fun σ H Q=>t σ H fun vs H1=>r vs H1 Q
theorem bC (hc:bL X (.builtin id) r)(hg:Gl X x)(hm:X.mg x=none)(hv:bootBuiltins x=some (.builtin id))(ha:PA X (e::es) t)(hn:x≠"__name__":=by decide)(hdb:(x==("__debug__":Str))=false:=by decide)
  (he:starEach (e::es) X.env=(false,eval e X.env)::starEach es X.env:=by rfl) (hpl:(backTo pos (starEach es X.env)).any (·.1)=false:=by rfl):PE X (.Call (.Name x p) (e::es) [] pos) (tCB r t):=by
 intro pins s σ H Q I h
 refine wpAny_Call_Name_kw (dJ I hg hm hv ?_ hn hdb)
 exact a2C (thn (ha pos pins s σ H _ I h) fun us s1 ⟨vs,H1,I1,r1,q1⟩=>hc pins s1 σ H1 vs us Q I1 r1 q1) he hpl
theorem bW (hc:bL X (.type T) r)(hg:Gl X x)(hm:X.mg x=none)(hv:bootBuiltins x=some (.type T))(ha:PA X (e::es) t)(hn:x≠"__name__":=by decide)(hdb:(x==("__debug__":Str))=false:=by decide)
  (he:starEach (e::es) X.env=(false,eval e X.env)::starEach es X.env:=by rfl) (hpl:(backTo pos (starEach es X.env)).any (·.1)=false:=by rfl):PE X (.Call (.Name x p) (e::es) [] pos) (tCB r t):=by
 intro pins s σ H Q I h
 refine wpAny_Call_Name_kw (dJ I hg hm hv ?_ hn hdb)
 exact a1d (thn (ha pos pins s σ H _ I h) fun us s1 ⟨vs,H1,I1,r1,q1⟩=>hc pins s1 σ H1 vs us Q I1 r1 q1) he hpl
end
end L2
namespace HT
open PySem PyProof.Rows
section
variable {prog:Program}{w:World}{A:Around}{E:Value->Shared->Prop}{s:Shared}
theorem cat_tup {t b:Addr}{vs ws:List Value}{Q:Value->Shared->Prop}(ht:IsTup s.heap t vs.toArray)(hb:IsTup s.heap b ws.toArray)(hv:vs≠[])
  (h1:ws=[]->Q (.ref t) s) (h2:ws≠[]->Q (.ref s.heap.objs.size) { s with heap:=s.heap.push { cls:=.type "tuple",data:=.seq (vs++ws).toArray } })
  (hsz:vs.length+ws.length<=sizeLine):wpAny (model prog w) A (binaryOp .Add (.ref t) (.ref b)) Q E s:=by
 obtain ⟨⟨cls,dd,data,sl⟩,ho,hc,n,hd⟩:=id ht
 obtain ⟨⟨cls2,dd2,data2,sl2⟩,ho2,hc2,n2,hd2⟩:=id hb
 simp only at hc hd hc2 hd2
 subst hc hd hc2 hd2
 have e:vs.toArray++ws.toArray=(vs++ws).toArray:=by simp
 by_cases hw:ws=[]
 ·exact concat_meets ⟨_,ho,rfl⟩ ⟨_,ho2,rfl⟩ noFill_tuple_add seq_tuple_add a2a a11 (a1V _ _)
   (tuple_addW1 t b vs.toArray ws.toArray n n2 dd dd2 sl sl2 (by simpa using hv) (by simp [hw])) ⟨ho,ho2,h1 hw⟩
 ·refine concat_meets ⟨_,ho,rfl⟩ ⟨_,ho2,rfl⟩ noFill_tuple_add seq_tuple_add a2a a11 (a1V _ _)
   (tuple_addW2 t b vs.toArray ws.toArray n n2 dd dd2 sl sl2 (by simpa using hv) (by simpa using hw) (by rw [a0h,a0h]; exact hsz)) ⟨ho,ho2,?_⟩
  rw [e]
  exact h2 hw
noncomputable def sIx (n d:Nat):Option Int->Nat
 | none=>d
 | some v=>if v < 0 then (v+(n:Int)).toNat else min v.toNat n
theorem vk (n d:Nat)(hd:d<=n)(o:Option Int):sIx n d o<=n:=by
 cases o with
 | none=>exact hd
 | some v =>
  show (if v < 0 then (v+(n:Int)).toNat else min v.toNat n)<=n
  by_cases hv:v < 0
  ·rw [if_pos hv]; omega
  ·rw [if_neg hv]; exact a15 _ _
theorem i7 (v:Int)(n d:Nat):(if v < 0 then max (v+(n:Int)) 0 else min v (n:Int))=((sIx n d (some v):Nat):Int):=by
 show (if v < 0 then max (v+(n:Int)) 0 else min v (n:Int))=(((if v < 0 then (v+(n:Int)).toNat else min v.toNat n):Nat):Int)
 by_cases hv:v < 0
 ·simp only [if_pos hv]; omega
 ·simp only [if_neg hv]; omega
theorem ib (lo hi:Option Int)(n:Nat):Builtin.Slice.sliceAdjust lo hi 1 (n:Int)=(((sIx n 0 lo:Nat):Int),((sIx n n hi:Nat):Int)):=by
 have h1:¬ ((1:Int) < 0):=by omega
 unfold Builtin.Slice.sliceAdjust
 simp only [h1,if_false]
 refine Prod.ext ?_ ?_
 ·cases lo with
  | none=>rfl
  | some v=>exact i7 v n 0
 ·cases hi with
  | none=>rfl
  | some v=>exact i7 v n n
theorem iH (i j:Nat):Builtin.Slice.slicePlaces (i:Int) (j:Int) 1=j-i:=by
 unfold Builtin.Slice.slicePlaces
 have h1:(1:Int) > 0:=by omega
 simp only [h1,if_true,Int.ediv_one]
 split<;>omega
theorem dX {v:Value}{o:Option Int}{Q:Option Int->Shared->Prop}(p:IsPart v o)(h:Q o s):wpAny (model prog w) A (Builtin.Slice.slicePartIndex v) Q E s:=by
 cases p with
 | none=>exact slicePart_none h
 | int i t=>exact slicePart_int h
theorem sliceApplied_gen {sl:Addr}{vl vu:Value}{lo hi:Option Int}{n:Nat}{Q:Int×Int×Nat->Shared->Prop}(hs:s.heap.IsSliceOf sl vl vu .none)(pl:IsPart vl lo)(pu:IsPart vu hi)
  (h:Q (((sIx n 0 lo:Nat):Int),1,sIx n n hi-sIx n 0 lo) s):wpAny (model prog w) A (Builtin.Slice.sliceApplied (.ref sl) (pure (n:Int))) Q E s:=by
 obtain ⟨os,hos,hcs,hds⟩:=id hs
 unfold Builtin.Slice.sliceApplied Builtin.Slice.sliceFields
 refine wpAny_bind (wpAny_bind (wpAny_field hos hds (x:=vl) rfl (wpAny_bind (wpAny_field hos hds (x:=vu) rfl (wpAny_bind (wpAny_field hos hds (x:=.none) rfl (wpAny_pure ?_)))))))
 refine wpAny_bind (slicePart_none ?_)
 show wpAny _ _ (if ((1:Int)==0)=true then _ else _) _ _ s
 rw [if_neg (by decide)]
 refine wpAny_bind (dX pl (wpAny_bind (dX pu (wpAny_bind (wpAny_pure ?_)))))
 show wpAny _ _ (match Builtin.Slice.sliceAdjust lo hi 1 (n:Int) with | (lo,hi)=>pure (lo,(1:Int),Builtin.Slice.slicePlaces lo hi 1)) _ _ s
 rw [ib lo hi n]
 show wpAny _ _ (pure (((sIx n 0 lo:Nat):Int),(1:Int),Builtin.Slice.slicePlaces ((sIx n 0 lo:Nat):Int) ((sIx n n hi:Nat):Int) 1)) _ _ s
 rw [iH]
 exact wpAny_pure h
theorem nB (xs:Array Value)(i k:Nat):((a0H k).filterMap fun (m:Nat)=>xs[((i:Int)+(m:Int) * 1).toNat]?).toArray=((xs.toList.drop i).take k).toArray:=by
 have e:(fun (m:Nat)=>xs[((i:Int)+(m:Int) * 1).toNat]?)=fun m=>xs[i+m]?:=by
  funext m
  have:((i:Int)+(m:Int) * 1).toNat=i+m:=by omega
  rw [this]
 rw [e]
 have:=pick_run xs i k
 rw [List.filterMap_map] at this
 have e2:((fun x=>xs[x]?) ∘ fun x=>i+x)=fun m=>xs[i+m]?:=rfl
 rw [e2] at this
 rw [this]
theorem getItem_tuple_cut {t sl:Addr}{items:Array Value}{vl vu:Value}{lo hi:Option Int}{Q:Value->Shared->Prop}(ht:IsTup s.heap t items)(hs:s.heap.IsSliceOf sl vl vu .none)(pl:IsPart vl lo)(pu:IsPart vu hi)
  (hw:¬ (sIx items.size 0 lo=0/\sIx items.size items.size hi=items.size))
  (h:Q (.ref s.heap.objs.size) { s with heap:=s.heap.push { cls:=.type "tuple",data:=.seq ((items.toList.drop (sIx items.size 0 lo)).take (sIx items.size items.size hi-sIx items.size 0 lo)).toArray } })
  (hsz:items.size<=sizeLine):wpAny (model prog w) A (getItem (.ref t) (.ref sl)) Q E s:=by
 have htake:sizeOk (.seq ((items.toList.drop (sIx items.size 0 lo)).take (sIx items.size items.size hi-sIx items.size 0 lo)).toArray):=by
  show ((items.toList.drop (sIx items.size 0 lo)).take (sIx items.size items.size hi-sIx items.size 0 lo)).toArray.size<=sizeLine
  rw [a0h,a1a,a16,a0E]
  omega
 have hj:sIx items.size items.size hi<=items.size:=vk _ _ (a0j _) hi
 obtain ⟨os,hos,hcs,hds⟩:=id hs
 have hTs:s.TypeIs (.ref sl) "slice":=⟨os,hos,hcs⟩
 unfold getItem
 try with_reducible refine wpAny_holding ?_
 first | refine wpAny_bind (wpAny_pure ?_) | skip
 refine wpAny_bind (wpAny_sequenceKey ht.typeIs (by decide) ?_)
 refine wpAny_bind (wpAny_callSpecial?_slot (name:=Str.ofString "__getitem__") ht.typeIs a0D
  (wpAny_call_entry a0D ht.typeIs entry_tuple_getitem ?_ (args_tuple_getitem _ _)))
 show wpAny _ _ (Builtin.Tuple.tupleItemsOf (.ref t) >>= _) _ _ s
 refine wpAny_bind (tupleItemsOf_ ht ?_)
 refine wpAny_bind (wpAny_typeOf hTs ?_)
 rw [if_pos (by decide)]
 refine wpAny_bind (sliceApplied_gen hs pl pu ?_)
 have hno:¬ ((((sIx items.size 0 lo:Nat):Int)==0&&(1:Int)==1&&(sIx items.size items.size hi-sIx items.size 0 lo)==items.size)=true):=by
  intro q
  rw [a0m,a0m] at q
  have q1:((sIx items.size 0 lo:Nat):Int)=0:=eq_of_beq q.1.1
  have q2:sIx items.size items.size hi-sIx items.size 0 lo=items.size:=eq_of_beq q.2
  exact hw ⟨by omega,by omega⟩
 show wpAny _ _ (if (((sIx items.size 0 lo:Nat):Int)==0&&(1:Int)==1&&(sIx items.size items.size hi-sIx items.size 0 lo)==items.size)=true then _ else _) _ _ s
 rw [if_neg hno,nB]
 first
  | exact wpAny_bind (m:=Builtin.Tuple.tupleExact _) (wpAny_newObj_type (wpAny_pure ⟨_,rfl,wpAny_pure h⟩) htake)
  | exact wpAny_bind (m:=Builtin.Tuple.tupleExact _) (wpAny_newObj_type (wpAny_bind (wpAny_pure (wpAny_pure ⟨_,rfl,wpAny_pure h⟩))) htake)
  | exact wpAny_bind (wpAny_bind (m:=Builtin.Tuple.tupleExact _) (wpAny_newObj_type (wpAny_pure (wpAny_pure ⟨_,rfl,wpAny_pure h⟩)) htake))
  | exact wpAny_bind (wpAny_bind (m:=Builtin.Tuple.tupleExact _) (wpAny_newObj_type (wpAny_pure ⟨_,rfl,wpAny_pure h⟩) htake))
end
end HT
namespace L2
open PySem PySem.Spec PyProof.Rows
noncomputable abbrev TO:=St->Hp->(Option Int->Hp->Prop)->Prop
noncomputable def PO (X:Cx)(e:Option Expr)(t:TO):Prop :=
 ∀ (pins:List (Addr×Obj)) (s:Shared) (σ:St) (H:Hp) (Q:Option Int->Hp->Prop),Inv X pins σ H s->t σ H Q ->
  wpAny (model X.prog X.w) X.A (evalPart e X.env) (fun u s'=>∃ o H',Inv X pins σ H' s'/\IsPart u o/\Q o H') X.xe s
noncomputable def qK:TO:=fun _ H Q=>Q none H
noncomputable def ym (t:TE):TO:=fun σ H Q=>t σ H fun x H1=>∃ i,x=.int i/\Q (some i) H1
section
variable {X:Cx}{e:Expr}{te:TE}{lo hi:Option Expr}{tl th:TO}{pos p2:Pos}
theorem pe:PO X none qK:=by
 intro pins s σ H Q I h
 rw [evalPart_none]
 exact wpAny_pure ⟨none,H,I,.none,h⟩
theorem nY (h:PE X e te):PO X (some e) (ym te):=by
 intro pins s σ H Q I hw
 rw [evalPart_some]
 refine thn (h pins s σ H _ I hw) fun u s1 ⟨x,H1,I1,r1,q1⟩=>?_
 obtain ⟨i,rfl,q⟩:=q1
 obtain ⟨t,rfl⟩:=r1
 exact ⟨some i,H1,I1,.int i t,q⟩
noncomputable def SlR (X:Cx)(r:V->Option Int->Option Int->Hp->VK->Prop):Prop :=
 ∀ (pins:List (Addr×Obj)) (s:Shared) (σ:St) (H:Hp) (x:V) (v vl vu:Value) (lo hi:Option Int) (sl:Addr) (Q:VK),Inv X pins σ H s->RelV x v->s.heap.IsSliceOf sl vl vu .none->IsPart vl lo->IsPart vu hi->r x lo hi H Q ->
  ∃ T id,typeLookup (.type T) "__getitem__"=pure (some (.builtin id))/\s.TypeIs v T/\wpAny (model X.prog X.w) X.A (getItem v (.ref sl)) (EP X pins σ Q) X.xe s
theorem SlR.or {r r':V->Option Int->Option Int->Hp->VK->Prop}(h:SlR X r)(h':SlR X r'):SlR X (fun x lo hi H Q=>r x lo hi H Q\/r' x lo hi H Q):=by
 intro pins s σ H x v vl vu lo hi sl Q I rx hs pl pu q
 rcases q with q | q
 ·exact h pins s σ H x v vl vu lo hi sl Q I rx hs pl pu q
 ·exact h' pins s σ H x v vl vu lo hi sl Q I rx hs pl pu q
noncomputable def tSl (r:V->Option Int->Option Int->Hp->VK->Prop)(te:TE)(tl th:TO):TE:=fun σ H Q=>te σ H fun x H1=>tl σ H1 fun l H2=>th σ H2 fun u H3=>r x l u H3 Q
theorem lM {r:V->Option Int->Option Int->Hp->VK->Prop}(hr:SlR X r)(he:PE X e te)(hl:PO X lo tl)(hu:PO X hi th):PE X (.Subscript e (.Slice lo hi none p2) pos) (tSl r te tl th):=by
 intro pins s σ H Q I h
 refine Subscript_ (thn (he pins s σ H _ I h) fun v s1 ⟨x,H1,I1,r1,q1⟩=>?_)
 refine wpAny_Slice (thn (hl pins s1 σ H1 _ I1 q1) fun vl s2 ⟨l,H2,I2,pl,q2⟩=>thn (hu pins s2 σ H2 _ I2 q2) fun vu s3 ⟨u,H3,I3,pu,q3⟩=>?_)
 rw [evalPart_none]
 refine wpAny_pure ?_
 have I4:Inv X pins σ H3 { s3 with heap:=s3.heap.push { cls:=.type "slice",data:=.fields #[vl,vu,.none] } }:=I3.kept (t':=s3.toks) fun b ob q=>Heap.get?_push_of_some _ q
 obtain ⟨T,id,hT,ht,hg⟩:=hr pins { s3 with heap:=s3.heap.push { cls:=.type "slice",data:=.fields #[vl,vu,.none] } } σ H3 x v vl vu l u s3.heap.objs.size Q I4 r1 (Heap.IsSliceOf.new ..) pl pu q3
 show wpAny (model X.prog X.w) X.A (subscriptTail e (.Slice lo hi none p2) v (.ref s3.heap.objs.size)) (EP X pins σ Q) X.xe { s3 with heap:=s3.heap.push { cls:=.type "slice",data:=.fields #[vl,vu,.none] } }
 exact tail_any (ops:=[.ref s3.heap.objs.size,v]) ht hT hg (by with_unfolding_all rfl)
noncomputable def cG (xs:List V)(lo hi:Option Int):List V:=(xs.drop (HT.sIx xs.length 0 lo)).take (HT.sIx xs.length xs.length hi-HT.sIx xs.length 0 lo)
theorem bu (xs:List V)(lo hi:Option Int):(cG xs lo hi).length<=xs.length:=by
 unfold cG
 rw [a1a,a16]
 omega
noncomputable def zd (K:a0a):V->Option Int->Option Int->Hp->VK->Prop:=fun x lo hi H Q=>∃ a xs,x=.ref a/\SqT K H a xs /\
 ¬ (HT.sIx xs.length 0 lo=0/\HT.sIx xs.length xs.length hi=xs.length)/\∀ p,H p=none->Q (.ref p) (upd H p (.tup (cG xs lo hi)))
theorem rQ:SlR X (zd X.K):=by
 intro pins s σ H x v vl vu lo hi sl Q I rx hs pl pu h
 obtain ⟨a,xs,rfl,hx,hw,q⟩:=h
 cases rx
 obtain ⟨its,r,ht,hz⟩:=I.tuple hx
 have hlen:its.toArray.size=xs.length:=by rw [a0h]; exact r.length.symm
 refine ⟨"tuple",_,a0D.lookup,ht.typeIs,?_⟩
 refine HT.getItem_tuple_cut ht hs pl pu (by rw [hlen]; exact hw) ?_ (by rw [hlen]; exact hz)
 rw [hlen]
 refine ⟨.ref s.heap.objs.size,_,I.laid (t':=s.toks) (o:=.tup (cG xs lo hi)) (fun b ob q=>Heap.get?_push_of_some _ q) (a0j _) ?_,rfl,q _ (I.hok.fresh (a0j _))⟩
 exact ⟨a0s (bu xs lo hi) hz,_,(r.drop (HT.sIx xs.length 0 lo)).take (HT.sIx xs.length xs.length hi-HT.sIx xs.length 0 lo),IsTup.new _ _⟩
noncomputable def v8 (K:a0a):R2:=fun x y H Q=>∃ a b xs ys,x=.ref a/\y=.ref b/\SqT K H a xs/\SqT K H b ys/\xs≠[]/\xs.length+ys.length<=sizeLine /\
 (ys=[]->Q (.ref a) H)/\(ys≠[]->∀ p,H p=none->Q (.ref p) (upd H p (.tup (xs++ys))))
theorem Vals.nil_iff {xs:List V}{us:List Value}(r:Vals xs us):us=[] ↔ xs=[]:=by
 cases r with
 | nil=>simp
 | cons _ _=>simp
theorem qN:OpR X (binaryOp .Add) (v8 X.K):=by
 intro pins s σ H x y v u Q I rx ry h
 obtain ⟨a,b,xs,ys,rfl,rfl,ha,hb,hx,hz,q1,q2⟩:=h
 cases rx
 cases ry
 obtain ⟨its,r1,p1,_⟩:=I.tuple ha
 obtain ⟨its2,r2,p2,_⟩:=I.tuple hb
 refine HT.cat_tup p1 p2 (fun z=>hx (r1.nil_iff.mp z)) (fun z=>⟨.ref a,H,I,rfl,q1 (r2.nil_iff.mp z)⟩) (fun z=>?_) (by rw [<- r1.length,<- r2.length]; exact hz)
 refine ⟨.ref s.heap.objs.size,_,I.laid (t':=s.toks) (o:=.tup (xs++ys)) (fun b ob q=>Heap.get?_push_of_some _ q) (a0j _) ?_,rfl,q2 (fun w=>z (r2.nil_iff.mpr w)) _ (I.hok.fresh (a0j _))⟩
 exact ⟨by rw [a0b]; exact hz,_,r1.append r2,IsTup.new _ _⟩
end
end L2
namespace L2
open PySem PySem.Spec PyProof.Rows
noncomputable def ixN (n:Nat)(i:Int):Option Nat:=if 0<=i then (if i < n then some i.toNat else none) else if -(n:Int)<=i then some (i+n).toNat else none
noncomputable def atI {α:Type}(xs:List α)(i:Int):Option α:=(ixN xs.length i).bind fun j=>xs[j]?
theorem qu {n:Nat}{i:Int}{j:Nat}(h:ixN n i=some j):seqIndex? i n=some j/\j < n/\-(n:Int)<=i/\i < n:=by
 unfold ixN at h
 by_cases h0:0<=i
 ·rw [if_pos h0] at h
  by_cases h1:i < n
  ·rw [if_pos h1] at h
   have e:i.toNat=j:=a0z h
   exact ⟨by rw [seqIndex_of h0 h1,e],by omega,by omega,h1⟩
  ·rw [if_neg h1] at h; cases h
 ·rw [if_neg h0] at h
  by_cases h1:-(n:Int)<=i
  ·rw [if_pos h1] at h
   have e:(i+n).toNat=j:=a0z h
   exact ⟨by rw [seqIndex_neg (by omega) h1,e],by omega,h1,by omega⟩
  ·rw [if_neg h1] at h; cases h
theorem fC {α:Type}{xs:List α}{i:Int}{v:α}(h:atI xs i=some v):∃ j,seqIndex? i xs.length=some j/\xs[j]?=some v/\j < xs.length/\-(xs.length:Int)<=i/\i < xs.length:=by
 unfold atI at h
 cases e:ixN xs.length i with
 | none=>rw [e] at h; cases h
 | some j =>
  rw [e] at h
  obtain ⟨h1,h2,h3,h4⟩:=qu e
  exact ⟨j,h1,h,h2,h3,h4⟩
theorem atI_nat {α:Type}{xs:List α}{j:Nat}{v:α}(h:xs[j]?=some v):atI xs (j:Int)=some v:=by
 have hj:j < xs.length:=(a0q.mp h).1
 have e:ixN xs.length (j:Int)=some j:=by
  unfold ixN
  rw [if_pos (by omega),if_pos (by omega)]; simp
 unfold atI; rw [e]; exact h
noncomputable def fE (b:Expr):Prop:=∀ o i,subscripted b false o i=operate [o,i] (getItem o i)
noncomputable def IxR (X:Cx)(r:R2):Prop :=
 ∀ (value slice:Expr) (pins:List (Addr×Obj)) (s:Shared) (σ:St) (H:Hp) (x y:V) (v u:Value) (Q:VK),Inv X pins σ H s->RelV x v->RelV y u->r x y H Q ->
  subscripted slice false v u=operate [v,u] (getItem v u)->wpAny (model X.prog X.w) X.A (subscriptTail value slice v u) (EP X pins σ Q) X.xe s
noncomputable def MtR (X:Cx)(id:String)(r:V->List V->Hp->VK->Prop):Prop :=
 ∀ (pins:List (Addr×Obj)) (s:Shared) (σ:St) (H:Hp) (x:V) (xs:List V) (v:Value) (us:List Value) (Q:VK),Inv X pins σ H s->RelV x v->Vals xs us->r x xs H Q ->
  wpAny (model X.prog X.w) X.A (call (.builtin id) (v::us)) (EP X pins σ Q) X.xe s
section
variable {X:Cx}{a b:Expr}{ta tb:TE}{pos:Pos}
theorem IxR.or {r r':R2}(h:IxR X r)(h':IxR X r'):IxR X (fun x y H Q=>r x y H Q\/r' x y H Q):=by
 intro value slice pins s σ H x y v u Q I rx ry q hs
 rcases q with q | q
 ·exact h value slice pins s σ H x y v u Q I rx ry q hs
 ·exact h' value slice pins s σ H x y v u Q I rx ry q hs
theorem rD {r:R2}(hr:IxR X r)(ha:PE X a ta)(hb:PE X b tb)(hs:fE b):PE X (.Subscript a b pos) (tOp r ta tb):=by
 intro pins s σ H Q I h
 exact Subscript_ (vh ha hb I h fun v u s2 x y H2 I2 rx ry q=>hr a b pins s2 σ H2 x y v u Q I2 rx ry q (hs _ _))
noncomputable def yq (K:a0a):R2:=fun x y H Q=>∃ p xs i v,x=.ref p/\y=.int i/\SqL K H p xs/\atI xs i=some v/\Q v H
noncomputable def yI (K:a0a):R2:=fun x y H Q=>∃ p xs i v,x=.ref p/\y=.int i/\SqT K H p xs/\atI xs i=some v/\Q v H
noncomputable def zi:R2:=fun x y H Q=>∃ z i c,x=.str z/\y=.int i/\z.length<=sizeLine/\atI z.cps.toList i=some c/\Q (.str ⟨#[c]⟩) H
theorem o9:IxR X (yq X.K):=by
 intro value slice pins s σ H x y v u Q I rx ry h hs
 obtain ⟨p,xs,i,z,rfl,rfl,hq,he,q⟩:=h
 cases rx
 obtain ⟨t,rfl⟩:=ry
 obtain ⟨its,r,pl,hz⟩:=I.list hq
 obtain ⟨j,h1,h2,h3,h4,h5⟩:=fC he
 obtain ⟨w,ew,rw'⟩:=r.get h2
 have hl:=r.length
 have hn:=dw
 have fin:EP X pins σ Q w s:=⟨z,H,I,rw',q⟩
 by_cases h0:0<=i
 ·have hj:i.toNat=j:=by
   rw [seqIndex_of h0 h5] at h1
   exact a0z h1
  exact item_listR pl.isList h0 (by omega) (by rw [hj]; simpa using ew) fin hs
 ·have hj:(i+(its.toArray.size:Int)).toNat=j:=by
   rw [seqIndex_neg (by omega) h4] at h1
   rw [a0h,<- hl]
   exact a0z h1
  exact subscriptTail_builtinR (x:=w) pl.isList.typeIs slot_list_getitem.lookup
   (wpAny_getItem_list_neg (Q:=fun r s'=>r=w/\EP X pins σ Q r s') pl.isList (by omega) (by rw [a0h]<;>omega) (by omega) (by rw [hj]; simpa using ew) ⟨rfl,fin⟩) hs
theorem vj:IxR X (yI X.K):=by
 intro value slice pins s σ H x y v u Q I rx ry h hs
 obtain ⟨p,xs,i,z,rfl,rfl,hq,he,q⟩:=h
 cases rx
 obtain ⟨t,rfl⟩:=ry
 obtain ⟨its,r,pl,hz⟩:=I.tuple hq
 obtain ⟨j,h1,h2,h3,h4,h5⟩:=fC he
 obtain ⟨w,ew,rw'⟩:=r.get h2
 have hl:=r.length
 have hn:=dw
 have fin:EP X pins σ Q w s:=⟨z,H,I,rw',q⟩
 exact subscriptTail_builtinR (x:=w) pl.typeIs slot_tuple_getitem.lookup
  (getItem_tuple (j:=j) (Q:=fun r s'=>r=w/\EP X pins σ Q r s') pl (by omega) (by omega) (by rw [a0h,<- hl]; exact h1) (by simpa using ew) ⟨rfl,fin⟩) hs
theorem sJ:IxR X zi:=by
 intro value slice pins s σ H x y v u Q I rx ry h hs
 obtain ⟨z,i,c,rfl,rfl,hz,he,q⟩:=h
 obtain ⟨t,rfl⟩:=rx
 obtain ⟨t',rfl⟩:=ry
 obtain ⟨j,h1,h2,h3,h4,h5⟩:=fC he
 have hl:z.cps.toList.length=z.length:=by simp [Str.length]
 rw [hl] at h1 h4 h5
 have hn:=dw
 exact tail_any (typeIs_str s z t) slot_str_getitem.lookup (getItem_str (c:=c) (by
  have e1:decide (i < -(2 ^ 63:Int))=false:=decide_eq_false (by omega)
  have e2:decide (i >= 2 ^ 63)=false:=decide_eq_false (by omega)
  rw [e1,e2,a0x]) (by rw [h1]; simpa using h2) ⟨.str ⟨#[c]⟩,H,I.tok _,⟨_,rfl⟩,q⟩) hs
theorem fU (lo hi:Option Int)(n:Nat):(sliceBounds lo hi none n).1=((HT.sIx n 0 lo:Nat):Int)/\(sliceBounds lo hi none n).2.1=((HT.sIx n n hi:Nat):Int)/\(sliceBounds lo hi none n).2.2=1:=by
 refine ⟨?_,?_,rfl⟩
 ·cases lo with
  | none=>simp [sliceBounds,HT.sIx]
  | some i =>
   simp only [sliceBounds,HT.sIx,a2I,show (1:Int) > 0 by decide,if_true]
   by_cases h:i < 0
   ·simp only [h,if_true]<;>omega
   ·simp only [h,if_false]<;>omega
 ·cases hi with
  | none=>simp [sliceBounds,HT.sIx]
  | some i =>
   simp only [sliceBounds,HT.sIx,a2I,show (1:Int) > 0 by decide,if_true]
   by_cases h:i < 0
   ·simp only [h,if_true]<;>omega
   ·simp only [h,if_false]<;>omega
theorem el (its:List Value)(lo hi:Option Int):slicePick its.toArray lo hi none=((its.drop (HT.sIx its.length 0 lo)).take (HT.sIx its.length its.length hi-HT.sIx its.length 0 lo)).toArray:=by
 obtain ⟨h1,h2,h3⟩:=fU lo hi its.toArray.size
 unfold slicePick
 rw [h1,h2,h3]
 simp only [sliceRange_one,pick_run,a0h]<;>rfl
noncomputable def vK (K:a0a):V->Option Int->Option Int->Hp->VK->Prop:=fun x lo hi H Q=>∃ a xs,x=.ref a/\SqL K H a xs/\∀ p,H p=none->Q (.ref p) (upd H p (.lst (cG xs lo hi)))
theorem sl_list:SlR X (vK X.K):=by
 intro pins s σ H x v vl vu lo hi sl Q I rx hs pl pu h
 obtain ⟨a,xs,rfl,hx,q⟩:=h
 cases rx
 obtain ⟨its,r,ht,hz⟩:=I.list hx
 have hlen:=r.length
 refine ⟨"list",_,slot_list_getitem.lookup,ht.isList.typeIs,?_⟩
 refine wpAny_getItem_list_slice ht.isList hs pl pu .none (by simp) ?_ (by rw [a0h]<;>omega)
 rw [el,<- hlen]
 refine ⟨.ref s.heap.objs.size,_,I.laid (t':=s.toks) (o:=.lst (cG xs lo hi)) (fun b ob q=>Heap.get?_push_of_some _ q) (a0j _) ?_,rfl,q _ (I.hok.fresh (a0j _))⟩
 exact ⟨a0s (bu xs lo hi) hz,_,0,(r.drop (HT.sIx xs.length 0 lo)).take (HT.sIx xs.length xs.length hi-HT.sIx xs.length 0 lo),Heap.get?_push_size _ rfl⟩
noncomputable def eqV:V->V->Bool
 | .non,.non=>true
 | .bl a,.bl b=>a==b
 | .bl a,.int b=>(if a then 1 else 0)==b
 | .int a,.bl b=>a==(if b then 1 else 0)
 | .int a,.int b=>a==b
 | .str a,.str b=>a==b
 | _,_=>false
noncomputable def inV (x:V)(xs:List V):Bool:=xs.any fun y=>eqV y x
theorem fH:bL X (.type "list") (fun xs H Q=>∃ p ys,xs=[.ref p]/\(SqL X.K H p ys\/SqT X.K H p ys)/\∀ l,H l=none->Q (.ref l) (upd H l (.lst ys))):=by
 intro pins s σ H xs us Q I r h
 obtain ⟨p,ys,rfl,hq,q⟩:=h
 obtain ⟨u,rfl,rx⟩:=dh r
 cases rx
 have fin:∀ (its:List Value),Vals ys its->ys.length<=sizeLine->∀ (h':Heap) (c':Nat),(∀ b o',s.heap.get? b=some o'->h'.get? b=some o') ->
   h'.get? s.heap.objs.size=some { cls:=.type "list",dict:=none,data:=.seq its.toArray c',slots:=#[] }->EP X pins σ Q (.ref s.heap.objs.size) { s with heap:=h' }:=fun its r' hz h' c' kp e =>
  ⟨.ref s.heap.objs.size,_,I.laid (t':=s.toks) kp (a0j _) (show ObjOk X.prog X.w _ h' _ (.lst ys) from ⟨hz,its,c',r',e⟩),rfl,q _ (I.hok.fresh (a0j _))⟩
 rcases hq with hq | hq
 ·obtain ⟨its,r',pl,hz⟩:=I.list hq
  have hlen:=r'.length
  obtain ⟨o,ho,hc,n,hd⟩:=pl.isList
  exact call_list_seq p (.inl rfl) ho hc hd (fun h' c' kp e=>fin its r' hz h' c' kp e) (by simp only [a0h]<;>omega)
 ·obtain ⟨its,r',pl,hz⟩:=I.tuple hq
  have hlen:=r'.length
  obtain ⟨o,ho,hc,n,hd⟩:=pl
  exact call_list_seq p (.inr rfl) ho hc hd (fun h' c' kp e=>fin its r' hz h' c' kp e) (by simp only [a0h]<;>omega)
noncomputable def tyV (K:a0a)(T:String)(x:V)(H:Hp):Prop:=match x with
 | .str _=>T="str"
 | .int _=>T="int"
 | .ref p=>(T="list"/\∃ xs,SqL K H p xs)\/(T="tuple"/\∃ o,K.lookup p=some o/\o.cls=.type "tuple"/\o.dict=none) \/
   (T="dict"/\((∃ kvs,H p=some (.dK kvs))\/∃ kvs,H p=some (.dT kvs)))\/(T="set"/\∃ S n,H p=some (.set S n))
 | _=>False
theorem tJ {pins:List (Addr×Obj)}{σ:St}{H:Hp}{s:Shared}{T:String}{x:V}{v:Value}(I:Inv X pins σ H s)(r:RelV x v)(ty:tyV X.K T x H) :
  s.TypeIs v T/\∀ a,v=.ref a->∃ ob,s.heap.get? a=some ob/\ob.dict=none:=by
 cases x with
 | str z =>
  obtain ⟨t,rfl⟩:=r
  cases (show T="str" from ty)
  exact ⟨typeIs_str s z t,fun _ e=>nomatch e⟩
 | int i =>
  obtain ⟨t,rfl⟩:=r
  cases (show T="int" from ty)
  exact ⟨typeIs_int s i t,fun _ e=>nomatch e⟩
 | ref p =>
  cases r
  rcases ty with ⟨rfl,xs,hq⟩ | ⟨rfl,o,hk,hc,hd⟩ | ⟨rfl,hk⟩ | ⟨rfl,S,n,hk⟩
  ·obtain ⟨its,_,pl,_⟩:=I.list hq
   refine ⟨pl.isList.typeIs,fun a e=>?_⟩
   cases e
   obtain ⟨o,n,e,c,hd,_⟩:=pl
   exact ⟨o,e,hd⟩
  ·refine ⟨⟨o,I.kIn p o hk,hc⟩,fun a e=>?_⟩
   cases e
   exact ⟨o,I.kIn _ o hk,hd⟩
  ·have z:∃ o,s.heap.get? p=some o/\o.ExactDict:=by
    rcases hk with ⟨kvs,hk⟩ | ⟨kvs,hk⟩
    ·obtain ⟨_,_,_,_,o,_,_,e,ex,_⟩:=I.hok p _ hk
     exact ⟨o,e,ex⟩
    ·obtain ⟨_,_,_,_,o,_,_,e,ex,_⟩:=I.hok p _ hk
     exact ⟨o,e,ex⟩
   obtain ⟨o,e,ex⟩:=z
   refine ⟨⟨o,e,ex.1⟩,fun a e2=>?_⟩
   cases e2
   exact ⟨o,e,ex.2.1⟩
  ·obtain ⟨o,_,_,_,e,ex,_⟩:=I.hok p _ hk
   refine ⟨⟨o,e,ex.1⟩,fun a e2=>?_⟩
   cases e2
   exact ⟨o,e,ex.2.1⟩
 | _=>exact a1i ty
noncomputable def tBM (K:a0a)(T:String)(r:V->List V->Hp->VK->Prop)(to:TE)(t:TA):TE:=fun σ H Q=>to σ H fun x H1=>tyV K T x H1/\t σ H1 fun xs H2=>r x xs H2 Q
variable {o e:Expr}{es:List Expr}{to:TE}{t:TA}{name:Str}{apos cpos:Pos}{T id:String}{r:V->List V->Hp->VK->Prop}
theorem gL (pa:PlainAttrs T)(slot:Slot T name id)(hty:typeOf (.builtin id)=pure (.type "method_descriptor"))(hm:MtR X id r)(ho:PE X o to)(ha:PA X (e::es) t)
  (hbase:attributeBase o name X.env (eval o X.env)=eval o X.env:=by rfl)
  (hfew:((backTo cpos (starEach (e::es) X.env)).all (fun x=>!x.1)&&(backToKw cpos (keywordEach [] X.env)).all (fun x=>x.1.isSome)
  &&decide ((e::es).length+([]:List Keyword).length+(if ([]:List Keyword).isEmpty then 0 else 1) < 30))=true:=by rfl)
  (hline:(apos.endLine==cpos.line)=true:=by rfl) (hs:starEach (e::es) X.env=(false,eval e X.env)::starEach es X.env:=by rfl) (hplain:(backTo cpos (starEach es X.env)).any (·.1)=false:=by rfl) :
  PE X (.Call (.Attribute o name apos) (e::es) [] cpos) (tBM X.K T r to t):=by
 intro pins s σ H Q I h
 refine wpAny_Call_method_late hbase hfew hline rfl (thn (ho pins s σ H _ I h) fun v s1 ⟨x,H1,I1,r1,ty,q1⟩=>?_)
 obtain ⟨h1,h2⟩:=tJ I1 r1 ty
 refine ⟨T,id,pa,slot,hty,h1,h2,?_⟩
 have hA:=ha cpos pins s1 σ H1 _ I1 q1
 rw [hs] at hA ⊢
 refine Calls.callWith_builtin (by show (false || (backTo cpos (starEach es X.env)).any (·.1))=false; rw [hplain]<;>rfl) (Calls.evalArgs_plain ?_)
 exact thn hA fun us s2 ⟨vs,H2,I2,r2,q2⟩=>hm pins s2 σ H2 x vs v us Q I2 r1 r2 q2
end
end L2
namespace L2
open PySem PySem.Spec PyProof.Rows
noncomputable def MtM (X:Cx)(id:String)(r:V->List V->Hp->VK->Prop):Prop :=
 ∀ (pins:List (Addr×Obj)) (s:Shared) (σ:St) (H:Hp) (x:V) (xs:List V) (v:Value) (us:List Value) (Q:VK),Inv X pins σ H s->RelV x v->Vals xs us->r x xs H Q ->
  wpAny (model X.prog X.w) X.A (call (.builtin id) (v::us)) (EP X pins σ Q) X.xe s
theorem Vals.one:∀ {x:V} {us:List Value},Vals [x] us->∃ u,us=[u]/\RelV x u
 | _,_,.cons r .nil=>⟨_,rfl,r⟩
theorem Vals.rep {xs:List V}{us:List Value}(h:Vals xs us):∀ k:Nat,Vals (a0g k xs).flatten (a0g k us).flatten
 | 0=>.nil
 | k+1=>by
  rw [a0N,a0N,a06,a06]
  exact Vals.append h (Vals.rep h k)
theorem eU (its:List Value):∀ (k:Nat) (acc:List Value),
  a21 (fun x1 x2=>x1++x2) acc.toArray (a0g k its.toArray)=(acc++(a0g k its).flatten).toArray
 | 0,acc=>by simp
 | k+1,acc=>by
  have e:acc.toArray++its.toArray=(acc++its).toArray:=by simp
  have e2:(acc++its)++(a0g k its).flatten=acc++(a0g (k+1) its).flatten:=by
   rw [a0N,a06,a0n]
  rw [<- e2,<- eU its k (acc++its),<- e,a0N,a2Q]
section
variable {X:Cx}{pins:List (Addr×Obj)}{σ:St}{H:Hp}{s:Shared}{l b:Addr}{xs ys zs:List V}
theorem Inv.lset {its its':List Value}{n:Nat}{f:Array Value->Array Value}{t':Nat}(I:Inv X pins σ H s)(hH:H l=some (.lst xs))
  (e:s.heap.get? l=some { cls:=.type "list",data:=.seq its.toArray n }) (hf:f its.toArray=its'.toArray) (hv:Vals ys its') (hz:ys.length<=sizeLine) :
  Inv X pins σ (upd H l (.lst ys)) { s with heap:=s.heap.update l (Obj.mapSeq f),toks:=t' }:=by
 have q:=PySem.IsL.update e f
 rw [hf] at q
 refine I.write (x:=l) (e:=l) (by rw [hH]; exact trivial) (.inl rfl) (fun b' u hb hu=>(Heap.get?_update_other s.heap (Obj.mapSeq f) (a2y hb)).trans hu) ⟨_,q⟩ ?_
 exact ⟨hz,its',_,hv,q⟩
theorem Inv.lnew {its:List Value}{t':Nat}(I:Inv X pins σ H s)(hv:Vals ys its)(hz:ys.length<=sizeLine) :
  Inv X pins σ (upd H s.heap.objs.size (.lst ys)) { s with heap:=s.heap.push { cls:=.type "list",data:=.seq its.toArray },toks:=t' } :=
 I.laid (fun _ _ q=>Heap.get?_push_of_some _ q) (a0j _) ⟨hz,its,0,hv,Heap.get?_push_size _ rfl⟩
theorem Inv.fresh (I:Inv X pins σ H s):H s.heap.objs.size=none:=I.hok.fresh (a0j _)
theorem Inv.lstM (I:Inv X pins σ H s)(hH:H l=some (.lst xs)):xs.length<=sizeLine/\∃ (its:List Value) (n:Nat),Vals xs its/\xs.length=its.length/\s.heap.get? l=some { cls:=.type "list",data:=.seq its.toArray n }:=by
 obtain ⟨z,its,n,r,e⟩:=I.hok l _ hH
 exact ⟨z,its,n,r,r.length,e⟩
theorem gu {n:Nat}(h:n<=sizeLine):Builtin.List.listTooLong n=false:=by
 unfold Builtin.List.listTooLong
 exact decide_eq_false (by omega)
end
section
variable {X:Cx}
noncomputable def iS:V->List V->Hp->VK->Prop:=fun x vs H Q=>∃ l xs y,x=.ref l/\vs=[y]/\H l=some (.lst xs)/\xs.length < sizeLine/\Q .non (upd H l (.lst (xs++[y])))
theorem eM:MtM X "list.append" iS:=by
 intro pins s σ H x vs v us Q I rx rv h
 obtain ⟨l,xs,y,rfl,rfl,hH,hz,q⟩:=h
 cases rx
 obtain ⟨u,rfl,ru⟩:=rv.one
 obtain ⟨z,its,n,r,hl,e⟩:=I.lstM hH
 refine call_meets F.slot_list_append ⟨_,e,rfl⟩ F.entry_list_append (F.args_list_append_2 _ _) (PySem.list_append l its.toArray n u (by rw [a0h]; omega)) ⟨e,?_⟩
 refine ⟨.non,_,I.lset (its':=its++[u]) hH e (by simp) (r.append (.cons ru .nil)) ?_,rfl,q⟩
 rw [a0b,a0t]
 omega
noncomputable def qs:V->List V->Hp->VK->Prop:=fun x vs H Q=>∃ l b xs zs,x=.ref l/\vs=[.ref b]/\H l=some (.lst xs)/\H b=some (.lst zs)/\xs.length+zs.length<=sizeLine/\Q .non (upd H l (.lst (xs++zs)))
theorem jq:MtM X "list.extend" qs:=by
 intro pins s σ H x vs v us Q I rx rv h
 obtain ⟨l,b,xs,zs,rfl,rfl,hH,hB,hz,q⟩:=h
 cases rx
 obtain ⟨u,rfl,ru⟩:=rv.one
 cases ru
 obtain ⟨z,its,n,r,hl,e⟩:=I.lstM hH
 obtain ⟨z2,its2,n2,r2,hl2,e2⟩:=I.lstM hB
 have hsz:its.toArray.size+its2.toArray.size<=sizeLine:=by rw [a0h,a0h]; omega
 have hlong:¬ (!its.toArray.isEmpty&&Builtin.List.listTooLong (its.toArray.size+its2.toArray.size))=true:=by
  rw [gu hsz,Bool.and_false]
  exact a0l
 refine call_meets F.slot_list_extend ⟨_,e,rfl⟩ F.entry_list_extend (F.args_list_extend_2 _ _)
  (AutoSeq1.list_extend_list_list_0 l its.toArray n b its2.toArray n2 hlong (by rw [a0h]; omega) (by omega)) ⟨e,e2,?_⟩
 refine ⟨.non,_,I.lset (its':=its++its2) hH e (by simp) (r.append r2) ?_,rfl,q⟩
 rw [a0b]
 omega
noncomputable def xr:R2:=fun x y H Q=>∃ l b xs zs,x=.ref l/\y=.ref b/\H l=some (.lst xs)/\H b=some (.lst zs)/\xs.length+zs.length<=sizeLine/\∀ p,H p=none->Q (.ref p) (upd H p (.lst (xs++zs)))
theorem op_cat:OpR X (binaryOp .Add) xr:=by
 intro pins s σ H x y v u Q I rx ry h
 obtain ⟨l,b,xs,zs,rfl,rfl,hH,hB,hz,q⟩:=h
 cases rx
 cases ry
 obtain ⟨z,its,n,r,hl,e⟩:=I.lstM hH
 obtain ⟨z2,its2,n2,r2,hl2,e2⟩:=I.lstM hB
 refine PySem.P.add_list e e2 ?_ (by rw [a0h,a0h]; omega)
 have ea:its.toArray++its2.toArray=(its++its2).toArray:=by simp
 rw [ea]
 exact ⟨.ref _,_,I.lnew (t':=s.toks) (r.append r2) (by rw [a0b]; omega),rfl,q _ I.fresh⟩
noncomputable def xC:R2:=fun x y H Q=>∃ l k xs,x=.ref l/\y=.int k/\H l=some (.lst xs)/\-(2 ^ 63)<=k/\k < 2 ^ 63/\xs.length * k.toNat<=sizeLine /\
 ∀ p,H p=none->Q (.ref p) (upd H p (.lst (a0g k.toNat xs).flatten))
theorem pR {α:Type}(xs:List α)(k:Nat):(a0g k xs).flatten.length=k * xs.length:=by
 induction k with
 | zero=>simp
 | succ k ih=>rw [a0N,a06,a0b,ih,a3a,a2g]
theorem va:OpR X (binaryOp .Mult) xC:=by
 intro pins s σ H x y v u Q I rx ry h
 obtain ⟨l,k,xs,rfl,rfl,hH,h1,h2,hz,q⟩:=h
 cases rx
 obtain ⟨t,rfl⟩:=ry
 obtain ⟨z,its,n,r,hl,e⟩:=I.lstM hH
 have hlen:its.toArray.size * k.toNat<=sizeLine:=by rw [a0h,<- hl]; exact hz
 have hcap:¬ its.toArray.size * k.toNat > (2 ^ 63-1) / 8:=by
  have:(sizeLine:Nat)<=(2 ^ 63-1) / 8:=by decide
  omega
 have hfit:¬ (!Builtin.List.listFitsIndex k)=true:=by
  rw [fitsIndex_both h1 h2]
  exact a0l
 have hlong:¬ Builtin.List.listTooLong (its.toArray.size * k.toNat)=true:=by
  rw [gu hlen]
  exact a0l
 have hnew:a21 (fun x1 x2=>x1++x2) #[] (a0g (if its.toArray.isEmpty=true then 0 else k.toNat) its.toArray)=(a0g k.toNat its).flatten.toArray:=by
  have f0:∀ m:Nat,a21 (fun x1 x2=>x1++x2) #[] (a0g m its.toArray)=(a0g m its).flatten.toArray:=fun m=>by
   have:=eU its m []
   rw [a0Q] at this
   exact this
  rw [f0]
  cases its with
  | nil=>simp
  | cons a r'=>rw [if_neg (by simp)]
 refine wpAny_binaryOp_repeat_ref (T:="list") (U:="int") (by decide) ⟨_,e,rfl⟩ (fun s'=>typeIs_int s' k t) noFill_list_mul F.fills_int_mul F.slot_int_rmul repeat_list F.slot_int_index.lookup
  (call_meets F.slot_int_rmul (typeIs_int s k t) F.entry_int_rmul (F.args_int_rmul_2 _ _) (int___rmul___int_list k t l its.toArray n)
   ⟨e,rfl,⟨_,e,rfl⟩,call_meets F.slot_list_mul ⟨_,e,rfl⟩ F.entry_list_mul (F.args_list_mul_2 _ _) (AutoListH.list___mul___list_int_3 l its.toArray n k t hfit hcap hlong) ⟨e,?_⟩⟩)
 rw [hnew]
 exact ⟨.ref _,_,I.lnew (t':=s.toks) (r.rep k.toNat) (by rw [pR,a3b]; exact hz),rfl,q _ I.fresh⟩
end
end L2
namespace Att
open PySem PySem.W PySem.Calls PyProof.Rows
theorem c7 {P:Params}{h:Heap}:∀ (ns:List Int) (vs:List Value),WellAll P h vs (ns.map WData.int)->IntsAre vs ns:=by
 intro ns
 induction ns with
 | nil =>
  intro vs w
  rw [a1r] at w
  cases w
  exact .nil
 | cons n ns ih =>
  intro vs w
  rw [a0u] at w
  cases w with
  | cons a b =>
   cases a
   exact .cons _ _ (ih _ b)
theorem jm {l:OpenLaw}{n:Nat}(hn:l.most=some n){P:Params}{h:Heap}{args:List WData}{vals:List Value}
  (hpre:l.row.toRowW.claim.pre args=true) (hwl:WellAll P h vals args) :
  ∃ a vs ns,vals=[Value.ref a]/\args=[WData.list (ns.map WData.int)]/\h.get? a=some { cls:=.type "list",data:=.seq vs.toArray }/\IntsAre vs ns/\ns.length<=n:=by
 have hsh:WShape.hasAll [] args [.list .int]=true:=(pre_splitW hpre).1
 have hc:l.pre.holds [] { args:=args }=true:=(pre_splitW hpre).2
 obtain ⟨d,r,rfl,h1,h2⟩:=hasAllW_cons hsh
 obtain rfl:=hasAllW_nil h2
 obtain ⟨xs,rfl,h3⟩:=hasW_list h1
 obtain ⟨ns,rfl⟩:=items_int h3
 have hlen:ns.length<=n:=by
  unfold OpenLaw.pre at hc
  have h4:(WTm.not (.lt (.lit (.int (n:Int))) (.len (.arg 0)))).holds [] { args:=[.list (ns.map .int)] }=true:=by
   have h4:=(holds_andW hc).1
   rw [hn] at h4
   exact h4
  have h5:=condW_of h4 (w_not (w_lt w_lit (w_len_list (w_arg rfl))))
  rw [a0d] at h5
  refine a2J fun q=>?_
  have q':(n:Int) < ((ns.length:Nat):Int):=by omega
  first
   | (rw [decide_eq_true q'] at h5; exact absurd h5 (by decide))
   | (simp at h5; omega)
 cases hwl with
 | cons w1 w2 =>
  cases w2
  cases w1 with
  | list ho hall=>exact ⟨_,_,ns,rfl,rfl,ho,c7 ns _ hall,hlen⟩
theorem jy (l:OpenLaw)(args:List WData):l.row.toRowW.claim.post args (.bool true) args=true :=
 postW_of (r:=l.row.toRowW) (X:=(true==true))
  (show WShape.has [] (.bool true) .bool=true by first | rfl | decide | simp [WShape.has,WShape.arms,WShape.armsAll])
  (show (WTm.eq .res (.lit (.bool true))).value [] { args:=args,res:=some (.bool true),after:=args }=some (.bool (true==true)) from w_eq_bool (w_res rfl) w_lit) rfl
theorem attach_call {l:OpenLaw}{n:Nat}{q:Program}{loose:List Str}{XP:(Str->Option Value)->Heap->Prop}{YP:World->Heap->Prop}{d:DefRec}
  (hn:l.most=some n) (hdf:d.params.defaults=[])
  (call:∀ (w:World) (s₀ s₁:Shared) (mg mb:Str->Option Value) (fa:Addr) (o:Obj) (pm cd doc:Value) (a:Addr) (vs:List Value) (ns:List Int),
   Ground q loose [] XP w s₀ mg mb s₁.heap->YP w s₁.heap ->
   s₁.heap.get? fa=some o->o.data=.func (docDef d.name d.params d.body d.scope pm cd doc)->s₁.heap.CodeRec cd d.name->mg d.name=some (.ref fa) ->
   s₁.heap.get? a=some { cls:=.type "list",data:=.seq vs.toArray }->IntsAre vs ns->ns.length<=n->s₁.gens=#[] ->
   codeAny (model l.prog w) callerA (.call (.ref fa) ⟨[.ref a],[]⟩) (fun r s'=>r=.ok (.ret (.bool true))/\OldK s₁.heap s'.heap/\s'.os=s₁.os/\AllBare s'.gens) s₁) :
  WalkO q loose XP YP l.row.toRowW d [] (fun f vs=>a22 f vs):=by
 intro w s₀ s₁ mg mb G Y fa o pm cd doc dV kV ho hd hcd hD hmg hg args vals as hpre hlay hrd hwl hlo
 obtain rfl:dV=.none:=Dflts.none hD hdf
 obtain rfl:kV=.none:=Dflts.noKw hD
 obtain ⟨a,vs,ns,rfl,rfl,hobj,hints,hlen⟩:=jm hn hpre hwl
 refine enter_call (codeAny_mono (call w s₀ s₁ mg mb fa o pm cd doc a vs ns G Y ho (fd_plain hd) hcd hmg hobj hints hlen hg) fun r s' hq=>?_)
 obtain ⟨rfl,h2,h3,h4⟩:=hq
 exact ⟨.inl ⟨.bool true,.bool true,[],rfl,fun _=>rfl,.bool true,jy l _,fun _=>⟨a3h,fun _ hm=>(nomatch hm)⟩⟩,h2,h3,h4⟩
end Att
namespace L2
open PySem PySem.Spec PyProof.Rows
theorem bS:∀ {vs:List Value} {ns:List Int},IntsAre vs ns->Vals (ns.map V.int) vs
 | _,_,.nil=>.nil
 | _,_,.cons n t h=>.cons ⟨t,rfl⟩ (bS h)
noncomputable def mh (H:Hp):Prop:=∀ b,H b=none\/∃ o xs,H b=some (.frz o (.lst xs))
theorem lq {P:Program}{w:World}{K:a0a}{mg mb:Str->Option Value}{CX:CXT}{k:Nat}{fa a:Addr}{fd:FuncData}{x:Str}{sp:Sp}{s₁:Shared}{vs:List Value}{ns:List Int}
  (KX:K.In s₁.heap) (hns:s₁.heap.Ns mainGlobals mg) (hb:s₁.heap.Ns builtinsNs mb) (hbb:∀ x:Str,x≠"__name__"->mb x=bootBuiltins x) (hlim:s₁.heap.NoLimit) (hg:s₁.gens=#[])
  (ha:s₁.heap.get? a=some { cls:=.type "list",data:=.seq vs.toArray }) (hi:IntsAre vs ns) (hl:ns.length<=sizeLine) (hr:Room k callerA)
  (F:∀ base:Heap,K.In base->base.Ns mainGlobals mg->cw P w K mg base CX k fa fd [x] sp) (hbind:∀ (s:Shared) (u:Value),BindsTo s fd ⟨[u],[]⟩ [(x,u)])
  (hsp:∀ H:Hp,mh H->SqL K H a (ns.map V.int)->sp [.ref a] H (fun v _=>v=.bl true) fun _ _ _=>False)
  (hCX:∀ H e s',CX [] H s₁ (fun _ _ _=>False) e s'->False) :
  codeAny (model P w) callerA (.call (.ref fa) ⟨[.ref a],[]⟩) (fun r s'=>r=.ok (.ret (.bool true))/\OldK s₁.heap s'.heap/\s'.os=s₁.os/\AllBare s'.gens) s₁:=by
 have rv:=bS hi
 have lenV:=hi.length
 -- from an abstract heap in which nothing but the script may be tracked
 have core:∀ H:Hp,mh H->SqL K H a (ns.map V.int)->HOk P w H s₁.heap->(∀ b,H b≠none->b=a)->(H a≠none->K.lookup a=none) ->
   codeAny (model P w) callerA (.call (.ref fa) ⟨[.ref a],[]⟩) (fun r s'=>r=.ok (.ret (.bool true))/\OldK s₁.heap s'.heap/\s'.os=s₁.os/\AllBare s'.gens) s₁:=by
  intro H hO hS hok hA hK
  have base_of:∀ {b:Addr} {o:Obj},s₁.heap.get? b=some o->H b=none->(fy s₁.heap H).get? b=some o:=fun e n=>lz e n
  have noA:∀ {b:Addr} {o:Obj} {es:Array DictEntry} {ep:Nat},s₁.heap.get? b=some o->o.data=.dict es ep->H b=none:=fun {b o es ep} e d=>by
   cases q:H b with
   | none=>rfl
   | some u =>
    have e':b=a:=hA b (by rw [q]; simp)
    subst e'
    rw [ha] at e; cases e
    have d':Data.seq vs.toArray _=Data.dict es ep:=d
    cases d'
  have nsK:∀ {b:Addr} {m:Str->Option Value},s₁.heap.Ns b m->(fy s₁.heap H).Ns b m:=fun {b m} ⟨o,es,ep,e,d,r⟩=>⟨o,es,ep,base_of e (noA e d),d,r⟩
  have hKb:K.In (fy s₁.heap H):=fun b o e=>base_of (KX b o e) (by
   cases q:H b with
   | none=>rfl
   | some u =>
    have e':b=a:=hA b (by rw [q]; simp)
    subst e'
    rw [hK (by rw [q]; simp)] at e; cases e)
  have hM:Mod K mg (fy s₁.heap H):=⟨hKb,nsK hns,⟨mb,nsK hb,hbb⟩,let ⟨mc,h1,h2⟩:=hlim; ⟨mc,nsK h1,h2⟩⟩
  have e0:qj P w K mg (fy s₁.heap H) callerA [] s₁ H:=⟨rfl,hM,fun b o e=>qr e,Nat.le_of_eq (jF _ _),trivial,fun b hb=>absurd (show b∈([]:List Addr) from hb) (by simp),hok,.of_eq hg⟩
  refine codeAny_mono ((F _ hKb (nsK hns)).run callerA [] s₁ H ⟨[.ref a],[]⟩ [.ref a] [.ref a] _ _ hr e0 (hbind s₁ (.ref a)) (.cons rfl .nil) (hsp H hO hS)) fun r s' h=>?_
  cases r with
  | error e=>exact (hCX H e s' h).elim
  | ok fl =>
   cases fl with
   | next=>exact a1i h
   | brk=>exact a1i h
   | cont=>exact a1i h
   | ret u =>
    obtain ⟨v,H',os,bare,un,hok',r',q⟩:=h
    have q':v=.bl true:=q
    subst q'
    obtain rfl:u=Value.bool true:=r'
    refine ⟨rfl,OldK.of_keep fun b o e=>?_,os,bare⟩
    cases q:H b with
    | none=>exact un.keep b o e q (by intro z; exact absurd (show b∈([]:List Addr) from z) (by simp)) (by simp)
    | some u =>
     rcases hO b with z | ⟨ob,xs,z⟩
     ·rw [q] at z; cases z
     ·have z2:=un.frzs b ob _ z
      obtain ⟨e1,_⟩:=hok b _ z
      obtain ⟨e2,_⟩:=hok' b _ z2
      rw [e] at e1; cases e1
      exact e2
 cases hk:K.lookup a with
 | some o =>
  -- the script is one of the module's own objects
  have e:=KX a o hk
  rw [ha] at e
  cases e
  refine core (fun _=>none) (fun _=>.inl rfl) (.inr ⟨_,vs.toArray,_,hk,rfl,rfl,rfl,by rw [a0h,lenV]; exact hl,by simpa using rv⟩) (fun b u z=>by have z':(none:Option HO)=some u:=z; cases z') (fun b z=>absurd rfl z) fun z=>absurd rfl z
 | none =>
  refine core (fun b=>if b=a then some (.frz { cls:=.type "list",data:=.seq vs.toArray } (.lst (ns.map V.int))) else none) (fun b=>?_) (.inl (.inr ⟨{ cls:=.type "list",data:=.seq vs.toArray },if_pos rfl⟩)) (fun b u z=>?_) (fun b z=>?_) fun _=>hk
  ·by_cases hb:b=a
   ·exact .inr ⟨_,_,if_pos hb⟩
   ·exact .inl (if_neg hb)
  ·by_cases hb:b=a
   ·have z':=(if_pos hb).symm.trans z
    cases z'
    subst hb
    exact ⟨ha,by rw [a0d]; exact hl,vs,_,rv,ha⟩
   ·have z':=(if_neg hb).symm.trans z
    cases z'
  ·by_cases hb:b=a
   ·exact hb
   ·exact absurd (if_neg hb) z
end L2
namespace L2
open PySem PySem.Spec PyProof.Rows
theorem walk_of {l:a2h}{n k:Nat}{q:Program}{loose:List Str}{XP:(Str->Option Value)->Heap->Prop}{YP:World->Heap->Prop}{d:DefRec}{K:Params->a0a}{CX:World->CXT}{sp:World->Sp}{x:Str}
  (hn:l.most=some n) (hn2:n<=sizeLine) (hdf:d.params.defaults=[]) (hr:Room k callerA)
  (hY:∀ (w:World) (h:Heap),YP w h->(K w.params).In h)
  (F:∀ (w:World) (mg:Str->Option Value) (fa:Addr) (h:Heap),(K w.params).In h->h.Ns mainGlobals mg->mg d.name=some (.ref fa) ->
   ∃ fd:FuncData,(∀ (s:Shared) (u:Value),BindsTo s fd ⟨[u],[]⟩ [(x,u)]) /\
    ∀ base:Heap,(K w.params).In base->base.Ns mainGlobals mg->cw l.prog w (K w.params) mg base (CX w) k fa fd [x] (sp w))
  (hsp:∀ (w:World) (H:Hp) (a:Addr) (ns:List Int),ns.length<=n->mh H->SqL (K w.params) H a (ns.map V.int)->sp w [.ref a] H (fun v _=>v=.bl true) fun _ _ _=>False)
  (hCX:∀ (w:World) (H:Hp) (s:Shared) (e:Value) (s':Shared),CX w [] H s (fun _ _ _=>False) e s'->False) :
  a24 q loose XP YP l.row.toRowW d [] (fun f vs=>a22 f vs):=by
 refine Att.attach_call hn hdf fun w s₀ s₁ mg mb fa o pm cd doc a vs ns G Y ho hd hcd hmg hobj hints hlen hg=>?_
 have KX:=hY w _ Y
 obtain ⟨fd,hb,hF⟩:=F w mg fa _ KX G.T.g hmg
 exact lq KX G.T.g G.T.b G.T.builtins G.T.nolimit hg hobj hints (a0s hlen hn2) hr hF hb (fun H hO hS=>hsp w H a ns hlen hO hS) fun H e s'=>hCX w H s₁ e s'
end L2
namespace L2
open PySem PySem.Spec PyProof.Rows
noncomputable def defArgs (s:Stmt):Arguments:=match s with
 | .FunctionDef _ a _ _ _ _ _ _ _ _=>a
 | _=>{ posonlyargs:=[],args:=[],vararg:=none,kwonlyargs:=[],kw_defaults:=[],kwarg:=none,defaults:=[] }
noncomputable def defBody (s:Stmt):List Stmt:=match s with
 | .FunctionDef _ _ b _ _ _ _ _ _ _=>b
 | _=>[]
noncomputable def defScope (s:Stmt):Scope:=match s with
 | .FunctionDef _ _ _ _ _ _ sc _ _ _=>sc
 | _=>{ kind:=.function,names:=[],isGenerator:=false,isCoroutine:=false }
noncomputable abbrev CX0:CXT:=fun _ _ _ _ _ _=>False
noncomputable abbrev E0:XK:=fun _ _ _=>False
theorem wO {X:Cx}:ic CX0 X E0:=fun _ _ _ _ _ _ _ h=>h.elim
structure Fun (K:a0a)(x qual:Str)(st:Stmt)(f:Addr)(fd:FuncData):Prop where
 ex:∃ (oc:Value) (od:Option Addr) (kV doc pm:Value) (an:Option Addr) (cdv ct:Value) (osl:Array (Option Value)),
  fd=a07 x qual (defArgs st) (defBody st) (defScope st) .none kV doc pm an cdv ct/\K.lookup f=some ⟨oc,od,.func fd,osl⟩/\a1T K cdv qual=true
 kp:a1E K (.ref f)=true
section
variable {P:Program}{w:World}{K:a0a}{mg:Str->Option Value}{base:Heap}
theorem Fun.ok {x qual:Str}{st:Stmt}{f:Addr}{fd:FuncData}{N ps:List Str}{k:Nat}{sp:Sp}(F:Fun K x qual st f fd)(S:ao N ps (defScope st))(len:∀ vs H Q E,sp vs H Q E->vs.length=ps.length)
  (hbody:∀ (cdv:Value) (A:Around) (outer:List Env) (s:Shared) (H:Hp) (vs:List V) (Q:VK) (E:XK),Room k (A.deeper (envOfC qual (defScope st) s.heap.objs.size f cdv))->sp vs H Q E ->
   ∃ t,PSs (fg CX0 P w K mg base N qual (defScope st) f cdv A outer s H E).nox (defBody st) t/\t { nx:=fun _ H'=>Q .non H',rt:=Q } (start N vs) H):cw P w K mg base CX0 (k+1) f fd ps sp:=by
 obtain ⟨oc,od,kV,doc,pm,an,cdv,ct,osl,rfl,lk,hcd⟩:=F.ex
 refine wK lk hcd S len fun A outer s H vs Q E hr hsp=>?_
 obtain ⟨t,h,q⟩:=hbody cdv A outer s H vs Q E hr hsp
 exact ⟨t,h.nox,q⟩
theorem Fun.binds {x qual:Str}{st:Stmt}{f:Addr}{fd:FuncData}{ps:List Str}(F:Fun K x qual st f fd)
  (h:∀ (kV doc pm:Value) (an:Option Addr) (cdv ct:Value) (us:List Value),us.length=ps.length->bindArgs (a07 x qual (defArgs st) (defBody st) (defScope st) .none kV doc pm an cdv ct) ⟨us,[]⟩=pure (ps.zip us)):Binds K fd ps []:=by
 obtain ⟨oc,od,kV,doc,pm,an,cdv,ct,osl,rfl,lk,hcd⟩:=F.ex
 exact .all (h kV doc pm an cdv ct)
theorem mj {x qual:Str}{st:Stmt}{f:Addr}{oc:Value}{od an:Option Addr}{osl:Array (Option Value)}{kV doc pm cdv ct:Value}(l:K.lookup f=some ⟨oc,od,.func (a07 x qual (defArgs st) (defBody st) (defScope st) .none kV doc pm an cdv ct),osl⟩)
  (c:a1T K cdv qual=true) (k:a1E K (.ref f)=true):Fun K x qual st f (a07 x qual (defArgs st) (defBody st) (defScope st) .none kV doc pm an cdv ct):=⟨⟨oc,od,kV,doc,pm,an,cdv,ct,osl,rfl,l,c⟩,k⟩
end
section
variable {X:Cx}
theorem pv (i:Nat){x:Str}{pos:Pos}(hN:X.N[i]?=some x:=by rfl)(hv:Vis X.env.scope x:=by first | exact a1z rfl | exact a1b (a1z rfl) | exact a1b (a1b rfl))(hd:(x==("__debug__":Str))=false:=by decide)
  (hcd:(x==("__classdict__":Str))=false:=by decide):PE X (.Name x pos) (oW i):=cU hN hv hd hcd
end
noncomputable def Same (H H':Hp):Prop:=∀ b o,H b=some o->H' b=some o
theorem Same.refl (H:Hp):Same H H:=fun _ _ h=>h
end L2
namespace L2
open PySem PySem.Spec PyProof.Rows
end L2
namespace L2
open PySem PySem.Spec PyProof.Rows
end L2

set_option maxHeartbeats 4000000
namespace L3
open PySem PySem.Spec PyProof.Rows L2
noncomputable abbrev noX:Value->Shared->Prop:=fun _ _=>False
theorem eF {P:Program}{w:World}{H:Hp}{h:Heap}{a:Addr}{o:HO}(x:HOk P w H h)(hn:H a=none)(new:ObjOk P w (upd H a o) h a o):HOk P w (upd H a o) h:=by
 intro b u e
 by_cases hb:b=a
 ·subst hb
  rw [aq] at e
  cases e
  exact new
 ·rw [ab hb] at e
  refine (x b u e).stay (fun c v _ q=>q) (fun c q=>?_) (fun c xs q=>?_)
  ·rw [ab (az q hn)]; exact q
  ·rw [ab (az q hn)]; exact q
section
variable {prog:Program}{w:World}{A:Around}{R:Result->Shared->Prop}{s:Shared}
theorem ik {elt tg iter:Expr}{scope:Scope}{pos:Pos}{it acc:Value}{env:Env}(J:Nat->Shared->Prop)
  (turn:∀ n s,J n s->wpAny (model prog w) A (pyNext it) (fun r s₁=>match r with
   | none=>R (.ok .next) s₁
   | some v=>wpAny (model prog w) A (letOwnedTupleGo tg it v) (fun _ s₂=>wpAny (model prog w) A (assign tg env v) (fun _ s₃ =>
     wpAny (model prog w) A (eval elt env) (fun y s₄=>wpAny (model prog w) A (call (.builtin "list.append") [acc,y]) (fun _ s₅=>∃ m,m < n/\J m s₅) noX s₄) noX s₃) noX s₂) noX s₁) noX s)
  (n:Nat) (h:J n s):codeAny (model prog w) A (.compLoop (.ListComp elt [⟨tg,iter,[],0⟩] scope pos) 0 it acc env) R s:=by
 refine codeAny_loop rfl J (fun n s hJ=>?_) n h
 show wpAny _ A ((compTurn (.ListComp elt [⟨tg,iter,[],0⟩] scope pos) 0 it acc env).onRaise (fun x=>do noteFrame x env; theTreesLotGoes x)) _ _ s
 refine wpAny_noted ?_
 rw [compTurn_list]
 refine wpAny_bind (wpAny_standAt (wpAny_bind (wpAny_mono (turn n s hJ) (fun r s₁ h₁=>?_) fun _ _ z=>z.elim)))
 cases r with
 | none=>exact wpAny_pure h₁
 | some v =>
  refine wpAny_bind (wpAny_mono h₁ (fun _ s₂ h₂=>?_) fun _ _ z=>z.elim)
  refine wpAny_bind (wpAny_mono h₂ (fun _ s₃ h₃=>?_) fun _ _ z=>z.elim)
  refine wpAny_bind (wpAny_tests_nil ?_)
  exact wpAny_bind (wpAny_bind (wpAny_mono h₃ (fun y s₄ h₄=>wpAny_bind (wpAny_mono h₄ (fun _ s₅ h₅=>wpAny_pure (wpAny_pure ⟨rfl,h₅⟩)) fun _ _ z=>z.elim)) fun _ _ z=>z.elim))
end
noncomputable def ag (X:Cx)(N:List Str)(scope:Scope)(cl:List (Str×Addr))(C:Addr)(s:Shared)(H:Hp)(fp:List Addr):Cx where
 prog:=X.prog
 w:=X.w
 K:=X.K
 mg:=X.mg
 base:=X.base
 A:=X.A
 N:=N
 s₀:=s
 H₀:=H
 env:=compEnvC scope cl C X.env
 outer:=X.stack
 stack:=X.stack
 ex:=fp
 fn:=fun _=>false
 calm:=X.calm
 pn:=X.pn
 xe:=noX
structure jw (x:Str)(ys:List Str)(scope:Scope):Prop where
 kind:scope.kind=.function
 cell:∀ y∈scope.names,y.2≠.cell
 nm:∀ y∈scope.names,y.2=.local->scope.names.lookup y.1=some .local
 loc:scope.names.lookup x=some .local
 nd:(x::ys).Nodup
inductive Clo (X:Cx):List (Str×Addr)->Prop
 | nil:Clo X []
 | cons {y:Str} {c:Addr} {cl:List (Str×Addr)}:X.env.cells.lookup y=some c->Clo X cl->Clo X ((y,c)::cl)
theorem Clo.get {X:Cx}{cl:List (Str×Addr)}(h:Clo X cl):∀ {y:Str} {c:Addr},cl.lookup y=some c->X.env.cells.lookup y=some c:=by
 induction h with
 | nil=>intro y c e; cases e
 | @cons z d cl' hz _ ih =>
  intro y c e
  cases q:y==z with
  | true =>
   simp only [a17,q] at e
   cases e
   rw [eq_of_beq q]; exact hz
  | false =>
   simp only [a17,q] at e
   exact ih e
inductive Frees (X:Cx)(scope:Scope)(cl:List (Str×Addr)):List Str->List Nat->Prop
 | nil:Frees X scope cl [] []
 | cons {y:Str} {ys:List Str} {i:Nat} {is:List Nat} {c:Addr}:X.N[i]?=some y->Vis X.env.scope y->(X.env.kindOf y=some .cell\/X.env.kindOf y=some .free)->X.env.cells.lookup y=some c->cl.lookup y=some c ->
   ((relabel scope X.env).names.lookup y=some .cell\/(relabel scope X.env).names.lookup y=some .free)->Frees X scope cl ys is->Frees X scope cl (y::ys) (i::is)
theorem Frees.len {X:Cx}{scope:Scope}{cl:List (Str×Addr)}{ys:List Str}{is:List Nat}(F:Frees X scope cl ys is):is.length=ys.length:=by
 induction F with
 | nil=>rfl
 | cons _ _ _ _ _ _ _ ih=>rw [a0k,a0k,ih]
noncomputable def ba (σ:L2.St)(is:List Nat):L2.St:=is.map fun i=>(σ[i]?).join
theorem Frees.get {X:Cx}{scope:Scope}{cl:List (Str×Addr)}{ys:List Str}{is:List Nat}{σ:L2.St}(F:Frees X scope cl ys is):∀ {j:Nat} {y:Str} {v:V},ys[j]?=some y->(ba σ is)[j]?=some (some v) ->
  ∃ (i:Nat) (c:Addr),X.N[i]?=some y/\σ[i]?=some (some v)/\Vis X.env.scope y/\(X.env.kindOf y=some .cell\/X.env.kindOf y=some .free)/\X.env.cells.lookup y=some c/\cl.lookup y=some c /\
   ((relabel scope X.env).names.lookup y=some .cell\/(relabel scope X.env).names.lookup y=some .free):=by
 induction F with
 | nil=>intro j y v e; simp at e
 | @cons z zs i is c h1 h2 h3 h4 h5 h6 _ ih =>
  intro j y v e1 e2
  unfold ba at e2
  rw [a0u] at e2
  cases j with
  | zero =>
   rw [a0X] at e1 e2
   cases e1
   cases q:σ[i]? with
   | none=>rw [q] at e2; cases e2
   | some o =>
    rw [q] at e2
    have e3:o=some v:=a0z e2
    subst e3
    exact ⟨i,c,h1,q,h2,h3,h4,h5,h6⟩
  | succ j =>
   rw [a0v] at e1 e2
   exact ih e1 e2
theorem gh {X:Cx}{pins:List (Addr×Obj)}{σ:L2.St}{H:Hp}{s:Shared}{x:Str}{ys:List Str}{is:List Nat}{scope:Scope}{cl:List (Str×Addr)}{fp:List Addr}{C:Addr}{h1:Heap}{t1:Nat}{m1:Str->Option Value}
  (I:Inv X pins σ H s) (hf:∀ b∈fp,dZ X pins H b) (hfo:∀ b∈fp,b < s.heap.objs.size) (S:jw x ys scope) (hcl:Clo X cl)
  (hfr:(scope.names.all fun p=>p.2 != .free || (cl.lookup p.1).isSome)=true) (fr:Frees X scope cl ys is)
  (hC:s.heap.objs.size<=C) (old:∀ b o,s.heap.get? b=some o->h1.get? b=some o) (hn:h1.Ns C m1) :
  Inv (ag X (x::ys) scope cl C s H fp) pins (none::ba σ is) H { s with heap:=h1,toks:=t1 }:=by
 have stk:∀ b,b≠X.env.locals->b ∉ X.fs->b ∉ frs X.stack:=fun b q1 q2 hb=>(a0w.mp (I.stkSub b hb)).elim q1 q2
 have key:∀ a k,(relabel scope X.env).names.lookup a=some k->(k=.cell\/k=.free)->∃ c,cl.lookup a=some c:=fun a k e hk=>by
  have hm:=a0T e
  obtain ⟨⟨n,k0⟩,hp,ep⟩:=a0Z.mp hm
  have hk0:k0=.free/\n=a:=by
   dsimp only at ep
   split at ep
   ·rename_i hc
    simp only [a0m] at hc
    exact ⟨eq_of_beq hc.1.1,(a2p ep).1⟩
   ·obtain ⟨e1,e2⟩:=a2p ep
    subst e2
    rcases hk with z | z
    ·exact absurd z (S.cell _ hp)
    ·exact ⟨z,e1⟩
  obtain ⟨z1,z2⟩:=hk0
  subst z1 z2
  have q:=a0W.mp hfr _ hp
  have q2:(cl.lookup n).isSome=true:=by simpa using q
  exact a1q.mp q2
 refine ⟨⟨I.ok.mod,S.kind,I.ok.glob,I.ok.blt,hC,fun a b c e1 e2=>I.ok.inj a b c (hcl.get e1) (hcl.get e2),fun a ha=>?_,fun a c e=>absurd e a0l,I.ok.hd,I.ok.frames,.inl rfl,
   fun b hb=>⟨a0A (a0i (hfo b hb) hC),fun a c e=>(hf b hb).2.2.2.2.1 a c (hcl.get e)⟩,I.bs,a0s I.ok.bsz I.sz,fun b o e hb=>?_,fun b hb=>stk b (hf b hb).2.1 (hf b hb).2.2.1,I.stack,I.stkFree⟩,
  rfl,I.bare,Un.kept old,⟨m1,hn,fun j y v e1 e2 e3=>?_⟩,fun a c e=>?_,I.hok.fresh hC,fun a c e=>I.freeC a c (hcl.get e),fun p hp=>?_,I.hok.kept old,?_⟩
 ·rcases ha with e | e
  ·exact key a _ e (.inl rfl)
  ·exact key a _ e (.inr rfl)
 ·rcases (hf b hb).2.2.2.1 with z | z
  ·exact I.ok.noex b o e z
  ·exact absurd (a0i (Heap.lt_size (I.ok.bs b o e).1) z) (a08 _)
 ·cases j with
  | zero =>
   have z:(none:Option V)=some v:=a0z e2
   cases z
  | succ j =>
   obtain ⟨i,c,g1,g2,g3,g4,g5,g6,g7⟩:=fr.get (σ:=σ) (show ys[j]?=some y from e1) (show (ba σ is)[j]?=some (some v) from e2)
   obtain ⟨m0,hn0,hl0⟩:=I.loc
   obtain ⟨u,r,l⟩:=hl0 i y v g1 g2 g3
   rcases l with ⟨k,_⟩ | ⟨_,c',e',z⟩
   ·rcases g4 with q | q
    ·rw [k] at q; cases q
    ·rw [k] at q; cases q
   ·rw [g5] at e'
    cases e'
    obtain ⟨o,ho,hd⟩:=z
    exact ⟨u,r,.inr ⟨g7,c,g6,⟨o,old _ _ ho,hd⟩⟩⟩
 ·obtain ⟨v,o,ho,hd⟩:=I.cell a c (hcl.get e)
  exact ⟨v,o,old _ _ ho,hd⟩
 ·obtain ⟨e,n,ne,nf,d⟩:=I.pin p hp
  exact ⟨old _ _ e,n,a0A (a0i (Heap.lt_size e) hC),stk _ ne nf,d⟩
 ·show (none::ba σ is).length=(x::ys).length
  unfold ba
  rw [a0k,a0k,a0d,fr.len]
noncomputable abbrev fD (its:List Value):Obj:={ cls:=.type "list",data:=.seq its.toArray its.length }
theorem jR {X:Cx}(hc:X.calm=true):bL X (.builtin "all") (fun xs H Q=>∃ (a:Addr) (bs:List Bool),xs=[.ref a]/\SqL X.K H a (bs.map V.bl)/\Q (.bl (bs.all id)) H):=by
 intro pins s σ H xs us Q I r h
 obtain ⟨a,bs,rfl,hS,q⟩:=h
 obtain ⟨u,rfl,ru⟩:=dh r
 cases ru
 obtain ⟨its,rv,p,hz⟩:=I.list hS
 have hlen:its.toArray.size=bs.length:=by rw [a0h,<- rv.length,a0d]
 have hlt:a < s.heap.objs.size:=by obtain ⟨o,e,_⟩:=p.isList; exact Heap.lt_size e
 refine call_all_walk (wpAny_pyIter_list p.isList ?_)
 refine ⟨s.heap.objs.size,_,_,_,_,_,fun i=>bs.getD i true,rfl,Walks.list (A:=X.A.in1) (show X.A.in1.handled=none from I.ok.hd hc) s.heap.objs.size a (a0A hlt) its.toArray,⟨⟨_,Heap.get?_push_size _ rfl,rfl,rfl⟩,p.isList.push _⟩,fun i v s' Q' E' hv hQ=>?_,fun h' tk k=>?_⟩
 ·have hv':its[i]?=some v:=by simpa using hv
  have hi:i < its.length:=(a0q.mp hv').1
  have hib:i < bs.length:=by have:=rv.length; rw [a0d] at this; omega
  obtain ⟨w',e1,e2⟩:=rv.get (i:=i) (x:=.bl bs[i]) (by rw [a0C,a0V hib]; rfl)
  rw [hv'] at e1
  cases e1
  cases e2
  refine wpAny_truthy_bool ?_
  have e3:bs.getD i true=bs[i]:=by rw [a04,a0V hib]; rfl
  rw [<- e3]; exact hQ
 ·have e:(a0H its.toArray.size).all (fun i=>bs.getD i true)=bs.all id:=by
   rw [hlen,Bool.eq_iff_iff,a0W,a0W]
   constructor
   ·intro z b hb
    obtain ⟨i,hi,e⟩:=List.getElem_of_mem hb
    have:=z i (a1D.mpr hi)
    rw [a04,a0V hi] at this
    simpa [e] using this
   ·intro z i hi
    have hi':=a1D.mp hi
    rw [a04,a0V hi']
    exact z _ (List.getElem_mem hi')
  rw [e]
  exact ⟨.bl (bs.all id),H,I.kept (fun b o eo=>k b o (fun hm=>by
   have:b=s.heap.objs.size:=by simpa using hm
   exact absurd (this ▸ Heap.lt_size eo) (a08 _)) (Heap.get?_push_of_some _ eo)),rfl,q⟩
inductive Th where
 | non | bl (b:Bool) | int (i:Int) | str (x:Str) | tup (ts:List Th) | lst (ts:List Th)
mutual
noncomputable def Has (K:a0a)(H:Hp):Th->V->Prop
 | .non,v=>v=.non
 | .bl b,v=>v=.bl b
 | .int i,v=>v=.int i
 | .str x,v=>v=.str x
 | .tup ts,v=>∃ a vs,v=.ref a/\SqT K H a vs/\HasL K H ts vs
 | .lst ts,v=>∃ a vs,v=.ref a/\H a=some (.lst vs)/\HasL K H ts vs
noncomputable def HasL (K:a0a)(H:Hp):List Th->List V->Prop
 | [],vs=>vs=[]
 | t::ts,vs=>∃ v r,vs=v::r/\Has K H t v/\HasL K H ts r
end
noncomputable def Th.ty:Th->String
 | .non=>"NoneType" | .bl _=>"bool" | .int _=>"int" | .str _=>"str" | .tup _=>"tuple" | .lst _=>"list"
noncomputable def isI (c:String)(t:Th):Bool:=t.ty==c || (t.ty=="bool"&&c=="int")
theorem kit_type {K:a0a}{A B:String}:a0Y K (.type A) (.type B)=a0Y [] (.type A) (.type B):=by
 unfold a0Y PySem.W.kitCls PySem.W.subIn
 rfl
theorem tF:∀ c∈["tuple","str","bool","int","list"],∀ n∈["NoneType","bool","int","str","tuple","list"],a0Y [] (.type n) (.type c)=some (n==c || (n=="bool"&&c=="int")):=by decide +kernel
theorem tY (t:Th):t.ty∈["NoneType","bool","int","str","tuple","list"]:=by cases t<;>simp [Th.ty]
theorem iC {c:String}(hc:c∈["tuple","str","bool","int","list"])(t:Th):a0Y [] (.type t.ty) (.type c)=some (isI c t):=tF c hc t.ty (tY t)
theorem gW {H:Hp}{p:Addr}(h:H p=none)(o:HO):Same H (upd H p o):=fun b u q=>by rw [ab (az q h)]; exact q
noncomputable def rm (K:a0a):R2:=fun x y H Q=>∃ a b xs ys,x=.ref a/\y=.ref b/\SqT K H a xs/\SqT K H b ys/\xs≠[]/\xs.length+ys.length<=sizeLine/\∀ v H',Same H H'->(∃ c,v=.ref c/\SqT K H' c (xs++ys))->Q v H'
theorem qB {X:Cx}:OpR X (binaryOp .Add) (rm X.K):=fun pins s σ H x y v u Q I rx ry h=>by
 obtain ⟨a,b,xs,ys,e1,e2,h1,h2,hx,hz,q⟩:=h
 exact qN pins s σ H x y v u Q I rx ry ⟨a,b,xs,ys,e1,e2,h1,h2,hx,hz,fun z=>q _ _ (Same.refl _) ⟨a,rfl,by rw [z,a0p]; exact h1⟩,fun _ p hp=>q _ _ (gW hp _) ⟨p,rfl,SqT.of aq⟩⟩
theorem kL {X:Cx}{x:Str}{T:String}{pos:Pos}(hg:Gl X x)(hm:X.mg x=none)(hv:bootBuiltins x=some (.type T))(hn:x≠"__name__":=by decide)(hd:(x==("__debug__":Str))=false:=by decide):PE X (.Name x pos) (tC (.ty T)):=oV (v:=.ty T) hg hm hv rfl hn hd
mutual
noncomputable def toD:Th->PyData
 | .non=>.none
 | .bl b=>.bool b
 | .int i=>.int i
 | .str x=>.str x
 | .tup ts=>.tuple (c5 ts)
 | .lst ts=>.list (c5 ts)
noncomputable def c5:List Th->List PyData
 | []=>[]
 | t::ts=>toD t::c5 ts
end
section
variable {X:Cx}{pins:List (Addr×Obj)}{σ:L2.St}{H:Hp}{s:Shared}
mutual
theorem Has.reads (I:Inv X pins σ H s):∀ {t:Th} {v:V} {u:Value},Has X.K H t v->RelV v u->∃ as,Reads s.heap u (toD t) as
 | .non,_,u,h,r=>by
  obtain rfl:_=V.non:=h
  obtain rfl:u=Value.none:=r
  exact ⟨_,.none⟩
 | .bl b,_,u,h,r=>by
  obtain rfl:_=V.bl b:=h
  obtain rfl:u=Value.bool b:=r
  exact ⟨_,.bool b⟩
 | .int i,_,u,h,r=>by
  obtain rfl:_=V.int i:=h
  obtain ⟨t,rfl⟩:∃ t,u=Value.int i t:=r
  exact ⟨_,.int i t⟩
 | .str x,_,u,h,r=>by
  obtain rfl:_=V.str x:=h
  obtain ⟨t,rfl⟩:∃ t,u=Value.str x t:=r
  exact ⟨_,.str x t⟩
 | .tup ts,_,u,⟨a,vs,e,hS,hL⟩,r=>by
  subst e
  obtain rfl:u=Value.ref a:=r
  obtain ⟨its,rv,⟨o,h1,h2,n,h3⟩,_⟩:=I.tuple hS
  obtain ⟨as,ra⟩:=HasL.reads I hL rv
  exact ⟨_,.tuple h1 h2 h3 (by simpa using ra)⟩
 | .lst ts,_,u,⟨a,vs,e,hS,hL⟩,r=>by
  subst e
  obtain rfl:u=Value.ref a:=r
  obtain ⟨its,rv,⟨o,n,h1,h2,_,h3⟩,_⟩:=I.list (SqL.of hS)
  obtain ⟨as,ra⟩:=HasL.reads I hL rv
  exact ⟨_,.list h1 h2 h3 (by simpa using ra)⟩
theorem HasL.reads (I:Inv X pins σ H s):∀ {ts:List Th} {vs:List V} {us:List Value},HasL X.K H ts vs->Vals vs us->∃ as,ReadsAll s.heap us (c5 ts) as
 | [],vs,us,h,r=>by
  obtain rfl:vs=[]:=h
  cases r
  exact ⟨_,.nil⟩
 | t::ts,vs,us,⟨v,w',e,h1,h2⟩,r=>by
  subst e
  cases r with
  | cons r1 r2 =>
   obtain ⟨as,ra⟩:=Has.reads I h1 r1
   obtain ⟨bs,rb⟩:=HasL.reads I h2 r2
   exact ⟨_,.cons ra rb⟩
end
end
noncomputable abbrev fz (t:Th):Prop:=SeqAt.shaped (toD t)=true
theorem iY {X:Cx}(hu:X.A.units+64 < cLine):OpR X (compareOp .Eq) (fun x y H Q=>∃ t t',Has X.K H t x/\Has X.K H t' y/\fz t/\fz t'/\Q (.bl (PyData.eqv (toD t) (toD t'))) H):=by
 intro pins s σ H x y v u Q I rx ry h
 obtain ⟨t,t',h1,h2,o1,o2,q⟩:=h
 obtain ⟨as,ra⟩:=Has.reads I h1 rx
 obtain ⟨bs,rb⟩:=Has.reads I h2 ry
 exact a3c ra rb o1 o2 hu ⟨.bl _,H,I,rfl,q⟩
theorem qk {X:Cx}(hu:X.A.units+64 < cLine):OpR X (compareOp .NotEq) (fun x y H Q=>∃ t t',Has X.K H t x/\Has X.K H t' y/\fz t/\fz t'/\Q (.bl (!PyData.eqv (toD t) (toD t'))) H):=by
 intro pins s σ H x y v u Q I rx ry h
 obtain ⟨t,t',h1,h2,o1,o2,q⟩:=h
 obtain ⟨as,ra⟩:=Has.reads I h1 rx
 obtain ⟨bs,rb⟩:=Has.reads I h2 ry
 exact a3d ra rb o1 o2 hu ⟨.bl _,H,I,rfl,q⟩
section
variable {prog:Program}{w:World}{A:Around}{E:Value->Shared->Prop}{s:Shared}
theorem cF {t sl:Addr}{items:Array Value}{vl vu:Value}{lo hi:Option Int}{Q:Value->Shared->Prop}(ht:IsTup s.heap t items)(hs:s.heap.IsSliceOf sl vl vu .none)(pl:IsPart vl lo)(pu:IsPart vu hi)
  (hw:HT.sIx items.size 0 lo=0/\HT.sIx items.size items.size hi=items.size) (h:Q (.ref t) s):wpAny (model prog w) A (getItem (.ref t) (.ref sl)) Q E s:=by
 obtain ⟨os,hos,hcs,hds⟩:=id hs
 have hTs:s.TypeIs (.ref sl) "slice":=⟨os,hos,hcs⟩
 unfold getItem
 try with_reducible refine wpAny_holding ?_
 first | refine wpAny_bind (wpAny_pure ?_) | skip
 refine wpAny_bind (wpAny_sequenceKey ht.typeIs (by decide) ?_)
 refine wpAny_bind (wpAny_callSpecial?_slot (name:=Str.ofString "__getitem__") ht.typeIs a0D
  (wpAny_call_entry a0D ht.typeIs entry_tuple_getitem ?_ (args_tuple_getitem _ _)))
 show wpAny _ _ (Builtin.Tuple.tupleItemsOf (.ref t) >>= _) _ _ s
 refine wpAny_bind (tupleItemsOf_ ht ?_)
 refine wpAny_bind (wpAny_typeOf hTs ?_)
 rw [if_pos (by decide)]
 refine wpAny_bind (HT.sliceApplied_gen hs pl pu ?_)
 have hyes:(((HT.sIx items.size 0 lo:Nat):Int)==0&&(1:Int)==1&&(HT.sIx items.size items.size hi-HT.sIx items.size 0 lo)==items.size)=true:=by
  rw [hw.1,hw.2]
  simp
 show wpAny _ _ (if (((HT.sIx items.size 0 lo:Nat):Int)==0&&(1:Int)==1&&(HT.sIx items.size items.size hi-HT.sIx items.size 0 lo)==items.size)=true then _ else _) _ _ s
 rw [if_pos hyes]
 unfold Builtin.Tuple.tupleIsExact
 refine wpAny_bind (wpAny_bind (wpAny_typeOf ht.typeIs (wpAny_pure ?_)))
 rw [if_pos (by decide)]
 first
  | exact wpAny_bind (wpAny_rule (wpAny_pure ⟨_,rfl,wpAny_pure h⟩))
  | exact wpAny_bind (wpAny_rule (wpAny_bind (wpAny_pure (wpAny_pure ⟨_,rfl,wpAny_pure h⟩))))
end
section
variable {X:Cx}
noncomputable def u0 (K:a0a):V->Option Int->Option Int->Hp->VK->Prop:=fun x lo hi H Q=>∃ a xs,x=.ref a/\SqT K H a xs/\∀ v H',Same H H'->(∃ c,v=.ref c/\SqT K H' c (cG xs lo hi))->Q v H'
theorem oi:SlR X (u0 X.K):=by
 intro pins s σ H x v vl vu lo hi sl Q I rx hs pl pu h
 obtain ⟨a,xs,rfl,hx,q⟩:=h
 by_cases hw:HT.sIx xs.length 0 lo=0/\HT.sIx xs.length xs.length hi=xs.length
 ·cases rx
  obtain ⟨its,r,ht,hz⟩:=I.tuple hx
  have hlen:its.toArray.size=xs.length:=by rw [a0h]; exact r.length.symm
  refine ⟨"tuple",_,a0D.lookup,ht.typeIs,?_⟩
  refine cF ht hs pl pu (by rw [hlen]; exact hw) ⟨.ref a,H,I,rfl,q _ _ (Same.refl H) ⟨a,rfl,?_⟩⟩
  have e:cG xs lo hi=xs:=by
   unfold cG
   rw [hw.1,hw.2]
   simp
  rw [e]
  exact hx
 ·exact rQ pins s σ H _ v vl vu lo hi sl Q I rx hs pl pu ⟨a,xs,rfl,hx,hw,fun p hp=>q _ _ (gW hp _) ⟨p,rfl,SqT.of aq⟩⟩
end
noncomputable def zq (K:a0a):R2:=fun x y H Q=>∃ p xs i v,x=.ref p/\y=.int i/\(SqL K H p xs\/SqT K H p xs)/\atI xs i=some v/\Q v H
theorem ix_any {X:Cx}:IxR X (zq X.K):=fun value slice pins s σ H x y v u Q I rx ry h hs=>by
 obtain ⟨p,xs,i,z,e1,e2,hq,ha,q⟩:=h
 rcases hq with hq | hq
 ·exact o9 value slice pins s σ H x y v u Q I rx ry ⟨p,xs,i,z,e1,e2,hq,ha,q⟩ hs
 ·exact vj value slice pins s σ H x y v u Q I rx ry ⟨p,xs,i,z,e1,e2,hq,ha,q⟩ hs
end L3

namespace L3
open PySem PySem.Spec PySem.Builtin PySem.Builtin.Str PyProof.Rows L2
theorem eY:∀ {ts:List a02} {its:List Value},Vals (ts.map V.str) its->∃ l:List (a02×Tok),its=strValues l/\l.map (·.1)=ts
 | [],_,h=>by
  cases h
  exact ⟨[],rfl,rfl⟩
 | t::ts,_,h=>by
  cases h with
  | cons h1 h2 =>
   obtain ⟨k,rfl⟩:=h1
   obtain ⟨l,rfl,e⟩:=eY h2
   exact ⟨(t,k)::l,rfl,by rw [a0u,e]⟩
theorem cI:∀ (l:List (a02×Tok)),Vals ((l.map (·.1)).map V.str) (strValues l)
 | []=>.nil
 | p::l=>.cons ⟨p.2,rfl⟩ (cI l)
section
variable {X:Cx}
noncomputable def rf (K:a0a):V->List V->Hp->VK->Prop:=fun x vs H Q=>∃ z p ts,x=.str z/\vs=[.ref p]/\SqL K H p (ts.map V.str)/\JoinOk z ts=true/\Q (.str (a0o z ts)) H
theorem pd:MtR X "str.join" (rf X.K):=by
 intro pins s σ H x vs v us Q I rx rv h
 obtain ⟨z,p,ts,rfl,rfl,hS,hok,q⟩:=h
 obtain ⟨t,rfl⟩:=rx
 obtain ⟨u,rfl,ru⟩:=rv.one
 cases ru
 obtain ⟨its,r,pl,_⟩:=I.list hS
 obtain ⟨l,rfl,e⟩:=eY r
 exact SC.join pl.isList e hok fun t' k=>⟨.str (a0o z ts),H,I.tok _,⟨t',by rw [show Txt.join z ts=a0o z ts from StrLaws.glued_eq_join z ts]⟩,q⟩
noncomputable def kG:V->List V->Hp->VK->Prop:=fun x vs H Q=>∃ z y,x=.str z/\vs=[.str y]/\(y.length==0)=false/\z.length+2<=sizeLine/\∀ p,H p=none->Q (.ref p) (upd H p (.lst ((Txt.split z y).map V.str)))
theorem ml:MtR X "str.split" kG:=by
 intro pins s σ H x vs v us Q I rx rv h
 obtain ⟨x,y,rfl,rfl,hy,hsz,q⟩:=h
 obtain ⟨t,rfl⟩:=rx
 obtain ⟨u',rfl,ru⟩:=rv.one
 obtain ⟨u,rfl⟩:=ru
 have few : (Txt.split x y).length ≤ sizeLine := by
  have := StrLaws.occ_length_le x y 0 x.length (x.length + 1)
  simp only [Txt.split, apply_ite List.length, length_partsBetween, List.length_singleton]
  split <;> (try split) <;> omega
 have out : ∀ (l : List (PySem.Str × Tok)) (k : Nat), Txt.split x y = l.map (·.1) → EP X pins σ Q (.ref s.heap.objs.size) { s with heap := s.heap.push { cls := .type "list", data := .seq (strValues l).toArray }, toks := k } := fun l k e =>
  ⟨.ref _, _, I.lnew (t' := k) (its := strValues l) (ys := (Txt.split x y).map V.str) (by rw [e]; exact cI l) (by rw [List.length_map]; exact few), rfl, q _ I.fresh⟩
 unfold Txt.split at few out
 split at out
 next no =>
  exact call_meets F.slot_str_split (typeIs_str _ _ _) F.entry_str_split (F.args_str_split_2 _ _) (meets_str_split_cannot_occur x y t u no) (out [(x, t)] s.toks rfl)
 next may =>
  rw [if_neg may] at few
  rw [Bool.not_eq_true] at may
  split at out
  next no =>
   exact call_meets F.slot_str_split (typeIs_str _ _ _) F.entry_str_split (F.args_str_split_2 _ _) (meets_str_split_not_found x y t u may hy no) (out [(x, t)] s.toks rfl)
  next yes =>
   rw [if_neg yes] at few
   rw [Bool.not_eq_true] at yes
   have o := fun k => out (numbered s.toks _) k (numbered_texts s.toks _).symm
   rw [← strsFrom_eq] at o
   exact call_meets F.slot_str_split (typeIs_str _ _ _) F.entry_str_split (F.args_str_split_2 _ _) (meets_str_split_sep x y t u may hy yes (by omega) few) (o _)
end
theorem gX {α:Type}{c:α}:∀ {x y r z:List α},c ∉ x->c ∉ y->x++c::r=y++c::z->x=y/\r=z
 | [],[],_,_,_,_,e=>⟨rfl,(a1H e).2⟩
 | [],b::y,_,_,_,hy,e=>absurd (by rw [(a1H e).1]; exact a0c) hy
 | a::x,[],_,_,hx,_,e=>absurd (by rw [<- (a1H e).1]; exact a0c) hx
 | a::x,b::y,r,z,hx,hy,e=>by
  obtain ⟨h1,h2⟩:=gX (fun m=>hx (a0e _ m)) (fun m=>hy (a0e _ m)) (a1H e).2
  exact ⟨by rw [h1,(a1H e).1],h2⟩
theorem aJ (x y:a02):(x++y).cps.toList=x.cps.toList++y.cps.toList:=a2q
theorem gb (c:Nat):∀ (xs ys:List a02),xs≠[]->ys≠[]->(∀ p∈xs,c ∉ p.cps.toList)->(∀ p∈ys,c ∉ p.cps.toList)->a0o ⟨#[c]⟩ xs=a0o ⟨#[c]⟩ ys->xs=ys
 | [],_,h,_,_,_,_=>absurd rfl h
 | _::_,[],_,h,_,_,_=>absurd rfl h
 | [x],[y],_,_,_,_,e=>by rw [show x=y from e]
 | [x],y::y2::r,_,_,hx,_,e=>by
  have e':x=y++⟨#[c]⟩++a0o ⟨#[c]⟩ (y2::r):=e
  refine absurd ?_ (hx x a0c)
  rw [e',aJ,aJ]
  exact a0J _ (a0f _ a0c)
 | x::x2::r,[y],_,_,_,hy,e=>by
  have e':x++⟨#[c]⟩++a0o ⟨#[c]⟩ (x2::r)=y:=e
  refine absurd ?_ (hy y a0c)
  rw [<- e',aJ,aJ]
  exact a0J _ (a0f _ a0c)
 | x::x2::r,y::y2::z,_,_,hx,hy,e=>by
  have e':x++⟨#[c]⟩++a0o ⟨#[c]⟩ (x2::r)=y++⟨#[c]⟩++a0o ⟨#[c]⟩ (y2::z):=e
  have e2:=congrArg (fun s=>s.cps.toList) e'
  simp only [aJ] at e2
  have e3:x.cps.toList++c::(a0o ⟨#[c]⟩ (x2::r)).cps.toList=y.cps.toList++c::(a0o ⟨#[c]⟩ (y2::z)).cps.toList:=by
   simpa using e2
  obtain ⟨h1,h2⟩:=gX (hx x a0c) (hy y a0c) e3
  have hxy:x=y:=by
   cases x; cases y
   exact congrArg a2i (a1F.mp h1)
  have hr:a0o ⟨#[c]⟩ (x2::r)=a0o ⟨#[c]⟩ (y2::z):=by
   revert h2
   generalize a0o ⟨#[c]⟩ (x2::r)=u
   generalize a0o ⟨#[c]⟩ (y2::z)=v
   intro h2
   cases u; cases v
   exact congrArg a2i (a1F.mp h2)
  rw [hxy,gb c (x2::r) (y2::z) (a0M _ _) (a0M _ _) (fun p hp=>hx p (a0e _ hp)) (fun p hp=>hy p (a0e _ hp)) hr]
theorem kh (x y:a02):Txt.split x y≠[]:=by
 unfold Txt.split
 split
 ·exact a0M _ _
 ·split
  ·exact a0M _ _
  ·intro h
   have e:=congrArg a2o h
   rw [length_partsBetween] at e
   exact absurd e (Nat.succ_ne_zero _)
theorem cJ (sep:a02):∀ (xs ys:List a02),xs≠[]->ys≠[]->a0o sep (xs++ys)=a0o sep (a0o sep xs::ys)
 | [],_,h,_=>absurd rfl h
 | _::_,[],_,h=>absurd rfl h
 | [x],y::ys,_,_=>rfl
 | x::x2::xs,y::ys,_,hy=>by
  have ih:=cJ sep (x2::xs) (y::ys) (a0M _ _) hy
  show x++sep++a0o sep ((x2::xs)++(y::ys))=(x++sep++a0o sep (x2::xs))++sep++a0o sep (y::ys)
  rw [ih]
  show x++sep++(a0o sep (x2::xs)++sep++a0o sep (y::ys))=_
  have assoc:∀ a b d:a02,a++(b++d)=(a++b)++d:=fun a b d=>by
   cases a; cases b; cases d
   exact congrArg a2i (a1N).symm
  rw [assoc,assoc]
end L3

namespace L3
open PySem PySem.Spec PyProof.Rows L2
noncomputable def SqO (h:Heap):Bool->Addr->Array Value->Prop
 | true,a,xs=>h.IsTuple a xs
 | false,a,xs=>h.IsList a xs
noncomputable def ItO (h:Heap):Bool->Addr->Addr->Nat->Prop
 | true,it,a,n=>h.IsTupleIter it a n
 | false,it,a,n=>h.IsListIter it a n
theorem SqO.at {h h':Heap}{k:Bool}{a:Addr}{xs:Array Value}(x:SqO h k a xs)(e:∀ o,h.get? a=some o->h'.get? a=some o):SqO h' k a xs:=by
 cases k<;>(obtain ⟨o,ho,r⟩:=x; exact ⟨o,e o ho,r⟩)
theorem ItO.at {h h':Heap}{k:Bool}{it a:Addr}{n:Nat}(x:ItO h k it a n)(e:∀ o,h.get? it=some o->h'.get? it=some o):ItO h' k it a n:=by
 cases k<;>(obtain ⟨o,ho,r⟩:=x; exact ⟨o,e o ho,r⟩)
theorem ItO.obj {h:Heap}{k:Bool}{it a:Addr}{n:Nat}(x:ItO h k it a n):∃ o,h.get? it=some o/\∀ v,o.data≠.cell v:=by
 cases k<;>(obtain ⟨o,ho,_,d⟩:=x; exact ⟨o,ho,fun v z=>by rw [d] at z; cases z⟩)
theorem SqO.lt {h:Heap}{k:Bool}{a:Addr}{xs:Array Value}(x:SqO h k a xs):a < h.objs.size:=by
 cases k<;>(obtain ⟨o,ho,_⟩:=x; exact Heap.lt_size ho)
section
variable {prog:Program}{w:World}{A:Around}{E:Value->Shared->Prop}{s:Shared}
theorem iL {it t:Addr}{i:Nat}{xs:Array Value}{x:Value}{Q:Value->Shared->Prop}(hit:s.heap.IsTupleIter it t i)(ht:s.heap.IsTuple t xs)(hx:xs[i]?=some x)
  (q:∀ h',h'.IsTupleIter it t (i+1)->Heap.SameBut it s.heap h'->Q x { s with heap:=h' }):wpAny (model prog w) A (Builtin.SmallTypes.nextOf (.ref it)) Q E s:=by
 obtain ⟨u,hu,cu,du⟩:=id hit; obtain ⟨v,hv,_,nv,dv⟩:=ht
 unfold Builtin.SmallTypes.nextOf
 refine wpAny_bind (wpAny_callSpecial?_slot (name:=Str.ofString "__next__") hit.typeIs F.slot_tuple_iterator_next (wpAny_call_entry F.slot_tuple_iterator_next hit.typeIs F.entry_tuple_iterator_next ?_ (F.args_tuple_iterator_next_1 _)))
 show wpAny _ _ (field (.ref it) 0 >>= _) _ _ _; refine wpAny_bind (wpAny_field hu du (x:=.ref t) rfl ?_)
 show wpAny _ _ (if (Value.ref t==Value.none)=true then _ else _) _ _ _; rw [if_neg (by intro z; cases z)]
 show wpAny _ _ (field (.ref it) 1 >>= _) _ _ _; refine wpAny_bind (wpAny_field hu du (x:=.int i 0) rfl ?_)
 show wpAny _ _ (seqItems? (.ref t) >>= _) _ _ _; refine wpAny_bind (wpAny_seqItems hv dv ?_)
 simp only [hx,a1W]
 exact wpAny_bind (wpAny_setField hu du (by simp) (wpAny_pure ⟨x,rfl,wpAny_pure (q _ ⟨_,Heap.get?_update_self _ hu (Obj.isFreed_of_fields (Obj.data_mapFields du _)),(Obj.cls_mapFields ..).trans cu,by rw [Obj.data_mapFields du]; simp [rawInt]⟩ (Heap.SameBut.update ..))⟩))
theorem jG {it t:Addr}{i:Nat}{xs:Array Value}{Q:Value->Shared->Prop}(hh:A.handled=none)(hit:s.heap.IsTupleIter it t i)(ht:s.heap.IsTuple t xs)(hx:xs[i]?=none)
  (q:∀ h' e,Heap.ExtBut it s.heap h'->(∃ o,h'.get? e=some o/\o.cls=.type "StopIteration")->E (.ref e) { s with heap:=h' }):wpAny (model prog w) A (Builtin.SmallTypes.nextOf (.ref it)) Q E s:=by
 obtain ⟨u,hu,cu,du⟩:=id hit; obtain ⟨v,hv,_,nv,dv⟩:=ht
 unfold Builtin.SmallTypes.nextOf
 refine wpAny_bind (wpAny_callSpecial?_slot (name:=Str.ofString "__next__") hit.typeIs F.slot_tuple_iterator_next (wpAny_call_entry F.slot_tuple_iterator_next hit.typeIs F.entry_tuple_iterator_next ?_ (F.args_tuple_iterator_next_1 _)))
 show wpAny _ _ (field (.ref it) 0 >>= _) _ _ _; refine wpAny_bind (wpAny_field hu du (x:=.ref t) rfl ?_)
 show wpAny _ _ (if (Value.ref t==Value.none)=true then _ else _) _ _ _; rw [if_neg (by intro z; cases z)]
 show wpAny _ _ (field (.ref it) 1 >>= _) _ _ _; refine wpAny_bind (wpAny_field hu du (x:=.int i 0) rfl ?_)
 show wpAny _ _ (seqItems? (.ref t) >>= _) _ _ _; refine wpAny_bind (wpAny_seqItems hv dv ?_)
 simp only [hx,a1W]
 refine wpAny_bind (wpAny_rule (wpAny_bind (wpAny_setField hu du (by simp) ?_))); show wpAny _ _ (newExc (.type "StopIteration") [] >>= _) _ _ _
 refine wpAny_bind ?_; simp only [newTuple,newExc]
 refine wpAny_bind (wpAny_newObj_type ?_ (by size_fits)); refine wpAny_bind (m:=firstArgMember _ _) (wpAny_of_eq (a:=Value.none) (by first | rfl | (simp only [firstArgMember]; rfl)) (wpAny_newObj_type ?_ (by size_fits)))
 simp only [raiseNew]
 refine wpAny_bind (wpAny_handled ?_); first | rw [hh] | rw [show A.in1.handled=none from hh]
 exact wpAny_bind (wpAny_pure (wpAny_throw (q _ _ (((Heap.SameBut.update ..).extBut.push _).push _) ⟨_,Heap.get?_push_size _ rfl,rfl⟩)))
theorem cn {k:Bool}{it t:Addr}{i:Nat}{xs:Array Value}{x:Value}{Q:Value->Shared->Prop}(hit:ItO s.heap k it t i)(ht:SqO s.heap k t xs)(hx:xs[i]?=some x)
  (q:∀ h',ItO h' k it t (i+1)->Heap.SameBut it s.heap h'->Q x { s with heap:=h' }):wpAny (model prog w) A (Builtin.SmallTypes.nextOf (.ref it)) Q E s:=by
 cases k with
 | false=>exact wpAny_nextOf_list_item (show s.heap.IsListIter it t i from hit) (show s.heap.IsList t xs from ht) hx q
 | true=>exact iL hit ht hx q
theorem eJ {k:Bool}{it t:Addr}{i:Nat}{xs:Array Value}{Q:Value->Shared->Prop}(hh:A.handled=none)(hit:ItO s.heap k it t i)(ht:SqO s.heap k t xs)(hx:xs[i]?=none)
  (q:∀ h' e,Heap.ExtBut it s.heap h'->(∃ o,h'.get? e=some o/\o.cls=.type "StopIteration")->E (.ref e) { s with heap:=h' }):wpAny (model prog w) A (Builtin.SmallTypes.nextOf (.ref it)) Q E s:=by
 cases k with
 | false=>exact wpAny_nextOf_list_end hh (show s.heap.IsListIter it t i from hit) (show s.heap.IsList t xs from ht) hx q
 | true=>exact jG hh hit ht hx q
theorem ju {z TI TO i1 i2 a1 a2:Addr}{k1 k2:Bool}{n m:Nat}{xs ys:Array Value}{x y a b:Value}{Q:Value->Shared->Prop}(D:ZipApart z TI TO i1 i2 a1 a2)
  (hz:IsZip s.heap z TI TO .none) (hI:IsPair s.heap TI (.ref i1) (.ref i2)) (hO:IsPair s.heap TO a b) (h1:ItO s.heap k1 i1 a1 n) (h2:ItO s.heap k2 i2 a2 m) (q1:SqO s.heap k1 a1 xs) (q2:SqO s.heap k2 a2 ys) (hx:xs[n]?=some x) (hy:ys[m]?=some y)
  (q:∀ h',IsZip h' z TI TO (rawInt s.heap.objs.size)->IsPair h' TO x y->ItO h' k1 i1 a1 (n+1)->ItO h' k2 i2 a2 (m+1)->IsPair h' s.heap.objs.size x y->h'.objs.size=s.heap.objs.size+1 ->
   (∀ c o,c≠z->c≠TO->c≠i1->c≠i2->s.heap.get? c=some o->h'.get? c=some o)->Q (.ref s.heap.objs.size) { s with heap:=h' }) :
  wpAny (model prog w) A (Builtin.«zip.__next__» ⟨[.ref z],[]⟩) (fun fin s'=>∃ v,fin=.done (.ret v)/\Q v s') E s:=by
 show wpAny _ _ (field (.ref z) 2 >>= _) _ _ _; refine wpAny_bind (wpAny_field hz rfl (x:=.bool false) rfl ?_)
 show wpAny _ _ (field (.ref z) 3 >>= _) _ _ _; refine wpAny_bind (wpAny_field hz rfl (x:=.ref TI) rfl (wpAny_bind (wpAny_seqItems hI rfl ?_)))
 show wpAny _ _ (Builtin.SmallTypes.ownedTupleIsFree (.ref z) >>= _) _ _ _; refine wpAny_bind ?_
 unfold Builtin.SmallTypes.ownedTupleIsFree
 refine wpAny_bind (wpAny_field hz rfl (x:=.none) rfl (wpAny_pure ?_)); simp only [if_true]
 refine wpAny_bind (wpAny_rule (wpAny_bind (wpAny_field hz rfl (x:=.ref TO) rfl (wpAny_bind (wpAny_setField_rec hz (by simp) fun g1 z1 s1=>?_)))))
 replace z1:IsZip g1 z TI TO .ellipsis:=z1
 refine wpAny_bind ?_; simp only [a2R,a2Z,a2K,a2S]
 refine wpAny_bind (wpAny_bind (wpAny_onRaise ?_)); show wpAny _ _ (Builtin.SmallTypes.nextOf (.ref i1) >>= _) _ _ _
 refine wpAny_bind (cn (h1.at fun o e=>s1.extBut _ _ D.i1z e) (q1.at fun o e=>s1.extBut _ _ D.l1z e) hx fun g2 r2 s2=>wpAny_pure ?_)
 have p2:IsPair g2 TO a b:=s2.extBut _ _ D.TOi1 (s1.extBut _ _ D.TOz hO)
 refine wpAny_bind (wpAny_seqItems p2 rfl (wpAny_bind (wpAny_updateSeq_pair p2 fun g3 p3 s3=>wpAny_bind (wpAny_letGo (wpAny_pure ?_)))))
 replace p3:IsPair g3 TO x b:=p3
 refine wpAny_bind (wpAny_bind (wpAny_onRaise ?_)); show wpAny _ _ (Builtin.SmallTypes.nextOf (.ref i2) >>= _) _ _ _
 refine wpAny_bind (cn (h2.at fun o e=>s3.extBut _ _ D.TOi2.symm (s2.extBut _ _ D.i12.symm (s1.extBut _ _ D.i2z e))) (q2.at fun o e=>s3.extBut _ _ D.l2TO (s2.extBut _ _ D.l2i1 (s1.extBut _ _ D.l2z e))) hy fun g4 r4 s4=>wpAny_pure ?_)
 have p4:IsPair g4 TO x b:=s4.extBut _ _ D.TOi2 p3
 refine wpAny_bind (wpAny_seqItems p4 rfl (wpAny_bind (wpAny_updateSeq_pair p4 fun g5 p5 s5=>wpAny_bind (wpAny_letGo (wpAny_pure (wpAny_pure ?_))))))
 replace p5:IsPair g5 TO x y:=p5
 refine wpAny_bind (wpAny_seqItems p5 rfl (wpAny_bind (wpAny_newTuple ?_)))
 have sz:g5.objs.size=s.heap.objs.size:=by rw [s5.1,s4.1,s3.1,s2.1,s1.1]
 have z5:IsZip g5 z TI TO .ellipsis:=s5.extBut _ _ D.TOz.symm (s4.extBut _ _ D.i2z.symm (s3.extBut _ _ D.TOz.symm (s2.extBut _ _ D.i1z.symm z1)))
 have k5:∀ c o,c≠z->c≠TO->c≠i1->c≠i2->s.heap.get? c=some o->g5.get? c=some o:=fun c o n1 n2 n3 n4 e=>s5.extBut _ _ n2 (s4.extBut _ _ n4 (s3.extBut _ _ n2 (s2.extBut _ _ n3 (s1.extBut _ _ n1 e))))
 have r5:ItO g5 k1 i1 a1 (n+1):=r2.at fun o e=>s5.extBut _ _ D.TOi1.symm (s4.extBut _ _ D.i12 (s3.extBut _ _ D.TOi1.symm e))
 have t5:ItO g5 k2 i2 a2 (m+1):=r4.at fun o e=>s5.extBut _ _ D.TOi2.symm e
 have zlt:z < g5.objs.size:=Heap.lt_size z5
 show wpAny _ _ (Builtin.SmallTypes.ownedTupleHandOut (.ref z) (.ref g5.objs.size) >>= _) _ _ _; refine wpAny_bind ?_
 unfold Builtin.SmallTypes.ownedTupleHandOut
 have z6:IsZip (g5.push { cls:=.type "tuple",data:=.seq #[x,y] }) z TI TO .ellipsis:=Heap.get?_push_of_some _ z5
 refine wpAny_bind (wpAny_setField_rec z6 (by simp) fun g7 z7 s7=>?_)
 replace z7:IsZip g7 z TI TO (rawInt g5.objs.size):=z7
 refine wpAny_setField_rec z7 (by simp) fun g8 z8 s8=>?_
 replace z8:IsZip g8 z TI TO (rawInt g5.objs.size):=z8
 have up:∀ c o,c≠z->g5.get? c=some o->g8.get? c=some o:=fun c o n1 e=>s8.extBut _ _ n1 (s7.extBut _ _ n1 (Heap.get?_push_of_some _ e))
 have p8:IsPair g8 g5.objs.size x y:=s8.extBut _ _ (a1p zlt) (s7.extBut _ _ (a1p zlt) (Heap.get?_push_size _ rfl))
 have e8:g8.objs.size=g5.objs.size+1:=by rw [s8.1,s7.1,Heap.size_push]
 rw [sz] at z8 p8 e8
 refine wpAny_pure ⟨_,rfl,?_⟩
 show Q (.ref g5.objs.size) _
 rw [sz]
 exact q g8 z8 (up _ _ D.TOz p5) (r5.at fun o e=>up _ o D.i1z e) (t5.at fun o e=>up _ o D.i2z e) p8 e8 fun c o n1 n2 n3 n4 e=>up c o n1 (k5 c o n1 n2 n3 n4 e)
theorem lI {z TI TO i1 i2 a1 a2:Addr}{k1 k2:Bool}{n m:Nat}{xs ys:Array Value}{a b:Value}{Q:Fin->Shared->Prop}(hh:A.handled=none)(D:ZipApart z TI TO i1 i2 a1 a2)
  (hz:IsZip s.heap z TI TO .none) (hI:IsPair s.heap TI (.ref i1) (.ref i2)) (hO:IsPair s.heap TO a b) (h1:ItO s.heap k1 i1 a1 n) (h2:ItO s.heap k2 i2 a2 m) (q1:SqO s.heap k1 a1 xs) (q2:SqO s.heap k2 a2 ys) (hend:xs[n]?=none\/ys[m]?=none)
  (q:∀ h' e,(∀ c o,c≠z->c≠TO->c≠i1->c≠i2->s.heap.get? c=some o->h'.get? c=some o)->(∃ o,h'.get? e=some o/\o.cls=.type "StopIteration")->E (.ref e) { s with heap:=h' }) :
  wpAny (model prog w) A (Builtin.«zip.__next__» ⟨[.ref z],[]⟩) Q E s:=by
 show wpAny _ _ (field (.ref z) 2 >>= _) _ _ _; refine wpAny_bind (wpAny_field hz rfl (x:=.bool false) rfl ?_)
 show wpAny _ _ (field (.ref z) 3 >>= _) _ _ _; refine wpAny_bind (wpAny_field hz rfl (x:=.ref TI) rfl (wpAny_bind (wpAny_seqItems hI rfl ?_)))
 show wpAny _ _ (Builtin.SmallTypes.ownedTupleIsFree (.ref z) >>= _) _ _ _; refine wpAny_bind ?_
 unfold Builtin.SmallTypes.ownedTupleIsFree
 refine wpAny_bind (wpAny_field hz rfl (x:=.none) rfl (wpAny_pure ?_)); simp only [if_true]
 refine wpAny_bind (wpAny_rule (wpAny_bind (wpAny_field hz rfl (x:=.ref TO) rfl (wpAny_bind (wpAny_setField_rec hz (by simp) fun g1 z1 s1=>?_)))))
 replace z1:IsZip g1 z TI TO .ellipsis:=z1
 refine wpAny_bind ?_; simp only [a2R,a2Z,a2K,a2S]
 refine wpAny_bind (wpAny_bind (wpAny_onRaise ?_)); show wpAny _ _ (Builtin.SmallTypes.nextOf (.ref i1) >>= _) _ _ _
 cases hx:xs[n]? with
 | none =>
  refine wpAny_bind (eJ hh (h1.at fun o e=>s1.extBut _ _ D.i1z e) (q1.at fun o e=>s1.extBut _ _ D.l1z e) hx fun g2 e s2 he=>?_)
  obtain ⟨oe,ho,ce⟩:=he
  have z2:IsZip g2 z TI TO .ellipsis:=s2 _ _ D.i1z.symm z1
  have ez:e≠z:=fun y=>by subst y; rw [z2] at ho; cases ho; simp at ce
  exact wpAny_setField_rec z2 (by simp) fun g3 _ s3=>q g3 e (fun c o n1 _ n3 _ y=>s3.extBut _ _ n1 (s2 _ _ n3 (s1.extBut _ _ n1 y))) ⟨oe,s3.extBut _ _ ez ho,ce⟩
 | some x =>
  have hy:ys[m]?=none:=hend.elim (fun y=>by rw [hx] at y; cases y) id
  refine wpAny_bind (cn (h1.at fun o e=>s1.extBut _ _ D.i1z e) (q1.at fun o e=>s1.extBut _ _ D.l1z e) hx fun g2 r2 s2=>wpAny_pure ?_)
  have p2:IsPair g2 TO a b:=s2.extBut _ _ D.TOi1 (s1.extBut _ _ D.TOz hO)
  refine wpAny_bind (wpAny_seqItems p2 rfl (wpAny_bind (wpAny_updateSeq_pair p2 fun g3 p3 s3=>wpAny_bind (wpAny_letGo (wpAny_pure ?_)))))
  refine wpAny_bind (wpAny_bind (wpAny_onRaise ?_)); show wpAny _ _ (Builtin.SmallTypes.nextOf (.ref i2) >>= _) _ _ _
  refine wpAny_bind (eJ hh (h2.at fun o e=>s3.extBut _ _ D.TOi2.symm (s2.extBut _ _ D.i12.symm (s1.extBut _ _ D.i2z e))) (q2.at fun o e=>s3.extBut _ _ D.l2TO (s2.extBut _ _ D.l2i1 (s1.extBut _ _ D.l2z e))) hy fun g4 e s4 he=>?_)
  obtain ⟨oe,ho,ce⟩:=he
  have z4:IsZip g4 z TI TO .ellipsis:=s4 _ _ D.i2z.symm (s3.extBut _ _ D.TOz.symm (s2.extBut _ _ D.i1z.symm z1))
  have ez:e≠z:=fun y=>by subst y; rw [z4] at ho; cases ho; simp at ce
  exact wpAny_setField_rec z4 (by simp) fun g5 _ s5=>q g5 e (fun c o n1 n2 n3 n4 y=>s5.extBut _ _ n1 (s4 _ _ n4 (s3.extBut _ _ n2 (s2.extBut _ _ n3 (s1.extBut _ _ n1 y))))) ⟨oe,s5.extBut _ _ ez ho,ce⟩
theorem iD {z TI TO i1 i2 a1 a2:Addr}{k1 k2:Bool}{n m:Nat}{xs ys:Array Value}{x y a b:Value}{Q:Option Value->Shared->Prop}(D:ZipApart z TI TO i1 i2 a1 a2)
  (hz:IsZip s.heap z TI TO .none) (hI:IsPair s.heap TI (.ref i1) (.ref i2)) (hO:IsPair s.heap TO a b) (h1:ItO s.heap k1 i1 a1 n) (h2:ItO s.heap k2 i2 a2 m) (q1:SqO s.heap k1 a1 xs) (q2:SqO s.heap k2 a2 ys) (hx:xs[n]?=some x) (hy:ys[m]?=some y)
  (q:∀ h',IsZip h' z TI TO (rawInt s.heap.objs.size)->IsPair h' TO x y->ItO h' k1 i1 a1 (n+1)->ItO h' k2 i2 a2 (m+1)->IsPair h' s.heap.objs.size x y->h'.objs.size=s.heap.objs.size+1 ->
   (∀ c o,c≠z->c≠TO->c≠i1->c≠i2->s.heap.get? c=some o->h'.get? c=some o)->Q (some (.ref s.heap.objs.size)) { s with heap:=h' }):wpAny (model prog w) A (pyNext (.ref z)) Q E s:=by
 have hT:s.TypeIs (.ref z) "zip":=⟨_,hz,rfl⟩
 unfold pyNext
 exact wpAny_bind (wpAny_attempt (wpAny_callSpecial?_slot (name:=Str.ofString "__next__") hT F.slot_zip_next (wpAny_call_entry F.slot_zip_next hT F.entry_zip_next (ju D hz hI hO h1 h2 q1 q2 hx hy fun h' y1 y2 y3 y4 y5 y6 y7=>wpAny_pure (q h' y1 y2 y3 y4 y5 y6 y7)) (F.args_zip_next_1 _))))
theorem jI {z TI TO i1 i2 a1 a2:Addr}{k1 k2:Bool}{n m:Nat}{xs ys:Array Value}{a b:Value}{Q:Option Value->Shared->Prop}(hh:A.handled=none)(D:ZipApart z TI TO i1 i2 a1 a2)
  (hz:IsZip s.heap z TI TO .none) (hI:IsPair s.heap TI (.ref i1) (.ref i2)) (hO:IsPair s.heap TO a b) (h1:ItO s.heap k1 i1 a1 n) (h2:ItO s.heap k2 i2 a2 m) (q1:SqO s.heap k1 a1 xs) (q2:SqO s.heap k2 a2 ys) (hend:xs[n]?=none\/ys[m]?=none)
  (q:∀ h',(∀ c o,c≠z->c≠TO->c≠i1->c≠i2->s.heap.get? c=some o->h'.get? c=some o)->Q none { s with heap:=h' }):wpAny (model prog w) A (pyNext (.ref z)) Q E s:=by
 have hT:s.TypeIs (.ref z) "zip":=⟨_,hz,rfl⟩
 unfold pyNext
 refine wpAny_bind (wpAny_attempt (wpAny_callSpecial?_slot (name:=Str.ofString "__next__") hT F.slot_zip_next (wpAny_call_entry F.slot_zip_next hT F.entry_zip_next (lI hh D hz hI hO h1 h2 q1 q2 hend fun h' e hk he=>?_) (F.args_zip_next_1 _))))
 obtain ⟨o,ho,hc⟩:=he
 exact wpAny_bind (wpAny_isInstance (T:="StopIteration") (b:=true) ⟨o,ho,hc⟩ isSubtype_stop (wpAny_pure (q _ hk)))
end
noncomputable def j5 (k:Bool)(a:Addr):Obj:=match k with
 | true=>{ cls:=.type "tuple_iterator",data:=.fields #[.ref a,.int 0 0] }
 | false=>{ cls:=.type "list_iterator",data:=.fields #[.ref a,.int 0 0] }
noncomputable abbrev zO1 (h:Heap)(k1:Bool)(a1:Addr):Heap:=h.push (j5 k1 a1)
noncomputable abbrev zO2 (h:Heap)(k1 k2:Bool)(a1 a2:Addr):Heap:=(zO1 h k1 a1).push (j5 k2 a2)
noncomputable abbrev zO3 (h:Heap)(k1 k2:Bool)(a1 a2:Addr):Heap:=(zO2 h k1 k2 a1 a2).push { cls:=.type "tuple",data:=.seq #[.ref h.objs.size,.ref (zO1 h k1 a1).objs.size] }
noncomputable abbrev zO4 (h:Heap)(k1 k2:Bool)(a1 a2:Addr):Heap:=(zO3 h k1 k2 a1 a2).push { cls:=.type "tuple",data:=.seq #[.none,.none] }
noncomputable abbrev zO5 (h:Heap)(k1 k2:Bool)(a1 a2:Addr):Heap:=(zO4 h k1 k2 a1 a2).push { cls:=.type "zip",data:=.fields #[.none,.bool false,.bool false,.ref (zO2 h k1 k2 a1 a2).objs.size,.ref (zO3 h k1 k2 a1 a2).objs.size] }
theorem ie (k1 k2:Bool)(a1 a2:Addr)(xs ys:Array Value) :
  Meets (Builtin.«zip.__new__» ⟨[.type "zip",.ref a1,.ref a2],[]⟩) (fun _ R s=>SqO s.heap k1 a1 xs/\SqO s.heap k2 a2 ys/\R (.ok (.ret (.ref (zO4 s.heap k1 k2 a1 a2).objs.size))) { s with heap:=zO5 s.heap k1 k2 a1 a2 }) :=
 .of_wp fun prog w A R s h=>by
  obtain ⟨hp,g,d,tk,os⟩:=s; obtain ⟨q1,q2,h⟩:=h
  have hsub:=sub_zip
  cases k1<;>cases k2
  ·have e1:Heap.IsList (Shared.heap ⟨hp,g,d,tk,os⟩) a1 xs:=q1
   have e2:Heap.IsList (Shared.heap ⟨hp.push { cls:=.type "list_iterator",data:=.fields #[.ref a1,.int 0 0] },g,d,tk,os⟩) a2 ys:=Heap.IsList.push q2 _
   wp_walk using wpAny_pyIter_list e1,wpAny_pyIter_list e2
   exact ⟨_,rfl,h⟩
  ·have e1:Heap.IsList (Shared.heap ⟨hp,g,d,tk,os⟩) a1 xs:=q1
   have e2:Heap.IsTuple (Shared.heap ⟨hp.push { cls:=.type "list_iterator",data:=.fields #[.ref a1,.int 0 0] },g,d,tk,os⟩) a2 ys:=Heap.IsTuple.push q2 _
   wp_walk using wpAny_pyIter_list e1,wpAny_pyIter_tuple e2
   exact ⟨_,rfl,h⟩
  ·have e1:Heap.IsTuple (Shared.heap ⟨hp,g,d,tk,os⟩) a1 xs:=q1
   have e2:Heap.IsList (Shared.heap ⟨hp.push { cls:=.type "tuple_iterator",data:=.fields #[.ref a1,.int 0 0] },g,d,tk,os⟩) a2 ys:=Heap.IsList.push q2 _
   wp_walk using wpAny_pyIter_tuple e1,wpAny_pyIter_list e2
   exact ⟨_,rfl,h⟩
  ·have e1:Heap.IsTuple (Shared.heap ⟨hp,g,d,tk,os⟩) a1 xs:=q1
   have e2:Heap.IsTuple (Shared.heap ⟨hp.push { cls:=.type "tuple_iterator",data:=.fields #[.ref a1,.int 0 0] },g,d,tk,os⟩) a2 ys:=Heap.IsTuple.push q2 _
   wp_walk using wpAny_pyIter_tuple e1,wpAny_pyIter_tuple e2
   exact ⟨_,rfl,h⟩
theorem iZ {h:Heap}{k:Bool}{it a:Addr}(e:h.get? it=some (j5 k a)):ItO h k it a 0:=by
 cases k<;>exact ⟨_,e,rfl,rfl⟩
theorem eH (k:Bool)(a:Addr):(j5 k a).isFreed=false:=by cases k<;>rfl
section
variable {prog:Program}{w:World}{A:Around}{E:Value->Shared->Prop}{s:Shared}
theorem pb {k1 k2:Bool}{a1 a2:Addr}{xs ys:Array Value}{Q:Value->Shared->Prop}(q1:SqO s.heap k1 a1 xs)(q2:SqO s.heap k2 a2 ys)
  (h:∀ h',IsZip h' (s.heap.objs.size+4) (s.heap.objs.size+2) (s.heap.objs.size+3) .none->IsPair h' (s.heap.objs.size+2) (.ref s.heap.objs.size) (.ref (s.heap.objs.size+1)) ->
   IsPair h' (s.heap.objs.size+3) .none .none->ItO h' k1 s.heap.objs.size a1 0->ItO h' k2 (s.heap.objs.size+1) a2 0->(∀ c o,s.heap.get? c=some o->h'.get? c=some o)->Q (.ref (s.heap.objs.size+4)) { s with heap:=h' }) :
  wpAny (model prog w) A (call (.type "zip") [.ref a1,.ref a2]) Q E s:=by
 refine callType_new F.called_zip (by decide) (F.typeCall_zip_2 _ _) (F.newCall_zip_2 _ _) (fun obj=>F.args_object_init_3 obj _ _) F.entry_zip_new (ie k1 k2 a1 a2 xs ys) ⟨q1,q2,?_⟩
 have e1:(zO1 s.heap k1 a1).objs.size=s.heap.objs.size+1:=Heap.size_push ..
 have e2:(zO2 s.heap k1 k2 a1 a2).objs.size=s.heap.objs.size+2:=by rw [Heap.size_push,e1]
 have e3:(zO3 s.heap k1 k2 a1 a2).objs.size=s.heap.objs.size+3:=by rw [Heap.size_push,e2]
 have e4:(zO4 s.heap k1 k2 a1 a2).objs.size=s.heap.objs.size+4:=by rw [Heap.size_push,e3]
 have g5:(zO5 s.heap k1 k2 a1 a2).get? (zO4 s.heap k1 k2 a1 a2).objs.size=some _:=Heap.get?_push_size _ rfl
 have g4:(zO5 s.heap k1 k2 a1 a2).get? (zO3 s.heap k1 k2 a1 a2).objs.size=some _:=Heap.get?_push_of_some _ (Heap.get?_push_size _ rfl)
 have g3:(zO5 s.heap k1 k2 a1 a2).get? (zO2 s.heap k1 k2 a1 a2).objs.size=some _:=Heap.get?_push_of_some _ (Heap.get?_push_of_some _ (Heap.get?_push_size _ rfl))
 have g2:(zO5 s.heap k1 k2 a1 a2).get? (zO1 s.heap k1 a1).objs.size=some (j5 k2 a2):=Heap.get?_push_of_some _ (Heap.get?_push_of_some _ (Heap.get?_push_of_some _ (Heap.get?_push_size _ (eH k2 a2))))
 have g1:(zO5 s.heap k1 k2 a1 a2).get? s.heap.objs.size=some (j5 k1 a1):=Heap.get?_push_of_some _ (Heap.get?_push_of_some _ (Heap.get?_push_of_some _ (Heap.get?_push_of_some _ (Heap.get?_push_size _ (eH k1 a1)))))
 show _/\_
 rw [e2,e3,e4] at g5
 rw [e1,e2] at g3
 rw [e3] at g4
 rw [e1] at g2
 rw [e4]
 exact ⟨⟨_,g5,rfl⟩,h _ g5 g3 g4 (iZ g1) (iZ g2) fun c o x=>Heap.get?_push_of_some _ (Heap.get?_push_of_some _ (Heap.get?_push_of_some _ (Heap.get?_push_of_some _ (Heap.get?_push_of_some _ x))))⟩
end
end L3
namespace L3
open PySem PySem.Spec PyProof.Rows L2
noncomputable def Sq (K:a0a)(H:Hp):Bool->Addr->List V->Prop
 | true,a,xs=>SqT K H a xs
 | false,a,xs=>SqL K H a xs
section
variable {X:Cx}{pins:List (Addr×Obj)}{σ:L2.St}{H:Hp}{s:Shared}
theorem jo (I:Inv X pins σ H s){k:Bool}{a:Addr}{xs:List V}(h:Sq X.K H k a xs):∃ its:List Value,Vals xs its/\SqO s.heap k a its.toArray/\xs.length<=sizeLine:=by
 cases k with
 | true=>obtain ⟨its,r,p,z⟩:=I.tuple h; exact ⟨its,r,p,z⟩
 | false=>obtain ⟨its,r,p,z⟩:=I.list h; exact ⟨its,r,p.isList,z⟩
theorem ja (I:Inv X pins σ H s){k:Bool}{a:Addr}{xs ys:List V}(h:Sq X.K H k a xs)(h':Sq X.K H k a ys):xs=ys:=by
 cases k with
 | true=>exact I.tuple_inj h h'
 | false=>exact I.list_inj h h'
theorem dD {h':Heap}{ch:List Addr}(I:Inv X pins σ H s)(hf:∀ b∈ch,H b=none)(k:∀ b o,b ∉ ch->s.heap.get? b=some o->h'.get? b=some o):HOk X.prog X.w H h':=fun b u e=>by
 have nit:∀ b u,H b=some u->b ∉ ch:=fun b u e z=>by rw [hf b z] at e; cases e
 refine (I.hok b u e).stay (fun c v hc q=>k c v ?_ q) (fun _ q=>q) fun _ _ q=>q
 rcases hc with z | z
 ·rw [z]; exact nit b u e
 ·exact nit c _ z
theorem hZ {h':Heap}{t':Nat}{ch:List Addr}(I:Inv X pins σ H s)(hf:∀ b∈ch,dZ X pins H b)(k:∀ b o,b ∉ ch->s.heap.get? b=some o->h'.get? b=some o):Inv X pins σ H { s with heap:=h',toks:=t' }:=by
 refine I.step (g':=s.gens) (d':=s.drawn) (ch:=ch) (fun b hb=>⟨(hf b hb).2.2.2.1,(hf b hb).2.1,(hf b hb).2.2.2.2.1,(hf b hb).2.2.2.2.2⟩) (fun b o _ _ hc e _=>k b o hc e) (fun b o _ _ hc e _=>⟨o.slots,k b o hc e⟩) (fun _ _ _ _ n=>n)
  (fun b o hc e=>⟨o,k b o hc e⟩) (fun _ _ e=>e) (fun _ _ _ e=>e) (fun b ps e=>⟨#[],by rw [e]; simp⟩) (fun m hm=>?_) (dD I (fun b hb=>(hf b hb).1) k) I.bare
 obtain ⟨o,es,ep,ho,r⟩:=hm
 exact ⟨o,es,ep,k _ o (fun z=>(hf _ z).2.1 rfl) ho,r⟩
theorem dC {h':Heap}{t':Nat}{ch:List Addr}{a:Addr}{ys:List V}{its:List Value}(I:Inv X pins σ H s)(hf:∀ b∈ch,dZ X pins H b)(k:∀ b o,b ∉ ch->s.heap.get? b=some o->h'.get? b=some o)
  (ha:s.heap.objs.size<=a) (hz:ys.length<=sizeLine) (hv:Vals ys its) (ht:IsTup h' a its.toArray):Inv X pins σ (upd H a (.tup ys)) { s with heap:=h',toks:=t' }:=by
 have fr:H a=none:=I.hok.fresh ha
 have na:∀ b o,s.heap.get? b=some o->b≠a:=fun b o e=>a0A (a0i (Heap.lt_size e) ha)
 refine I.step (g':=s.gens) (d':=s.drawn) (ch:=ch) (fun b hb=>⟨(hf b hb).2.2.2.1,(hf b hb).2.1,(hf b hb).2.2.2.2.1,(hf b hb).2.2.2.2.2⟩) (fun b o _ _ hc e _=>k b o hc e) (fun b o _ _ hc e _=>⟨o.slots,k b o hc e⟩) (fun b o _ e n=>by rw [ab (na b o e)]; exact n)
  (fun b o hc e=>⟨o,k b o hc e⟩) (fun b u e=>by rw [ab (az e fr)]; exact e) (fun b o u e=>by rw [ab (az e fr)]; exact e) (fun b ps e=>⟨#[],by rw [ab (az e fr),e]; simp⟩) (fun m hm=>?_)
  (eF (dD I (fun b hb=>(hf b hb).1) k) fr ⟨hz,its,hv,ht⟩) I.bare
 obtain ⟨o,es,ep,ho,r⟩:=hm
 exact ⟨o,es,ep,k _ o (fun z=>(hf _ z).2.1 rfl) ho,r⟩
end
noncomputable def Itz (K:a0a)(k1 k2:Bool)(a1 a2:Addr):It :=
 ⟨fun i H=>∃ xs ys x y,Sq K H k1 a1 xs/\Sq K H k2 a2 ys/\xs[i]?=some x/\ys[i]?=some y,
  fun i H v H'=>∃ p x y,v=.ref p/\H p=none/\H'=upd H p (.tup [x,y])/\(∀ xs,Sq K H k1 a1 xs->xs[i]?=some x)/\∀ ys,Sq K H k2 a2 ys->ys[i]?=some y,
  fun i H=>∃ xs ys,Sq K H k1 a1 xs/\Sq K H k2 a2 ys/\(xs.length<=i\/ys.length<=i)⟩
noncomputable def ZSt (z TI TO i1 i2:Addr)(k1 k2:Bool)(a1 a2:Addr)(i:Nat)(h:Heap):Prop :=
 IsZip h z TI TO .none/\IsPair h TI (.ref i1) (.ref i2)/\(∃ a b,IsPair h TO a b)/\ItO h k1 i1 a1 i/\ItO h k2 i2 a2 i
theorem lE {P:Program}{w:World}{K:a0a}{es:List Expr}{kt:Nat}{pt:Pos}{z TI TO i1 i2 a1 a2:Addr}{k1 k2:Bool}(D:ZipApart z TI TO i1 i2 a1 a2) :
  kD P w K (.Tuple es kt pt) (Itz K k1 k2 a1 a2) [z,TI,TO,i1,i2] z (ZSt z TI TO i1 i2 k1 k2 a1 a2) where
 mem:=by simp
 obj:=fun i h st b hb=>by
  obtain ⟨q1,q2,⟨a,c,q3⟩,q4,q5⟩:=st
  simp only [a0w,a1c,or_false] at hb
  rcases hb with rfl | rfl | rfl | rfl | rfl
  ·exact ⟨_,q1,fun v y=>by cases y⟩
  ·exact ⟨_,q2,fun v y=>by cases y⟩
  ·exact ⟨_,q3,fun v y=>by cases y⟩
  ·exact q4.obj
  ·exact q5.obj
 keep:=fun i h h' st k=>by
  obtain ⟨q1,q2,⟨a,c,q3⟩,q4,q5⟩:=st
  exact ⟨k z (by simp) _ q1,k TI (by simp) _ q2,⟨a,c,k TO (by simp) _ q3⟩,q4.at fun o e=>k i1 (by simp) o e,q5.at fun o e=>k i2 (by simp) o e⟩
 item:=by
  intro X hP hw hK hc i pins s σ H E I hf st hg
  subst hP hw hK
  obtain ⟨xs,ys,x,y,s1,s2,hx,hy⟩:=hg
  obtain ⟨q1,q2,⟨a,c,q3⟩,q4,q5⟩:=st
  obtain ⟨its1,v1,o1,z1⟩:=jo I s1
  obtain ⟨its2,v2,o2,z2⟩:=jo I s2
  obtain ⟨u1,e1,r1⟩:=v1.get hx
  obtain ⟨u2,e2,r2⟩:=v2.get hy
  have lt:∀ b∈[z,TI,TO,i1,i2],b < s.heap.objs.size:=fun b hb=>by
   simp only [a0w,a1c,or_false] at hb
   rcases hb with rfl | rfl | rfl | rfl | rfl
   ·exact Heap.lt_size q1
   ·exact Heap.lt_size q2
   ·exact Heap.lt_size q3
   ·obtain ⟨o,e,_⟩:=q4.obj; exact Heap.lt_size e
   ·obtain ⟨o,e,_⟩:=q5.obj; exact Heap.lt_size e
  refine iD D q1 q2 q3 q4 q5 o1 o2 (x:=u1) (y:=u2) (by simpa using e1) (by simpa using e2) fun h' y1 y2 y3 y4 y5 y6 y7=>⟨_,rfl,?_⟩
  refine wpAny_letOwnedTupleGo_zip (s:={ s with heap:=h' }) y1 fun h2 w1 sb=>?_
  have sb':Heap.SameBut z h' h2:=sb
  have nz:s.heap.objs.size≠z:=a1p (lt z (by simp))
  have kk:∀ b o,b ∉ [z,TI,TO,i1,i2]->s.heap.get? b=some o->h2.get? b=some o:=fun b o hb e=>by
   simp only [a0w,a1c,or_false,not_or] at hb
   exact (sb'.2 b hb.1).trans (y7 b o hb.1 hb.2.2.1 hb.2.2.2.1 hb.2.2.2.2 e)
  have tp:IsTup h2 s.heap.objs.size [u1,u2].toArray:=⟨_,(sb'.2 _ nz).trans y5,rfl,_,rfl⟩
  refine ⟨.ref s.heap.objs.size,upd H s.heap.objs.size (.tup [x,y]),dC (s:=s) (t':=s.toks) I hf kk (a0j _) (by show 2<=sizeLine; decide) (.cons r1 (.cons r2 .nil)) tp,rfl,
   ⟨_,x,y,rfl,I.fresh,rfl,fun zs hz=>by rw [ja I hz s1]; exact hx,fun zs hz=>by rw [ja I hz s2]; exact hy⟩,?_,fun b hb=>?_⟩
  ·exact ⟨w1,(sb'.2 _ D.TIz).trans (y7 _ _ D.TIz D.TITO D.TIi1 D.TIi2 q2),⟨_,_,(sb'.2 _ D.TOz).trans y2⟩,y3.at fun o e=>(sb'.2 _ D.i1z).trans e,y4.at fun o e=>(sb'.2 _ D.i2z).trans e⟩
  ·rw [ab (a0A (lt b hb))]; exact (hf b hb).1
 done:=by
  intro X hP hw hK hc i pins s σ H E I hf st hg
  subst hP hw hK
  obtain ⟨xs,ys,s1,s2,hl⟩:=hg
  obtain ⟨q1,q2,⟨a,c,q3⟩,q4,q5⟩:=st
  obtain ⟨its1,v1,o1,z1⟩:=jo I s1
  obtain ⟨its2,v2,o2,z2⟩:=jo I s2
  have l1:=v1.length
  have l2:=v2.length
  refine jI (I.ok.hd hc) D q1 q2 q3 q4 q5 o1 o2 (hl.imp (fun q=>by simp; omega) fun q=>by simp; omega) fun h' hk=>⟨rfl,hZ (t':=s.toks) I hf fun b o hb e=>?_⟩
  simp only [a0w,a1c,or_false,not_or] at hb
  exact hk b o hb.1 hb.2.2.1 hb.2.2.2.1 hb.2.2.2.2 e
 self:=fun _ _ _ _ _ st h=>wpAny_pyIter_zip st.1 h
section
variable {X:Cx}
noncomputable def vP (K:a0a)(ta:TA):TI:=fun σ H R=>ta σ H fun vs H1=>∃ k1 k2 a1 a2,vs=[.ref a1,.ref a2]/\(∃ xs,Sq K H1 k1 a1 xs)/\(∃ ys,Sq K H1 k2 a2 ys)/\R (Itz K k1 k2 a1 a2) H1
theorem sR {a b:Expr}{ta:TA}{p pos pt:Pos}{es:List Expr}{kt:Nat}(hg:Gl X "zip")(hm:X.mg "zip"=none)(ha:PA X [a,b] ta)(hs:starEach [a,b] X.env=[(false,eval a X.env),(false,eval b X.env)]:=by rfl)(hs2:starEach [b] X.env=[(false,eval b X.env)]:=by rfl) :
  PI X (.Tuple es kt pt) (.Call (.Name "zip" p) [a,b] [] pos) (vP X.K ta):=by
 intro pins s σ H R I h
 refine Call_ (dJ I hg hm boot_zip (a1d (thn (ha pos pins s σ H _ I h) fun us s1 ⟨vs,H1,I1,r1,q1⟩=>?_) (by rw [hs,hs2]) (by rw [hs2]; rfl)))
 obtain ⟨k1,k2,a1,a2,rfl,⟨xs,s1'⟩,⟨ys,s2'⟩,q⟩:=q1
 cases r1 with
 | cons r rr =>
  cases rr with
  | cons r' rr =>
   cases rr
   cases r
   cases r'
   obtain ⟨its1,v1,o1,z1⟩:=jo I1 s1'
   obtain ⟨its2,v2,o2,z2⟩:=jo I1 s2'
   refine pb o1 o2 fun h' q1 q2 q3 q4 q5 kk=>?_
   refine wpAny_pyIter_zip (s:={ s1 with heap:=h' }) q1 ?_
   refine ⟨_,_,_,_,H1,rfl,I1.kept (t':=s1.toks) kk,lE (zipApart_new o1.lt o2.lt),⟨q1,q2,⟨_,_,q3⟩,q4,q5⟩,fun b hb=>?_,q⟩
   have hle:s1.heap.objs.size<=b:=by
    simp only [a0w,a1c,or_false] at hb
    rcases hb with e | e | e | e | e<;>(rw [e]; first | exact Nat.le_add_right _ _ | exact a0j _)
   exact I1.fpOk hle (I1.hok.fresh hle)
end
structure au (pre ys:List Str)(scope:Scope):Prop where
 kind:scope.kind=.function
 cell:∀ y∈scope.names,y.2≠.cell
 nm:∀ y∈scope.names,y.2=.local->scope.names.lookup y.1=some .local
 loc:∀ x∈pre,scope.names.lookup x=some .local
 nd:(pre++ys).Nodup
theorem kn {pre:List Str}{τ:L2.St}{j:Nat}{v:V}(e:(a0g pre.length none++τ)[j]?=some (some v)):∃ i,j=pre.length+i/\τ[i]?=some (some v):=by
 by_cases hj:j < pre.length
 ·rw [a0U (by rw [a0G]; exact hj),a1t,if_pos hj] at e
  cases a0z e
 ·refine ⟨j-pre.length,by omega,?_⟩
  rw [a0I (by rw [a0G]; omega),a0G] at e
  exact e
theorem jQ {X:Cx}{pins:List (Addr×Obj)}{σ:L2.St}{H:Hp}{s:Shared}{pre ys:List Str}{is:List Nat}{scope:Scope}{cl:List (Str×Addr)}{fp:List Addr}{C:Addr}{h1:Heap}{t1:Nat}{m1:Str->Option Value}
  (I:Inv X pins σ H s) (hf:∀ b∈fp,dZ X pins H b) (hfo:∀ b∈fp,b < s.heap.objs.size) (S:au pre ys scope) (hcl:Clo X cl)
  (hfr:(scope.names.all fun p=>p.2 != .free || (cl.lookup p.1).isSome)=true) (fr:Frees X scope cl ys is)
  (hC:s.heap.objs.size<=C) (old:∀ b o,s.heap.get? b=some o->h1.get? b=some o) (hn:h1.Ns C m1) :
  Inv (ag X (pre++ys) scope cl C s H fp) pins (a0g pre.length none++ba σ is) H { s with heap:=h1,toks:=t1 }:=by
 have stk:∀ b,b≠X.env.locals->b ∉ X.fs->b ∉ frs X.stack:=fun b q1 q2 hb=>(a0w.mp (I.stkSub b hb)).elim q1 q2
 have key:∀ a k,(relabel scope X.env).names.lookup a=some k->(k=.cell\/k=.free)->∃ c,cl.lookup a=some c:=fun a k e hk=>by
  have hm:=a0T e
  obtain ⟨⟨n,k0⟩,hp,ep⟩:=a0Z.mp hm
  have hk0:k0=.free/\n=a:=by
   dsimp only at ep
   split at ep
   ·rename_i hc
    simp only [a0m] at hc
    exact ⟨eq_of_beq hc.1.1,(a2p ep).1⟩
   ·obtain ⟨e1,e2⟩:=a2p ep
    subst e2
    rcases hk with z | z
    ·exact absurd z (S.cell _ hp)
    ·exact ⟨z,e1⟩
  obtain ⟨z1,z2⟩:=hk0
  subst z1 z2
  have q:=a0W.mp hfr _ hp
  have q2:(cl.lookup n).isSome=true:=by simpa using q
  exact a1q.mp q2
 refine ⟨⟨I.ok.mod,S.kind,I.ok.glob,I.ok.blt,hC,fun a b c e1 e2=>I.ok.inj a b c (hcl.get e1) (hcl.get e2),fun a ha=>?_,fun a c e=>absurd e a0l,I.ok.hd,I.ok.frames,.inl rfl,
   fun b hb=>⟨a0A (a0i (hfo b hb) hC),fun a c e=>(hf b hb).2.2.2.2.1 a c (hcl.get e)⟩,I.bs,a0s I.ok.bsz I.sz,fun b o e hb=>?_,fun b hb=>stk b (hf b hb).2.1 (hf b hb).2.2.1,I.stack,I.stkFree⟩,
  rfl,I.bare,Un.kept old,⟨m1,hn,fun j y v e1 e2 e3=>?_⟩,fun a c e=>?_,I.hok.fresh hC,fun a c e=>I.freeC a c (hcl.get e),fun p hp=>?_,I.hok.kept old,?_⟩
 ·rcases ha with e | e
  ·exact key a _ e (.inl rfl)
  ·exact key a _ e (.inr rfl)
 ·rcases (hf b hb).2.2.2.1 with z | z
  ·exact I.ok.noex b o e z
  ·exact absurd (a0i (Heap.lt_size (I.ok.bs b o e).1) z) (a08 _)
 ·obtain ⟨k,rfl,e2'⟩:=kn e2
  have e1':ys[k]?=some y:=by
   have e1'':(pre++ys)[pre.length+k]?=some y:=e1
   rw [a0I (by omega),Nat.add_sub_cancel_left] at e1''
   exact e1''
  obtain ⟨i,c,g1,g2,g3,g4,g5,g6,g7⟩:=fr.get (σ:=σ) e1' e2'
  obtain ⟨m0,hn0,hl0⟩:=I.loc
  obtain ⟨u,r,l⟩:=hl0 i y v g1 g2 g3
  rcases l with ⟨k,_⟩ | ⟨_,c',e',z⟩
  ·rcases g4 with q | q
   ·rw [k] at q; cases q
   ·rw [k] at q; cases q
  ·rw [g5] at e'
   cases e'
   obtain ⟨o,ho,hd⟩:=z
   exact ⟨u,r,.inr ⟨g7,c,g6,⟨o,old _ _ ho,hd⟩⟩⟩
 ·obtain ⟨v,o,ho,hd⟩:=I.cell a c (hcl.get e)
  exact ⟨v,o,old _ _ ho,hd⟩
 ·obtain ⟨e,n,ne,nf,d⟩:=I.pin p hp
  exact ⟨old _ _ e,n,a0A (a0i (Heap.lt_size e) hC),stk _ ne nf,d⟩
 ·show (a0g pre.length none++ba σ is).length=(pre++ys).length
  unfold ba
  rw [a0b,a0b,a0G,a0d,fr.len]
end L3
namespace L3
open PySem PySem.Spec PyProof.Rows L2
end L3
namespace L3
open PySem PySem.Spec PyProof.Rows L2
end L3
namespace L3
open PySem PySem.Spec PyProof.Rows L2
end L3
namespace L3
open PySem PySem.Spec PyProof.Rows L2
end L3
namespace L3
open PySem PySem.Spec PyProof.Rows L2
section
variable {prog:Program}{w:World}{A:Around}{R:Result->Shared->Prop}{s:Shared}
theorem gU {elt tg iter cnd:Expr}{scope:Scope}{pos:Pos}{it acc:Value}{env:Env}(J:Nat->Shared->Prop)
  (turn:∀ n s,J n s->wpAny (model prog w) A (pyNext it) (fun r s₁=>match r with
   | none=>R (.ok .next) s₁
   | some v=>wpAny (model prog w) A (letOwnedTupleGo tg it v) (fun _ s₂=>wpAny (model prog w) A (assign tg env v) (fun _ s₃=>wpAny (model prog w) A (isTrue cnd env (eval cnd env)) (fun ok s₄=>if ok=true then
     wpAny (model prog w) A (eval elt env) (fun y s₅=>wpAny (model prog w) A (call (.builtin "list.append") [acc,y]) (fun _ s₆=>∃ m,m < n/\J m s₆) noX s₅) noX s₄ else ∃ m,m < n/\J m s₄) noX s₃) noX s₂) noX s₁) noX s)
  (n:Nat) (h:J n s):codeAny (model prog w) A (.compLoop (.ListComp elt [⟨tg,iter,[cnd],0⟩] scope pos) 0 it acc env) R s:=by
 refine codeAny_loop rfl J (fun n s hJ=>?_) n h
 show wpAny _ A ((compTurn (.ListComp elt [⟨tg,iter,[cnd],0⟩] scope pos) 0 it acc env).onRaise (fun x=>do noteFrame x env; theTreesLotGoes x)) _ _ s
 refine wpAny_noted ?_
 rw [compTurn_list]
 refine wpAny_bind (wpAny_standAt (wpAny_bind (wpAny_mono (turn n s hJ) (fun r s₁ h₁=>?_) fun _ _ z=>z.elim)))
 cases r with
 | none=>exact wpAny_pure h₁
 | some v =>
  refine wpAny_bind (wpAny_mono h₁ (fun _ s₂ h₂=>?_) fun _ _ z=>z.elim)
  refine wpAny_bind (wpAny_mono h₂ (fun _ s₃ h₃=>?_) fun _ _ z=>z.elim)
  refine wpAny_bind (wpAny_tests_one (wpAny_mono h₃ (fun ok s₄ h₄=>?_) fun _ _ z=>z.elim))
  cases ok with
  | true=>exact wpAny_bind (wpAny_bind (wpAny_mono h₄ (fun y s₅ h₅=>wpAny_bind (wpAny_mono h₅ (fun _ s₆ h₆=>wpAny_pure (wpAny_pure ⟨rfl,h₆⟩)) fun _ _ z=>z.elim)) fun _ _ z=>z.elim))
  | false=>exact wpAny_bind (wpAny_pure (wpAny_pure ⟨rfl,h₄⟩))
end
end L3

namespace L3
open PySem PySem.Spec PyProof.Rows L2
noncomputable def qd (n:Nat)(J:It)(g:TG)(tc:TT)(te:TE)(σ':L2.St)(H1:Hp)(Q:VK):Prop:=∃ W:Nat->Nat->List V->Hp->Prop,(∃ m,W 0 m [] H1)/\∀ i m ys H,W i m ys H ->
 (J.stop i H/\ys.length<=sizeLine/\∀ p,H p=none->Q (.ref p) (upd H p (.lst ys))) \/
 (J.go i H/\ys.length < sizeLine/\∀ x H',J.yld i H x H'->g x (a0g n none++σ') H' fun σ2 H2=>(σ2.length=n+σ'.length/\σ2.drop n=σ')/\tc σ2 H2 fun ok H3=>if ok=true then te σ2 H3 fun y H4=>∃ m',m' < m/\W (i+1) m' (ys++[y]) H4 else ∃ m',m' < m/\W (i+1) m' ys H3)
noncomputable def qa (n:Nat)(J:It)(g:TG)(te:TE)(σ':L2.St)(H1:Hp)(Q:VK):Prop:=∃ W:Nat->Nat->List V->Hp->Prop,(∃ m,W 0 m [] H1)/\∀ i m ys H,W i m ys H ->
 (J.stop i H/\ys.length<=sizeLine/\∀ p,H p=none->Q (.ref p) (upd H p (.lst ys))) \/
 (J.go i H/\ys.length < sizeLine/\∀ x H',J.yld i H x H'->g x (a0g n none++σ') H' fun σ2 H2=>(σ2.length=n+σ'.length/\σ2.drop n=σ')/\te σ2 H2 fun y H4=>∃ m',m' < m/\W (i+1) m' (ys++[y]) H4)
noncomputable def fM (n:Nat)(wi:TI)(is:List Nat)(g:TG)(tc:TT)(te:TE):TE:=fun σ H Q=>wi σ H fun J H1=>qd n J g tc te (ba σ is) H1 Q
noncomputable def fF (n:Nat)(wi:TI)(is:List Nat)(g:TG)(te:TE):TE:=fun σ H Q=>wi σ H fun J H1=>qa n J g te (ba σ is) H1 Q
theorem nI {n:Nat}{σ2 σ':L2.St}(h:σ2.drop n=σ'){j:Nat}{w:V}(e:(a0g n none++σ')[j]?=some (some w)):σ2[j]?=some (some w):=by
 by_cases hj:j < n
 ·rw [a0U (by simpa using hj),a1t,if_pos hj] at e
  cases a0z e
 ·rw [a0I (by simpa using hj),a0G,<- h,List.getElem?_drop,Nat.add_sub_cancel' (by omega)] at e
  exact e
noncomputable def CW (X:Cx)(cs:List Expr)(k:Bool->Shared->Prop)(s:Shared):Prop:=match cs with
 | []=>k true s
 | [c]=>wpAny (model X.prog X.w) X.A (isTrue c X.env (eval c X.env)) k noX s
 | _=>False
noncomputable def PC (X:Cx)(cs:List Expr)(tc:TT):Prop:=∀ (pins:List (Addr×Obj)) (s:Shared) (σ:L2.St) (H:Hp) (Q:Bool->Hp->Prop),Inv X pins σ H s->tc σ H Q->CW X cs (fun ok s'=>∃ H',Inv X pins σ H' s'/\Q ok H') s
theorem CW.mono {X:Cx}{cs:List Expr}{k k':Bool->Shared->Prop}{s:Shared}(h:CW X cs k s)(w:∀ b s,k b s->k' b s):CW X cs k' s:=by
 match cs,h with
 | [],h=>exact w _ _ h
 | [c],h=>exact wpAny_mono h w fun _ _ z=>z
theorem gr {X:Cx}{elt tg iter:Expr}{cs:List Expr}{scope:Scope}{pos:Pos}{it acc:Value}{R:Result->Shared->Prop}{s:Shared}(J:Nat->Shared->Prop)
  (turn:∀ n s,J n s->wpAny (model X.prog X.w) X.A (pyNext it) (fun r s₁=>match r with
   | none=>R (.ok .next) s₁
   | some v=>wpAny (model X.prog X.w) X.A (letOwnedTupleGo tg it v) (fun _ s₂=>wpAny (model X.prog X.w) X.A (assign tg X.env v) (fun _ s₃=>CW X cs (fun ok s₄=>if ok=true then
     wpAny (model X.prog X.w) X.A (eval elt X.env) (fun y s₅=>wpAny (model X.prog X.w) X.A (call (.builtin "list.append") [acc,y]) (fun _ s₆=>∃ m,m < n/\J m s₆) noX s₅) noX s₄ else ∃ m,m < n/\J m s₄) s₃) noX s₂) noX s₁) noX s)
  (n:Nat) (h:J n s) (hcs:cs.length<=1):codeAny (model X.prog X.w) X.A (.compLoop (.ListComp elt [⟨tg,iter,cs,0⟩] scope pos) 0 it acc X.env) R s:=by
 match cs,hcs with
 | [],_=>exact ik J turn n h
 | [c],_=>exact gU J turn n h
theorem gM {X:Cx}{elt iter tg:Expr}{cs:List Expr}{pre:List Str}{pos:Pos}{scope:Scope}{cl:List (Str×Addr)}{ys:List Str}{is:List Nat}{wi:TI}{g:TG}{te:TE}{tc:TT}{use:Option (Value->Sem Unit)}{Q:VK}{Qp:Value->Shared->Prop}{pins:List (Addr×Obj)}{s:Shared}{σ:L2.St}{H:Hp}{ip:Pos}
  (hc:X.calm=true) (hi:PI X tg iter wi) (hg:∀ C s H fp,PG (ag X (pre++ys) scope cl C s H fp) tg g) (he:∀ C s H fp,PE (ag X (pre++ys) scope cl C s H fp) elt te) (hcd:∀ C s H fp,PC (ag X (pre++ys) scope cl C s H fp) cs tc) (hcs:cs.length<=1)
  (hclos:closureFor scope X.env=pure cl) (S:au pre ys scope) (hcl:Clo X cl) (hfr:(scope.names.all fun p=>p.2 != .free || (cl.lookup p.1).isSome)=true) (fr:Frees X scope cl ys is) (hs:∀ v,foldedSetIterable iter X.env v=pure v)
  (fin:∀ (s4:Shared) (Hn:Hp) (D L:Addr) (m4:Str->Option Value),Inv X pins σ Hn s4->s4.heap.Ns L m4->L≠X.env.locals->(∀ a c,X.env.cells.lookup a=some c->c≠L)->Hn L=none->X.s₀.heap.objs.size<=L->(∀ p∈X.pn++pins,p.1≠L)->Q (.ref D) Hn->compPost (model X.prog X.w) X.A X.xe use Qp (.ref D) L (.ok .next) s4)
  (I:Inv X pins σ H s) (h:fM pre.length wi is g tc te σ H Q) :
  wpAny (model X.prog X.w) X.A (comprehension (.ListComp elt [⟨tg,iter,cs,0⟩] scope pos) scope X.env ip (newList []) false (eval iter X.env) use) Qp X.xe s:=by
 refine wpAny_comprehension_free (use:=use) rfl hs hclos S.kind S.nm (thn (hi pins s σ H _ I h) fun xv s1 h1=>thn h1 fun itv s2 h2=>?_)
 obtain ⟨it,fp,tn,J,H2,rfl,I2,T,st2,f2,W,⟨m0,w0⟩,turn⟩:=h2
 have fpo:∀ b∈fp,b < s2.heap.objs.size:=fun b hb=>by
  obtain ⟨o,e,_⟩:=T.obj _ _ st2 b hb
  exact Heap.lt_size e
 refine wpAny_newObj_type (wpAny_newFunctionEnv S.cell (fun y hy=>by cases hy) (fun g' hns hsb=>?_) S.kind)
 dsimp only at hns hsb ⊢
 generalize hP2:s2.heap.push { cls:=.type "list",dict:=none,data:=.seq ([]:List Value).toArray }=P2 at hns hsb ⊢
 have hCs:P2.objs.size=s2.heap.objs.size+1:=by rw [<- hP2,Heap.size_push]
 have hDC:s2.heap.objs.size≠P2.objs.size:=by omega
 have hle:s2.heap.objs.size<=P2.objs.size:=by omega
 have nc:∀ b o,s2.heap.get? b=some o->b≠P2.objs.size:=fun b o e=>a0A (a0i (Heap.lt_size e) hle)
 have nd:∀ b o,s2.heap.get? b=some o->b≠s2.heap.objs.size:=fun b o e=>a0A (Heap.lt_size e)
 have ndH:∀ b u,H2 b=some u->b≠s2.heap.objs.size:=fun b u e=>a0A (I2.hok.lt e)
 have old:∀ b o,s2.heap.get? b=some o->g'.get? b=some o:=fun b o e=>hsb.extBut b o (nc b o e) (Heap.get?_push_of_some _ (hP2 ▸ Heap.get?_push_of_some _ e))
 have accD:g'.get? s2.heap.objs.size=some (fD []):=hsb.extBut _ _ hDC (Heap.get?_push_of_some _ (hP2 ▸ Heap.get?_push_size _ rfl))
 have stkD:s2.heap.objs.size ∉ frs X.stack:=fun hb=>(a0w.mp (I2.stkSub _ hb)).elim (fun z=>absurd z (a1p I2.lt)) (I2.nofs (a0j _))
 generalize hσ':ba σ is=σ' at turn
 have I3:Inv (ag X (pre++ys) scope cl P2.objs.size s2 H2 fp) pins (a0g pre.length none++σ') H2 { s2 with heap:=g',toks:=s2.toks+([]:List (Str×Value)).length }:=by rw [<- hσ']; exact jQ (pre:=pre) I2 f2 fpo S hcl hfr fr hle old hns
 have stat:∀ {H':Hp} {o:Obj},(∀ b∈fp,H' b=none)->∀ b∈fp,dZ (ag X (pre++ys) scope cl P2.objs.size s2 H2 fp) (pins++[(s2.heap.objs.size,o)]) H' b:=fun {H' o} hn b hb=>by
  refine ⟨hn b hb,a0A (a0i (fpo b hb) hle),fun z=>(a0w.mp (I2.stkSub _ z)).elim (f2 b hb).2.1 (f2 b hb).2.2.1,.inl hb,fun a c e=>(f2 b hb).2.2.2.2.1 a c (hcl.get e),fun p hp=>?_⟩
  rcases a0L.mp hp with z | z
  ·exact (f2 b hb).2.2.2.2.2 p (a0J _ z)
  ·rcases a0L.mp z with z | z
   ·exact (f2 b hb).2.2.2.2.2 p (a0f _ z)
   ·rw [a0r.mp z]
    exact a1p (fpo b hb)
 have loop:codeAny (model X.prog X.w) X.A (.compLoop (.ListComp elt [⟨tg,iter,cs,0⟩] scope pos) 0 (.ref it) (.ref s2.heap.objs.size) (compEnvC scope cl P2.objs.size X.env))
   (compPost (model X.prog X.w) X.A X.xe use Qp (.ref s2.heap.objs.size) P2.objs.size) { s2 with heap:=g',toks:=s2.toks+([]:List (Str×Value)).length }:=by
  refine gr (X:=ag X (pre++ys) scope cl P2.objs.size s2 H2 fp) (fun n s'=>∃ i zs its H',Inv (ag X (pre++ys) scope cl P2.objs.size s2 H2 fp) pins (a0g pre.length none++σ') H' s'/\tn i s'.heap/\(∀ b∈fp,H' b=none)/\s'.heap.get? s2.heap.objs.size=some (fD its)/\Vals zs its/\H' s2.heap.objs.size=none/\W i n zs H')
   ?_ m0 ⟨0,[],[],H2,I3,T.keep _ _ _ st2 (fun b _ o e=>old b o e),fun b hb=>(f2 b hb).1,accD,.nil,I2.hok.fresh (a0j _),w0⟩ hcs
  rintro n s3 ⟨i,zs,its,H3,J3,st3,fr3,d3,rv3,nd3,w3⟩
  have hzl:=rv3.length
  have J3':Inv (ag X (pre++ys) scope cl P2.objs.size s2 H2 fp) (pins++[(s2.heap.objs.size,fD its)]) (a0g pre.length none++σ') H3 s3:=J3.pins_of fun p hp=>by
   rcases a0L.mp hp with z | z
   ·exact J3.pin p (a0f _ z)
   ·rw [a0r.mp z]
    exact ⟨d3,nd3,hDC,stkD,fun v q=>by cases q⟩
  rcases turn i n zs H3 w3 with ⟨stop,hz,q⟩ | ⟨go,hz,step⟩
  ·refine wpAny_mono (T.done (ag X (pre++ys) scope cl P2.objs.size s2 H2 fp) rfl rfl rfl hc i _ s3 _ H3 noX J3' (stat fr3) st3 stop) (fun r s4 h4=>?_) fun _ _ z=>z.elim
   obtain ⟨hr,I4⟩:=h4
   subst hr
   obtain ⟨m4,hn4,_⟩:=id I4.loc
   have f4:H3 P2.objs.size=none:=I4.free
   have d4:s4.heap.get? s2.heap.objs.size=some (fD its):=(I4.pin (s2.heap.objs.size,fD its) (a0f _ (a0f _ (a0r.mpr rfl)))).1
   have u4:Un (frs X.stack) fp H2 H3 s2.heap s4.heap:=I4.base
   have un:Un (frs X.stack) fp H2 (upd H3 s2.heap.objs.size (.lst zs)) s2.heap s4.heap :=
    ⟨u4.keep,u4.slot,fun b o e n hx=>by rw [ab (nd b o e)]; exact u4.free b o e n hx,u4.there,
     fun b xs q=>by rw [ab (ndH b _ q)]; exact u4.tups b xs q,fun b o u q=>by rw [ab (ndH b _ q)]; exact u4.frzs b o u q,fun b ps q=>by rw [ab (ndH b _ q)]; exact u4.tbls b ps q⟩
   have IX:Inv X pins σ (upd H3 s2.heap.objs.size (.lst zs)) s4:=I2.call' (s':=s4) (ch:=fp) I4.os un (eF I4.hok nd3 ⟨hz,its,its.length,rv3,d4⟩) I4.bare
    (fun b hb=>⟨(f2 b hb).2.2.2.1,(f2 b hb).2.1,(f2 b hb).2.2.2.2.1,(f2 b hb).2.2.2.2.2⟩)
   have cL:P2.objs.size≠X.env.locals:=a1p (a0i I2.lt hle)
   have cC:∀ a c,X.env.cells.lookup a=some c->c≠P2.objs.size:=fun a c e=>by
    obtain ⟨v',o',ho',_⟩:=I2.cell a c e
    exact nc c o' ho'
   exact fin s4 _ s2.heap.objs.size P2.objs.size m4 IX hn4 cL cC (by rw [ab (a2y hDC)]; exact f4) (a0s I2.sz hle) (fun p hp=>nc p.1 _ (I2.pin p hp).1) (q _ nd3)
  ·refine wpAny_mono (T.item (ag X (pre++ys) scope cl P2.objs.size s2 H2 fp) rfl rfl rfl hc i _ s3 _ H3 noX J3' (stat fr3) st3 go) (fun r s4 h4=>?_) fun _ _ z=>z.elim
   obtain ⟨u,hr,h4⟩:=h4
   subst hr
   refine wpAny_mono h4 (fun _ s5 h5=>?_) fun _ _ z=>z.elim
   obtain ⟨v,H5,I5,r5,y5,st5,fr5⟩:=h5
   have I5':=I5.pinned (stat fr5) (T.obj _ _ st5)
   refine wpAny_mono (hg P2.objs.size s2 H2 fp _ s5 _ H5 v u _ I5' r5 (step v H5 y5)) (fun _ s6 h6=>?_) fun _ _ z=>z.elim
   obtain ⟨σ6,H6,I6,⟨hl6,hd6⟩,step'⟩:=h6
   have back:∀ {H7:Hp} {s7:Shared},Inv (ag X (pre++ys) scope cl P2.objs.size s2 H2 fp) ((pins++[(s2.heap.objs.size,fD its)])++dP fp s5.heap) σ6 H7 s7->Inv (ag X (pre++ys) scope cl P2.objs.size s2 H2 fp) pins (a0g pre.length none++σ') H7 s7:=fun I7=>I7.unpinned.unpinned.weak (by rw [hl6,a0b,a0G]) fun j w' e=>nI hd6 e
   refine CW.mono (hcd P2.objs.size s2 H2 fp _ s6 _ H6 _ I6 step') fun ok s6' h6'=>?_
   obtain ⟨H6',I6',q6⟩:=h6'
   cases ok with
   | false =>
    rw [if_neg a0l] at q6
    obtain ⟨m',hm',w7⟩:=q6
    have pinD:=I6'.pin (s2.heap.objs.size,fD its) (a0f _ (a0J _ (a0f _ (a0r.mpr rfl))))
    rw [if_neg a0l]
    refine ⟨m',hm',i+1,zs,its,H6',back I6',T.keep _ _ _ st5 fun b hb o e=>?_,fun b hb=>?_,pinD.1,rv3,pinD.2.1,w7⟩
    ·exact (I6'.pin (b,o) (a0f _ (a0f _ (aW hb e)))).1
    ·obtain ⟨o,e,_⟩:=T.obj _ _ st5 b hb
     exact (I6'.pin (b,o) (a0f _ (a0f _ (aW hb e)))).2.1
   | true =>
    rw [if_pos rfl] at q6 ⊢
    refine wpAny_mono (he P2.objs.size s2 H2 fp _ s6' _ H6' _ I6' q6) (fun yv s7 h7=>?_) fun _ _ z=>z.elim
    obtain ⟨y',H7,I7,r7,m',hm',w7⟩:=h7
    have pinD:=I7.pin (s2.heap.objs.size,fD its) (a0f _ (a0J _ (a0f _ (a0r.mpr rfl))))
    refine append_at (hsz:=by show its.toArray.size<=sizeLine; rw [a0h]; omega) pinD.1 fun h8 sb8 hD8=>?_
    have I8:Inv (ag X (pre++ys) scope cl P2.objs.size s2 H2 fp) pins (a0g pre.length none++σ') H7 { s7 with heap:=h8 }:=(back I7).turned (t':=s7.toks) (it:=s2.heap.objs.size) (fun b o hb e=>(sb8.2 b hb).trans e) pinD.2.1 hDC (.inr (a0j _))
     (fun a c e z=>by
      obtain ⟨v',o',ho',_⟩:=I2.cell a c (hcl.get e)
      exact nd c o' ho' z)
     (fun p hp=>nd p.1 _ (I2.pin p hp).1)
    refine ⟨m',hm',i+1,zs++[y'],its++[yv],H7,I8,T.keep _ _ _ st5 fun b hb o e=>?_,fun b hb=>?_,?_,rv3.append (.cons r7 .nil),pinD.2.1,w7⟩
    ·exact (sb8.2 b (a0A (fpo b hb))).trans (I7.pin (b,o) (a0f _ (a0f _ (aW hb e)))).1
    ·obtain ⟨o,e,_⟩:=T.obj _ _ st5 b hb
     exact (I7.pin (b,o) (a0f _ (a0f _ (aW hb e)))).2.1
    ·show h8.get? s2.heap.objs.size=_
     rw [hD8]
     simp [fD]
 exact codeAny_compStart_list loop (T.self X.A 0 _ _ _ (T.keep _ _ _ st2 (fun b _ o e=>old b o e)) loop)
section
variable {X:Cx}{elt iter tg cnd:Expr}{pre:List Str}{pos spos pz:Pos}{z:Str}{jz:Nat}{scope:Scope}{cl:List (Str×Addr)}{ys:List Str}{is:List Nat}{wi:TI}{g:TG}{te:TE}{tc:TT}
noncomputable def tT:TT:=fun _ H Q=>Q true H
theorem pcN:PC X [] tT:=fun pins s σ H Q I q=>⟨H,I,q⟩
theorem goN {n:Nat}{σ:L2.St}{H:Hp}{Q:VK}(h:fF n wi is g te σ H Q):fM n wi is g tT te σ H Q:=h
theorem kF {cs:List Expr}(hc:X.calm=true)(hi:PI X tg iter wi)(hg:∀ C s H fp,PG (ag X (pre++ys) scope cl C s H fp) tg g)(he:∀ C s H fp,PE (ag X (pre++ys) scope cl C s H fp) elt te)(hcd:∀ C s H fp,PC (ag X (pre++ys) scope cl C s H fp) cs tc)(hcs:cs.length<=1)
  (hclos:closureFor scope X.env=pure cl) (S:au pre ys scope) (hcl:Clo X cl) (hfr:(scope.names.all fun p=>p.2 != .free || (cl.lookup p.1).isSome)=true) (fr:Frees X scope cl ys is) (hs:∀ v,foldedSetIterable iter X.env v=pure v) :
  PE X (.ListComp elt [⟨tg,iter,cs,0⟩] scope pos) (fM pre.length wi is g tc te):=by
 intro pins s σ H Q I h
 rw [eval_ListComp]
 show wpAny _ _ (comprehension _ scope X.env _ (newList []) false (eval iter X.env) none) _ _ s
 refine gM hc hi hg he hcd hcs hclos S hcl hfr fr hs (fun s4 Hn D L m4 IX hn cL cC hL hz hp q=>?_) I h
 exact ⟨m4,hn,fun h' sb=>⟨.ref D,_,IX.turned (t':=s4.toks) (it:=L) (fun b o hb e=>(sb.2 b hb).trans e) hL cL (.inr hz) cC hp,rfl,q⟩⟩
theorem kA {cs:List Expr}(hN:X.N.Nodup)(hj:X.N[jz]?=some z)(hzLoc:Loc X.env.scope z)(hsw:swapsWith (.ListComp elt [⟨tg,iter,cs,0⟩] scope pos) (some (.Name z pz)) spos.line X.env=pure true)(hc:X.calm=true)(hi:PI X tg iter wi)(hg:∀ C s H fp,PG (ag X (pre++ys) scope cl C s H fp) tg g)(he:∀ C s H fp,PE (ag X (pre++ys) scope cl C s H fp) elt te)(hcd:∀ C s H fp,PC (ag X (pre++ys) scope cl C s H fp) cs tc)(hcs:cs.length<=1)
  (hclos:closureFor scope X.env=pure cl) (S:au pre ys scope) (hcl:Clo X cl) (hfr:(scope.names.all fun p=>p.2 != .free || (cl.lookup p.1).isSome)=true) (fr:Frees X scope cl ys is) (hs:∀ v,foldedSetIterable iter X.env v=pure v) (hfn:X.fn z=true\/X.env.scope.names.lookup z=some .local) :
  PS X (.Assign [.Name z pz] (.ListComp elt [⟨tg,iter,cs,0⟩] scope pos) spos) (pE (fM pre.length wi is g tc te) (bR jz)):=by
 intro pins s σ H D I h
 rw [exec_Assign_Name_used _ _ _ _ hsw]
 refine wpAny_bind (wpAny_standAt (wpAny_bind ?_)); show wpAny _ _ (do let _ <- comprehension (.ListComp elt [⟨tg,iter,cs,0⟩] scope pos) scope X.env _ (newList []) false (eval iter X.env) (some (assign (.Name z pz) X.env))) _ _ s
 refine wpAny_bind (thn (gM (use:=some (assign (.Name z pz) X.env)) (Qp:=fun _ s'=>SP X pins D .next s') hc hi hg he hcd hcs hclos S hcl hfr fr hs (fun s4 Hn d L m4 IX hn cL cC hL hz hp q=>?_) I h) fun _ s' hq=>wpAny_pure (wpAny_pure hq))
 show wpAny _ _ (assign (.Name z pz) X.env (.ref d)) _ _ s4
 refine wpAny_assign_Name (eE IX hN hj hzLoc (v:=.ref d) rfl (fun s5 I5 h5=>?_) hfn)
 obtain ⟨a5,sb5,ha5⟩:=h5
 have na:L≠a5:=ha5.elim (fun e=>by rw [e]; exact cL) fun e=>a2y (cC _ _ e)
 exact ⟨m4,hn.sameBut sb5 na,fun h' sb=>⟨_,_,I5.turned (t':=s5.toks) (it:=L) (fun b o hb e=>(sb.2 b hb).trans e) hL cL (.inr hz) cC hp,q⟩⟩
theorem eI (hc:X.calm=true)(hi:PI X tg iter wi)(hg:∀ C s H fp,PG (ag X (pre++ys) scope cl C s H fp) tg g)(he:∀ C s H fp,PE (ag X (pre++ys) scope cl C s H fp) elt te)
  (hclos:closureFor scope X.env=pure cl) (S:au pre ys scope) (hcl:Clo X cl) (hfr:(scope.names.all fun p=>p.2 != .free || (cl.lookup p.1).isSome)=true) (fr:Frees X scope cl ys is) (hs:∀ v,foldedSetIterable iter X.env v=pure v:=by intro _; rfl) :
  PE X (.ListComp elt [⟨tg,iter,[],0⟩] scope pos) (fF pre.length wi is g te):=fun pins s σ H Q I h=>kF hc hi hg he (fun _ _ _ _=>pcN) (a03 _) hclos S hcl hfr fr hs pins s σ H Q I (goN h)
theorem jv (hN:X.N.Nodup)(hj:X.N[jz]?=some z)(hzLoc:Loc X.env.scope z)(hsw:swapsWith (.ListComp elt [⟨tg,iter,[],0⟩] scope pos) (some (.Name z pz)) spos.line X.env=pure true)(hc:X.calm=true)(hi:PI X tg iter wi)(hg:∀ C s H fp,PG (ag X (pre++ys) scope cl C s H fp) tg g)(he:∀ C s H fp,PE (ag X (pre++ys) scope cl C s H fp) elt te)
  (hclos:closureFor scope X.env=pure cl) (S:au pre ys scope) (hcl:Clo X cl) (hfr:(scope.names.all fun p=>p.2 != .free || (cl.lookup p.1).isSome)=true) (fr:Frees X scope cl ys is) (hs:∀ v,foldedSetIterable iter X.env v=pure v:=by intro _; rfl) (hfn:X.fn z=true\/X.env.scope.names.lookup z=some .local:=by first | exact .inl rfl | exact .inr rfl | assumption) :
  PS X (.Assign [.Name z pz] (.ListComp elt [⟨tg,iter,[],0⟩] scope pos) spos) (pE (fF pre.length wi is g te) (bR jz)):=fun pins s σ H D I h=>kA hN hj hzLoc hsw hc hi hg he (fun _ _ _ _=>pcN) (a03 _) hclos S hcl hfr fr hs hfn pins s σ H D I (goN h)
end
end L3

namespace L3
open PySem PySem.Spec PyProof.Rows L2
end L3
namespace L3
open PySem PySem.Spec PyProof.Rows L2
end L3
namespace L3
open PySem PySem.Spec PyProof.Rows L2
end L3

namespace L3
open PySem PySem.Spec PyProof.Rows L2
theorem bS:∀ {ns:List Int} {us:List Value},Vals (ns.map V.int) us->IntsAre us ns
 | [],_,.nil=>.nil
 | n::ns,_,.cons ⟨t,e⟩ r=>by cases e; exact .cons n t (bS r)
end L3
namespace L3
open PySem PySem.Spec PyProof.Rows L2
noncomputable abbrev qZ (h:Heap)(T:Addr)(a b c:Value):Prop:=h.get? T=some { cls:=.type "tuple",data:=.seq #[a,b,c] }
end L3
namespace L3
open PySem PySem.Spec PyProof.Rows L2
noncomputable def Z3 (n a1 a2 a3:Nat)(i:Nat)(h:Heap):Prop :=
 IsZip h (n+5) (n+3) (n+4) .none/\qZ h (n+3) (.ref n) (.ref (n+1)) (.ref (n+2))/\(∃ a b c,qZ h (n+4) a b c)/\ItO h false n a1 i/\ItO h false (n+1) a2 i/\ItO h false (n+2) a3 i
end L3

namespace M
open PySem (Str)
inductive T where
 | non | bl (b:Bool) | int (i:Int) | str (x:Str) | tup (ts:List T) | lst (ts:List T) | dct (ks vs:List T) | ins (c:Str) (fs:List Str) (vs:List T)
 | scr (ns:List Int)
 | gone
 deriving Inhabited
inductive Md where
 | s | d | o (m:Md)
 deriving DecidableEq,Inhabited
noncomputable def Md.kid:Md->Md
 | .s=>.s | .d=>.d | .o m=>m
noncomputable def Md.up:Md->Md
 | .d=>.d | m=>.o m
noncomputable def Md.meet:Md->Md->Md
 | .s,_=>.s | .d,m=>m | .o _,.s=>.s | .o a,.d=>.o a | .o a,.o b=>.o (a.meet b)
noncomputable def Md.le:Md->Md->Bool
 | .s,_=>true
 | .o a,.o b=>a.le b
 | .o _,.d=>true
 | .d,.d=>true
 | _,_=>false
noncomputable abbrev W:=Md×T
noncomputable abbrev Env:=List (Option W)
noncomputable def LIM:Nat:=16777215
noncomputable def T.leaf:T->Bool
 | .non | .bl _ | .int _ | .str _ | .scr _=>true
 | _=>false
noncomputable def T.isG:T->Bool
 | .gone=>true
 | _=>false
noncomputable def T.isN:T->Bool
 | .non=>true
 | _=>false
noncomputable def leaves (ts:List T):Bool:=ts.all T.leaf
inductive Op where
 | add | sub | mul | fdiv | mod | pow | neg | eq | ne | lt | le | gt | ge | is | isnot | isin | notin | ix | sl | sl1 | sl2 | sl3
 | len | isI (cs:List String) | max1 | min1 | count | fdivN | modN | intS | apd | list | tuple | sum | all | any | max | min | int | str | rng | sorted | join | split | abs | dict | get | lzip | isB | isnB
 deriving DecidableEq,Inhabited
inductive Ik where
 | seq | rng | enm | zip | sq2 | zip3
 deriving DecidableEq,Inhabited
inductive E where
 | var (i:Nat) | mv (i:Nat) | io (i:Nat) | cst (t:T) | glb (x:Str) (t:T)
 | tup (es:List E) | lst (h:Bool) (es:List E) | op (o:Op) (h:Bool) (es:List E) | wk (m:Md) (e:E)
 | and (a b:E) | or (a b:E) | not (a:E) | ifx (c a b:E) | chain (o p:Op) (a b c:E)
 | call (f:Nat) (es:List E) | comp (h:Bool) (k:Ik) (src:List E) (tg:List Nat) (cnd:Option E) (elt:E)
 | pop (i:Nat) (es:List E) | lenV (i:Nat)
 | tupA (es:List E) | qx (vs ls:List Nat) (e:E) | mvP (i:Nat) (p:List Nat)
 | callT (tab:List (Str×Nat)) (k:E) (es:List E) | inT (neg:Bool) (ks:List Str) (e:E) | ixT (tab:List (Str×T)) (e:E) | getT (tab:List (Str×T)) (e:E)
 deriving Inhabited
inductive X where
 | q (vs ls:List Nat) | l (vs:List Nat)
 deriving Inhabited
inductive S where
 | asg (x:X) (i:Nat) (e:E) | asgT (x:X) (is:List Nat) (e:E) | setI (x:X) (i:Nat) (k e:E)
 | exp (x:X) (e:E) | app (x:X) (i:Nat) (e:E) | ext (x:X) (i:Nat) (e:E)
 | ret (vs:List Nat) (e:E) | retN | ite (x:X) (c:E) (a b:List S)
 | forS (vs ls:List Nat) (k:Ik) (src:List E) (tg:List Nat) (body:List S) | forU (k:Ik) (src:List E) (tg:List Nat) (body:List S) | whl (x:X) (c:E) (body:List S)
 | brk | pas | stop | tri (body:List S)
 deriving Inhabited
structure Fn where
 ps:Nat
 ns:Nat
 io:List Nat
 body:List S
inductive Res (α:Type) where
 | ok (a:α) | ex (c:Str) (x:List T) | no
noncomputable def Res.bind {α β:Type}:Res α->(α->Res β)->Res β
 | .ok a,f=>f a
 | .ex c x,_=>.ex c x
 | .no,_=>.no
noncomputable def ofO {α:Type}:Option α->Res α
 | some a=>.ok a
 | none=>.no
inductive Fl where
 | nx (η:Env) | rt (w:W) (η:Env) | bk (η:Env) | ex (c:Str) (x:List T) (η:Env) | no
noncomputable def truth:T->Option Bool
 | .non=>some false | .bl b=>some b | .int i=>some (i != 0) | .str x=>some (x.cps.size != 0) | .tup ts=>some (!ts.isEmpty) | .lst ts=>some (!ts.isEmpty) | .dct ks _=>some (!ks.isEmpty) | .ins ..=>none | .scr ns=>some (!ns.isEmpty) | .gone=>none
noncomputable def b2i:Bool->Int
 | true=>1 | false=>0
mutual
noncomputable def eqT:T->T->Bool
 | .non,.non=>true
 | .bl a,.bl b=>a==b
 | .bl a,.int i=>b2i a==i
 | .int i,.bl a=>i==b2i a
 | .int i,.int j=>i==j
 | .str x,.str y=>x==y
 | .tup ts,.tup us=>eqTs ts us
 | .lst ts,.lst us=>eqTs ts us
 | _,_=>false
noncomputable def eqTs:List T->List T->Bool
 | [],[]=>true
 | t::ts,u::us=>eqT t u&&eqTs ts us
 | _,_=>false
end
mutual
noncomputable def dp:T->Nat
 | .tup ts=>dps ts+1
 | .lst ts=>dps ts+1
 | .scr _=>1000
 | .dct _ _=>1000
 | .ins _ _ _=>1000
 | .gone=>1000
 | _=>0
noncomputable def dps:List T->Nat
 | []=>0
 | t::ts=>max (dp t) (dps ts)
end
noncomputable def sOk (x:Str):Bool:=x.cps.all (· < 0x110000)&&decide (x.cps.size<=LIM)
noncomputable def ixN (n:Nat)(i:Int):Option Nat:=if 0<=i then (if i < n then some i.toNat else none) else if -(n:Int)<=i then some (i+n).toNat else none
noncomputable def atI {α:Type}(xs:List α)(i:Int):Option α:=(ixN xs.length i).bind fun j=>xs[j]?
noncomputable def sIx (n d:Nat):Option Int->Nat
 | none=>d
 | some i=>if i < 0 then (i+n).toNat else min i.toNat n
noncomputable def cut {α:Type}(xs:List α)(lo hi:Option Int):List α:=(xs.drop (sIx xs.length 0 lo)).take (sIx xs.length xs.length hi-sIx xs.length 0 lo)
noncomputable def T.ty:T->String
 | .non=>"NoneType" | .bl _=>"bool" | .int _=>"int" | .str _=>"str" | .tup _=>"tuple" | .lst _=>"list" | .dct ..=>"dict" | .ins ..=>"object" | .scr _=>"list" | .gone=>"gone"
noncomputable def isOne (c:String)(t:T):Bool:=t.ty==c || (t.ty=="bool"&&c=="int")
noncomputable def dY:List T->Option (List Int)
 | []=>some []
 | .int i::ts=>(dY ts).map (i::·)
 | _::_=>none
noncomputable def aN:List T->Option (List Bool)
 | []=>some []
 | .bl b::ts=>(aN ts).map (b::·)
 | _::_=>none
noncomputable def bQ:W->Option (List T)
 | (_,.tup ts)=>some ts
 | (_,.lst ts)=>some ts
 | _=>none
noncomputable def iQ:T->Bool
 | .non | .bl _ | .int _ | .str _=>true
 | _=>false
noncomputable def xT:List Int->Int
 | []=>0
 | [n]=>n
 | n::ns=>max n (xT ns)
noncomputable def wq:List Int->Int
 | []=>0
 | [n]=>n
 | n::ns=>min n (wq ns)
noncomputable def wR (x:Int):List Int->List Int
 | []=>[x]
 | y::ys=>if x<=y then x::y::ys else y::wR x ys
noncomputable def rz:List Int->List Int
 | []=>[]
 | x::xs=>wR x (rz xs)
noncomputable def strsOf:List T->Option (List Str)
 | []=>some []
 | .str x::ts=>(strsOf ts).map (x::·)
 | _::_=>none
noncomputable def spl (c:Nat):List Nat->List Nat->List (List Nat)
 | acc,[]=>[acc]
 | acc,x::xs=>if x=c then acc::spl c [] xs else spl c (acc++[x]) xs
noncomputable def splS (x:Str):List Str:=(spl 32 [] x.cps.toList).map fun l=>⟨l.toArray⟩
noncomputable def ng (l:List Nat):Nat:=l.foldl (fun a c=>a * 10+(c-48)) 0
noncomputable def decI (x:Str):Int:=match x.cps.toList with
 | 45::cs=>-((ng cs:Nat):Int)
 | cs=>((ng cs:Nat):Int)
noncomputable def strI (i:Int):Str:=Str.ofString (toString i)
noncomputable def xU:List T->List T->List T
 | t::ts,u::us=>.tup [t,u]::xU ts us
 | _,_=>[]
noncomputable def newL (h:Bool)(m:Md)(ts:List T):Option W:=if h then (if leaves ts then some (.d,.lst ts) else none) else some (m.up,.lst ts)
noncomputable def bq (n:Nat):Bool:=decide (n<=LIM)
noncomputable def oSem:Op->Bool->List W->Option W
 | .add,h,[(m,a),(n,b)]=>match a,b with
  | .int i,.int j=>some (.d,.int (i+j))
  | .str x,.str y=>if bq (x.cps.size+y.cps.size) then some (.d,.str (x++y)) else none
  | .lst ts,.lst us=>if bq (ts.length+us.length) then newL h (m.kid.meet n.kid) (ts++us) else none
  | .tup ts,.tup us=>if bq (ts.length+us.length)&&!ts.isEmpty then some (.s,.tup (ts++us)) else none
  | _,_=>none
 | .sub,_,[(_,.int i),(_,.int j)]=>some (.d,.int (i-j))
 | .mul,h,[(m,a),(_,b)]=>match a,b with
  | .int i,.int j=>if (decide (i.natAbs < 18446744073709551616)) || (decide (j.natAbs < 18446744073709551616)) then some (.d,.int (i * j)) else none
  | .lst ts,.int k=>if decide (k.natAbs < 4611686018427387904)&&bq (ts.length * k.toNat) then newL h .s (a0g k.toNat ts).flatten else none
  | _,_=>none
 | .fdiv,_,[(_,.int i),(_,.int j)]=>if decide (0 < j)&&decide (j < 1073741824) then some (.d,.int (i / j)) else none
 | .mod,_,[(_,.int i),(_,.int j)]=>if decide (0 < j) then some (.d,.int (i % j)) else none
 | .pow,_,[(_,.int i),(_,.int j)]=>if decide (0<=j)&&decide (j<=1000000)&&decide (i.natAbs < 18446744073709551616) then some (.d,.int (i ^ j.toNat)) else none
 | .fdivN,_,[(_,.int i),(_,.int j)]=>if (j != 0)&&decide (j.natAbs < 18446744073709551616) then some (.d,.int (i.fdiv j)) else none
 | .modN,_,[(_,.int i),(_,.int j)]=>if j != 0 then some (.d,.int (i.fmod j)) else none
 | .neg,_,[(_,.int i)]=>some (.d,.int (-i))
 | .eq,_,[(_,a),(_,b)]=>if decide (dp a<=64)&&decide (dp b<=64) then some (.d,.bl (eqT a b)) else none
 | .ne,_,[(_,a),(_,b)]=>if decide (dp a<=64)&&decide (dp b<=64) then some (.d,.bl (!eqT a b)) else none
 | .lt,_,[(_,.int i),(_,.int j)]=>some (.d,.bl (decide (i < j)))
 | .le,_,[(_,.int i),(_,.int j)]=>some (.d,.bl (decide (i<=j)))
 | .gt,_,[(_,.int i),(_,.int j)]=>some (.d,.bl (decide (j < i)))
 | .ge,_,[(_,.int i),(_,.int j)]=>some (.d,.bl (decide (j<=i)))
 | .is,_,[(_,a),(_,.non)]=>if a.isG then none else some (.d,.bl a.isN)
 | .isnot,_,[(_,a),(_,.non)]=>if a.isG then none else some (.d,.bl (!a.isN))
 | .ix,_,[(m,a),(_,.int i)]=>match a with
  | .lst ts=>(atI ts i).map fun t=>(m.kid,t)
  | .tup ts=>(atI ts i).map fun t=>(m.kid,t)
  | .str x=>(atI x.cps.toList i).map fun c=>(.d,.str ⟨#[c]⟩)
  | .scr ns=>(atI ns i).map fun n=>(.d,.int n)
  | _=>none
 | .sl,h,[(m,.lst ts)]=>newL h m.kid ts
 | .sl1,h,[(m,.lst ts),(_,.int i)]=>newL h m.kid (cut ts (some i) none)
 | .sl2,h,[(m,.lst ts),(_,.int i)]=>newL h m.kid (cut ts none (some i))
 | .sl3,h,[(m,.lst ts),(_,.int i),(_,.int j)]=>newL h m.kid (cut ts (some i) (some j))
 | .sl2,_,[(_,.scr ns),(_,.int i)]=>some (.d,.lst ((cut ns none (some i)).map T.int))
 | .sl1,_,[(_,.scr ns),(_,.int i)]=>some (.d,.lst ((cut ns (some i) none).map T.int))
 | .sl,_,[(_,.scr ns)]=>some (.d,.lst (ns.map T.int))
 | .sl1,_,[(_,.tup ts),(_,.int i)]=>some (.s,.tup (cut ts (some i) none))
 | .sl2,_,[(_,.tup ts),(_,.int i)]=>some (.s,.tup (cut ts none (some i)))
 | .sl3,_,[(_,.tup ts),(_,.int i),(_,.int j)]=>some (.s,.tup (cut ts (some i) (some j)))
 | .len,_,[(_,a)]=>match a with
  | .lst ts=>some (.d,.int ts.length)
  | .tup ts=>some (.d,.int ts.length)
  | .str x=>some (.d,.int x.cps.size)
  | .scr ns=>some (.d,.int ns.length)
  | .dct ks _=>some (.d,.int ks.length)
  | _=>none
 | .isI cs,_,[(_,a)]=>if a.isG then none else some (.d,.bl (cs.any fun c=>isOne c a))
 | .list,h,[(m,a)]=>match a with
  | .lst ts=>newL h m.kid ts
  | .tup ts=>newL h m.kid ts
  | .scr ns=>some (.d,.lst (ns.map T.int))
  | _=>none
 | .tuple,_,[(m,a)]=>match a with
  | .lst ts=>some (m.kid.up,.tup ts)
  | .tup ts=>some (m,.tup ts)
  | _=>none
 | .sum,_,[(_,.lst ts)]=>(dY ts).map fun ns=>(.d,.int ns.sum)
 | .all,_,[(_,.lst ts)]=>(aN ts).map fun bs=>(.d,.bl (bs.all id))
 | .any,_,[(_,.lst ts)]=>(aN ts).map fun bs=>(.d,.bl (bs.any id))
 | .max,_,[(_,.int i),(_,.int j)]=>some (.d,.int (if j > i then j else i))
 | .min,_,[(_,.int i),(_,.int j)]=>some (.d,.int (if j < i then j else i))
 | .rng,_,[(_,.int i),(_,.int j)]=>if decide (i.natAbs < 4611686018427387904)&&decide (j.natAbs < 4611686018427387904)&&bq (j-i).toNat then some (.d,.lst ((a0H (j-i).toNat).map fun (k:Nat)=>T.int (i+k))) else none
 | .isin,_,[(_,a),(n,b)]=>(bQ (n,b)).bind fun ts=>if iQ a&&ts.all iQ then some (.d,.bl (ts.any fun t=>eqT t a)) else none
 | .notin,_,[(_,a),(n,b)]=>(bQ (n,b)).bind fun ts=>if iQ a&&ts.all iQ then some (.d,.bl (!ts.any fun t=>eqT t a)) else none
 | .int,_,[(_,.int i)]=>some (.d,.int i)
 | .int,_,[(_,.bl b)]=>some (.d,.int (b2i b))
 | .abs,_,[(_,.int i)]=>some (.d,.int i.natAbs)
 | .max1,_,[(_,.lst ts)]=>(dY ts).bind fun ns=>if ns.isEmpty then none else some (.d,.int (xT ns))
 | .min1,_,[(_,.lst ts)]=>(dY ts).bind fun ns=>if ns.isEmpty then none else some (.d,.int (wq ns))
 | .sorted,_,[(_,.lst ts)]=>(dY ts).bind fun ns=>if decide (ns.length < 64) then some (.d,.lst ((rz ns).map T.int)) else none
 | .str,_,[(_,.int i)]=>if decide (i.natAbs < 10000000000000000000) then some (.d,.str (strI i)) else none
 | .intS,_,[(_,.str x)]=>if decide ((decI x).natAbs < 10000000000000000000)&&(strI (decI x)==x) then some (.d,.int (decI x)) else none
 | .join,_,[(_,.str z),(_,.lst ts)]=>(strsOf ts).bind fun ss=>if sOk (Str.join z ss)&&decide ((ss.map fun s=>s.cps.size+z.cps.size).sum<=LIM) then some (.d,.str (Str.join z ss)) else none
 | .split,_,[(_,.str z),(_,.str y)]=>if (y==Str.ofString " ")&&decide (z.cps.size+2<=LIM)&&(splS z).all sOk then some (.d,.lst ((splS z).map T.str)) else none
 | .apd,_,[(m,.lst ts),(_,_)]=>if m==.s then none else if decide (ts.length < LIM) then some (.d,.non) else none
 | .count,_,[(_,.lst ts),(_,.bl b)]=>(aN ts).map fun bs=>(.d,.int (bs.count b))
 | .isB,_,[(_,.bl a),(_,.bl b)]=>some (.d,.bl (a==b))
 | .isnB,_,[(_,.bl a),(_,.bl b)]=>some (.d,.bl (!(a==b)))
 | .lzip,_,[(m,a),(n,b)]=>(bQ (m,a)).bind fun ts=>(bQ (n,b)).bind fun us=>some ((m.kid.meet n.kid).up.up,.lst (xU ts us))
 | _,_,_=>none
noncomputable def rd:Env->Nat->Option W
 | [],_=>none
 | o::_,0=>o
 | _::η,i+1=>rd η i
noncomputable def wr:Env->Nat->Option W->Env
 | [],_,_=>[]
 | _::η,0,w=>w::η
 | o::η,i+1,w=>o::wr η i w
noncomputable abbrev put (η:Env)(i:Nat)(w:W):Env:=wr η i (some w)
noncomputable abbrev del (η:Env)(i:Nat):Env:=wr η i none
noncomputable def look:W->Option W
 | (.s,t)=>some (.s,t)
 | (_,t)=>if t.leaf=true then some (.d,t) else none
noncomputable def toS:Option W->Option W
 | some (_,t)=>some (.s,t)
 | none=>none
noncomputable def share:List Nat->Env->Env
 | [],η=>η
 | i::is,η=>share is (wr η i (toS (rd η i)))
noncomputable def lfO:Option W->Option W
 | some (_,t)=>if t.leaf=true then some (.d,t) else none
 | none=>none
noncomputable def dq:Env->Env
 | []=>[]
 | _::η=>none::dq η
noncomputable def iu:List Nat->Env->Env->Env
 | [],_,η=>η
 | i::is,η0,η=>iu is η0 (wr η i (toS (rd η0 i)))
noncomputable def eg:List Nat->Env->Env->Env
 | [],_,η=>η
 | i::is,η0,η=>eg is η0 (wr η i (lfO (rd η0 i)))
noncomputable def cK (vs ls:List Nat)(η:Env):Env:=eg ls η (iu vs η (dq η))
noncomputable def after (m:Md)(vs:List Nat)(η:Env):Env:=match m with
 | .d=>η
 | _=>share vs η
noncomputable def aK:List Nat->List W->Env->Option Env
 | [],[],η=>some η
 | i::is,w::ws,η=>aK is ws (put η i w)
 | _,_,_=>none
noncomputable def rE (m:Md):Nat->List T->List (List W)
 | _,[]=>[]
 | i,t::ts=>[(.d,.int i),(m,t)]::rE m (i+1) ts
noncomputable def cq (m n:Md):List T->List T->List (List W)
 | t::ts,u::us=>[(m,t),(n,u)]::cq m n ts us
 | _,_=>[]
noncomputable def nr:List T->Option (List (List W))
 | []=>some []
 | .tup [x,y]::ts=>(nr ts).map ([(.s,x),(.s,y)]::·)
 | _::_=>none
noncomputable def l9:List T->List T->List T->List (List W)
 | t::ts,u::us,v::vs=>[(.s,t),(.s,u),(.s,v)]::l9 ts us vs
 | _,_,_=>[]
noncomputable def aT:Ik->List W->Option (List (List W))
 | .seq,[(_,.lst ts)]=>some (ts.map fun t=>[(.s,t)])
 | .seq,[(_,.tup ts)]=>some (ts.map fun t=>[(.s,t)])
 | .seq,[(_,.scr ns)]=>some (ns.map fun n=>[(.d,.int n)])
 | .rng,[(_,.int n)]=>if decide (n.natAbs < 4611686018427387904)&&bq n.toNat then some ((a0H n.toNat).map fun (k:Nat)=>[(.d,.int k)]) else none
 | .rng,[(_,.int i),(_,.int j)]=>if decide (i.natAbs < 4611686018427387904)&&decide (j.natAbs < 4611686018427387904)&&bq (j-i).toNat then some ((a0H (j-i).toNat).map fun (k:Nat)=>[(.d,.int (i+k))]) else none
 | .enm,[(_,.lst ts)]=>some (rE .s 0 ts)
 | .zip,[(m,a),(n,b)]=>(bQ (m,a)).bind fun ts=>(bQ (n,b)).bind fun us=>some (cq .s .s ts us)
 | .sq2,[(_,.lst ts)]=>nr ts
 | .zip3,[(_,.lst ts),(_,.lst us),(_,.lst vs)]=>some (l9 ts us vs)
 | _,_=>none
noncomputable abbrev Call:=Nat->List W->Res (W×List W)
noncomputable abbrev RE:=Res (W×Env)
noncomputable def lf (m:Md)(t:T):Md:=if t.leaf=true then .d else m
noncomputable def d9:List W->Md
 | []=>.d
 | w::ws=>(lf w.1 w.2).meet (d9 ws)
noncomputable def aH:List W->List T
 | []=>[]
 | w::ws=>w.2::aH ws
noncomputable def af:List Nat->Env->Env
 | [],η=>η
 | i::is,η=>af is (del η i)
noncomputable def ios:List E->List Nat
 | []=>[]
 | .io i::es=>i::ios es
 | _::es=>ios es
noncomputable def putAll:List Nat->List W->Env->Env
 | i::is,w::ws,η=>putAll is ws (put η i w)
 | _,_,η=>η
noncomputable def xJ:W->List W->Option (W×W)
 | (.s,_),_=>none
 | (m,.lst ts),[]=>(ts.getLast?).map fun t=>((m.kid,t),(m,.lst ts.dropLast))
 | (m,.lst (t::ts)),[(_,.int 0)]=>some ((m.kid,t),(m,.lst ts))
 | _,_=>none
noncomputable def ey:W->W->Option W
 | (.s,_),_=>none
 | (m,.lst ts),(n,t)=>if ts.length < LIM then some ((m.kid.meet (lf n t)).up,.lst (ts++[t])) else none
 | _,_=>none
noncomputable def eC:W->W->Option W
 | (.s,_),_=>none
 | (m,.lst ts),(n,.lst us)=>if ts.length+us.length<=LIM then some ((m.kid.meet n.kid).up,.lst (ts++us)) else none
 | _,_=>none
noncomputable def gz:W->W->W->Option W
 | (.s,_),_,_=>none
 | (m,.lst ts),(_,.int j),(n,t)=>(ixN ts.length j).map fun k=>((m.kid.meet (lf n t)).up,.lst (ts.set k t))
 | _,_,_=>none
noncomputable def dF:Option W->Res Unit
 | some (_,.lst _)=>.ok ()
 | _=>.no
noncomputable def wD:W->Option (List W)
 | (m,.tup ts)=>some (ts.map fun t=>(m.kid,t))
 | _=>none
noncomputable def ret {α:Type}(η:Env)(o:Option α):Res (α×Env):=match o with
 | some a=>.ok (a,η)
 | none=>.no
noncomputable def onB {α:Type}:T->(Env->Res α)->(Env->Res α)->Env->Res α
 | .bl true,f,_,η=>f η
 | .bl false,_,g,η=>g η
 | _,_,_,_=>.no
noncomputable def onT {α:Type}(f g:Env->Res α)(p:W×Env):Res α:=match truth p.1.2 with
 | some true=>f p.2
 | some false=>g p.2
 | none=>.no
noncomputable def okW {α:Type}(a:α)(η:Env):Res (α×Env):=.ok (a,η)
noncomputable def iI (p:List W×Env):RE:=.ok (((d9 p.1).up,.tup (aH p.1)),p.2)
noncomputable def lY (h:Bool)(p:List W×Env):RE:=.ok ((if h then (d9 p.1).up else .o .s,.lst (aH p.1)),p.2)
noncomputable def kWk (m:Md)(p:W×Env):RE:=ret p.2 (if m.le p.1.1 then some (m,p.1.2) else none)
noncomputable def kOp (o:Op)(h:Bool)(p:List W×Env):RE:=ret p.2 (oSem o h p.1)
noncomputable def kx (f:Env->RE)(p:W×Env):RE:=onT f (okW p.1) p
noncomputable def kOr (f:Env->RE)(p:W×Env):RE:=onT (okW p.1) f p
noncomputable def nu (p:W×Env):RE:=ret p.2 ((truth p.1.2).map fun b=>(.d,.bl (!b)))
noncomputable def kC3 (q:Op)(y:W)(z:W×Env):RE:=ret z.2 (oSem q false [y,z.1])
noncomputable def then' {α β:Type}(f:Env->Res (α×Env))(k:α×Env->Res β)(η:Env):Res β:=(f η).bind k
noncomputable def kC2 (o q:Op)(fc:Env->RE)(x:W)(y:W×Env):RE:=(ret y.2 (oSem o false [x,y.1])).bind fun k=>onB k.1.2 (then' fc (kC3 q y.1)) (okW (.d,.bl false)) k.2
noncomputable def kC1 (o q:Op)(fb fc:Env->RE)(x:W×Env):RE:=(fb x.2).bind (kC2 o q fc x.1)
noncomputable def gf (is:List Nat)(η:Env)(r:W×List W):RE:=.ok (r.1,putAll is r.2 η)
noncomputable def d6 (C:Call)(f:Nat)(is:List Nat)(p:List W×Env):RE:=(C f p.1).bind (gf is p.2)
noncomputable def eR (p:W×Env):Res (Option W×Env):=.ok (some p.1,p.2)
noncomputable def cZ (f:Env->RE)(η:Env):Res (Option W×Env):=(f η).bind eR
noncomputable def m7 (c f:Env->RE)(η:Env):Res (Option W×Env):=(c η).bind (onT (cZ f) (okW none))
noncomputable def aO (tg:List Nat)(f:Env->Res (Option W×Env)):List (List W)->Env->List W->Res (List W×Env)
 | [],η,acc=>.ok (acc,η)
 | ws::r,η,acc=>(ofO (aK tg ws η)).bind fun η1=>(f η1).bind fun p=>aO tg f r (af tg p.2) (acc++p.1.toList)
noncomputable def okD (w:W):Bool:=w.1==.d || w.2.leaf
noncomputable def gj (h:Bool)(q:List W×Env):RE:=ret q.2 (if h then (if q.1.all okD then some (.d,.lst (aH q.1)) else none) else some (.o .s,.lst (aH q.1)))
noncomputable def cD (h:Bool)(k:Ik)(tg:List Nat)(f:Env->Res (Option W×Env))(p:List W×Env):RE:=(ret (af tg p.2) (aT k p.1)).bind fun t=>(aO tg f t.1 t.2 []).bind (gj h)
noncomputable def nq (f:Env->Res (List W×Env))(η:Env)(k:List W×Env->RE)(_:Unit):RE:=(f η).bind k
noncomputable def pZ (i:Nat)(p:List W×Env):RE:=(ofO ((rd p.2 i).bind fun w=>xJ w p.1)).bind fun r=>.ok (r.1,put p.2 i r.2)
noncomputable def jc (w:W)(q:List W×Env):Res (List W×Env):=.ok (w::q.1,q.2)
noncomputable def aQ (f:Env->Res (List W×Env))(p:W×Env):Res (List W×Env):=(f p.2).bind (jc p.1)
noncomputable def takeP:List Nat->Md->T->Option (W×T)
 | [],m,t=>some ((m,t),.gone)
 | j::p,m,.lst ts=>(ts[j]?).bind fun t=>(takeP p m.kid t).map fun r=>(r.1,.lst (ts.set j r.2))
 | j::p,m,.tup ts=>(ts[j]?).bind fun t=>(takeP p m.kid t).map fun r=>(r.1,.tup (ts.set j r.2))
 | _::_,_,_=>none
noncomputable def takeW (p:List Nat)(w:W):Option (W×W):=(takeP p w.1 w.2).map fun r=>(r.1,(w.1,r.2))
noncomputable def kMvP (i:Nat)(η:Env)(r:W×W):RE:=.ok (r.1,put η i r.2)
noncomputable def jg {α:Type}(tab:List (Str×α))(f:α->Env->RE)(p:W×Env):RE:=match p.1.2 with
 | .str x=>match tab.lookup x with
  | some a=>f a p.2
  | none=>.no
 | _=>.no
noncomputable def kCT (C:Call)(fa:Env->Res (List W×Env))(is:List Nat)(j:Nat)(η:Env):RE:=(fa η).bind (d6 C j is)
noncomputable def kIn (neg:Bool)(ks:List Str)(p:W×Env):RE:=match p.1.2 with
 | .str x=>.ok ((.d,.bl (ks.contains x != neg)),p.2)
 | _=>.no
noncomputable def okS (t:T)(η:Env):RE:=.ok ((.s,t),η)
noncomputable def pK (tab:List (Str×T))(p:W×Env):RE:=match p.1.2 with
 | .str x=>.ok ((.s,(tab.lookup x).getD .non),p.2)
 | _=>.no
noncomputable def kX (vs:List Nat)(η:Env)(p:W×Env):RE:=.ok ((lf p.1.1 p.1.2,p.1.2),after (lf p.1.1 p.1.2) vs η)
noncomputable def kIo (i:Nat)(p:List W×Env):Res (List W×Env):=(ofO (rd p.2 i)).bind fun w=>.ok (w::p.1,del p.2 i)
section
variable (C:Call)
mutual
noncomputable def evE:E->Env->RE
 | .var i,η=>ret η ((rd η i).bind look)
 | .mv i,η=>ret (del η i) (rd η i)
 | .io i,η=>ret (del η i) (rd η i)
 | .cst t,η=>.ok ((.d,t),η)
 | .glb _ t,η=>.ok ((.s,t),η)
 | .tup es,η=>(evL es η).bind iI
 | .lst h es,η=>(evL es η).bind (lY h)
 | .wk m e,η=>(evE e η).bind (kWk m)
 | .op o h es,η=>(evL es η).bind (kOp o h)
 | .and a b,η=>(evE a η).bind (kx (evE b))
 | .or a b,η=>(evE a η).bind (kOr (evE b))
 | .not a,η=>(evE a η).bind nu
 | .ifx c a b,η=>(evE c η).bind (onT (evE a) (evE b))
 | .chain o q a b c,η=>(evE a η).bind (kC1 o q (evE b) (evE c))
 | .call f es,η=>(evA es η).bind (d6 C f (ios es))
 | .comp h k src tg none elt,η=>(evL src η).bind (cD h k tg (cZ (evE elt)))
 | .comp h k src tg (some c) elt,η=>(evL src η).bind (cD h k tg (m7 (evE c) (evE elt)))
 | .pop i es,η=>(dF (rd η i)).bind (nq (evL es) η (pZ i))
 | .lenV i,η=>ret η ((rd η i).bind fun w=>oSem .len false [w])
 | .tupA es,η=>(evA es η).bind iI
 | .qx vs ls e,η=>(evE e (cK vs ls η)).bind (kX vs η)
 | .mvP i p,η=>(ofO ((rd η i).bind (takeW p))).bind (kMvP i η)
 | .callT tab k es,η=>(evE k η).bind (jg tab (kCT C (evA es) (ios es)))
 | .inT neg ks e,η=>(evE e η).bind (kIn neg ks)
 | .ixT tab e,η=>(evE e η).bind (jg tab okS)
 | .getT tab e,η=>(evE e η).bind (pK tab)
noncomputable def evL:List E->Env->Res (List W×Env)
 | [],η=>.ok ([],η)
 | e::es,η=>(evE e η).bind (aQ (evL es))
noncomputable def evA:List E->Env->Res (List W×Env)
 | [],η=>.ok ([],η)
 | .io i::es,η=>(evA es η).bind (kIo i)
 | e::es,η=>(evE e η).bind (aQ (evA es))
end
noncomputable def kT (η:Env)(p:W×Env):Res (Bool×Env):=ret η (truth p.1.2)
noncomputable def kT2 (p:W×Env):Res (Bool×Env):=ret p.2 (truth p.1.2)
noncomputable def evX:X->E->Env->RE
 | .q vs ls,e,η=>(evE C e (cK vs ls η)).bind (kX vs η)
 | .l vs,e,η=>evE C e (share vs η)
noncomputable def evT:X->E->Env->Res (Bool×Env)
 | .q vs ls,e,η=>(evE C e (cK vs ls η)).bind (kT η)
 | .l vs,e,η=>(evE C e (share vs η)).bind kT2
noncomputable def Fl.of {α:Type}(η:Env):Res α->(α->Fl)->Fl
 | .ok a,f=>f a
 | .ex c x,_=>.ex c x η
 | .no,_=>.no
noncomputable def Fl.seq:Fl->(Env->Fl)->Fl
 | .nx η,f=>f η
 | z,_=>z
noncomputable def Fl.turn:Fl->(Env->Fl)->Fl
 | .nx η,f=>f η
 | .bk η,_=>.nx η
 | z,_=>z
noncomputable def onF:Bool->(Env->Fl)->(Env->Fl)->Env->Fl
 | true,f,_,η=>f η
 | false,_,g,η=>g η
noncomputable def gD (tg:List Nat)(f:Env->Fl):List (List W)->Env->Fl
 | [],η=>.nx η
 | ws::r,η=>Fl.of η (ofO (aK tg ws η)) fun η1=>Fl.turn (f η1) (gD tg f r)
noncomputable def kIf (f g:Env->Fl)(p:Bool×Env):Fl:=onF p.1 f g p.2
noncomputable def l4 (f:Env->Fl)(g:Env->Fl)(η:Env):Fl:=Fl.turn (f η) g
noncomputable def fP (c:Env->Res (Bool×Env))(f:Env->Fl):Nat->Env->Fl
 | 0,_=>.no
 | n+1,η=>Fl.of η (c η) (kIf (l4 f (fP c f n)) .nx)
noncomputable def j9:Nat:=1000000000000
noncomputable def nxO (η:Env):Option Env->Fl
 | some η=>.nx η
 | none=>.no
noncomputable def qw (i:Nat)(p:W×Env):Fl:=.nx (put p.2 i p.1)
noncomputable def qQ (is:List Nat)(p:W×Env):Fl:=nxO p.2 ((wD p.1).bind fun ws=>aK is ws p.2)
noncomputable def kU (i:Nat)(p:W×Env):Fl:=nxO p.2 (((rd p.2 i).bind fun w=>ey w p.1).map fun w=>put p.2 i w)
noncomputable def lF (i:Nat)(p:W×Env):Fl:=nxO p.2 (((rd p.2 i).bind fun w=>eC w p.1).map fun w=>put p.2 i w)
noncomputable def rh (i:Nat)(x:W)(q:W×Env):Fl:=nxO q.2 (((rd q.2 i).bind fun w=>gz w q.1 x).map fun w=>put q.2 i w)
noncomputable def tH (i:Nat)(f:Env->RE)(η:Env)(p:W×Env):Fl:=Fl.of η (f p.2) (rh i p.1)
noncomputable def ia (f:Env->RE)(η:Env)(k:W×Env->Fl)(_:Unit):Fl:=Fl.of η (f η) k
noncomputable def kNx (p:W×Env):Fl:=.nx p.2
noncomputable def kRt (p:W×Env):Fl:=.rt p.1 p.2
noncomputable def i8 (tg:List Nat)(f:Env->Fl)(t:List (List W)×Env):Fl:=gD tg f t.1 t.2
noncomputable def nM (vs:List Nat)(k:Ik)(tg:List Nat)(f:Env->Fl)(η:Env)(p:List W×Env):Fl:=Fl.of η (ret (share vs η) (aT k p.1)) (i8 tg f)
noncomputable def wF (k:Ik)(tg:List Nat)(f:Env->Fl)(p:List W×Env):Fl:=Fl.of p.2 (ret p.2 (aT k p.1)) (i8 tg f)
mutual
noncomputable def evS:S->Env->Fl
 | .asg x i e,η=>Fl.of η (evX C x e η) (qw i)
 | .asgT x is e,η=>Fl.of η (evX C x e η) (qQ is)
 | .setI x i k e,η=>Fl.of η (evX C x e η) (tH i (evX C x k) η)
 | .exp x e,η=>Fl.of η (evX C x e η) kNx
 | .app x i e,η=>Fl.of η (dF (rd η i)) (ia (evX C x e) η (kU i))
 | .ext x i e,η=>Fl.of η (dF (rd η i)) (ia (evX C x e) η (lF i))
 | .ret vs e,η=>Fl.of η (evE C e (share vs η)) kRt
 | .retN,η=>.rt (.d,.non) η
 | .ite x c a b,η=>Fl.of η (evT C x c η) (kIf (evSs a) (evSs b))
 | .forS vs ls k src tg body,η=>Fl.of η (evL C src (cK vs ls η)) (nM vs k tg (evSs body) η)
 | .forU k src tg body,η=>Fl.of η (evL C src η) (wF k tg (evSs body))
 | .whl x c body,η=>fP (evT C x c) (evSs body) j9 η
 | .brk,η=>.bk η
 | .pas,η=>.nx η
 | .stop,_=>.no
 | .tri body,η=>evSs body η
noncomputable def evSs:List S->Env->Fl
 | [],η=>.nx η
 | s::r,η=>Fl.seq (evS s η) (evSs r)
end
end
noncomputable def backs:List Nat->Env->Option (List W)
 | [],_=>some []
 | i::is,η=>(rd η i).bind fun w=>(backs is η).bind fun ws=>some (w::ws)
noncomputable def m8 (w:W)(b:List W):Res (W×List W):=.ok (w,b)
noncomputable def Fl.out (io:List Nat):Fl->Res (W×List W)
 | .nx η=>(ofO (backs io η)).bind (m8 (.d,.non))
 | .rt w η=>(ofO (backs io η)).bind (m8 w)
 | .ex c x _=>.ex c x
 | _=>.no
noncomputable def runF (C:Call)(f:Fn)(ws:List W):Res (W×List W) :=
 if ws.length=f.ps then Fl.out f.io (evSs C f.body (ws.map some++a0g f.ns none)) else .no
noncomputable abbrev yL:=List Fn
noncomputable def ti (n:Nat):List W->Res (W×List W)
 | [(m,t)]=>if (lf m t==.d&&(decide (dp t<=n)&&decide (dp t<=64)))=true then .ok ((.d,.non),[]) else .no
 | _=>.no
noncomputable def rG:List Nat->List T->List T
 | [],_=>[]
 | n::ns,ts=>.lst (ts.take n)::rG ns (ts.drop n)
noncomputable def nC:List T->Option (List Nat)
 | []=>some []
 | .int (.ofNat n)::ts=>(nC ts).map (n::·)
 | _::_=>none
noncomputable def xt:List W->Res (W×List W)
 | [(_,.lst ls),(m,.lst ts)]=>(ofO (nC ls)).bind fun ns=>.ok ((m.kid.up.up,.lst (rG ns ts)),[])
 | _=>.no
noncomputable def callR (P:yL)(s r:Nat):Nat->Call
 | 0=>fun _ _=>.no
 | n+1=>fun f ws=>if f=s then ti n ws else if f=r then xt ws else (ofO P[f]?).bind fun d=>runF (callR P s r n) d ws
noncomputable abbrev zf:Fn:={ ps:=0,ns:=0,io:=[],body:=[.stop] }
theorem sP (C:Call)(i:Nat)(η:Env):evE C (.var i) η=ret η ((rd η i).bind look):=rfl
theorem sQ (C:Call)(i:Nat)(η:Env):evE C (.mv i) η=ret (del η i) (rd η i):=rfl
theorem vL (C:Call)(i:Nat)(η:Env):evE C (.io i) η=ret (del η i) (rd η i):=rfl
theorem uc (C:Call)(t:T)(η:Env):evE C (.cst t) η=.ok ((.d,t),η):=rfl
theorem uU (C:Call)(es:List E)(η:Env):evE C (.tup es) η=(evL C es η).bind iI:=rfl
theorem sZ (C:Call)(h:Bool)(es:List E)(η:Env):evE C (.lst h es) η=(evL C es η).bind (lY h):=rfl
theorem uv (C:Call)(o:Op)(h:Bool)(es:List E)(η:Env):evE C (.op o h es) η=(evL C es η).bind (kOp o h):=rfl
theorem oB (C:Call)(a:E)(b:E)(η:Env):evE C (.and a b) η=(evE C a η).bind (kx (evE C b)):=rfl
theorem pw (C:Call)(a:E)(b:E)(η:Env):evE C (.or a b) η=(evE C a η).bind (kOr (evE C b)):=rfl
theorem qy (C:Call)(a:E)(η:Env):evE C (.not a) η=(evE C a η).bind nu:=rfl
theorem oS (C:Call)(c:E)(a:E)(b:E)(η:Env):evE C (.ifx c a b) η=(evE C c η).bind (onT (evE C a) (evE C b)):=rfl
theorem pI (C:Call)(o:Op)(q:Op)(a:E)(b:E)(c:E)(η:Env):evE C (.chain o q a b c) η=(evE C a η).bind (kC1 o q (evE C b) (evE C c)):=rfl
theorem pH (C:Call)(f:Nat)(es:List E)(η:Env):evE C (.call f es) η=(evA C es η).bind (d6 C f (ios es)):=rfl
theorem oT (C:Call)(h:Bool)(k:Ik)(src:List E)(tg:List Nat)(elt:E)(η:Env):evE C (.comp h k src tg none elt) η=(evL C src η).bind (cD h k tg (cZ (evE C elt))):=rfl
theorem oj (C:Call)(h:Bool)(k:Ik)(src:List E)(tg:List Nat)(c:E)(elt:E)(η:Env):evE C (.comp h k src tg (some c) elt) η=(evL C src η).bind (cD h k tg (m7 (evE C c) (evE C elt))):=rfl
theorem qA (C:Call)(i:Nat)(es:List E)(η:Env):evE C (.pop i es) η=(dF (rd η i)).bind (nq (evL C es) η (pZ i)):=rfl
theorem jr (C:Call)(i:Nat)(p:List Nat)(η:Env):evE C (.mvP i p) η=(ofO ((rd η i).bind (takeW p))).bind (kMvP i η):=rfl
theorem jM (C:Call)(i:Nat)(p:List Nat)(es:List E)(η:Env):evA C (.mvP i p::es) η=(evE C (.mvP i p) η).bind (aQ (evA C es)):=rfl
theorem oQ (p:List Nat)(m:Md)(t:T):takeW p (m,t)=(takeP p m t).map fun r=>(r.1,(m,r.2)):=rfl
theorem nF (m:Md)(t:T):takeP [] m t=some ((m,t),.gone):=rfl
theorem mI (j:Nat)(p:List Nat)(m:Md)(ts:List T):takeP (j::p) m (.lst ts)=(ts[j]?).bind fun t=>(takeP p m.kid t).map fun r=>(r.1,.lst (ts.set j r.2)):=rfl
theorem kf (j:Nat)(p:List Nat)(m:Md)(ts:List T):takeP (j::p) m (.tup ts)=(ts[j]?).bind fun t=>(takeP p m.kid t).map fun r=>(r.1,.tup (ts.set j r.2)):=rfl
theorem tX (h:Bool)(m n:Md)(ts:List T)(i:Int):oSem .sl2 h [(m,.lst ts),(n,.int i)]=newL h m.kid (cut ts none (some i)):=rfl
theorem ui (h:Bool)(m n:Md)(ts:List T)(k:Int):oSem .mul h [(m,.lst ts),(n,.int k)]=if decide (k.natAbs < 4611686018427387904)&&bq (ts.length * k.toNat) then newL h .s (a0g k.toNat ts).flatten else none:=rfl
theorem xf (h:Bool)(m n:Md)(i j:Int):oSem .min h [(m,.int i),(n,.int j)]=some (.d,.int (if j < i then j else i)):=rfl
theorem yp (h:Bool)(m n:Md)(i j:Int):oSem .max h [(m,.int i),(n,.int j)]=some (.d,.int (if j > i then j else i)):=rfl
theorem ph (m n:Md)(ts us:List T):aT .zip [(m,.lst ts),(n,.lst us)]=some (cq .s .s ts us):=rfl
theorem qG (m n:Md)(ts us:List T):aT .zip [(m,.tup ts),(n,.tup us)]=some (cq .s .s ts us):=rfl
theorem tG (m:Md)(ns:List Int):aT .seq [(m,.scr ns)]=some (ns.map fun n=>[(.d,.int n)]):=rfl
noncomputable def lkM:Md->Md
 | .s=>.s | _=>.d
theorem yO:lkM .s=.s:=rfl
theorem zh:lkM .d=.d:=rfl
theorem yK (m:Md):lkM (.o m)=.d:=rfl
theorem x5 (m:Md)(i:Int):look (m,.int i)=some (lkM m,.int i):=by cases m<;>rfl
theorem xq (m:Md)(b:Bool):look (m,.bl b)=some (lkM m,.bl b):=by cases m<;>rfl
theorem wo (m:Md)(x:Str):look (m,.str x)=some (lkM m,.str x):=by cases m<;>rfl
theorem wH (m:Md):look (m,.non)=some (lkM m,.non):=by cases m<;>rfl
theorem uK (m n k:Md)(ts us vs:List T):aT .zip3 [(m,.lst ts),(n,.lst us),(k,.lst vs)]=some (l9 ts us vs):=rfl
theorem vg (C:Call)(η:Env):evA C [] η=.ok ([],η):=rfl
theorem tQ (C:Call)(i:Nat)(es:List E)(η:Env):evA C (.io i::es) η=(evA C es η).bind (kIo i):=rfl
theorem jW (C:Call)(i:Nat)(es:List E)(η:Env):evA C (.var i::es) η=(evE C (.var i) η).bind (aQ (evA C es)):=rfl
theorem mF (C:Call)(i:Nat)(es:List E)(η:Env):evA C (.mv i::es) η=(evE C (.mv i) η).bind (aQ (evA C es)):=rfl
theorem j8 (C:Call)(t:T)(es:List E)(η:Env):evA C (.cst t::es) η=(evE C (.cst t) η).bind (aQ (evA C es)):=rfl
theorem jA (C:Call)(l:List E)(es:List E)(η:Env):evA C (.tup l::es) η=(evE C (.tup l) η).bind (aQ (evA C es)):=rfl
theorem j1 (C:Call)(h:Bool)(l:List E)(es:List E)(η:Env):evA C (.lst h l::es) η=(evE C (.lst h l) η).bind (aQ (evA C es)):=rfl
theorem mX (C:Call)(o:Op)(h:Bool)(l:List E)(es:List E)(η:Env):evA C (.op o h l::es) η=(evE C (.op o h l) η).bind (aQ (evA C es)):=rfl
theorem jZ (C:Call)(a b:E)(es:List E)(η:Env):evA C (.and a b::es) η=(evE C (.and a b) η).bind (aQ (evA C es)):=rfl
theorem lX (C:Call)(a b:E)(es:List E)(η:Env):evA C (.or a b::es) η=(evE C (.or a b) η).bind (aQ (evA C es)):=rfl
theorem jC (C:Call)(a:E)(es:List E)(η:Env):evA C (.not a::es) η=(evE C (.not a) η).bind (aQ (evA C es)):=rfl
theorem j7 (C:Call)(c a b:E)(es:List E)(η:Env):evA C (.ifx c a b::es) η=(evE C (.ifx c a b) η).bind (aQ (evA C es)):=rfl
theorem gK (C:Call)(o p:Op)(a b c:E)(es:List E)(η:Env):evA C (.chain o p a b c::es) η=(evE C (.chain o p a b c) η).bind (aQ (evA C es)):=rfl
theorem iF (C:Call)(f:Nat)(l:List E)(es:List E)(η:Env):evA C (.call f l::es) η=(evE C (.call f l) η).bind (aQ (evA C es)):=rfl
theorem il (C:Call)(h:Bool)(k:Ik)(src:List E)(tg:List Nat)(cnd:Option E)(elt:E)(es:List E)(η:Env):evA C (.comp h k src tg cnd elt::es) η=(evE C (.comp h k src tg cnd elt) η).bind (aQ (evA C es)):=rfl
theorem ub {C:Call}{e:E}{es:List E}{η:Env}(he:∀ i,e≠.io i):evA C (e::es) η=(evE C e η).bind (aQ (evA C es)):=by
 cases e with
 | io i=>exact absurd rfl (he i)
 | _=>rfl
theorem pU (C:Call)(η:Env):evL C ([]) η=.ok ([],η):=rfl
theorem oM (C:Call)(e:E)(es:List E)(η:Env):evL C (e::es) η=(evE C e η).bind (aQ (evL C es)):=rfl
theorem oH (C:Call)(x:X)(i:Nat)(e:E)(η:Env):evS C (.asg x i e) η=Fl.of η (evX C x e η) (qw i):=rfl
theorem pB (C:Call)(x:X)(is:List Nat)(e:E)(η:Env):evS C (.asgT x is e) η=Fl.of η (evX C x e η) (qQ is):=rfl
theorem ql (C:Call)(x:X)(i:Nat)(k:E)(e:E)(η:Env):evS C (.setI x i k e) η=Fl.of η (evX C x e η) (tH i (evX C x k) η):=rfl
theorem qc (C:Call)(x:X)(e:E)(η:Env):evS C (.exp x e) η=Fl.of η (evX C x e η) kNx:=rfl
theorem oE (C:Call)(x:X)(i:Nat)(e:E)(η:Env):evS C (.app x i e) η=Fl.of η (dF (rd η i)) (ia (evX C x e) η (kU i)):=rfl
theorem nR (C:Call)(x:X)(i:Nat)(e:E)(η:Env):evS C (.ext x i e) η=Fl.of η (dF (rd η i)) (ia (evX C x e) η (lF i)):=rfl
theorem n8 (C:Call)(vs:List Nat)(e:E)(η:Env):evS C (.ret vs e) η=Fl.of η (evE C e (share vs η)) kRt:=rfl
theorem nN (C:Call)(η:Env):evS C (.retN) η=.rt (.d,.non) η:=rfl
theorem qz (C:Call)(x:X)(c:E)(a:List S)(b:List S)(η:Env):evS C (.ite x c a b) η=Fl.of η (evT C x c η) (kIf (evSs C a) (evSs C b)):=rfl
theorem nX (C:Call)(vs:List Nat)(ls:List Nat)(k:Ik)(src:List E)(tg:List Nat)(body:List S)(η:Env):evS C (.forS vs ls k src tg body) η=Fl.of η (evL C src (cK vs ls η)) (nM vs k tg (evSs C body) η):=rfl
theorem nQ (C:Call)(x:X)(c:E)(body:List S)(η:Env):evS C (.whl x c body) η=fP (evT C x c) (evSs C body) j9 η:=rfl
theorem oA (C:Call)(η:Env):evS C (.brk) η=.bk η:=rfl
theorem pD (C:Call)(η:Env):evS C (.pas) η=.nx η:=rfl
theorem mD (C:Call)(η:Env):evSs C ([]) η=.nx η:=rfl
theorem mJ (C:Call)(s:S)(r:List S)(η:Env):evSs C (s::r) η=Fl.seq (evS C s η) (evSs C r):=rfl
theorem pS (C:Call)(vs:List Nat)(ls:List Nat)(e:E)(η:Env):evX C (.q vs ls) e η=(evE C e (cK vs ls η)).bind (kX vs η):=rfl
theorem pY (C:Call)(vs:List Nat)(e:E)(η:Env):evX C (.l vs) e η=evE C e (share vs η):=rfl
theorem pQ (C:Call)(vs:List Nat)(ls:List Nat)(e:E)(η:Env):evT C (.q vs ls) e η=(evE C e (cK vs ls η)).bind (kT η):=rfl
theorem qp (C:Call)(vs:List Nat)(e:E)(η:Env):evT C (.l vs) e η=(evE C e (share vs η)).bind kT2:=rfl
theorem ux {α β:Type}(a:α)(f:α->Res β):(Res.ok a).bind f=f a:=rfl
theorem zy {α:Type}(η:Env)(a:α)(f:α->Fl):Fl.of η (.ok a) f=f a:=rfl
theorem rZ (η:Env)(f:Env->Fl):Fl.seq (.nx η) f=f η:=rfl
theorem sH (w:W)(η:Env)(f:Env->Fl):Fl.seq (.rt w η) f=.rt w η:=rfl
theorem tm (η:Env)(f:Env->Fl):Fl.seq (.bk η) f=.bk η:=rfl
theorem pP (η:Env)(f:Env->Fl):Fl.turn (.nx η) f=f η:=rfl
theorem pq (w:W)(η:Env)(f:Env->Fl):Fl.turn (.rt w η) f=.rt w η:=rfl
theorem p9 (η:Env)(f:Env->Fl):Fl.turn (.bk η) f=.nx η:=rfl
theorem sx {α:Type}(f g:Env->Res α)(η:Env):onB (.bl true) f g η=f η:=rfl
theorem vJ {α:Type}(f g:Env->Res α)(η:Env):onB (.bl false) f g η=g η:=rfl
theorem tU {α:Type}(f g:Env->Res α)(m:Md)(b:Bool)(η:Env):onT f g ((m,.bl b),η)=onB (.bl b) f g η:=by cases b<;>rfl
theorem vF {α:Type}(f g:Env->Res α)(m:Md)(η:Env):onT f g ((m,.bl true),η)=f η:=rfl
theorem tV {α:Type}(f g:Env->Res α)(m:Md)(η:Env):onT f g ((m,.bl false),η)=g η:=rfl
theorem sD (f g:Env->Fl)(η:Env):onF true f g η=f η:=rfl
theorem u9 (f g:Env->Fl)(η:Env):onF false f g η=g η:=rfl
theorem xc {α:Type}(a:α):ofO (some a)=.ok a:=rfl
theorem yo {α:Type}(η:Env)(a:α):ret η (some a)=.ok (a,η):=rfl
theorem xZ (o:Option W)(η:Env):rd (o::η) 0=o:=rfl
theorem wc (o:Option W)(η:Env)(i:Nat):rd (o::η) (i+1)=rd η i:=rfl
theorem x3 (o w:Option W)(η:Env):wr (o::η) 0 w=w::η:=rfl
theorem xX (o w:Option W)(η:Env)(i:Nat):wr (o::η) (i+1) w=o::wr η i w:=rfl
theorem qF (t:T):look (.s,t)=some (.s,t):=rfl
theorem pC (m:Md)(i:Int):(look (.d,.int i))=some (.d,.int i):=rfl
theorem nW (m:Md)(b:Bool):(look (.d,.bl b))=some (.d,.bl b):=rfl
theorem oY (x:Str):(look (.d,.str x))=some (.d,.str x):=rfl
theorem oP:(look (.d,.non))=some (.d,.non):=rfl
theorem vV (m:Md)(t:T):toS (some (m,t))=some (.s,t):=rfl
theorem uF:toS none=none:=rfl
theorem m5 (η:Env):share [] η=η:=rfl
theorem kr (i:Nat)(is:List Nat)(η:Env):share (i::is) η=share is (wr η i (toS (rd η i))):=rfl
theorem ma:dq []=[]:=rfl
theorem mf (o:Option W)(η:Env):dq (o::η)=none::dq η:=rfl
theorem tD (vs ls:List Nat)(η:Env):cK vs ls η=eg ls η (iu vs η (dq η)):=rfl
theorem oR (η0 η:Env):iu [] η0 η=η:=rfl
theorem pX (i:Nat)(is:List Nat)(η0 η:Env):iu (i::is) η0 η=iu is η0 (wr η i (toS (rd η0 i))):=rfl
theorem mE (η0 η:Env):eg [] η0 η=η:=rfl
theorem kg (i:Nat)(is:List Nat)(η0 η:Env):eg (i::is) η0 η=eg is η0 (wr η i (lfO (rd η0 i))):=rfl
theorem xk (m:Md)(i:Int):lfO (some (m,.int i))=some (.d,.int i):=rfl
theorem xu (m:Md)(b:Bool):lfO (some (m,.bl b))=some (.d,.bl b):=rfl
theorem wC (m:Md)(x:Str):lfO (some (m,.str x))=some (.d,.str x):=rfl
theorem xb (m:Md):lfO (some (m,.non))=some (.d,.non):=rfl
theorem mZ (vs:List Nat)(η:Env):after .d vs η=η:=rfl
theorem kE (vs:List Nat)(η:Env):after .s vs η=share vs η:=rfl
theorem kO (m:Md)(vs:List Nat)(η:Env):after (.o m) vs η=share vs η:=rfl
theorem vG (m:Md)(i:Int):lf m (.int i)=.d:=rfl
theorem tR (m:Md)(b:Bool):lf m (.bl b)=.d:=rfl
theorem uW (m:Md)(x:Str):lf m (.str x)=.d:=rfl
theorem sY (m:Md):lf m .non=.d:=rfl
theorem r9 (m:Md)(ts:List T):lf m (.lst ts)=m:=rfl
theorem uG (m:Md)(ts:List T):lf m (.tup ts)=m:=rfl
theorem vE (t:T):lf .d t=.d:=by unfold lf; split<;>rfl
theorem tw (m:Md):Md.s.le m=true:=by cases m<;>rfl
theorem oK:Md.d.le .d=true:=rfl
theorem oI (m:Md):(Md.o m).le .d=true:=rfl
theorem pO (m n:Md):(Md.o m).le (.o n)=m.le n:=rfl
theorem vb (h:Bool)(m n:Md)(i j:Int):oSem .add h [(m,.int i),(n,.int j)]=some (.d,.int (i+j)):=rfl
theorem kP (h:Bool)(m n:Md)(ts us:List T):oSem .add h [(m,.lst ts),(n,.lst us)]=if bq (ts.length+us.length) then newL h (m.kid.meet n.kid) (ts++us) else none:=rfl
theorem mL (h:Bool)(m n:Md)(x y:Str):oSem .add h [(m,.str x),(n,.str y)]=if bq (x.cps.size+y.cps.size) then some (.d,.str (x++y)) else none:=rfl
theorem mW (h:Bool)(m n:Md)(ts us:List T):oSem .add h [(m,.tup ts),(n,.tup us)]=if bq (ts.length+us.length)&&!ts.isEmpty then some (.s,.tup (ts++us)) else none:=rfl
theorem xw (h:Bool)(m n:Md)(i j:Int):oSem .sub h [(m,.int i),(n,.int j)]=some (.d,.int (i-j)):=rfl
theorem kv (h:Bool)(m n:Md)(i j:Int):oSem .mul h [(m,.int i),(n,.int j)]=if (decide (i.natAbs < 18446744073709551616)) || (decide (j.natAbs < 18446744073709551616)) then some (.d,.int (i * j)) else none:=rfl
theorem mP (h:Bool)(m n:Md)(i j:Int):oSem .fdiv h [(m,.int i),(n,.int j)]=if decide (0 < j)&&decide (j < 1073741824) then some (.d,.int (i / j)) else none:=rfl
theorem qV (h:Bool)(m n:Md)(i j:Int):oSem .mod h [(m,.int i),(n,.int j)]=if decide (0 < j) then some (.d,.int (i % j)) else none:=rfl
theorem xP (h:Bool)(m n:Md)(i j:Int):oSem .pow h [(m,.int i),(n,.int j)]=if decide (0<=j)&&decide (j<=1000000)&&decide (i.natAbs < 18446744073709551616) then some (.d,.int (i ^ j.toNat)) else none:=rfl
theorem xl (h:Bool)(m:Md)(i:Int):oSem .neg h [(m,.int i)]=some (.d,.int (-i)):=rfl
theorem yX (h:Bool)(m n:Md)(a b:T)(ha:dp a<=64)(hb:dp b<=64):oSem .ne h [(m,a),(n,b)]=some (.d,.bl (!eqT a b)):=by
 show (if _ then _ else _)=_
 rw [decide_eq_true ha,decide_eq_true hb]; rfl
theorem ug (h:Bool)(m n:Md)(i j:Int):oSem .eq h [(m,.int i),(n,.int j)]=some (.d,.bl (i==j)):=rfl
theorem uR (h:Bool)(m n:Md)(x y:Str):oSem .eq h [(m,.str x),(n,.str y)]=some (.d,.bl (x==y)):=rfl
theorem uD (h:Bool)(m n:Md)(a b:Bool):oSem .eq h [(m,.bl a),(n,.bl b)]=some (.d,.bl (a==b)):=rfl
theorem td (h:Bool)(m n:Md)(i j:Int):oSem .ne h [(m,.int i),(n,.int j)]=some (.d,.bl (!(i==j))):=rfl
theorem vw (h:Bool)(m n:Md)(x y:Str):oSem .ne h [(m,.str x),(n,.str y)]=some (.d,.bl (!(x==y))):=rfl
theorem sd (h:Bool)(m n:Md)(a b:Bool):oSem .ne h [(m,.bl a),(n,.bl b)]=some (.d,.bl (!(a==b))):=rfl
theorem yx (h:Bool)(m n:Md)(i j:Int):oSem .lt h [(m,.int i),(n,.int j)]=some (.d,.bl (decide (i < j))):=rfl
theorem yW (h:Bool)(m n:Md)(i j:Int):oSem .le h [(m,.int i),(n,.int j)]=some (.d,.bl (decide (i<=j))):=rfl
theorem y0 (h:Bool)(m n:Md)(i j:Int):oSem .gt h [(m,.int i),(n,.int j)]=some (.d,.bl (decide (j < i))):=rfl
theorem zr (h:Bool)(m n:Md)(i j:Int):oSem .ge h [(m,.int i),(n,.int j)]=some (.d,.bl (decide (j<=i))):=rfl
theorem yR (h:Bool)(m n:Md)(a:T):oSem .is h [(m,a),(n,.non)]=if a.isG then none else some (.d,.bl a.isN):=rfl
theorem xp (h:Bool)(m n:Md)(ts:List T)(i:Int):oSem .ix h [(m,.lst ts),(n,.int i)]=(atI ts i).map fun t=>(m.kid,t):=rfl
theorem wj (h:Bool)(m n:Md)(ts:List T)(i:Int):oSem .ix h [(m,.tup ts),(n,.int i)]=(atI ts i).map fun t=>(m.kid,t):=rfl
theorem vn (h:Bool)(m:Md)(ts:List T):oSem .len h [(m,.lst ts)]=some (.d,.int ts.length):=rfl
theorem uz (h:Bool)(m:Md)(ts:List T):oSem .len h [(m,.tup ts)]=some (.d,.int ts.length):=rfl
theorem uE (h:Bool)(m:Md)(ns:List Int):oSem .len h [(m,.scr ns)]=some (.d,.int ns.length):=rfl
theorem wG (h:Bool)(m n:Md)(ns:List Int)(i:Int):oSem .ix h [(m,.scr ns),(n,.int i)]=(atI ns i).map fun n=>(.d,.int n):=rfl
theorem xi (h:Bool)(m n:Md)(ns:List Int)(i:Int):oSem .sl2 h [(m,.scr ns),(n,.int i)]=some (.d,.lst ((cut ns none (some i)).map T.int)):=rfl
theorem vi (m:Md)(ns:List Int):lf m (.scr ns)=.d:=rfl
theorem w8 (m:Md)(ns:List Int):lfO (some (m,.scr ns))=some (.d,.scr ns):=rfl
theorem nV (ns:List Int):look (.d,.scr ns)=some (.d,.scr ns):=rfl
theorem sE (h:Bool)(m:Md)(x:Str):oSem .len h [(m,.str x)]=some (.d,.int x.cps.size):=rfl
theorem wx (cs:List String)(h:Bool)(m:Md)(a:T):oSem (.isI cs) h [(m,a)]=if a.isG then none else some (.d,.bl (cs.any fun c=>isOne c a)):=rfl
theorem we:T.isG .non=false:=rfl
theorem yS (b:Bool):T.isG (.bl b)=false:=rfl
theorem xY (i:Int):T.isG (.int i)=false:=rfl
theorem wY (x:Str):T.isG (.str x)=false:=rfl
theorem wQ (ts:List T):T.isG (.tup ts)=false:=rfl
theorem v3 (ts:List T):T.isG (.lst ts)=false:=rfl
theorem xA (ns:List Int):T.isG (.scr ns)=false:=rfl
theorem vZ:T.isN .non=true:=rfl
theorem yw (b:Bool):T.isN (.bl b)=false:=rfl
theorem x4 (i:Int):T.isN (.int i)=false:=rfl
theorem xg (x:Str):T.isN (.str x)=false:=rfl
theorem w6 (ts:List T):T.isN (.tup ts)=false:=rfl
theorem ya (ts:List T):T.isN (.lst ts)=false:=rfl
theorem oU (h:Bool)(m:Md)(ts:List T):oSem .list h [(m,.lst ts)]=newL h m.kid ts:=rfl
theorem oG (h:Bool)(m:Md)(ts:List T):oSem .list h [(m,.tup ts)]=newL h m.kid ts:=rfl
theorem vm (h:Bool)(m:Md)(b:Bool):oSem .int h [(m,.bl b)]=some (.d,.int (b2i b)):=rfl
theorem vC (h:Bool)(m:Md)(i:Int):oSem .int h [(m,.int i)]=some (.d,.int i):=rfl
theorem um (h:Bool)(m:Md)(i:Int):oSem .str h [(m,.int i)]=if decide (i.natAbs < 10000000000000000000) then some (.d,.str (strI i)) else none:=rfl
theorem tf (h:Bool)(m:Md)(x:Str):oSem .intS h [(m,.str x)]=if decide ((decI x).natAbs < 10000000000000000000)&&(strI (decI x)==x) then some (.d,.int (decI x)) else none:=rfl
theorem vD (h:Bool)(m n:Md)(z:Str)(ts:List T):oSem .join h [(m,.str z),(n,.lst ts)]=(strsOf ts).bind fun ss=>if sOk (Str.join z ss)&&decide ((ss.map fun s=>s.cps.size+z.cps.size).sum<=LIM) then some (.d,.str (Str.join z ss)) else none:=rfl
theorem nO (h:Bool)(m n:Md)(z y:Str):oSem .split h [(m,.str z),(n,.str y)]=if (y==Str.ofString " ")&&decide (z.cps.size+2<=LIM)&&(splS z).all sOk then some (.d,.lst ((splS z).map T.str)) else none:=rfl
theorem yb (h:Bool)(m n:Md)(ts:List T)(t:T):oSem .apd h [(m,.lst ts),(n,t)]=if m==.s then none else if decide (ts.length < LIM) then some (.d,.non) else none:=rfl
theorem jO (C:Call)(body:List S)(η:Env):evS C (.tri body) η=evSs C body η:=rfl
theorem oJ (h:Bool)(m n:Md)(i j:Int):oSem .fdivN h [(m,.int i),(n,.int j)]=if (j != 0)&&decide (j.natAbs < 18446744073709551616) then some (.d,.int (i.fdiv j)) else none:=rfl
theorem t6 (h:Bool)(m n:Md)(i j:Int):oSem .modN h [(m,.int i),(n,.int j)]=if j != 0 then some (.d,.int (i.fmod j)) else none:=rfl
theorem xM (h:Bool)(m:Md)(ts:List T):oSem .all h [(m,.lst ts)]=(aN ts).map fun bs=>(.d,.bl (bs.all id)):=rfl
theorem vf (m:Md)(ts:List T):newL true m ts=if leaves ts then some (.d,.lst ts) else none:=rfl
theorem uA (m:Md)(ts:List T):newL false m ts=some (m.up,.lst ts):=rfl
theorem tL (m:Md)(ts:List T):aT .seq [(m,.lst ts)]=some (ts.map fun t=>[(.s,t)]):=rfl
theorem tS (m:Md)(ts:List T):aT .seq [(m,.tup ts)]=some (ts.map fun t=>[(.s,t)]):=rfl
theorem kq (m:Md)(n:Int):aT .rng [(m,.int n)]=if decide (n.natAbs < 4611686018427387904)&&bq n.toNat then some ((a0H n.toNat).map fun (k:Nat)=>[(.d,.int k)]) else none:=rfl
theorem nH (η:Env):aK [] [] η=some η:=rfl
theorem nG (i:Nat)(is:List Nat)(w:W)(ws:List W)(η:Env):aK (i::is) (w::ws) η=aK is ws (put η i w):=rfl
theorem x6 {α β:Type}(f:α->β)(a:α):(some a).map f=some (f a):=rfl
theorem lu (b:Bool):truth (.bl b)=some b:=rfl
theorem lP (i:Int):truth (.int i)=some (i != 0):=rfl
theorem qC {α β:Type}(a:α)(f:α->Option β):(some a).bind f=f a:=rfl
theorem qO:Md.s.kid=.s:=rfl
theorem n5:Md.d.kid=.d:=rfl
theorem oh (m:Md):(Md.o m).kid=m:=rfl
theorem uN:Md.s.up=.o .s:=rfl
theorem uT:Md.d.up=.d:=rfl
theorem uo (m:Md):(Md.o m).up=.o (.o m):=rfl
theorem kB (m:Md):Md.s.meet m=.s:=by cases m<;>rfl
theorem cy (m:Md):Md.d.meet m=m:=by cases m<;>rfl
theorem kb (m:Md):(Md.o m).meet .s=.s:=rfl
theorem j3 (m:Md):(Md.o m).meet .d=.o m:=rfl
theorem jS (m n:Md):(Md.o m).meet (.o n)=.o (m.meet n):=rfl
theorem ud (n:Md)(ts:List T)(t:T):ey (.d,.lst ts) (n,t)=if ts.length < LIM then some ((lf n t).up,.lst (ts++[t])) else none:=by show (if _ then some ((Md.d.meet _).up,_) else none)=_; rw [cy]
theorem uP (m n:Md)(ts:List T)(t:T):ey (.o m,.lst ts) (n,t)=if ts.length < LIM then some ((m.meet (lf n t)).up,.lst (ts++[t])) else none:=rfl
theorem uh (n:Md)(ts us:List T):eC (.d,.lst ts) (n,.lst us)=if ts.length+us.length<=LIM then some (n.kid.up,.lst (ts++us)) else none:=by show (if _ then some ((Md.d.meet _).up,_) else none)=_; rw [cy]
theorem uQ (m n:Md)(ts us:List T):eC (.o m,.lst ts) (n,.lst us)=if ts.length+us.length<=LIM then some ((m.meet n.kid).up,.lst (ts++us)) else none:=rfl
theorem ve (l n:Md)(ts:List T)(t:T)(j:Int):gz (.d,.lst ts) (l,.int j) (n,t)=(ixN ts.length j).map fun k=>((lf n t).up,.lst (ts.set k t)):=by show ((ixN ts.length j).map fun k=>((Md.d.meet _).up,_))=_; rw [cy]
theorem tO (m l n:Md)(ts:List T)(t:T)(j:Int):gz (.o m,.lst ts) (l,.int j) (n,t)=(ixN ts.length j).map fun k=>((m.meet (lf n t)).up,.lst (ts.set k t)):=rfl
theorem rP (m:Md)(ts:List T):dF (some (m,.lst ts))=.ok ():=rfl
theorem ue (m:Md)(ts:List T):wD (m,.tup ts)=some (ts.map fun t=>(m.kid,t)):=rfl
theorem wX (η η':Env):nxO η (some η')=.nx η':=rfl
theorem lg (η:Env):backs [] η=some []:=rfl
theorem lZ (i:Nat)(is:List Nat)(η:Env):backs (i::is) η=(rd η i).bind fun w=>(backs is η).bind fun ws=>some (w::ws):=rfl
theorem rR (io:List Nat)(η:Env):Fl.out io (.nx η)=(ofO (backs io η)).bind (m8 (.d,.non)):=rfl
theorem uu (io:List Nat)(w:W)(η:Env):Fl.out io (.rt w η)=(ofO (backs io η)).bind (m8 w):=rfl
theorem x_run (C:Call)(f:Fn)(ws:List W)(h:ws.length=f.ps):runF C f ws=Fl.out f.io (evSs C f.body (ws.map some++a0g f.ns none)):=if_pos h
theorem at0 {α:Type}(a:α)(l:List α):atI (a::l) 0=some a:=by simp [atI,ixN]
theorem atN {α:Type}{xs:List α}{i:Int}{n:Nat}{a:α}(hi:i=n)(h:xs[n]?=some a):atI xs i=some a:=by
 subst hi
 have:=(a0q.mp h).1
 rw [atI,ixN,if_pos (by omega),if_pos (by omega)]
 exact h
theorem at1 {α:Type}(a b:α)(l:List α):atI (a::b::l) 1=some b:=atN (n:=1) rfl rfl
theorem at2 {α:Type}(a b c:α)(l:List α):atI (a::b::c::l) 2=some c:=atN (n:=2) rfl rfl
theorem at3 {α:Type}(a b c d:α)(l:List α):atI (a::b::c::d::l) 3=some d:=atN (n:=3) rfl rfl
theorem at4 {α:Type}(a b c d e:α)(l:List α):atI (a::b::c::d::e::l) 4=some e:=atN (n:=4) rfl rfl
theorem bY {α:Type}{tg:List Nat}{f:Env->Res (Option W×Env)}{η:Env}{g:α->List W}(w:α->W):∀ (ts:List α) (acc:List W),(∀ x∈ts,∃ η1 η2,aK tg (g x) η=some η1/\f η1=.ok (some (w x),η2)/\af tg η2=η) ->
  aO tg f (ts.map g) η acc=.ok (acc++ts.map w,η)
 | [],acc,_=>by rw [a1r,a1r,a0p]; rfl
 | x::ts,acc,h=>by
  obtain ⟨η1,η2,h1,h2,h3⟩:=h x a0c
  rw [a0u,a0u]
  show (ofO (aK tg (g x) η)).bind _=_
  rw [h1]
  show (f η1).bind _=_
  rw [h2]
  show aO tg f (ts.map g) (af tg η2) (acc++[w x])=_
  rw [h3,bY w ts _ fun y hy=>h y (a0e _ hy),a0n]
  rfl
theorem eL {α:Type}{tg:List Nat}{f:Env->Res (Option W×Env)}{g:α->List W}(I:List α->Env->List W->Prop):∀ (ts pre:List α) (η:Env) (acc:List W),I pre η acc ->
  (∀ p x r η acc,pre++ts=p++x::r->I p η acc->∃ η1 o η2,aK tg (g x) η=some η1/\f η1=.ok (o,η2)/\I (p++[x]) (af tg η2) (acc++o.toList)) ->
  ∃ ws η',aO tg f (ts.map g) η acc=.ok (ws,η')/\I (pre++ts) η' ws
 | [],pre,η,acc,h,_=>⟨acc,η,rfl,by rw [a0p]; exact h⟩
 | x::ts,pre,η,acc,h,k=>by
  obtain ⟨η1,o,η2,h1,h2,h3⟩:=k pre x ts η acc rfl h
  obtain ⟨ws,η',e,hi⟩:=eL I ts (pre++[x]) (af tg η2) (acc++o.toList) h3 (fun p y r η acc e=>k p y r η acc (by rw [<- e,a0n]; rfl))
  refine ⟨ws,η',?_,by rw [a0n] at hi; exact hi⟩
  rw [a0u]
  show (ofO (aK tg (g x) η)).bind _=_
  rw [h1]
  show (f η1).bind _=_
  rw [h2]
  exact e
theorem ji {α:Type}(m:Md)(g:α->T)(ts:List α):aH (ts.map fun x=>(m,g x))=ts.map g:=by
 induction ts with
 | nil=>rfl
 | cons x r ih=>rw [a0u,a0u,<- ih]; rfl
end M

namespace MR
open L2 L3 M
open PySem (Addr Str sizeLine)
noncomputable abbrev Fp:=Addr->Prop
noncomputable def ScrR (K:a0a)(H:Hp)(a:Addr)(ns:List Int):Prop:=(∃ o,H a=some (.frz o (.lst (ns.map V.int))))\/SqL K (fun _=>none) a (ns.map V.int)
theorem ScrR.sq {K:a0a}{H:Hp}{a:Addr}{ns:List Int}(h:ScrR K H a ns):SqL K H a (ns.map V.int):=by
 rcases h with ⟨o,h⟩ | ((h | ⟨o,h⟩) | h)
 ·exact .inl (.inr ⟨o,h⟩)
 ·cases h
 ·cases h
 ·exact .inr h
theorem ScrR.keep {K:a0a}{H H':Hp}{a:Addr}{ns:List Int}(s:∀ a o u,H a=some (.frz o u)->H' a=some (.frz o u))(h:ScrR K H a ns):ScrR K H' a ns:=h.imp (fun ⟨o,e⟩=>⟨o,s a o _ e⟩) id
noncomputable def LstR (K:a0a)(Z:Fp)(H:Hp)(G:Fp)(a:Addr)(xs:List V):Md->Prop
 | .s=>Z a/\H a=some (.lst xs)
 | _=>G a/\H a=some (.lst xs)
mutual
noncomputable def Rep (K:a0a)(Z:Fp)(H:Hp):Md->T->V->Fp->Prop
 | _,.non,v,_=>v=.non
 | _,.bl b,v,_=>v=.bl b
 | _,.int i,v,_=>v=.int i
 | _,.str x,v,_=>v=.str x/\sOk x=true
 | m,.tup ts,v,G=>∃ a xs,v=.ref a/\SqT K H a xs/\xs.length<=LIM/\RepL K Z H m.kid ts xs G
 | m,.lst ts,v,G=>∃ a xs,v=.ref a/\xs.length<=LIM/\LstR K Z H G a xs m/\RepL K Z H m.kid ts xs (fun b=>G b/\b≠a)
 | _,.dct _ _,_,_=>False
 | _,.ins _ _ _,_,_=>False
 | _,.gone,_,_=>True
 | _,.scr ns,v,_=>∃ a,v=.ref a/\ns.length<=LIM/\ScrR K H a ns
noncomputable def RepL (K:a0a)(Z:Fp)(H:Hp):Md->List T->List V->Fp->Prop
 | _,[],xs,_=>xs=[]
 | m,t::ts,xs,G=>∃ x r G1 G2,xs=x::r/\(∀ a,G1 a->G a)/\(∀ a,G2 a->G a)/\(∀ a,G1 a->¬ G2 a)/\Rep K Z H m t x G1/\RepL K Z H m ts r G2
end
section
variable {K:a0a}{Z Z':Fp}{H H':Hp}{m:Md}{t:T}{ts:List T}{v:V}{xs:List V}{G G':Fp}
theorem LstR.mono {a:Addr}(w:∀ a,G a->G' a)(h:LstR K Z H G a xs m):LstR K Z H G' a xs m:=by
 cases m with
 | s=>exact h
 | d=>exact ⟨w _ h.1,h.2⟩
 | o m=>exact ⟨w _ h.1,h.2⟩
mutual
theorem Rep.mono:∀ {m:Md} {t:T} {v:V} {G G':Fp},(∀ a,G a->G' a)->Rep K Z H m t v G->Rep K Z H m t v G'
 | _,.non,_,_,_,_,h=>h
 | _,.bl _,_,_,_,_,h=>h
 | _,.int _,_,_,_,_,h=>h
 | _,.str _,_,_,_,_,h=>h
 | m,.tup ts,v,G,G',w,⟨a,xs,e,q,l,r⟩=>⟨a,xs,e,q,l,RepL.mono w r⟩
 | m,.lst ts,v,G,G',w,⟨a,xs,e,l,q,r⟩=>⟨a,xs,e,l,q.mono w,RepL.mono (fun b hb=>⟨w b hb.1,hb.2⟩) r⟩
 | _,.dct _ _,_,_,_,_,h=>h.elim
 | _,.ins _ _ _,_,_,_,_,h=>h.elim
 | _,.gone,_,_,_,_,h=>h
 | _,.scr _,_,_,_,_,h=>h
theorem RepL.mono:∀ {m:Md} {ts:List T} {xs:List V} {G G':Fp},(∀ a,G a->G' a)->RepL K Z H m ts xs G->RepL K Z H m ts xs G'
 | _,[],_,_,_,_,h=>h
 | m,t::ts,xs,G,G',w,⟨x,r,G1,G2,e,h1,h2,hd,p,q⟩=>⟨x,r,G1,G2,e,fun a ha=>w a (h1 a ha),fun a ha=>w a (h2 a ha),hd,p,q⟩
end
noncomputable def Stay (Z:Fp)(H H':Hp):Prop:=(∀ a o,Z a->H a=some o->H' a=some o)/\(∀ a xs,Rd H a (.tup xs)->Rd H' a (.tup xs))/\∀ a o u,H a=some (.frz o u)->H' a=some (.frz o u)
theorem Stay.sqt (s:Stay Z H H'){a:Addr}(h:SqT K H a xs):SqT K H' a xs:=by
 rcases h with h | h
 ·exact .inl (s.2.1 a xs h)
 ·exact .inr h
theorem LstR.keep {a:Addr}(s:Stay Z H H')(z:∀ a,Z a->Z' a)(g:∀ a o,G a->H a=some o->H' a=some o)(h:LstR K Z H G a xs m):LstR K Z' H' G a xs m:=by
 cases m with
 | s=>exact ⟨z _ h.1,s.1 _ _ h.1 h.2⟩
 | d=>exact ⟨h.1,g _ _ h.1 h.2⟩
 | o m=>exact ⟨h.1,g _ _ h.1 h.2⟩
mutual
theorem Rep.keep (s:Stay Z H H')(z:∀ a,Z a->Z' a):∀ {m:Md} {t:T} {v:V} {G:Fp},(∀ a o,G a->H a=some o->H' a=some o)->Rep K Z H m t v G->Rep K Z' H' m t v G
 | _,.non,_,_,_,h=>h
 | _,.bl _,_,_,_,h=>h
 | _,.int _,_,_,_,h=>h
 | _,.str _,_,_,_,h=>h
 | m,.tup ts,v,G,g,⟨a,xs,e,q,l,r⟩=>⟨a,xs,e,s.sqt q,l,RepL.keep s z g r⟩
 | m,.lst ts,v,G,g,⟨a,xs,e,l,q,r⟩=>⟨a,xs,e,l,q.keep s z g,RepL.keep s z (fun b o hb=>g b o hb.1) r⟩
 | _,.dct _ _,_,_,_,h=>h.elim
 | _,.ins _ _ _,_,_,_,h=>h.elim
 | _,.gone,_,_,_,h=>h
 | _,.scr _,_,_,_,⟨a,e,l,q⟩=>⟨a,e,l,q.keep s.2.2⟩
theorem RepL.keep (s:Stay Z H H')(z:∀ a,Z a->Z' a):∀ {m:Md} {ts:List T} {xs:List V} {G:Fp},(∀ a o,G a->H a=some o->H' a=some o)->RepL K Z H m ts xs G->RepL K Z' H' m ts xs G
 | _,[],_,_,_,h=>h
 | m,t::ts,xs,G,g,⟨x,r,G1,G2,e,h1,h2,hd,p,q⟩=>⟨x,r,G1,G2,e,h1,h2,hd,Rep.keep s z (fun a o ha=>g a o (h1 a ha)) p,RepL.keep s z (fun a o ha=>g a o (h2 a ha)) q⟩
end
theorem bV (Z:Fp)(H:Hp):Stay Z H H:=⟨fun _ _ _ h=>h,fun _ _ h=>h,fun _ _ _ h=>h⟩
theorem Rep.zmono (z:∀ a,Z a->Z' a)(h:Rep K Z H m t v G):Rep K Z' H m t v G:=h.keep (bV Z H) z fun _ _ _ q=>q
theorem RepL.zmono (z:∀ a,Z a->Z' a)(h:RepL K Z H m ts xs G):RepL K Z' H m ts xs G:=h.keep (bV Z H) z fun _ _ _ q=>q
theorem RepL.length:∀ {ts:List T} {xs:List V} {G:Fp},RepL K Z H m ts xs G->xs.length=ts.length
 | [],_,_,h=>by rw [show _=[] from h]; rfl
 | _::_,_,_,⟨x,r,G1,G2,e,_,_,_,_,q⟩=>by rw [e,a0k,a0k,RepL.length q]
theorem RepL.get:∀ {ts:List T} {xs:List V} {G:Fp} {i:Nat} {t:T},RepL K Z H m ts xs G->ts[i]?=some t->∃ x,xs[i]?=some x/\Rep K Z H m t x G
 | [],_,_,_,_,_,e=>by simp at e
 | _::_,_,_,0,_,⟨x,r,G1,G2,e,h1,_,_,p,_⟩,e2=>by
  rw [a0X] at e2; cases e2
  exact ⟨x,by rw [e]; rfl,p.mono h1⟩
 | _::_,_,_,i+1,_,⟨x,r,G1,G2,e,_,h2,_,_,q⟩,e2=>by
  rw [a0v] at e2
  obtain ⟨y,hy,p⟩:=RepL.get q e2
  exact ⟨y,by rw [e,a0v]; exact hy,p.mono h2⟩
theorem RepL.append:∀ {ts us:List T} {xs ys:List V} {G1 G2 G:Fp},(∀ a,G1 a->G a)->(∀ a,G2 a->G a)->(∀ a,G1 a->¬ G2 a)->RepL K Z H m ts xs G1->RepL K Z H m us ys G2->RepL K Z H m (ts++us) (xs++ys) G
 | [],us,xs,ys,G1,G2,G,w1,w2,d,h,k=>by rw [show xs=[] from h]; exact k.mono w2
 | t::ts,us,xs,ys,G1,G2,G,w1,w2,d,⟨x,r,A,B,e,h1,h2,hd,p,q⟩,k=>by
  rw [e]
  refine ⟨x,r++ys,A,fun a=>B a\/G2 a,rfl,fun a ha=>w1 a (h1 a ha),fun a ha=>ha.elim (fun z=>w1 a (h2 a z)) (w2 a),fun a ha hb=>hb.elim (hd a ha) (d a (h1 a ha)),p,?_⟩
  exact RepL.append (fun a z=>.inl z) (fun a z=>.inr z) (fun a ha=>d a (h2 a ha)) q k
theorem RepL.one {x:V}(p:Rep K Z H m t x G):RepL K Z H m [t] [x] G:=⟨x,[],G,fun _=>False,rfl,fun _ h=>h,fun _ h=>h.elim,fun _ _ h=>h,p,rfl⟩
theorem RepL.take:∀ {ts:List T} {xs:List V} {G:Fp} (n:Nat),RepL K Z H m ts xs G->RepL K Z H m (ts.take n) (xs.take n) G
 | [],_,_,n,h=>by rw [show _=[] from h,a25,a25]; rfl
 | _::_,_,_,0,h=>rfl
 | _::_,_,_,n+1,⟨x,r,A,B,e,h1,h2,hd,p,q⟩=>by rw [e]; exact ⟨x,r.take n,A,B,rfl,h1,h2,hd,p,RepL.take n q⟩
theorem RepL.drop:∀ {ts:List T} {xs:List V} {G:Fp} (n:Nat),RepL K Z H m ts xs G->RepL K Z H m (ts.drop n) (xs.drop n) G
 | [],_,_,n,h=>by rw [show _=[] from h,a26,a26]; rfl
 | _::_,_,_,0,h=>h
 | _::_,_,_,n+1,⟨x,r,A,B,e,h1,h2,hd,p,q⟩=>by rw [e]; exact (RepL.drop n q).mono h2
theorem Rep.leaf {m':Md}(hs:∀ a o u,H a=some (.frz o u)->H' a=some (.frz o u))(hl:t.leaf=true)(h:Rep K Z H m t v G):Rep K Z' H' m' t v G':=by
 cases t with
 | non=>exact h
 | bl _=>exact h
 | int _=>exact h
 | str _=>exact h
 | scr _=>obtain ⟨a,e,l,q⟩:=h; exact ⟨a,e,l,q.keep hs⟩
 | _=>cases hl
theorem RepL.leaves {m':Md}(hs:∀ a o u,H a=some (.frz o u)->H' a=some (.frz o u)):∀ {ts:List T} {xs:List V} {G G':Fp},leaves ts=true->RepL K Z H m ts xs G->RepL K Z' H' m' ts xs G'
 | [],_,_,_,_,h=>h
 | t::ts,_,_,G',hl,⟨x,r,A,B,e,h1,h2,hd,p,q⟩=>by
  have h':(t.leaf&&ts.all T.leaf)=true:=hl
  rw [a0m] at h'
  exact ⟨x,r,fun _=>False,fun _=>False,e,fun _ z=>z.elim,fun _ z=>z.elim,fun _ z=>z.elim,p.leaf hs h'.1,RepL.leaves hs h'.2 q⟩
noncomputable def no:Fp:=fun _=>False
mutual
theorem Rep.sh:∀ {m:Md} {t:T} {v:V} {G:Fp},Rep K Z H m t v G->Rep K (fun a=>Z a\/G a) H .s t v no
 | _,.non,_,_,h=>h
 | _,.bl _,_,_,h=>h
 | _,.int _,_,_,h=>h
 | _,.str _,_,_,h=>h
 | m,.tup ts,v,G,⟨a,xs,e,q,l,r⟩=>⟨a,xs,e,q,l,RepL.sh r⟩
 | m,.lst ts,v,G,⟨a,xs,e,l,q,r⟩=>⟨a,xs,e,l,by
   cases m with
   | s=>exact ⟨.inl q.1,q.2⟩
   | d=>exact ⟨.inr q.1,q.2⟩
   | o m=>exact ⟨.inr q.1,q.2⟩,(RepL.zmono (fun b hb=>hb.elim .inl fun z=>.inr z.1) (RepL.sh r)).mono fun _ z=>z.elim⟩
 | _,.dct _ _,_,_,h=>h.elim
 | _,.ins _ _ _,_,_,h=>h.elim
 | _,.gone,_,_,h=>h
 | _,.scr _,_,_,h=>h
theorem RepL.sh:∀ {m:Md} {ts:List T} {xs:List V} {G:Fp},RepL K Z H m ts xs G->RepL K (fun a=>Z a\/G a) H .s ts xs no
 | _,[],_,_,h=>h
 | m,t::ts,xs,G,⟨x,r,G1,G2,e,h1,h2,hd,p,q⟩=>⟨x,r,no,no,e,fun _ z=>z,fun _ z=>z,fun _ z _=>z,Rep.zmono (fun b hb=>hb.imp id (h1 b)) (Rep.sh p),RepL.zmono (fun b hb=>hb.imp id (h2 b)) (RepL.sh q)⟩
end
theorem zo:∀ a:Md,a.le .d=true
 | .s=>rfl | .d=>rfl | .o _=>rfl
theorem fu:∀ a:Md,a.le a=true
 | .s=>rfl | .d=>rfl | .o a=>fu a
theorem gk:∀ {a b c:Md},a.le b=true->b.le c=true->a.le c=true
 | .s,_,.s,_,_=>rfl
 | .s,_,.d,_,_=>rfl
 | .s,_,.o _,_,_=>rfl
 | .o a,.o b,.o c,h,k=>gk (a:=a) (b:=b) (c:=c) h k
 | .o a,.o b,.d,h,k=>rfl
 | .o a,.d,.d,h,k=>rfl
 | .d,.d,.d,_,_=>rfl
 | .d,.s,_,h,_=>by cases h
 | .d,.o _,_,h,_=>by cases h
 | .o _,.s,_,h,_=>by cases h
 | .o _,.o _,.s,_,k=>by cases k
 | .o _,.d,.s,_,k=>by cases k
 | .o _,.d,.o _,_,k=>by cases k
 | .d,.d,.s,_,k=>by cases k
 | .d,.d,.o _,_,k=>by cases k
theorem cA:∀ a b:Md,(a.meet b).le a=true/\(a.meet b).le b=true
 | .s,.s=>⟨rfl,rfl⟩
 | .s,.d=>⟨rfl,rfl⟩
 | .s,.o _=>⟨rfl,rfl⟩
 | .d,.s=>⟨rfl,rfl⟩
 | .d,.d=>⟨rfl,rfl⟩
 | .d,.o b=>⟨rfl,fu b⟩
 | .o _,.s=>⟨rfl,rfl⟩
 | .o a,.d=>⟨fu a,rfl⟩
 | .o a,.o b=>cA a b
theorem lU:∀ {a b:Md},a.le b=true->a.kid.le b.kid=true
 | .s,.s,_=>rfl
 | .s,.d,_=>rfl
 | .s,.o _,_=>by first | rfl | exact (by cases ‹Md›<;>rfl)
 | .o a,.o b,h=>h
 | .o a,.d,_=>zo a
 | .d,.d,_=>rfl
 | .d,.s,h=>by cases h
 | .d,.o _,h=>by cases h
 | .o _,.s,h=>by cases h
theorem ei:∀ a:Md,a.up.kid=a
 | .s=>rfl | .d=>rfl | .o _=>rfl
theorem b5 (a:Md):a.up≠.s:=by cases a<;>intro h<;>cases h
theorem LstR.own {a:Addr}(hm:m≠.s):LstR K Z H G a xs m ↔ G a/\H a=some (.lst xs):=by
 cases m with
 | s=>exact absurd rfl hm
 | d=>exact Iff.rfl
 | o m=>exact Iff.rfl
noncomputable abbrev bB (Z G G':Fp):Fp:=fun a=>Z a\/(G a/\¬ G' a)
mutual
theorem Rep.weak:∀ {m m':Md} {t:T} {v:V} {G:Fp},m'.le m=true->Rep K Z H m t v G->∃ G',(∀ a,G' a->G a)/\Rep K (bB Z G G') H m' t v G'
 | m,m',.non,_,G,_,h=>⟨G,fun _ z=>z,h⟩
 | m,m',.bl _,_,G,_,h=>⟨G,fun _ z=>z,h⟩
 | m,m',.int _,_,G,_,h=>⟨G,fun _ z=>z,h⟩
 | m,m',.str _,_,G,_,h=>⟨G,fun _ z=>z,h⟩
 | m,m',.scr _,_,G,_,h=>⟨G,fun _ z=>z,h⟩
 | m,m',.tup ts,v,G,hm,⟨a,xs,e,q,l,r⟩=>by
  obtain ⟨G',h1,h2⟩:=RepL.weak (lU hm) r
  exact ⟨G',h1,a,xs,e,q,l,h2⟩
 | m,m',.lst ts,v,G,hm,h=>by
  cases m' with
  | s=>exact ⟨no,fun _ z=>z.elim,(Rep.sh h).zmono fun a ha=>ha.imp id fun z=>⟨z,fun q=>q⟩⟩
  | d =>
   cases m with
   | s=>cases hm
   | o _=>cases hm
   | d=>exact ⟨G,fun _ z=>z,h.zmono fun _ z=>.inl z⟩
  | o k =>
   have hne:m≠.s:=by rintro rfl; cases hm
   obtain ⟨a,xs,e,l,q,r⟩:=h
   rw [LstR.own hne] at q
   obtain ⟨G',h1,h2⟩:=RepL.weak (lU hm) r
   refine ⟨fun b=>G' b\/b=a,fun b hb=>hb.elim (fun z=>(h1 b z).1) (fun z=>z ▸ q.1),a,xs,e,l,⟨.inr rfl,q.2⟩,?_⟩
   refine (h2.zmono fun b hb=>?_).mono fun b hb=>⟨.inl hb,(h1 b hb).2⟩
   rcases hb with z | ⟨⟨z1,z2⟩,z3⟩
   ·exact .inl z
   ·exact .inr ⟨z1,fun q=>q.elim z3 z2⟩
 | _,_,.dct _ _,_,_,_,h=>h.elim
 | _,_,.ins _ _ _,_,_,_,h=>h.elim
 | m,m',.gone,_,G,_,h=>⟨G,fun _ z=>z,h⟩
theorem RepL.weak:∀ {m m':Md} {ts:List T} {xs:List V} {G:Fp},m'.le m=true->RepL K Z H m ts xs G->∃ G',(∀ a,G' a->G a)/\RepL K (bB Z G G') H m' ts xs G'
 | m,m',[],_,G,_,h=>⟨G,fun _ z=>z,h⟩
 | m,m',t::ts,xs,G,hm,⟨x,r,G1,G2,e,h1,h2,hd,p,q⟩=>by
  obtain ⟨A,a1,a2⟩:=Rep.weak hm p
  obtain ⟨B,b1,b2⟩:=RepL.weak hm q
  refine ⟨fun b=>A b\/B b,fun b hb=>hb.elim (fun z=>h1 b (a1 b z)) (fun z=>h2 b (b1 b z)),x,r,A,B,e,fun _ z=>.inl z,fun _ z=>.inr z,fun b za zb=>hd b (a1 b za) (b1 b zb),?_,?_⟩
  ·refine a2.zmono fun b hb=>hb.imp id fun z=>⟨h1 b z.1,fun q=>q.elim z.2 fun w=>hd b z.1 (b1 b w)⟩
  ·refine b2.zmono fun b hb=>hb.imp id fun z=>⟨h2 b z.1,fun q=>q.elim (fun w=>hd b (a1 b w) z.1) z.2⟩
end
noncomputable def RepW (K:a0a)(Z:Fp)(H:Hp):List W->List V->Fp->Prop
 | [],xs,_=>xs=[]
 | w::ws,xs,G=>∃ x r G1 G2,xs=x::r/\(∀ a,G1 a->G a)/\(∀ a,G2 a->G a)/\(∀ a,G1 a->¬ G2 a)/\Rep K Z H w.1 w.2 x G1/\RepW K Z H ws r G2
theorem RepW.length:∀ {ws:List W} {xs:List V} {G:Fp},RepW K Z H ws xs G->xs.length=ws.length
 | [],_,_,h=>by rw [show _=[] from h]; rfl
 | _::_,_,_,⟨x,r,G1,G2,e,_,_,_,_,q⟩=>by rw [e,a0k,a0k,RepW.length q]
theorem RepW.mono:∀ {ws:List W} {xs:List V} {G G':Fp},(∀ a,G a->G' a)->RepW K Z H ws xs G->RepW K Z H ws xs G'
 | [],_,_,_,_,h=>h
 | _::_,_,_,_,w,⟨x,r,G1,G2,e,h1,h2,hd,p,q⟩=>⟨x,r,G1,G2,e,fun a ha=>w a (h1 a ha),fun a ha=>w a (h2 a ha),hd,p,q⟩
theorem RepW.keep (s:Stay Z H H')(z:∀ a,Z a->Z' a):∀ {ws:List W} {xs:List V} {G:Fp},(∀ a o,G a->H a=some o->H' a=some o)->RepW K Z H ws xs G->RepW K Z' H' ws xs G
 | [],_,_,_,h=>h
 | _::_,_,_,g,⟨x,r,G1,G2,e,h1,h2,hd,p,q⟩=>⟨x,r,G1,G2,e,h1,h2,hd,p.keep s z fun a o ha=>g a o (h1 a ha),RepW.keep s z (fun a o ha=>g a o (h2 a ha)) q⟩
theorem RepW.append:∀ {ws us:List W} {xs ys:List V} {G1 G2 G:Fp},(∀ a,G1 a->G a)->(∀ a,G2 a->G a)->(∀ a,G1 a->¬ G2 a)->RepW K Z H ws xs G1->RepW K Z H us ys G2->RepW K Z H (ws++us) (xs++ys) G
 | [],us,xs,ys,G1,G2,G,w1,w2,d,h,k=>by rw [show xs=[] from h]; exact k.mono w2
 | t::ts,us,xs,ys,G1,G2,G,w1,w2,d,⟨x,r,A,B,e,h1,h2,hd,p,q⟩,k=>by
  rw [e]
  refine ⟨x,r++ys,A,fun a=>B a\/G2 a,rfl,fun a ha=>w1 a (h1 a ha),fun a ha=>ha.elim (fun z=>w1 a (h2 a z)) (w2 a),fun a ha hb=>hb.elim (hd a ha) (d a (h1 a ha)),p,?_⟩
  exact RepW.append (fun a z=>.inl z) (fun a z=>.inr z) (fun a ha=>d a (h2 a ha)) q k
theorem RepW.one {w:W}{x:V}(p:Rep K Z H w.1 w.2 x G):RepW K Z H [w] [x] G:=⟨x,[],G,no,rfl,fun _ h=>h,fun _ h=>h.elim,fun _ _ h=>h,p,rfl⟩
theorem dQ:∀ {ws:List W} {w:W},w∈ws->(d9 ws).le (lf w.1 w.2)=true
 | u::ws,w,h=>by
  rcases a0w.mp h with z | z
  ·subst z; exact (cA _ _).1
  ·exact gk (cA _ _).2 (dQ z)
theorem Rep.lf (h:Rep K Z H m t v G):Rep K Z H (M.lf m t) t v G:=by
 unfold M.lf
 split
 ·rename_i hl; exact h.leaf (fun _ _ _ q=>q) hl
 ·exact h
theorem RepW.to {N:Md}:∀ {ws:List W} {xs:List V} {G:Fp},(∀ w∈ws,N.le (M.lf w.1 w.2)=true)->RepW K Z H ws xs G->∃ G',(∀ a,G' a->G a)/\RepL K (bB Z G G') H N (aH ws) xs G'
 | [],_,G,_,h=>⟨G,fun _ z=>z,h⟩
 | w::ws,xs,G,hm,⟨x,r,G1,G2,e,h1,h2,hd,p,q⟩=>by
  obtain ⟨A,a1,a2⟩:=Rep.weak (hm w a0c) p.lf
  obtain ⟨B,b1,b2⟩:=RepW.to (fun u hu=>hm u (a0e _ hu)) q
  refine ⟨fun b=>A b\/B b,fun b hb=>hb.elim (fun z=>h1 b (a1 b z)) (fun z=>h2 b (b1 b z)),x,r,A,B,e,fun _ z=>.inl z,fun _ z=>.inr z,fun b za zb=>hd b (a1 b za) (b1 b zb),?_,?_⟩
  ·refine a2.zmono fun b hb=>hb.imp id fun z=>⟨h1 b z.1,fun q=>q.elim z.2 fun w=>hd b z.1 (b1 b w)⟩
  ·refine b2.zmono fun b hb=>hb.imp id fun z=>⟨h2 b z.1,fun q=>q.elim (fun w=>hd b (a1 b w) z.1) z.2⟩
end
noncomputable def Own (Z:Fp)(H:Hp)(F:Fp):Prop:=∀ a,F a->¬ Z a/\∃ xs,H a=some (.lst xs)
structure Step (Z:Fp)(H:Hp)(F:Fp)(Z':Fp)(H':Hp)(F':Fp):Prop where
 keep:∀ a o,H a=some o->¬ F a->H' a=some o
 zm:∀ a,Z a->Z' a
 zn:∀ a,Z' a->Z a\/F a\/H a=none
 fn:∀ a,F' a->F a\/H a=none
 al:∀ a,H a≠none->H' a≠none
 za:(∀ a,Z a->H a≠none)->∀ a,Z' a->H' a≠none
section
variable {K:a0a}{Z Z1 Z2 Z':Fp}{H H1 H2 H':Hp}{F F1 F2 F' R G:Fp}
theorem Step.refl (Z:Fp)(H:Hp)(F:Fp):Step Z H F Z H F:=⟨fun _ _ h _=>h,fun _ h=>h,fun _ h=>.inl h,fun _ h=>.inl h,fun _ h=>h,fun z=>z⟩
theorem Step.trans (s:Step Z H F Z1 H1 F1)(t:Step Z1 H1 F1 Z2 H2 F2):Step Z H F Z2 H2 F2 where
 keep:=fun a o h n=>t.keep a o (s.keep a o h n) fun q=>(s.fn a q).elim n fun z=>by rw [h] at z; cases z
 zm:=fun a h=>t.zm a (s.zm a h)
 zn:=fun a h=>by
  rcases t.zn a h with q | q | q
  ·exact s.zn a q
  ·exact .inr (s.fn a q)
  ·exact .inr (.inr (by
    cases e:H a with
    | none=>rfl
    | some o=>exact absurd q (s.al a (by rw [e]; simp))))
 fn:=fun a h=>by
  rcases t.fn a h with q | q
  ·exact s.fn a q
  ·exact .inr (by
    cases e:H a with
    | none=>rfl
    | some o=>exact absurd q (s.al a (by rw [e]; simp)))
 al:=fun a h=>t.al a (s.al a h)
 za:=fun z=>t.za (s.za z)
theorem Step.frame (R:Fp)(s:Step Z H F Z' H' F'):Step Z H (fun a=>F a\/R a) Z' H' (fun a=>F' a\/R a) where
 keep:=fun a o h n=>s.keep a o h fun q=>n (.inl q)
 zm:=s.zm
 zn:=fun a h=>(s.zn a h).imp id fun q=>q.imp .inl id
 fn:=fun a h=>h.elim (fun q=>(s.fn a q).imp .inl id) fun q=>.inl (.inr q)
 al:=s.al
 za:=s.za
theorem Step.mono (s:Step Z H F Z' H' F')(h1:∀ a,F a->F1 a)(h2:∀ a,F2 a->F' a):Step Z H F1 Z' H' F2 where
 keep:=fun a o h n=>s.keep a o h fun q=>n (h1 a q)
 zm:=s.zm
 zn:=fun a h=>(s.zn a h).imp id fun q=>q.imp (h1 a) id
 fn:=fun a h=>(s.fn a (h2 a h)).imp (h1 a) id
 al:=s.al
 za:=s.za
theorem Own.stay (o:Own Z H F)(s:Step Z H F Z' H' F'):Stay Z H H':=by
 refine ⟨fun a u hz h=>s.keep a u h fun q=>(o a q).1 hz,fun a xs h=>?_,fun a u v h=>s.keep a _ h fun q=>?_⟩
 ·rcases h with h | ⟨u,h⟩
  ·refine .inl (s.keep a _ h fun q=>?_)
   obtain ⟨_,ys,e⟩:=o a q
   rw [h] at e; cases e
  ·refine .inr ⟨u,s.keep a _ h fun q=>?_⟩
   obtain ⟨_,ys,e⟩:=o a q
   rw [h] at e; cases e
 ·obtain ⟨_,ys,e⟩:=o a q
  rw [h] at e; cases e
theorem Rep.frame {m:Md}{t:T}{v:V}(o:Own Z H F)(s:Step Z H F Z' H' F')(d:∀ a,G a->¬ F a)(h:Rep K Z H m t v G):Rep K Z' H' m t v G:=h.keep (o.stay s) s.zm fun a u ha e=>s.keep a u e (d a ha)
theorem RepW.frame {ws:List W}{xs:List V}(o:Own Z H F)(s:Step Z H F Z' H' F')(d:∀ a,G a->¬ F a)(h:RepW K Z H ws xs G):RepW K Z' H' ws xs G:=h.keep (o.stay s) s.zm fun a u ha e=>s.keep a u e (d a ha)
theorem Own.frame (o:Own Z H G)(s:Step Z H F Z' H' F')(d:∀ a,G a->¬ F a):Own Z' H' G/\∀ a,G a->¬ F' a:=by
 refine ⟨fun a ha=>?_,fun a ha q=>?_⟩
 ·obtain ⟨nz,xs,e⟩:=o a ha
  refine ⟨fun q=>?_,xs,s.keep a _ e (d a ha)⟩
  rcases s.zn a q with z | z | z
  ·exact nz z
  ·exact d a ha z
  ·rw [e] at z; cases z
 ·obtain ⟨nz,xs,e⟩:=o a ha
  rcases s.fn a q with z | z
  ·exact d a ha z
  ·rw [e] at z; cases z
end
noncomputable abbrev Fps:=Nat->Fp
noncomputable def tot (Fs:Fps):Fp:=fun a=>∃ i,Fs i a
structure Gd (Z:Fp)(H:Hp)(Fs:Fps):Prop where
 own:Own Z H (tot Fs)
 dis:∀ i j a,Fs i a->Fs j a->i=j
 zal:∀ a,Z a->H a≠none
structure Cf where
 sl:Nat->Option Nat
 pv:Nat->Option V
noncomputable def yy (K:a0a)(sl:Cf)(Z:Fp)(H:Hp)(η:Env)(σ:L2.St)(Fs:Fps):Prop :=
 ∀ i m t,rd η i=some (m,t)->∃ v,Rep K Z H m t v (Fs i)/\(∀ j,sl.sl i=some j->σ[j]?=some (some v))/\∀ u,sl.pv i=some u->v=u
structure At (K:a0a)(sl:Cf)(σ:L2.St)(Z:Fp)(H:Hp)(Fs:Fps)(η:Env)(G:Fp):Prop where
 gd:Gd Z H Fs
 env:yy K sl Z H η σ Fs
 own:Own Z H G
 dis:∀ a,G a->¬ tot Fs a
 lk:∀ i u j,sl.pv i=some u->sl.sl i=some j->σ[j]?=some (some u)
 ln:∀ i j,sl.sl i=some j->j < σ.length
section
variable {K:a0a}{sl:Cf}{σ:L2.St}{Z Z':Fp}{H H':Hp}{Fs Fs':Fps}{η η':Env}{G G' R:Fp}
theorem At.frame (a:At K sl σ Z H Fs η R)(b:At K sl σ Z' H' Fs' η' G)(s:Step Z H (tot Fs) Z' H' (fun c=>tot Fs' c\/G c)) :
  At K sl σ Z' H' Fs' η' (fun c=>R c\/G c)/\Step Z H (fun c=>tot Fs c\/R c) Z' H' (fun c=>tot Fs' c\/(R c\/G c))/\∀ c,R c->¬ G c:=by
 have o:=a.own.frame s a.dis
 refine ⟨⟨b.gd,b.env,fun c hc=>hc.elim (o.1 c) (b.own c),fun c hc=>hc.elim (fun z q=>o.2 c z (.inl q)) (b.dis c),b.lk,b.ln⟩,(s.frame R).mono (fun _ z=>z) fun c hc=>?_,fun c z q=>o.2 c z (.inr q)⟩
 rcases hc with z | z | z
 ·exact .inl (.inl z)
 ·exact .inr z
 ·exact .inl (.inr z)
end
end MR
namespace MR
open L2 L3 M
open PySem (Addr Str sizeLine)
section
variable {K:a0a}{sl:Cf}{sf:Nat->Option Nat}{C:Call}{σ:L2.St}{Z Z' Z1:Fp}{H H' H1:Hp}{Fs Fs' Fs1:Fps}{η η' η1:Env}{G G' R F:Fp}
theorem At.mono (a:At K sl σ Z H Fs η G)(h:∀ c,G' c->G c):At K sl σ Z H Fs η G':=⟨a.gd,a.env,fun c hc=>a.own c (h c hc),fun c hc=>a.dis c (h c hc),a.lk,a.ln⟩
theorem At.bare (a:At K sl σ Z H Fs η G):At K sl σ Z H Fs η no:=a.mono fun _ z=>z.elim
noncomputable def wE (K:a0a)(sl:Nat->Option Nat)(C:Call)(e:E):TE:=fun σ H Q=>∃ pv Z Fs η w η',At K ⟨sl,pv⟩ σ Z H Fs η no/\evE C e η=.ok (w,η') /\
 ∀ v Z' H' Fs' G,At K ⟨sl,pv⟩ σ Z' H' Fs' η' G->Rep K Z' H' w.1 w.2 v G->Step Z H (tot Fs) Z' H' (fun a=>tot Fs' a\/G a)->Q v H'
noncomputable def wL (K:a0a)(sl:Nat->Option Nat)(C:Call)(es:List E):TA:=fun σ H Q=>∃ pv Z Fs η ws η',At K ⟨sl,pv⟩ σ Z H Fs η no/\evL C es η=.ok (ws,η') /\
 ∀ vs Z' H' Fs' G,At K ⟨sl,pv⟩ σ Z' H' Fs' η' G->RepW K Z' H' ws vs G->Step Z H (tot Fs) Z' H' (fun a=>tot Fs' a\/G a)->Q vs H'
theorem fS {e:E}{w:W}{Q:VK}(A:At K sl σ Z H Fs η R)(ev:evE C e η=.ok (w,η'))
  (k:∀ v Z' H' Fs' G,At K sl σ Z' H' Fs' η' (fun c=>R c\/G c)->Rep K Z' H' w.1 w.2 v G->(∀ c,R c->¬ G c)->Step Z H (tot Fs) Z' H' (fun a=>tot Fs' a\/G a) ->
   Step Z H (fun c=>tot Fs c\/R c) Z' H' (fun c=>tot Fs' c\/(R c\/G c))->Q v H'):wE K sl.sl C e σ H Q :=
 ⟨sl.pv,Z,Fs,η,w,η',A.bare,ev,fun v Z' H' Fs' G B r s=>by
  obtain ⟨h1,h2,h3⟩:=A.frame B s
  exact k v Z' H' Fs' G h1 r h3 s h2⟩
theorem wy {es:List E}{ws:List W}{Q:List V->Hp->Prop}(A:At K sl σ Z H Fs η R)(ev:evL C es η=.ok (ws,η'))
  (k:∀ vs Z' H' Fs' G,At K sl σ Z' H' Fs' η' (fun c=>R c\/G c)->RepW K Z' H' ws vs G->(∀ c,R c->¬ G c)->Step Z H (tot Fs) Z' H' (fun a=>tot Fs' a\/G a) ->
   Step Z H (fun c=>tot Fs c\/R c) Z' H' (fun c=>tot Fs' c\/(R c\/G c))->Q vs H'):wL K sl.sl C es σ H Q :=
 ⟨sl.pv,Z,Fs,η,ws,η',A.bare,ev,fun v Z' H' Fs' G B r s=>by
  obtain ⟨h1,h2,h3⟩:=A.frame B s
  exact k v Z' H' Fs' G h1 r h3 s h2⟩
theorem aa {α β:Type}{r:Res α}{f:α->Res β}{b:β}(h:r.bind f=.ok b):∃ a,r=.ok a/\f a=.ok b:=by
 cases r with
 | ok a=>exact ⟨a,rfl,h⟩
 | ex c x=>cases h
 | no=>cases h
theorem ai {α:Type}{η:Env}{o:Option α}{b:α×Env}(h:ret η o=.ok b):∃ a,o=some a/\b=(a,η):=by
 cases o with
 | none=>cases h
 | some a=>exact ⟨a,rfl,by cases h; rfl⟩
theorem bH {α:Type}{o:Option α}{b:α}(h:ofO o=.ok b):o=some b:=by
 cases o with
 | none=>cases h
 | some a=>cases h; rfl
theorem av {e:E}{es:List E}{ws:List W}(h:evL C (e::es) η=.ok (ws,η')):∃ w η1 us,evE C e η=.ok (w,η1)/\evL C es η1=.ok (us,η')/\ws=w::us:=by
 obtain ⟨⟨w,η1⟩,h1,h2⟩:=aa (show (evE C e η).bind (aQ (evL C es))=_ from h)
 obtain ⟨⟨us,η2⟩,h3,h4⟩:=aa (show (evL C es η1).bind (jc w)=_ from h2)
 cases h4
 exact ⟨w,η1,us,h1,h3,rfl⟩
theorem ee {e:E}{es:List E}{ws:List W}(he:∀ i,e≠.io i)(h:evA C (e::es) η=.ok (ws,η')):∃ w η1 us,evE C e η=.ok (w,η1)/\evA C es η1=.ok (us,η')/\ws=w::us:=by
 rw [ub he] at h
 obtain ⟨⟨w,η1⟩,h1,h2⟩:=aa h
 obtain ⟨⟨us,η2⟩,h3,h4⟩:=aa (show (evA C es η1).bind (jc w)=_ from h2)
 cases h4
 exact ⟨w,η1,us,h1,h3,rfl⟩
theorem jd {i:Nat}{es:List E}{ws:List W}(h:evA C (.io i::es) η=.ok (ws,η')):∃ us η1 w,evA C es η=.ok (us,η1)/\rd η1 i=some w/\ws=w::us/\η'=del η1 i:=by
 obtain ⟨⟨us,η1⟩,h1,h2⟩:=aa (show (evA C es η).bind (kIo i)=_ from h)
 obtain ⟨w,h3,h4⟩:=aa (show (ofO (rd η1 i)).bind (fun w=>.ok (w::us,del η1 i))=_ from h2)
 cases h4
 exact ⟨us,η1,w,h1,bH h3,rfl,rfl⟩
theorem xh (e:E):(∃ i,e=.io i)\/∀ i,e≠.io i:=by
 cases e with
 | io i=>exact .inl ⟨i,rfl⟩
 | _=>exact .inr fun _ z=>by cases z
theorem qL {e:E}{es:List E}(σ:L2.St)(H:Hp)(Q:List V->Hp->Prop)(h:wL K sf C (e::es) σ H Q):mw (wE K sf C e) (wL K sf C es) σ H Q:=by
 obtain ⟨pv,Z,Fs,η,ws,η',A,ev,k⟩:=h
 obtain ⟨w,η1,us,h1,h2,rfl⟩:=av ev
 refine fS A h1 fun x Z1 H1 Fs1 G1 A1 r1 _ s1 _=>?_
 have A1':=A1.mono (G':=G1) fun _ z=>.inr z
 refine wy A1' h2 fun xs Z2 H2 Fs2 G2 A2 r2 d2 s2 t2=>?_
 refine k (x::xs) Z2 H2 Fs2 _ A2 ⟨x,xs,G1,G2,rfl,fun _ z=>.inl z,fun _ z=>.inr z,d2,r1.frame A1.gd.own s2 A1'.dis,r2⟩ ?_
 exact s1.trans t2
theorem tv (σ:L2.St)(H:Hp)(Q:List V->Hp->Prop)(h:wL K sf C [] σ H Q):sU σ H Q:=by
 obtain ⟨pv,Z,Fs,η,ws,η',A,ev,k⟩:=h
 cases ev
 exact k [] Z H Fs no A rfl ((Step.refl _ _ _).mono (fun _ z=>z) fun a ha=>ha.elim id fun z=>z.elim)
noncomputable def Out (K:a0a)(Z:Fp)(H:Hp)(G:Fp)(w:W)(Q:VK):Prop:=∀ v Z' H' G',Rep K Z' H' w.1 w.2 v G'->Own Z' H' G'->Step Z H G Z' H' G'->Q v H'
theorem At.op (A:At K sl σ Z H Fs η G)(o:Own Z' H' G')(s:Step Z H G Z' H' G'):At K sl σ Z' H' Fs η G'/\Step Z H (fun c=>tot Fs c\/G c) Z' H' (fun c=>tot Fs c\/G' c):=by
 have d:∀ a,tot Fs a->¬ G a:=fun a h q=>A.dis a q h
 have f:=A.gd.own.frame s d
 refine ⟨⟨⟨f.1,A.gd.dis,s.za A.gd.zal⟩,fun i m t e=>?_,o,fun a ha q=>f.2 a q ha,A.lk,A.ln⟩,?_⟩
 ·obtain ⟨v,r,hv⟩:=A.env i m t e
  exact ⟨v,r.frame A.own s fun a ha=>d a ⟨i,ha⟩,hv⟩
 ·refine (s.frame (tot Fs)).mono (fun _ z=>z.symm) fun _ z=>z.symm
theorem bw {w:W}{Q:VK}(A:At K sl σ Z1 H1 Fs1 η1 G)(s:Step Z H F Z1 H1 (fun a=>tot Fs1 a\/G a))
  (k:∀ v Z' H' Fs' G,At K sl σ Z' H' Fs' η1 G->Rep K Z' H' w.1 w.2 v G->Step Z H F Z' H' (fun a=>tot Fs' a\/G a)->Q v H'):Out K Z1 H1 G w Q:=fun v Z' H' G' r o t=>by
 obtain ⟨B,u⟩:=A.op o t
 exact k v Z' H' Fs1 G' B r (s.trans u)
noncomputable def Loc (K:a0a)(n:Nat)(o:Op)(h:Bool)(r:List V->Hp->VK->Prop):Prop:=∀ (ws:List W) (w:W) (xs:List V) (Z:Fp) (H:Hp) (G:Fp) (Q:VK),ws.length=n->oSem o h ws=some w->RepW K Z H ws xs G->Own Z H G->(∀ a,Z a->H a≠none)->Out K Z H G w Q->r xs H Q
theorem bM {o:Op}{h:Bool}{es:List E}{w:W}(e:evE C (.op o h es) η=.ok (w,η')):∃ ws,evL C es η=.ok (ws,η')/\oSem o h ws=some w:=by
 obtain ⟨⟨ws,η1⟩,h1,h2⟩:=aa (show (evL C es η).bind (kOp o h)=_ from e)
 obtain ⟨a,h3,h4⟩:=ai (show ret η1 (oSem o h ws)=_ from h2)
 cases h4
 exact ⟨ws,h1,h3⟩
theorem de:∀ {es:List E} {η η':Env} {ws:List W},evL C es η=.ok (ws,η')->ws.length=es.length
 | [],_,_,_,h=>by cases h; rfl
 | e::es,_,_,_,h=>by
  obtain ⟨w,η1,us,_,h2,rfl⟩:=av h
  rw [a0k,a0k,de h2]
theorem cW {n:Nat}{o:Op}{h:Bool}{es:List E}{r:List V->Hp->VK->Prop}(l:Loc K n o h r)(hn:es.length=n)(σ:L2.St)(H:Hp)(Q:VK)(hw:wE K sf C (.op o h es) σ H Q):tCB r (wL K sf C es) σ H Q:=by
 obtain ⟨pv,Z,Fs,η,w,η',A,ev,k⟩:=hw
 obtain ⟨ws,h1,h2⟩:=bM ev
 exact ⟨pv,Z,Fs,η,ws,η',A,h1,fun vs Z' H' Fs' G B r s=>l ws w vs Z' H' G Q ((de h1).trans hn) h2 r B.own B.gd.zal (bw B s k)⟩
theorem rN {o:Op}{h:Bool}{a:E}{r:V->Hp->VK->Prop}(l:Loc K 1 o h fun xs H Q=>∀ x,xs=[x]->r x H Q)(σ:L2.St)(H:Hp)(Q:VK)(hw:wE K sf C (.op o h [a]) σ H Q):tUn r (wE K sf C a) σ H Q:=by
 obtain ⟨pv,Z,Fs,η,w,η',A,ev,k⟩:=hw
 obtain ⟨ws,h1,h2⟩:=bM ev
 obtain ⟨wa,η1,us,e1,e2,rfl⟩:=av h1
 cases e2
 refine ⟨pv,Z,Fs,η,wa,η',A,e1,fun x Z' H' Fs' G B r s=>l [wa] w [x] Z' H' G Q rfl h2 (RepW.one r) B.own B.gd.zal (bw B s k) x rfl⟩
theorem aL {o:Op}{h:Bool}{a b:E}{r:R2}(l:Loc K 2 o h fun xs H Q=>∀ x y,xs=[x,y]->r x y H Q)(σ:L2.St)(H:Hp)(Q:VK)(hw:wE K sf C (.op o h [a,b]) σ H Q):tOp r (wE K sf C a) (wE K sf C b) σ H Q:=by
 obtain ⟨pv,Z,Fs,η,w,η',A,ev,k⟩:=hw
 obtain ⟨ws,h1,h2⟩:=bM ev
 obtain ⟨wa,η1,us,e1,e2,rfl⟩:=av h1
 obtain ⟨wb,η2,us,e3,e4,rfl⟩:=av e2
 cases e4
 refine fS A e1 fun x Z1 H1 Fs1 G1 A1 r1 _ s1 _=>?_
 have A1':=A1.mono (G':=G1) fun _ z=>.inr z
 refine fS A1' e3 fun y Z2 H2 Fs2 G2 A2 r2 d2 s2 t2=>?_
 exact l [wa,wb] w [x,y] Z2 H2 _ Q rfl h2 ⟨x,[y],G1,G2,rfl,fun _ z=>.inl z,fun _ z=>.inr z,d2,r1.frame A1.gd.own s2 A1'.dis,RepW.one r2⟩ A2.own A2.gd.zal (bw A2 (s1.trans t2) k) x y rfl
theorem bo:Own Z H no:=fun _ z=>z.elim
theorem Step.drop:Step Z H G Z H no:=(Step.refl Z H G).mono (fun _ z=>z) fun _ z=>z.elim
section
variable {Q:VK}{m:Md}{ts:List T}{xs:List V}
theorem aD {i:Int}(k:Out K Z H G (m,.int i) Q):Q (.int i) H:=k _ Z H no rfl bo .drop
theorem bG {b:Bool}(k:Out K Z H G (m,.bl b) Q):Q (.bl b) H:=k _ Z H no rfl bo .drop
theorem c9 {x:Str}(k:Out K Z H G (m,.str x) Q)(h:sOk x=true):Q (.str x) H:=k _ Z H no ⟨rfl,h⟩ bo .drop
theorem fY {t:T}{v:V}(o:Own Z H G)(k:Out K Z H G (m,t) Q)(r:Rep K Z H m t v G):Q v H:=k v Z H G r o (.refl _ _ _)
theorem f6 {p:Addr}{o:HO}(hp:H p=none):Stay Z H (upd H p o):=by
 have ne:∀ {a u},H a=some u->a≠p:=fun {a u} e z=>by subst z; rw [hp] at e; cases e
 refine ⟨fun a u _ e=>?_,fun a xs e=>?_,fun a u v e=>?_⟩
 ·rw [ab (ne e)]; exact e
 ·rcases e with e | ⟨u,e⟩
  ·exact .inl (by rw [ab (ne e)]; exact e)
  ·exact .inr ⟨u,by rw [ab (ne e)]; exact e⟩
 ·rw [ab (ne e)]; exact e
theorem gI {p:Addr}{o:HO}(hp:H p=none)(ow:Own Z H G)(hg:∀ a,G' a->G a\/a=p)(z:Fp)(hz:∀ a,Z a->z a)(hz':∀ a,z a->Z a\/G a):Step Z H G z (upd H p o) G':=by
 have ne:∀ {a u},H a=some u->a≠p:=fun {a u} e q=>by subst q; rw [hp] at e; cases e
 have al:∀ a,H a≠none->upd H p o a≠none:=fun a h=>by
  by_cases e:a=p
  ·rw [e,aq]; simp
  ·rw [ab e]; exact h
 refine ⟨fun a u e _=>by rw [ab (ne e)]; exact e,hz,fun a h=>(hz' a h).imp id .inl,fun a h=>(hg a h).imp id fun e=>by rw [e]; exact hp,al,fun q a h=>al a ?_⟩
 rcases hz' a h with c | c
 ·exact q a c
 ·obtain ⟨_,xs,e⟩:=ow a c
  rw [e]; simp
theorem bg {p:Addr}(ow:Own Z H G)(za:∀ a,Z a->H a≠none)(hg:∀ a,G' a->G a)(hl:xs.length<=LIM)(r:RepL K (bB Z G G') H m.kid ts xs G')(hm:m≠.s)(k:Out K Z H G (m,.lst ts) Q)(hp:H p=none):Q (.ref p) (upd H p (.lst xs)):=by
 have ne:∀ {a u},H a=some u->a≠p:=fun {a u} e q=>by subst q; rw [hp] at e; cases e
 have np:∀ a,G' a->a≠p:=fun a h=>by obtain ⟨_,ys,e⟩:=ow a (hg a h); exact ne e
 refine k _ (bB Z G G') _ (fun a=>G' a\/a=p) ⟨p,xs,rfl,hl,(LstR.own hm).mpr ⟨.inr rfl,aq⟩,?_⟩ ?_ (gI hp ow (fun a h=>h.imp (hg a) id) _ (fun a h=>.inl h) fun a h=>h.imp id a12)
 ·refine (r.keep (f6 hp) (fun _ z=>z) fun a u _ e=>by rw [ab (ne e)]; exact e).mono fun a h=>⟨.inl h,np a h⟩
 ·rintro a (h | h)
  ·obtain ⟨nz,ys,e⟩:=ow a (hg a h)
   exact ⟨fun z=>z.elim nz fun q=>q.2 h,ys,by rw [ab (ne e)]; exact e⟩
  ·subst h
   refine ⟨fun z=>z.elim (fun q=>za a q hp) fun q=>?_,xs,aq⟩
   obtain ⟨_,ys,e⟩:=ow a q.1
   rw [hp] at e; cases e
theorem qf {p:Addr}(ow:Own Z H G)(hg:∀ a,G' a->G a)(hl:xs.length<=LIM)(r:RepL K (bB Z G G') H m.kid ts xs G')(k:Out K Z H G (m,.tup ts) Q)(hp:H p=none):Q (.ref p) (upd H p (.tup xs)):=by
 have ne:∀ {a u},H a=some u->a≠p:=fun {a u} e q=>by subst q; rw [hp] at e; cases e
 refine k _ (bB Z G G') _ G' ⟨p,xs,rfl,.inl (.inl aq),hl,?_⟩ ?_ (gI hp ow (fun a h=>.inl (hg a h)) _ (fun a h=>.inl h) fun a h=>h.imp id a12)
 ·exact r.keep (f6 hp) (fun _ z=>z) fun a u _ e=>by rw [ab (ne e)]; exact e
 ·intro a h
  obtain ⟨nz,ys,e⟩:=ow a (hg a h)
  exact ⟨fun z=>z.elim nz fun q=>q.2 h,ys,by rw [ab (ne e)]; exact e⟩
theorem fX {v:V}{H':Hp}(ow:Own Z H G)(hg:∀ a,G' a->G a)(hl:xs.length<=LIM)(r:RepL K (bB Z G G') H m.kid ts xs G')(k:Out K Z H G (m,.tup ts) Q)(same:∀ b o,H b=some o->H' b=some o)(hv:∃ c,v=.ref c/\SqT K H' c xs):Q v H':=by
 obtain ⟨c,rfl,hs⟩:=hv
 have al:∀ a,H a≠none->H' a≠none:=fun a h=>by
  cases e:H a with
  | none=>exact absurd e h
  | some o=>rw [same a o e]; simp
 refine k _ (bB Z G G') _ G' ⟨c,xs,rfl,hs,hl,?_⟩ (fun a h=>?_) ⟨fun a o e _=>same a o e,fun a h=>.inl h,fun a h=>h.imp id fun q=>.inl q.1,fun a h=>.inl (hg a h),al,fun q a h=>al a ?_⟩
 ·refine r.keep ⟨fun a o _ e=>same a o e,fun a ys e=>?_,fun a o u e=>same a _ e⟩ (fun _ z=>z) fun a u _ e=>same a u e
  rcases e with e | ⟨u,e⟩
  ·exact .inl (same a _ e)
  ·exact .inr ⟨u,same a _ e⟩
 ·obtain ⟨nz,ys,e⟩:=ow a (hg a h)
  exact ⟨fun z=>z.elim nz fun q=>q.2 h,ys,same a _ e⟩
 ·rcases h with h | h
  ·exact q a h
  ·obtain ⟨_,ys,e⟩:=ow a h.1
   rw [e]; simp
theorem bO {p:Addr}{h:Bool}{w:W}(ow:Own Z H G)(za:∀ a,Z a->H a≠none)(hl:xs.length<=LIM)(r:∃ G',(∀ a,G' a->G a)/\RepL K (bB Z G G') H m ts xs G')(hn:newL h m ts=some w)(k:Out K Z H G w Q)(hp:H p=none):Q (.ref p) (upd H p (.lst xs)):=by
 obtain ⟨G',hg,r⟩:=r
 unfold newL at hn
 split at hn
 ·split at hn
  ·rename_i hlv
   cases hn
   refine bg (m:=.d) (G':=no) ow za (fun _ z=>z.elim) hl ?_ (by simp) k hp
   exact r.leaves (fun _ _ _ e=>e) hlv
  ·cases hn
 ·cases hn
  exact bg (m:=m.up) ow za hg hl (by rw [ei]; exact r) (b5 m) k hp
end
end
end MR
namespace MR
open L2 L3 M
open PySem (Addr Str sizeLine)
section
variable {K:a0a}{h:Bool}
theorem cX {α β:Type}{ws:List α}{x y:β}(e:ws.length=[x,y].length):∃ a b,ws=[a,b]:=by
 match ws,e with
 | [a,b],_=>exact ⟨a,b,rfl⟩
theorem jY {α β:Type}{ws:List α}{x:β}(e:ws.length=[x].length):∃ a,ws=[a]:=by
 match ws,e with
 | [a],_=>exact ⟨a,rfl⟩
theorem bK {Z:Fp}{H:Hp}{G:Fp}{u w:W}{x y:V}(r:RepW K Z H [u,w] [x,y] G):∃ G1 G2,(∀ a,G1 a->G a)/\(∀ a,G2 a->G a)/\(∀ a,G1 a->¬ G2 a)/\Rep K Z H u.1 u.2 x G1/\Rep K Z H w.1 w.2 y G2:=by
 obtain ⟨x',r',G1,G2,e,h1,h2,d,p,y',r2,G3,G4,e2,h3,h4,d2,q,z⟩:=r
 cases e; cases e2
 exact ⟨G1,G3,h1,fun a ha=>h2 a (h3 a ha),fun a ha hb=>d a ha (h3 a hb),p,q⟩
theorem ri {Z:Fp}{H:Hp}{G:Fp}{w:W}{x:V}(r:RepW K Z H [w] [x] G):Rep K Z H w.1 w.2 x G:=by
 obtain ⟨x',r',G1,G2,e,h1,h2,d,p,z⟩:=r
 cases e
 exact p.mono h1
theorem aS {ws:List W}{xs:List V}{Z:Fp}{H:Hp}{G:Fp}{w:W}(hw:ws=[w])(r:RepW K Z H ws xs G):∃ x,xs=[x]/\Rep K Z H w.1 w.2 x G:=by
 subst hw
 obtain ⟨x,hx⟩:=jY (x:=()) (show xs.length=[()].length from r.length)
 subst hx
 exact ⟨x,rfl,ri r⟩
theorem fI {n:Nat}(h:n<=LIM):n < sizeLine:=a1P h (by decide)
theorem LIM_le {n:Nat}(h:n<=LIM):n<=sizeLine:=a2e (fI h)
theorem bT {n:Nat}(h:bq n=true):n<=LIM:=of_decide_eq_true h
theorem mH {o:Op}{C:Int->Int->Prop}{g:Int->Int->T}(inv:∀ {u v w:W},oSem o h [u,v]=some w->∃ m n i j,u=(m,.int i)/\v=(n,.int j)/\C i j/\w=(.d,g i j))(gv:Int->Int->V)(hg:∀ {Z:Fp} {H:Hp} {G:Fp} {Q:VK} {i j:Int},Out K Z H G (.d,g i j) Q->Q (gv i j) H) :
  Loc K 2 o h fun xs H Q=>∀ x y,xs=[x,y]->rI C gv x y H Q:=by
 intro ws w xs Z H G Q hn e r ow za k x y hx
 subst hx
 obtain ⟨u,v,rfl⟩:=cX r.length.symm
 obtain ⟨m,n,i,j,rfl,rfl,c,rfl⟩:=inv e
 obtain ⟨G1,G2,_,_,_,r1,r2⟩:=bK r
 exact ⟨i,j,r1,r2,c,hg k⟩
theorem fG {o:Op}{g:Int->Int->T}(inv:∀ {u v w:W},oSem o h [u,v]=some w->∃ m n i j,u=(m,.int i)/\v=(n,.int j)/\w=(.d,g i j))(gv:Int->Int->V)(hg:∀ {Z:Fp} {H:Hp} {G:Fp} {Q:VK} {i j:Int},Out K Z H G (.d,g i j) Q->Q (gv i j) H) :
  Loc K 2 o h fun xs H Q=>∀ x y,xs=[x,y]->rI0 gv x y H Q:=by
 intro ws w xs Z H G Q hn e r ow za k x y hx
 subst hx
 obtain ⟨u,v,rfl⟩:=cX r.length.symm
 obtain ⟨m,n,i,j,rfl,rfl,rfl⟩:=inv e
 obtain ⟨G1,G2,_,_,_,r1,r2⟩:=bK r
 exact ⟨i,j,r1,r2,hg k⟩
theorem oq {u v w:W}(e:oSem .sub h [u,v]=some w):∃ m n i j,u=(m,.int i)/\v=(n,.int j)/\w=(.d,.int (i-j)):=by
 obtain ⟨m,a⟩:=u; obtain ⟨n,b⟩:=v
 cases a<;>first | (cases e; done) | (cases b<;>first | (cases e; exact ⟨_,_,_,_,rfl,rfl,rfl⟩) | cases e)
theorem mU {u v w:W}(e:oSem .lt h [u,v]=some w):∃ m n i j,u=(m,.int i)/\v=(n,.int j)/\w=(.d,.bl (decide (i < j))):=by
 obtain ⟨m,a⟩:=u; obtain ⟨n,b⟩:=v
 cases a<;>first | (cases e; done) | (cases b<;>first | (cases e; exact ⟨_,_,_,_,rfl,rfl,rfl⟩) | cases e)
theorem mS {u v w:W}(e:oSem .le h [u,v]=some w):∃ m n i j,u=(m,.int i)/\v=(n,.int j)/\w=(.d,.bl (decide (i<=j))):=by
 obtain ⟨m,a⟩:=u; obtain ⟨n,b⟩:=v
 cases a<;>first | (cases e; done) | (cases b<;>first | (cases e; exact ⟨_,_,_,_,rfl,rfl,rfl⟩) | cases e)
theorem mB {u v w:W}(e:oSem .gt h [u,v]=some w):∃ m n i j,u=(m,.int i)/\v=(n,.int j)/\w=(.d,.bl (decide (j < i))):=by
 obtain ⟨m,a⟩:=u; obtain ⟨n,b⟩:=v
 cases a<;>first | (cases e; done) | (cases b<;>first | (cases e; exact ⟨_,_,_,_,rfl,rfl,rfl⟩) | cases e)
theorem nh {u v w:W}(e:oSem .ge h [u,v]=some w):∃ m n i j,u=(m,.int i)/\v=(n,.int j)/\w=(.d,.bl (decide (j<=i))):=by
 obtain ⟨m,a⟩:=u; obtain ⟨n,b⟩:=v
 cases a<;>first | (cases e; done) | (cases b<;>first | (cases e; exact ⟨_,_,_,_,rfl,rfl,rfl⟩) | cases e)
theorem km {u v w:W}(e:oSem .fdiv h [u,v]=some w):∃ m n i j,u=(m,.int i)/\v=(n,.int j)/\tK i j/\w=(.d,.int (i / j)):=by
 obtain ⟨m,a⟩:=u; obtain ⟨n,b⟩:=v
 cases a<;>first | (cases e; done) | (cases b<;>try (cases e; done))
 rename_i i j
 rw [mP] at e
 split at e
 ·rename_i hc
  rw [a0m,decide_eq_true_eq,decide_eq_true_eq] at hc
  cases e
  exact ⟨_,_,_,_,rfl,rfl,hc,rfl⟩
 ·cases e
theorem qm {u v w:W}(e:oSem .mod h [u,v]=some w):∃ m n i j,u=(m,.int i)/\v=(n,.int j)/\(0 < j)/\w=(.d,.int (i % j)):=by
 obtain ⟨m,a⟩:=u; obtain ⟨n,b⟩:=v
 cases a<;>first | (cases e; done) | (cases b<;>try (cases e; done))
 rename_i i j
 rw [qV] at e
 split at e
 ·rename_i hc
  rw [decide_eq_true_eq] at hc
  cases e
  exact ⟨_,_,_,_,rfl,rfl,hc,rfl⟩
 ·cases e
theorem qg {u v w:W}(e:oSem .pow h [u,v]=some w):∃ m n i j,u=(m,.int i)/\v=(n,.int j)/\t4 i j/\w=(.d,.int (i ^ j.toNat)):=by
 obtain ⟨m,a⟩:=u; obtain ⟨n,b⟩:=v
 cases a<;>first | (cases e; done) | (cases b<;>try (cases e; done))
 rename_i i j
 rw [xP] at e
 split at e
 ·rename_i hc
  rw [a0m,a0m,decide_eq_true_eq,decide_eq_true_eq,decide_eq_true_eq] at hc
  cases e
  exact ⟨_,_,_,_,rfl,rfl,⟨hc.1.1,hc.1.2,hc.2⟩,rfl⟩
 ·cases e
theorem oD:Loc K 2 .sub h fun xs H Q=>∀ x y,xs=[x,y]->rI0 (fun i j=>.int (i-j)) x y H Q:=fG oq _ fun k=>aD k
theorem k8:Loc K 2 .lt h fun xs H Q=>∀ x y,xs=[x,y]->rI0 (fun i j=>.bl (decide (i < j))) x y H Q:=fG mU _ fun k=>bG k
theorem rS:Loc K 2 .gt h fun xs H Q=>∀ x y,xs=[x,y]->rI0 (fun i j=>.bl (decide (j < i))) x y H Q:=fG mB _ fun k=>bG k
theorem r6:Loc K 2 .ge h fun xs H Q=>∀ x y,xs=[x,y]->rI0 (fun i j=>.bl (decide (j<=i))) x y H Q:=fG nh _ fun k=>bG k
theorem k7:Loc K 2 .fdiv h fun xs H Q=>∀ x y,xs=[x,y]->rI tK (fun i j=>.int (i / j)) x y H Q:=mH km _ fun k=>aD k
theorem oN:Loc K 2 .mod h fun xs H Q=>∀ x y,xs=[x,y]->rI (fun _ j=>0 < j) (fun i j=>.int (i % j)) x y H Q:=mH qm _ fun k=>aD k
theorem oX:Loc K 2 .pow h fun xs H Q=>∀ x y,xs=[x,y]->rI t4 (fun i j=>.int (i ^ j.toNat)) x y H Q:=mH qg _ fun k=>aD k
theorem qM:Loc K 1 .neg h fun xs H Q=>∀ x,xs=[x]->rU (fun i=>.int (-i)) x H Q:=by
 intro ws w xs Z H G Q hn e r ow za k x hx
 subst hx
 obtain ⟨⟨m,a⟩,rfl⟩:=jY r.length.symm
 cases a<;>first | (cases e; exact ⟨_,ri r,aD k⟩) | cases e
theorem aX {Z:Fp}{H:Hp}{G:Fp}{m:Md}{ts:List T}{v:V}(r:Rep K Z H m (.lst ts) v G):∃ a xs,v=.ref a/\H a=some (.lst xs)/\xs.length<=LIM/\RepL K Z H m.kid ts xs G:=by
 obtain ⟨a,xs,e,l,q,p⟩:=r
 exact ⟨a,xs,e,by cases m<;>exact q.2,l,p.mono fun _ z=>z.1⟩
theorem cg {Z:Fp}{H:Hp}{G:Fp}{m:Md}{ts:List T}{v:V}(r:Rep K Z H m (.tup ts) v G):∃ a xs,v=.ref a/\SqT K H a xs/\xs.length<=LIM/\RepL K Z H m.kid ts xs G:=r
theorem dM {Z:Fp}{H:Hp}{G G1 G2:Fp}{m n:Md}{ts us:List T}{xs ys:List V}(w1:∀ a,G1 a->G a)(w2:∀ a,G2 a->G a)(d:∀ a,G1 a->¬ G2 a)(r1:RepL K Z H m ts xs G1)(r2:RepL K Z H n us ys G2) :
  ∃ G',(∀ a,G' a->G a)/\RepL K (bB Z G G') H (m.meet n) (ts++us) (xs++ys) G':=by
 obtain ⟨A,a1,a2⟩:=RepL.weak (cA m n).1 r1
 obtain ⟨B,b1,b2⟩:=RepL.weak (cA m n).2 r2
 refine ⟨fun b=>A b\/B b,fun b hb=>hb.elim (fun z=>w1 b (a1 b z)) fun z=>w2 b (b1 b z),RepL.append (fun _ z=>.inl z) (fun _ z=>.inr z) (fun b za zb=>d b (a1 b za) (b1 b zb)) (a2.zmono fun b hb=>?_) (b2.zmono fun b hb=>?_)⟩
 ·exact hb.imp id fun z=>⟨w1 b z.1,fun q=>q.elim z.2 fun w=>d b z.1 (b1 b w)⟩
 ·exact hb.imp id fun z=>⟨w2 b z.1,fun q=>q.elim (fun w=>d b (a1 b w) z.1) z.2⟩
theorem og {p q:Str}(h1:sOk p=true)(h2:sOk q=true)(hl:p.cps.size+q.cps.size<=LIM):sOk (p++q)=true:=by
 unfold sOk at *
 rw [a0m] at *
 refine ⟨?_,decide_eq_true ?_⟩
 ·show Array.all (p.cps++q.cps) _=true
  rw [Array.all_append,a0m]
  exact ⟨h1.1,h2.1⟩
 ·show (p.cps++q.cps).size<=LIM
  rw [Array.size_append]
  exact hl
theorem qo (rT:R2)(hT:∀ {Z:Fp} {H:Hp} {G:Fp} {Q:VK} {a b:Addr} {xs ys:List V} {ts:List T},SqT K H a xs->SqT K H b ys->xs≠[]->xs.length+ys.length<=LIM->Own Z H G->(∃ G',(∀ a,G' a->G a)/\RepL K (bB Z G G') H .s ts (xs++ys) G')->Out K Z H G (.s,.tup ts) Q->rT (.ref a) (.ref b) H Q) :
  Loc K 2 .add h fun xs H Q=>∀ x y,xs=[x,y]->rI0 (fun i j=>.int (i+j)) x y H Q\/(∃ i j,x=.str i/\y=.str j/\i.length+j.length<=sizeLine/\Q (.str (i++j)) H)\/xr x y H Q\/rT x y H Q:=by
 intro ws w xs Z H G Q hn e r ow za k x y hx
 subst hx
 obtain ⟨⟨m,a⟩,⟨n,b⟩,rfl⟩:=cX r.length.symm
 obtain ⟨G1,G2,w1,w2,d,r1,r2⟩:=bK r
 cases a<;>first | (cases e; done) | (cases b<;>try (cases e; done))
 ·cases e
  exact .inl ⟨_,_,r1,r2,aD k⟩
 ·rename_i p q
  rw [mL] at e
  split at e
  ·rename_i hf
   cases e
   refine .inr (.inl ⟨p,q,r1.1,r2.1,LIM_le (bT hf),c9 k ?_⟩)
   exact og r1.2 r2.2 (bT hf)
  ·cases e
 ·rename_i ts us
  rw [mW] at e
  split at e
  ·rename_i hf
   cases e
   rw [a0m] at hf
   obtain ⟨a,xs,rfl,hs,hl,p⟩:=cg r1
   obtain ⟨b,ys,rfl,hs2,hl2,p2⟩:=cg r2
   have hlen:=bT hf.1
   have e1:=p.length
   have e2:=p2.length
   refine .inr (.inr (.inr (hT hs hs2 ?_ (by omega) ow ?_ k)))
   ·rintro rfl
    cases ts with
    | nil=>simp at hf
    | cons _ _=>simp at e1
   ·refine ⟨no,fun _ z=>z.elim,RepL.append (G1:=no) (G2:=no) (fun _ z=>z) (fun _ z=>z) (fun _ z _=>z) ((RepL.sh p).zmono fun b hb=>?_) ((RepL.sh p2).zmono fun b hb=>?_)⟩
    ·exact hb.imp id fun z=>⟨w1 b z,fun q=>q⟩
    ·exact hb.imp id fun z=>⟨w2 b z,fun q=>q⟩
  ·cases e
 ·rename_i ts us
  rw [kP] at e
  split at e
  ·rename_i hf
   obtain ⟨a,xs,rfl,hs,hl,p⟩:=aX r1
   obtain ⟨b,ys,rfl,hs2,hl2,p2⟩:=aX r2
   have hlen:=bT hf
   have e1:=p.length
   have e2:=p2.length
   have hl3:(xs++ys).length<=LIM:=by rw [a0b]; omega
   refine .inr (.inr (.inl ⟨a,b,xs,ys,rfl,rfl,hs,hs2,LIM_le (by omega),fun q hq=>?_⟩))
   exact bO ow za hl3 (dM w1 w2 d p p2) e k hq
  ·cases e
theorem pN:Loc K 2 .mul h fun xs H Q=>∀ x y,xs=[x,y]->rI CMul (fun i j=>.int (i * j)) x y H Q\/xC x y H Q:=by
 intro ws w xs Z H G Q hn e r ow za k x y hx
 subst hx
 obtain ⟨⟨m,a⟩,⟨n,b⟩,rfl⟩:=cX r.length.symm
 obtain ⟨G1,G2,w1,w2,d,r1,r2⟩:=bK r
 cases a<;>first | (cases e; done) | (cases b<;>try (cases e; done))
 ·rename_i i j
  rw [kv] at e
  split at e
  ·rename_i hc
   cases e
   refine .inl ⟨i,j,r1,r2,?_,aD k⟩
   rw [a2T,decide_eq_true_eq,decide_eq_true_eq] at hc
   have h64:(2:Int) ^ 64=18446744073709551616:=by decide
   unfold CMul
   rw [h64]
   omega
  ·cases e
 ·rename_i ts j
  have e':(if decide (j.natAbs < 4611686018427387904)&&bq (ts.length * j.toNat) then newL h .s (a0g j.toNat ts).flatten else none)=some w:=e
  split at e'
  ·rename_i hc
   rw [a0m,decide_eq_true_eq] at hc
   obtain ⟨a,xs,rfl,hs,hl,p⟩:=aX r1
   have hlen:=bT hc.2
   have e1:=p.length
   have hl3:((a0g j.toNat xs).flatten).length<=LIM:=by
    rw [List.length_flatten,List.map_replicate,List.sum_replicate_nat,e1,a3b]; exact hlen
   refine .inr ⟨a,j,xs,rfl,r2,hs,by omega,by omega,LIM_le (by rw [e1]; exact hlen),fun q hq=>?_⟩
   refine bO ow za hl3 ⟨no,fun _ z=>z.elim,?_⟩ e' k hq
   have ps:=(RepL.sh p).zmono (Z':=bB Z G no) fun b hb=>hb.imp id fun z=>⟨w1 b z,fun q=>q⟩
   generalize j.toNat=c
   induction c with
   | zero=>exact rfl
   | succ c ih=>exact RepL.append (fun _ z=>z) (fun _ z=>z) (fun _ z _=>z) ps ih
  ·cases e'
theorem kS {Z:Fp}{H:Hp}{G:Fp}{m:Md}{ts:List T}{xs:List V}{i:Int}{t:T}(p:RepL K Z H m ts xs G)(e:M.atI ts i=some t):∃ x,L2.atI xs i=some x/\Rep K Z H m t x G:=by
 unfold M.atI at e
 have hn:M.ixN ts.length i=L2.ixN xs.length i:=by rw [p.length]; rfl
 cases e1:M.ixN ts.length i with
 | none=>rw [e1] at e; cases e
 | some j =>
  rw [e1] at e
  obtain ⟨x,hx,r⟩:=p.get (show ts[j]?=some t from e)
  refine ⟨x,?_,r⟩
  unfold L2.atI
  rw [<- hn,e1]
  exact hx
theorem pA {x:Str}{c:Nat}(h:sOk x=true)(hc:c∈x.cps.toList):sOk ⟨#[c]⟩=true:=by
 unfold sOk at *
 rw [a0m] at *
 refine ⟨?_,rfl⟩
 have h1:=h.1
 rw [a1u] at h1
 have h2:=h1 c (Array.mem_def.mpr hc)
 rw [a1u]
 intro y hy
 have:y=c:=by simpa using hy
 rw [this]; exact h2
theorem fq {x:Str}(h:sOk x=true):x.cps.size<=LIM:=by
 unfold sOk at h
 rw [a0m,decide_eq_true_eq] at h
 exact h.2
theorem su:Loc K 2 .ix h fun xs H Q=>∀ x y,xs=[x,y]->(∃ p xs i v,x=.ref p/\y=.int i/\(SqL K H p xs\/SqT K H p xs)/\L2.atI xs i=some v/\Q v H)\/(∃ z i c,x=.str z/\y=.int i/\z.length<=sizeLine/\L2.atI z.cps.toList i=some c/\Q (.str ⟨#[c]⟩) H):=by
 intro ws w xs Z H G Q hn e r ow za k x y hx
 subst hx
 obtain ⟨⟨m,a⟩,⟨n,b⟩,rfl⟩:=cX r.length.symm
 obtain ⟨G1,G2,w1,w2,d,r1,r2⟩:=bK r
 cases b with
 | int i =>
  cases a with
  | lst ts =>
   obtain ⟨a,xs,rfl,hs,hl,p⟩:=aX r1
   have e':(M.atI ts i).map (fun t=>(m.kid,t))=some w:=e
   cases e1:M.atI ts i with
   | none=>rw [e1] at e'; cases e'
   | some t =>
    rw [e1] at e'; cases e'
    obtain ⟨v,hv,rv⟩:=kS p e1
    exact .inl ⟨a,xs,i,v,rfl,r2,.inl (.inl (.inl hs)),hv,fY ow k (rv.mono w1)⟩
  | tup ts =>
   obtain ⟨a,xs,rfl,hs,hl,p⟩:=cg r1
   have e':(M.atI ts i).map (fun t=>(m.kid,t))=some w:=e
   cases e1:M.atI ts i with
   | none=>rw [e1] at e'; cases e'
   | some t =>
    rw [e1] at e'; cases e'
    obtain ⟨v,hv,rv⟩:=kS p e1
    exact .inl ⟨a,xs,i,v,rfl,r2,.inr hs,hv,fY ow k (rv.mono w1)⟩
  | str z =>
   have e':(M.atI z.cps.toList i).map (fun c=>((.d,.str ⟨#[c]⟩):W))=some w:=e
   cases e1:M.atI z.cps.toList i with
   | none=>rw [e1] at e'; cases e'
   | some c =>
    rw [e1] at e'; cases e'
    refine .inr ⟨z,i,c,r1.1,r2,LIM_le (fq r1.2),e1,c9 k (pA r1.2 ?_)⟩
    unfold M.atI at e1
    cases e2:M.ixN z.cps.toList.length i with
    | none=>rw [e2] at e1; cases e1
    | some j=>rw [e2] at e1; exact a1k e1
  | scr ns =>
   obtain ⟨a,rfl,hL,hs⟩:=r1
   have e':(M.atI ns i).map (fun n=>((.d,.int n):W))=some w:=e
   cases e1:M.atI ns i with
   | none=>rw [e1] at e'; cases e'
   | some n =>
    rw [e1] at e'; cases e'
    refine .inl ⟨a,_,i,.int n,rfl,r2,.inl hs.sq,?_,aD k⟩
    unfold M.atI at e1
    unfold L2.atI
    rw [a0d]
    cases e2:M.ixN ns.length i with
    | none=>rw [e2] at e1; cases e1
    | some j =>
     rw [e2] at e1
     rw [show L2.ixN ns.length i=some j from e2]
     show (ns.map V.int)[j]?=_
     rw [a0C,show ns[j]?=some n from e1]
     rfl
  | _=>cases e
 | _=>cases a<;>cases e
theorem nS:Loc K 1 .len h fun xs H Q=>∃ x n,xs=[x]/\(match x with
  | .str y=>y.length<=sizeLine/\n=y.length
  | .byt y=>y.size<=sizeLine/\n=y.size
  | .ref p=>(∃ xs,SqL K H p xs/\n=xs.length)\/∃ xs,SqT K H p xs/\n=xs.length
  | _=>False)/\Q (.int (n:Nat)) H:=by
 intro ws w xs Z H G Q hn e r ow za k
 match ws,hn with
 | [(m,a)],_ =>
  obtain ⟨x,rfl,r1⟩:=aS rfl r
  cases a with
  | lst ts =>
   obtain ⟨a,xs,hx,hs,hl,p⟩:=aX r1
   cases e
   refine ⟨x,ts.length,rfl,?_,aD k⟩
   rw [show x=.ref a from hx]
   exact .inl ⟨xs,.inl (.inl hs),p.length.symm⟩
  | tup ts =>
   obtain ⟨a,xs,hx,hs,hl,p⟩:=cg r1
   cases e
   refine ⟨x,ts.length,rfl,?_,aD k⟩
   rw [show x=.ref a from hx]
   exact .inr ⟨xs,hs,p.length.symm⟩
  | str z =>
   cases e
   refine ⟨x,z.length,rfl,?_,aD k⟩
   rw [show x=.str z from r1.1]
   exact ⟨LIM_le (fq r1.2),rfl⟩
  | scr ns =>
   obtain ⟨a,hx,hL,hs⟩:=r1
   cases e
   refine ⟨x,ns.length,rfl,?_,aD k⟩
   rw [show x=.ref a from hx]
   exact .inl ⟨_,hs.sq,by rw [a0d]⟩
  | dct ks vs=>exact (show False from r1).elim
  | _=>cases e
theorem iB {Z:Fp}{H:Hp}{G:Fp}{m:Md}:∀ ns:List Int,RepL K Z H m (ns.map T.int) (ns.map V.int) G
 | []=>rfl
 | n::ns=>⟨.int n,ns.map V.int,no,no,rfl,fun _ z=>z.elim,fun _ z=>z.elim,fun _ z=>z.elim,rfl,iB ns⟩
theorem kl:Loc K 1 .list h fun xs H Q=>∃ p ys,xs=[.ref p]/\(SqL K H p ys\/SqT K H p ys)/\∀ l,H l=none->Q (.ref l) (upd H l (.lst ys)):=by
 intro ws w xs Z H G Q hn e r ow za k
 match ws,hn with
 | [(m,a)],_ =>
  obtain ⟨x,rfl,r1⟩:=aS rfl r
  cases a with
  | lst ts =>
   obtain ⟨a,xs,hx,hs,hl,p⟩:=aX r1
   refine ⟨a,xs,by rw [hx],.inl (.inl (.inl hs)),fun q hq=>bO ow za hl ⟨G,fun _ z=>z,p.zmono fun _ z=>.inl z⟩ e k hq⟩
  | tup ts =>
   obtain ⟨a,xs,hx,hs,hl,p⟩:=cg r1
   refine ⟨a,xs,by rw [hx],.inr hs,fun q hq=>bO ow za hl ⟨G,fun _ z=>z,p.zmono fun _ z=>.inl z⟩ e k hq⟩
  | scr ns =>
   obtain ⟨a,hx,hL,hs⟩:=r1
   cases e
   refine ⟨a,_,by rw [hx],.inl hs.sq,fun q hq=>bg (G':=no) ow za (fun _ z=>z.elim) (by rw [a0d]; exact hL) (iB ns) (by simp) k hq⟩
  | _=>cases e
theorem jP {Z:Fp}{H:Hp}{G:Fp}{m:Md}:∀ {ts:List T} {ns:List Bool} {xs:List V},aN ts=some ns->RepL K Z H m ts xs G->xs=ns.map V.bl:=by
 intro ts
 induction ts generalizing G with
 | nil=>intro ns xs e r; cases e; exact r
 | cons t ts ih =>
  intro ns xs e r
  obtain ⟨x,r',G1,G2,rfl,_,_,_,p,q⟩:=r
  cases t with
  | bl i =>
   cases e1:aN ts with
   | none=>simp [aN,e1] at e
   | some ms =>
    have:ns=i::ms:=by simpa [aN,e1] using e.symm
    subst this
    rw [a0u,<- ih e1 q,show x=.bl i from p]
  | _=>cases e
theorem oo:Loc K 1 .all h fun xs H Q=>∃ (a:Addr) (bs:List Bool),xs=[.ref a]/\SqL K H a (bs.map V.bl)/\Q (.bl (bs.all id)) H:=by
 intro ws w xs Z H G Q hn e r ow za k
 match ws,hn with
 | [(m,a)],_ =>
  obtain ⟨x,rfl,r1⟩:=aS rfl r
  cases a with
  | lst ts =>
   obtain ⟨a,xs,hx,hs,hl,p⟩:=aX r1
   have e':(aN ts).map (fun ns=>((.d,.bl (ns.all id)):W))=some w:=e
   cases e1:aN ts with
   | none=>rw [e1] at e'; cases e'
   | some ns =>
    rw [e1] at e'; cases e'
    rw [jP e1 p] at hs
    exact ⟨a,ns,by rw [hx],.inl (.inl hs),bG k⟩
  | _=>cases e
theorem oO:Loc K 2 .max h fun xs H Q=>∃ i j,xs=[.int i,.int j]/\Q (.int (if j > i then j else i)) H:=by
 intro ws w xs Z H G Q hn e r ow za k
 match ws,hn with
 | [(m,a),(n,b)],_ =>
  obtain ⟨x,y,hx⟩:∃ x y,xs=[x,y]:=cX (x:=()) (y:=()) (show xs.length=[(),()].length from r.length)
  subst hx
  obtain ⟨G1,G2,_,_,_,r1,r2⟩:=bK r
  cases a<;>first | (cases e; done) | (cases b<;>first | (cases e; exact ⟨_,_,by rw [show x=_ from r1,show y=_ from r2],aD k⟩) | cases e)
theorem oz:Loc K 2 .min h fun xs H Q=>∃ i j,xs=[.int i,.int j]/\Q (.int (if j < i then j else i)) H:=by
 intro ws w xs Z H G Q hn e r ow za k
 match ws,hn with
 | [(m,a),(n,b)],_ =>
  obtain ⟨x,y,hx⟩:∃ x y,xs=[x,y]:=cX (x:=()) (y:=()) (show xs.length=[(),()].length from r.length)
  subst hx
  obtain ⟨G1,G2,_,_,_,r1,r2⟩:=bK r
  cases a<;>first | (cases e; done) | (cases b<;>first | (cases e; exact ⟨_,_,by rw [show x=_ from r1,show y=_ from r2],aD k⟩) | cases e)
end
end MR
namespace MR
open L2 L3 M
open PySem (Addr Str sizeLine)
section
variable {K:a0a}{sl:Cf}{sf:Nat->Option Nat}{C:Call}{σ:L2.St}{Z Z' Z1:Fp}{H H' H1:Hp}{Fs Fs' Fs1:Fps}{η η' η1:Env}{G G' R F:Fp}
mutual
theorem Rep.sany:∀ {t:T} {v:V} {G G':Fp},Rep K Z H .s t v G->Rep K Z H .s t v G'
 | .non,_,_,_,h=>h
 | .bl _,_,_,_,h=>h
 | .int _,_,_,_,h=>h
 | .str _,_,_,_,h=>h
 | .scr _,_,_,_,h=>h
 | .tup ts,_,_,_,⟨a,xs,e,q,l,r⟩=>⟨a,xs,e,q,l,RepL.sany r⟩
 | .lst ts,_,_,_,⟨a,xs,e,l,q,r⟩=>⟨a,xs,e,l,q,RepL.sany r⟩
 | .dct _ _,_,_,_,h=>h.elim
 | .ins _ _ _,_,_,_,h=>h.elim
 | .gone,_,_,_,h=>h
theorem RepL.sany:∀ {ts:List T} {xs:List V} {G G':Fp},RepL K Z H .s ts xs G->RepL K Z H .s ts xs G'
 | [],_,_,_,h=>h
 | t::ts,xs,_,_,⟨x,r,G1,G2,e,h1,h2,hd,p,q⟩=>⟨x,r,no,no,e,fun _ z=>z.elim,fun _ z=>z.elim,fun _ z=>z.elim,Rep.sany p,RepL.sany q⟩
end
theorem aU:∀ (η:Env) (i j:Nat) (o:Option W),rd (wr η i o) j=if j=i/\i < η.length then o else rd η j
 | [],i,j,o=>by simp [wr,rd]
 | p::η,0,0,o=>by simp [wr,rd]
 | p::η,0,j+1,o=>by simp [wr,rd]
 | p::η,i+1,0,o=>by simp [wr,rd]
 | p::η,i+1,j+1,o=>by
  show rd (wr η i o) j=_
  rw [aU η i j o]
  simp [rd]
theorem cx:∀ {η:Env} {i:Nat} {w:W},rd η i=some w->i < η.length
 | [],_,_,h=>by cases h
 | _::_,0,_,_=>by simp
 | _::η,i+1,_,h=>by have:=cx (η:=η) (i:=i) h; simp; exact this
theorem bZ (h:∀ a,F a->G a):Step Z H G Z H F:=(Step.refl Z H G).mono (fun _ z=>z) h
theorem uw {i j:Nat}(hs:sf i=some j)(σ:L2.St)(H:Hp)(Q:VK)(h:wE K sf C (.var i) σ H Q):oW j σ H Q:=by
 obtain ⟨pv,Z,Fs,η,w,η',A,ev,k⟩:=h
 obtain ⟨w',e1,e2⟩:=ai (show ret η ((rd η i).bind look)=_ from ev)
 cases e2
 cases e3:rd η i with
 | none=>rw [e3] at e1; cases e1
 | some u =>
  rw [e3] at e1
  obtain ⟨m,t⟩:=u
  obtain ⟨v,r,hv⟩:=A.env i m t e3
  refine ⟨v,hv.1 j hs,k v Z H Fs no A ?_ (bZ fun a ha=>ha.elim id fun z=>z.elim)⟩
  cases m with
  | s=>cases e1; exact r.sany
  | d =>
   have e1':(if t.leaf=true then some (Md.d,t) else none)=some w:=e1
   split at e1'
   ·rename_i hl; cases e1'; exact r.leaf (fun _ _ _ q=>q) hl
   ·cases e1'
  | o m =>
   have e1':(if t.leaf=true then some (Md.d,t) else none)=some w:=e1
   split at e1'
   ·rename_i hl; cases e1'; exact r.leaf (fun _ _ _ q=>q) hl
   ·cases e1'
noncomputable def yF (Fs:Fps)(i:Nat):Fps:=fun j a=>j≠i/\Fs j a
theorem uY {e:E}{i j:Nat}(he:∀ η,evE C e η=ret (del η i) (rd η i))(hs:sf i=some j)(σ:L2.St)(H:Hp)(Q:VK)(h:wE K sf C e σ H Q):oW j σ H Q:=by
 obtain ⟨pv,Z,Fs,η,w,η',A,ev,k⟩:=h
 rw [he] at ev
 obtain ⟨w',e1,e2⟩:=ai ev
 cases e2
 obtain ⟨m,t⟩:=w
 obtain ⟨v,r,hv⟩:=A.env i m t e1
 refine ⟨v,hv.1 j hs,k v Z H (yF Fs i) (Fs i) ⟨⟨fun a ⟨l,h1,h2⟩=>A.gd.own a ⟨l,h2⟩,fun l l' a h1 h2=>A.gd.dis l l' a h1.2 h2.2,A.gd.zal⟩,fun l m' t' e=>?_,fun a ha=>A.gd.own a ⟨i,ha⟩,fun a ha ⟨l,h1,h2⟩=>h1 (A.gd.dis l i a h2 ha),A.lk,A.ln⟩ r (bZ fun a ha=>ha.elim (fun ⟨l,h1,h2⟩=>⟨l,h2⟩) fun z=>⟨i,z⟩)⟩
 rw [aU] at e
 split at e
 ·cases e
 ·rename_i hne
  obtain ⟨v',r',hv'⟩:=A.env l m' t' e
  have hli:l≠i:=fun z=>hne ⟨z,cx e1⟩
  exact ⟨v',r'.mono fun a ha=>⟨hli,ha⟩,hv'⟩
theorem dR {t:T}{v:V}(hv:∀ {Z:Fp} {H:Hp},Rep K Z H .d t v no)(σ:L2.St)(H:Hp)(Q:VK)(h:wE K sf C (.cst t) σ H Q):tC v σ H Q:=by
 obtain ⟨pv,Z,Fs,η,w,η',A,ev,k⟩:=h
 cases ev
 exact k v Z H Fs no A hv (bZ fun a ha=>ha.elim id fun z=>z.elim)
theorem tZ {es:List E}(hn:es.length<=LIM)(σ:L2.St)(H:Hp)(Q:VK)(h:wE K sf C (.tup es) σ H Q):vR (wL K sf C es) σ H Q:=by
 obtain ⟨pv,Z,Fs,η,w,η',A,ev,k⟩:=h
 obtain ⟨⟨ws,η1⟩,h1,h2⟩:=aa (show (evL C es η).bind iI=_ from ev)
 cases h2
 refine ⟨pv,Z,Fs,η,ws,_,A,h1,fun vs Z' H' Fs' G B r s=>?_⟩
 have hl:vs.length<=LIM:=by rw [r.length,de h1]; exact hn
 obtain ⟨G',g1,g2⟩:=RepW.to (fun u hu=>dQ hu) r
 refine ⟨LIM_le hl,fun p hp=>qf (m:=(d9 ws).up) B.own g1 hl (by rw [ei]; exact g2) (bw B s k) hp⟩
theorem sr {b:Bool}{es:List E}(hn:es.length<=LIM)(σ:L2.St)(H:Hp)(Q:VK)(h:wE K sf C (.lst b es) σ H Q):yi (wL K sf C es) σ H Q:=by
 obtain ⟨pv,Z,Fs,η,w,η',A,ev,k⟩:=h
 obtain ⟨⟨ws,η1⟩,h1,h2⟩:=aa (show (evL C es η).bind (lY b)=_ from ev)
 cases h2
 refine ⟨pv,Z,Fs,η,ws,_,A,h1,fun vs Z' H' Fs' G B r s=>?_⟩
 have hl:vs.length<=LIM:=by rw [r.length,de h1]; exact hn
 refine ⟨LIM_le hl,fun p hp=>?_⟩
 cases b with
 | true =>
  obtain ⟨G',g1,g2⟩:=RepW.to (fun u hu=>dQ hu) r
  exact bg (m:=(d9 ws).up) B.own B.gd.zal g1 hl (by rw [ei]; exact g2) (b5 _) (bw B s k) hp
 | false =>
  obtain ⟨G',g1,g2⟩:=RepW.to (N:=.s) (fun u hu=>by cases lf u.1 u.2<;>rfl) r
  exact bg (m:=.o .s) B.own B.gd.zal g1 hl g2 (by simp) (bw B s k) hp
noncomputable def wT (K:a0a)(sl:Nat->Option Nat)(C:Call)(e:E):TT:=fun σ H Q=>∃ pv Z Fs η w η' b,At K ⟨sl,pv⟩ σ Z H Fs η no/\evE C e η=.ok (w,η')/\truth w.2=some b /\
 ∀ Z' H' Fs',At K ⟨sl,pv⟩ σ Z' H' Fs' η' no->Step Z H (tot Fs) Z' H' (tot Fs')->Q b H'
noncomputable def TrV (K:a0a)(x:V)(H:Hp)(k:Bool):Prop :=
 match x with
 | .non=>k=false
 | .bl b=>k=b
 | .int i=>k=(i != 0)
 | .str y=>y.length<=sizeLine/\k=((y.length:Int) != 0)
 | .ref p=>(∃ xs,SqL K H p xs/\k=!xs.isEmpty)\/(∃ xs,SqT K H p xs/\k=!xs.isEmpty)
 | _=>False
theorem bN {α β:Type}{xs:List α}{ys:List β}(h:xs.length=ys.length):xs.isEmpty=ys.isEmpty:=by
 cases xs<;>cases ys<;>first | rfl | simp at h
theorem eW {m:Md}{t:T}{v:V}{b:Bool}(e:truth t=some b)(r:Rep K Z H m t v G):TrV K v H b:=by
 cases t with
 | non=>cases e; rw [show v=_ from r]; rfl
 | bl c=>cases e; rw [show v=_ from r]; rfl
 | int i=>cases e; rw [show v=_ from r]; rfl
 | str x =>
  cases e; rw [show v=_ from r.1]
  refine ⟨LIM_le (fq r.2),?_⟩
  show (x.cps.size != 0)=(((x.cps.size:Nat):Int) != 0)
  cases x.cps.size with
  | zero=>rfl
  | succ n=>simp; omega
 | tup ts =>
  obtain ⟨a,xs,rfl,hs,hl,p⟩:=cg r
  cases e
  exact .inr ⟨xs,hs,by rw [bN p.length]⟩
 | lst ts =>
  obtain ⟨a,xs,rfl,hs,hl,p⟩:=aX r
  cases e
  exact .inl ⟨xs,.inl (.inl hs),by rw [bN p.length]⟩
 | scr ns =>
  obtain ⟨a,rfl,hL,hs⟩:=r
  cases e
  exact .inl ⟨_,hs.sq,by rw [bN (a0d ..)]⟩
 | dct _ _=>exact r.elim
 | ins _ _ _=>cases e
 | gone=>cases e
theorem ox {e:E}{w:W}{b:Bool}{Q:Bool->Hp->Prop}(A:At K sl σ Z H Fs η no)(ev:evE C e η=.ok (w,η'))(ht:truth w.2=some b)(k:∀ Z' H' Fs',At K sl σ Z' H' Fs' η' no->Step Z H (tot Fs) Z' H' (tot Fs')->Q b H'):wT K sl.sl C e σ H Q:=⟨sl.pv,Z,Fs,η,w,η',b,A,ev,ht,k⟩
theorem bE {α:Type}{f g:Env->Res α}{p:W×Env}{r:α}(h:onT f g p=.ok r):∃ b,truth p.1.2=some b/\(if b=true then f p.2 else g p.2)=.ok r:=by
 unfold onT at h
 split at h
 ·rename_i e; exact ⟨true,e,h⟩
 ·rename_i e; exact ⟨false,e,h⟩
 ·cases h
theorem sW {e:E}(σ:L2.St)(H:Hp)(Q:Bool->Hp->Prop)(h:wT K sf C (.not e) σ H Q):xH (wT K sf C e) σ H Q:=by
 obtain ⟨pv,Z,Fs,η,w,η',b,A,ev,ht,k⟩:=h
 obtain ⟨⟨u,η1⟩,h1,h2⟩:=aa (show (evE C e η).bind nu=_ from ev)
 obtain ⟨w',e1,e2⟩:=ai (show ret η1 ((truth u.2).map fun b=>((.d,.bl (!b)):W))=_ from h2)
 cases e2
 cases e3:truth u.2 with
 | none=>rw [e3] at e1; cases e1
 | some c =>
  rw [e3] at e1; cases e1
  have:b=!c:=by cases ht; rfl
  subst this
  exact ox A h1 e3 k
theorem wg {a b:E}(σ:L2.St)(H:Hp)(Q:Bool->Hp->Prop)(h:wT K sf C (.or a b) σ H Q):tOr (wT K sf C a) (wT K sf C b) σ H Q:=by
 obtain ⟨pv,Z,Fs,η,w,η',c,A,ev,ht,k⟩:=h
 obtain ⟨⟨u,η1⟩,h1,h2⟩:=aa (show (evE C a η).bind (kOr (evE C b))=_ from ev)
 obtain ⟨d,h3,h4⟩:=bE (show onT (okW u) (evE C b) (u,η1)=_ from h2)
 refine ox A h1 h3 fun Z1 H1 Fs1 A1 s1=>?_
 cases d with
 | false=>rw [if_neg a0l] at h4 ⊢; exact ox A1 h4 ht fun Z2 H2 Fs2 A2 s2=>k Z2 H2 Fs2 A2 (s1.trans s2)
 | true =>
  rw [if_pos rfl] at h4 ⊢
  cases h4
  cases (h3.symm.trans ht)
  exact k Z1 H1 Fs1 A1 s1
theorem u6 {c a b:E}(σ:L2.St)(H:Hp)(Q:VK)(h:wE K sf C (.ifx c a b) σ H Q):tIf (wT K sf C c) (wE K sf C a) (wE K sf C b) σ H Q:=by
 obtain ⟨pv,Z,Fs,η,w,η',A,ev,k⟩:=h
 obtain ⟨⟨u,η1⟩,h1,h2⟩:=aa (show (evE C c η).bind (onT (evE C a) (evE C b))=_ from ev)
 obtain ⟨d,h3,h4⟩:=bE h2
 refine ox A h1 h3 fun Z1 H1 Fs1 A1 s1=>?_
 cases d with
 | true=>rw [if_pos rfl] at h4 ⊢; exact ⟨pv,Z1,Fs1,η1,w,η',A1,h4,fun v Z' H' Fs' G B r s=>k v Z' H' Fs' G B r (s1.trans s)⟩
 | false=>rw [if_neg a0l] at h4 ⊢; exact ⟨pv,Z1,Fs1,η1,w,η',A1,h4,fun v Z' H' Fs' G B r s=>k v Z' H' Fs' G B r (s1.trans s)⟩
theorem uI {a b:E}(σ:L2.St)(H:Hp)(Q:VK)(h:wE K sf C (.and a b) σ H Q):wE K sf C a σ H fun x H1=>∃ k,TrV K x H1 k/\if k=true then wE K sf C b σ H1 Q else Q x H1:=by
 obtain ⟨pv,Z,Fs,η,w,η',A,ev,k⟩:=h
 obtain ⟨⟨u,η1⟩,h1,h2⟩:=aa (show (evE C a η).bind (kx (evE C b))=_ from ev)
 obtain ⟨d,h3,h4⟩:=bE (show onT (evE C b) (okW u) (u,η1)=_ from h2)
 refine ⟨pv,Z,Fs,η,u,η1,A,h1,fun v Z1 H1 Fs1 G B r s=>⟨d,eW h3 r,?_⟩⟩
 cases d with
 | true=>rw [if_pos rfl] at h4 ⊢; exact ⟨pv,Z1,Fs1,η1,w,η',B.bare,h4,fun v' Z' H' Fs' G' B' r' s'=>k v' Z' H' Fs' G' B' r' ((s.mono (fun _ z=>z) fun _ z=>.inl z).trans s')⟩
 | false =>
  rw [if_neg a0l] at h4 ⊢
  cases h4
  exact k v Z1 H1 Fs1 G B r s
end
end MR
namespace MR
open L2 L3 M
open PySem (Addr Str sizeLine)
section
variable {K:a0a}{sl:Cf}{sf:Nat->Option Nat}{C:Call}{σ:L2.St}{Z Z' Z1:Fp}{H H' H1:Hp}{Fs Fs' Fs1:Fps}{η η' η1:Env}{G G' R F:Fp}
structure Wk (K:a0a)(J:It)(Z:Fp)(H0:Hp)(ts:List (List W)):Prop where
 go:∀ H i,Stay Z H0 H->i < ts.length->J.go i H
 stop:∀ H i,Stay Z H0 H->ts.length<=i->J.stop i H
 len:ts.length<=LIM
noncomputable def kz (K:a0a)(J:It)(Z:Fp)(H0:Hp)(ts:List (List W)):Prop :=
 ∀ H i x H',Stay Z H0 H->i < ts.length->J.yld i H x H'->H'=H/\∃ w,ts[i]?=some [w]/\Rep K Z H w.1 w.2 x no
noncomputable def zu (K:a0a)(J:It)(Z:Fp)(H0:Hp)(ts:List (List W)):Prop :=
 ∀ H i x H',Stay Z H0 H->i < ts.length->J.yld i H x H'->∃ p y z u w,x=.ref p/\(∀ b o,H b=some o->H' b=some o)/\SqT K H' p [y,z]/\ts[i]?=some [u,w]/\Rep K Z H u.1 u.2 y no/\Rep K Z H w.1 w.2 z no
theorem gJ (same:∀ b o,H b=some o->H' b=some o):Stay Z H H':=by
 refine ⟨fun a o _ e=>same a o e,fun a ys e=>?_,fun a o u e=>same a _ e⟩
 rcases e with e | ⟨u,e⟩
 ·exact .inl (same a _ e)
 ·exact .inr ⟨u,same a _ e⟩
theorem dN (same:∀ a o,H a=some o->H' a=some o):Step Z H G Z H' G:=by
 have al:∀ a,H a≠none->H' a≠none:=fun a h=>by
  cases e:H a with
  | none=>exact absurd e h
  | some o=>rw [same a o e]; simp
 exact ⟨fun a o h _=>same a o h,fun _ h=>h,fun _ h=>.inl h,fun _ h=>.inl h,al,fun z a h=>al a (z a h)⟩
theorem rO {p:Addr}{o:HO}(hp:H p=none):∀ b u,H b=some u->upd H p o b=some u:=fun a u e=>by
 have:a≠p:=fun q=>by subst q; rw [hp] at e; cases e
 rw [ab this]; exact e
noncomputable def Yld (K:a0a)(J:It)(Z:Fp)(H0:Hp)(ts:List (List W)):Nat->Prop
 | 1=>kz K J Z H0 ts
 | 2=>zu K J Z H0 ts
 | _=>False
noncomputable def wI (K:a0a)(sl:Nat->Option Nat)(C:Call)(n:Nat)(k:Ik)(src:List E):TI:=fun σ H R=>∃ pv Z Fs η ws η' ts,At K ⟨sl,pv⟩ σ Z H Fs η no/\evL C src η=.ok (ws,η')/\aT k ws=some ts /\
 ∀ J Z' H' Fs',At K ⟨sl,pv⟩ σ Z' H' Fs' η' no->Step Z H (tot Fs) Z' H' (tot Fs')->Wk K J Z' H' ts->Yld K J Z' H' ts n->R J H'
theorem At.freeze (A:At K sl σ Z H Fs η G):At K sl σ (fun a=>Z a\/G a) H Fs η no:=by
 refine ⟨⟨fun a ha=>⟨fun z=>z.elim (A.gd.own a ha).1 fun q=>A.dis a q ha,(A.gd.own a ha).2⟩,A.gd.dis,fun a h=>h.elim (A.gd.zal a) fun q=>?_⟩,fun i m t e=>?_,bo,fun _ z=>z.elim,A.lk,A.ln⟩
 ·obtain ⟨_,xs,e⟩:=A.own a q
  rw [e]; simp
 ·obtain ⟨v,r,h⟩:=A.env i m t e
  exact ⟨v,r.zmono fun a h=>.inl h,h⟩
theorem a9 (o:Own Z' H' G)(s:Step Z H F Z' H' (fun a=>F' a\/G a)):Step Z H F (fun a=>Z' a\/G a) H' F' where
 keep:=s.keep
 zm:=fun a h=>.inl (s.zm a h)
 zn:=fun a h=>h.elim (s.zn a) fun q=>.inr (s.fn a (.inr q))
 fn:=fun a h=>s.fn a (.inl h)
 al:=s.al
 za:=fun z a h=>h.elim (s.za z a) fun q=>by
  obtain ⟨_,xs,e⟩:=o a q
  rw [e]; simp
theorem da {a:Addr}{xs:List V}{H0:Hp}(s:Stay Z H0 H)(hz:Z a)(h:H0 a=some (.lst xs)):SqL K H a xs:=.inl (.inl (s.1 a _ hz h))
theorem n6 {a:Addr}{xs:List V}{ts:List T}(hL:xs.length<=LIM)(hz:Z a)(h:H a=some (.lst xs))(r:RepL K Z H .s ts xs no):Wk K (Itl K a) Z H (ts.map fun t=>[(.s,t)])/\kz K (Itl K a) Z H (ts.map fun t=>[(.s,t)]):=by
 have hl:=r.length
 refine ⟨⟨fun H' i s hi=>?_,fun H' i s hi=>?_,by rw [a0d]; omega⟩,fun H' i x H'' s hi y=>?_⟩
 ·rw [a0d] at hi
  exact ⟨xs,xs[i]'(by omega),da s hz h,by simp⟩
 ·rw [a0d] at hi
  exact ⟨xs,da s hz h,by omega⟩
 ·rw [a0d] at hi
  obtain ⟨rfl,y⟩:=y
  have hx:=y xs (da s hz h)
  obtain ⟨x',hx',rx⟩:=r.get (show ts[i]?=some ts[i] by simp)
  rw [hx] at hx'; cases hx'
  refine ⟨rfl,(.s,ts[i]),by rw [a0C,show ts[i]?=some ts[i] by simp]; rfl,rx.keep s (fun _ z=>z) fun _ _ z=>z.elim⟩
theorem uL {a:Addr}{xs:List V}{ts:List T}(hL:xs.length<=LIM)(h:SqT K H a xs)(r:RepL K Z H .s ts xs no):Wk K (Itt K a) Z H (ts.map fun t=>[(.s,t)])/\kz K (Itt K a) Z H (ts.map fun t=>[(.s,t)]):=by
 have hl:=r.length
 refine ⟨⟨fun H' i s hi=>?_,fun H' i s hi=>?_,by rw [a0d]; omega⟩,fun H' i x H'' s hi y=>?_⟩
 ·rw [a0d] at hi
  exact ⟨xs,xs[i]'(by omega),s.sqt h,by simp⟩
 ·rw [a0d] at hi
  exact ⟨xs,s.sqt h,by omega⟩
 ·rw [a0d] at hi
  obtain ⟨rfl,y⟩:=y
  have hx:=y xs (s.sqt h)
  obtain ⟨x',hx',rx⟩:=r.get (show ts[i]?=some ts[i] by simp)
  rw [hx] at hx'; cases hx'
  refine ⟨rfl,(.s,ts[i]),by rw [a0C,show ts[i]?=some ts[i] by simp]; rfl,rx.keep s (fun _ z=>z) fun _ _ z=>z.elim⟩
theorem tq {lo:Int}{n:Nat}(hL:n<=LIM):Wk K (Itr lo n) Z H ((a0H n).map fun (k:Nat)=>[(.d,.int (lo+k))])/\kz K (Itr lo n) Z H ((a0H n).map fun (k:Nat)=>[(.d,.int (lo+k))]):=by
 refine ⟨⟨fun H' i s hi=>by show i < n; simpa using hi,fun H' i s hi=>by show n<=i; simpa using hi,by simpa using hL⟩,fun H' i x H'' s hi y=>?_⟩
 obtain ⟨rfl,rfl⟩:=y
 refine ⟨rfl,(.d,.int (lo+i)),?_,rfl⟩
 rw [a0d,a1X] at hi
 rw [a0C,List.getElem?_range hi]
 rfl
theorem ir {a:Addr}{ns:List Int}{H0:Hp}(s:Stay Z H0 H)(h:ScrR K H0 a ns):SqL K H a (ns.map V.int):=(h.keep s.2.2).sq
theorem ua {a:Addr}{ns:List Int}(hL:ns.length<=LIM)(h:ScrR K H a ns):Wk K (Itl K a) Z H (ns.map fun n=>[(.d,.int n)])/\kz K (Itl K a) Z H (ns.map fun n=>[(.d,.int n)]):=by
 refine ⟨⟨fun H' i s hi=>?_,fun H' i s hi=>?_,by rw [a0d]; exact hL⟩,fun H' i x H'' s hi y=>?_⟩
 ·rw [a0d] at hi
  exact ⟨_,(ns.map V.int)[i]'(by rw [a0d]; exact hi),ir s h,by simp⟩
 ·rw [a0d] at hi
  exact ⟨_,ir s h,by rw [a0d]; exact hi⟩
 ·rw [a0d] at hi
  obtain ⟨rfl,y⟩:=y
  have hx:=y _ (ir s h)
  refine ⟨rfl,(.d,.int ns[i]),by rw [a0C,show ns[i]?=some ns[i] by simp]; rfl,?_⟩
  rw [a0C,show ns[i]?=some ns[i] by simp] at hx
  exact (a0z hx).symm
theorem rL {e:E}(σ:L2.St)(H:Hp)(R:It->Hp->Prop)(h:wI K sf C 1 .seq [e] σ H R):ro K (wE K sf C e) σ H R\/yk K (wE K sf C e) σ H R:=by
 obtain ⟨pv,Z,Fs,η,ws,η',ts,A,ev,ht,k⟩:=h
 obtain ⟨⟨m,a⟩,η1,us,e1,e2,rfl⟩:=av ev
 cases e2
 cases a with
 | lst ts' =>
  cases ht
  refine .inl ⟨pv,Z,Fs,η,_,_,A,e1,fun v Z' H' Fs' G B r s=>?_⟩
  obtain ⟨a,xs,rfl,l,q,p⟩:=Rep.sh r
  obtain ⟨w1,w2⟩:=n6 l q.1 q.2 p.sany
  exact ⟨a,rfl,⟨xs,.inl (.inl q.2)⟩,k _ _ H' Fs' B.freeze (a9 B.own s) w1 w2⟩
 | tup ts' =>
  cases ht
  refine .inr ⟨pv,Z,Fs,η,_,_,A,e1,fun v Z' H' Fs' G B r s=>?_⟩
  obtain ⟨a,xs,rfl,q,l,p⟩:=Rep.sh r
  obtain ⟨w1,w2⟩:=uL l q p.sany
  exact ⟨a,rfl,⟨xs,q⟩,k _ _ H' Fs' B.freeze (a9 B.own s) w1 w2⟩
 | scr ns =>
  cases ht
  refine .inl ⟨pv,Z,Fs,η,_,_,A,e1,fun v Z' H' Fs' G B r s=>?_⟩
  obtain ⟨a,rfl,hl,q⟩:=r
  obtain ⟨w1,w2⟩:=ua (Z:=fun a=>Z' a\/G a) hl q
  exact ⟨a,rfl,⟨_,q.sq⟩,k _ _ H' Fs' B.freeze (a9 B.own s) w1 w2⟩
 | _=>cases ht
theorem p62:(2:Int) ^ 62=4611686018427387904:=by decide
theorem n9 {e:E}(σ:L2.St)(H:Hp)(R:It->Hp->Prop)(h:wI K sf C 1 .rng [e] σ H R):q9 (wL K sf C [e]) σ H R:=by
 obtain ⟨pv,Z,Fs,η,ws,η',ts,A,ev,ht,k⟩:=h
 refine ⟨pv,Z,Fs,η,ws,η',A,ev,fun vs Z' H' Fs' G B r s=>?_⟩
 obtain ⟨⟨m,a⟩,η1,us,e1,e2,rfl⟩:=av ev
 cases e2
 obtain ⟨x,rfl,r1⟩:=aS rfl r
 cases a with
 | int n =>
  rw [kq] at ht
  split at ht
  ·rename_i hc
   rw [a0m,decide_eq_true_eq] at hc
   cases ht
   refine ⟨n,by rw [show x=_ from r1],by rw [p62]; omega,by rw [p62]; omega,?_⟩
   obtain ⟨w1,w2⟩:=tq (K:=K) (Z:=fun a=>Z' a\/G a) (H:=H') (lo:=0) (n:=n.toNat) (bT hc.2)
   have hz:∀ k:Nat,(0:Int)+(k:Int)=k:=fun k=>by omega
   simp only [hz] at w1 w2
   exact k _ _ H' Fs' B.freeze (a9 B.own s) w1 w2
  ·cases ht
 | _=>cases ht
theorem rg {m:Md}{t:T}{v:V}{ts:List T}(e:bQ (m,t)=some ts)(r:Rep K Z H m t v G):∃ k a xs,v=.ref a/\xs.length<=LIM/\RepL K (fun a=>Z a\/G a) H .s ts xs no/\∀ H',Stay (fun a=>Z a\/G a) H H'->Sq K H' k a xs:=by
 cases t with
 | lst us =>
  cases e
  obtain ⟨a,xs,rfl,l,q,p⟩:=Rep.sh r
  exact ⟨false,a,xs,rfl,l,p.sany,fun H' s=>da s q.1 q.2⟩
 | tup us =>
  cases e
  obtain ⟨a,xs,rfl,q,l,p⟩:=Rep.sh r
  exact ⟨true,a,xs,rfl,l,p.sany,fun H' s=>s.sqt q⟩
 | _=>cases e
theorem gc {m n:Md}:∀ {ts us:List T} {i:Nat} {t u:T},ts[i]?=some t->us[i]?=some u->(cq m n ts us)[i]?=some [(m,t),(n,u)]
 | t::ts,u::us,0,_,_,h,h'=>by cases h; cases h'; rfl
 | t::ts,u::us,i+1,_,_,h,h'=>gc (ts:=ts) (us:=us) (i:=i) h h'
 | [],_,_,_,_,h,_=>by simp at h
 | _::_,[],_,_,_,_,h'=>by simp at h'
theorem bP {m n:Md}:∀ {ts us:List T},(cq m n ts us).length=min ts.length us.length
 | [],_=>by simp [cq]
 | _::_,[]=>by simp [cq]
 | t::ts,u::us=>by
  show (cq m n ts us).length+1=_
  rw [bP]; simp
theorem sy {e e':E}(σ:L2.St)(H:Hp)(R:It->Hp->Prop)(h:wI K sf C 2 .zip [e,e'] σ H R):vP K (wL K sf C [e,e']) σ H R:=by
 obtain ⟨pv,Z,Fs,η,ws,η',ts,A,ev,ht,k⟩:=h
 refine ⟨pv,Z,Fs,η,ws,η',A,ev,fun vs Z' H' Fs' G B r s=>?_⟩
 obtain ⟨⟨m,a⟩,η1,us,e1,e2,rfl⟩:=av ev
 obtain ⟨⟨n,b⟩,η2,us,e3,e4,rfl⟩:=av e2
 cases e4
 obtain ⟨x,y,hx⟩:∃ x y,vs=[x,y]:=cX (x:=()) (y:=()) (show vs.length=[(),()].length from r.length)
 subst hx
 obtain ⟨G1,G2,g1,g2,_,r1,r2⟩:=bK r
 have ht':((bQ (m,a)).bind fun ts=>(bQ (n,b)).bind fun us=>some (cq .s .s ts us))=some ts:=ht
 cases ea:bQ (m,a) with
 | none=>rw [ea] at ht'; cases ht'
 | some t1 =>
  cases eb:bQ (n,b) with
  | none=>rw [ea,eb] at ht'; cases ht'
  | some t2 =>
   rw [ea,eb] at ht'; cases ht'
   obtain ⟨k1,a1,xs,rfl,L1,p1,q1⟩:=rg ea r1
   obtain ⟨k2,a2,ys,rfl,L2',p2,q2⟩:=rg eb r2
   have z1:∀ c,(Z' c\/G1 c)->(Z' c\/G c):=fun c h=>h.imp id (g1 c)
   have z2:∀ c,(Z' c\/G2 c)->(Z' c\/G c):=fun c h=>h.imp id (g2 c)
   have st1:∀ H0,Stay (fun c=>Z' c\/G c) H' H0->Sq K H0 k1 a1 xs:=fun H0 s=>q1 H0 ⟨fun c o hc=>s.1 c o (z1 c hc),s.2⟩
   have st2:∀ H0,Stay (fun c=>Z' c\/G c) H' H0->Sq K H0 k2 a2 ys:=fun H0 s=>q2 H0 ⟨fun c o hc=>s.1 c o (z2 c hc),s.2⟩
   have l1:=p1.length
   have l2:=p2.length
   refine ⟨k1,k2,a1,a2,rfl,⟨xs,st1 _ (bV _ _)⟩,⟨ys,st2 _ (bV _ _)⟩,k _ _ H' Fs' B.freeze (a9 B.own s) ⟨fun H0 i s hi=>?_,fun H0 i s hi=>?_,by rw [bP]; omega⟩ fun H0 i x H1 s hi y=>?_⟩
   ·rw [bP] at hi
    exact ⟨xs,ys,xs[i]'(by omega),ys[i]'(by omega),st1 _ s,st2 _ s,by simp,by simp⟩
   ·rw [bP] at hi
    exact ⟨xs,ys,st1 _ s,st2 _ s,by omega⟩
   ·rw [bP] at hi
    obtain ⟨p,x1,y1,rfl,hp,rfl,hx,hy⟩:=y
    have hi1:i < t1.length:=by omega
    have hi2:i < t2.length:=by omega
    obtain ⟨x',hx',rx⟩:=p1.get (show t1[i]?=some t1[i] by simp)
    obtain ⟨y',hy',ry⟩:=p2.get (show t2[i]?=some t2[i] by simp)
    rw [hx xs (st1 _ s)] at hx'; cases hx'
    rw [hy ys (st2 _ s)] at hy'; cases hy'
    exact ⟨p,x1,y1,(.s,t1[i]),(.s,t2[i]),rfl,rO hp,.inl (.inl aq),gc (by simp) (by simp),(rx.zmono z1).keep s (fun _ z=>z) fun _ _ z=>z.elim,(ry.zmono z2).keep s (fun _ z=>z) fun _ _ z=>z.elim⟩
end
end MR
namespace MR
open L2 L3 M
open PySem (Addr Str sizeLine)
section
variable {K:a0a}{sl:Cf}{sf sg:Nat->Option Nat}{C:Call}{σ σ2:L2.St}{Z Z' Z1:Fp}{H H' H1:Hp}{Fs Fs' Fs1:Fps}{η η' η1:Env}{G G' R F:Fp}{tg is:List Nat}{pv val:Nat->Option V}
theorem ay:∀ (tg:List Nat) (η:Env) (i:Nat),rd (af tg η) i=if i∈tg then none else rd η i
 | [],η,i=>by simp [af]
 | t::tg,η,i=>by
  show rd (af tg (wr η t none)) i=_
  rw [ay tg,aU]
  by_cases h1:i∈tg
  ·simp [h1]
  ·by_cases h2:i=t
   ·subst h2
    rw [if_neg h1,if_pos a0c]
    split
    ·rfl
    ·rename_i hn
     cases e:rd η i with
     | none=>rfl
     | some w=>exact absurd ⟨rfl,cx e⟩ hn
   ·rw [if_neg h1,if_neg (show ¬ i∈t::tg by simp [h1,h2]),if_neg (show ¬ (i=t/\t < η.length) from fun h=>h2 h.1)]
noncomputable def Nn (η η':Env):Prop:=∀ i,rd η i=none->rd η' i=none
theorem Nn.refl (η:Env):Nn η η:=fun _ h=>h
theorem Nn.trans {a b c:Env}(h:Nn a b)(k:Nn b c):Nn a c:=fun i e=>k i (h i e)
theorem iw (η:Env)(j:Nat):Nn η (del η j):=fun i e=>by
 rw [aU]; split
 ·rfl
 ·exact e
theorem kW {η:Env}{j:Nat}{w:W}(h:rd η j≠none):Nn η (put η j w):=fun i e=>by
 rw [aU]; split
 ·rename_i hc; rw [<- hc.1] at h; exact absurd e h
 ·exact e
theorem cT:∀ {is:List Nat} {ws:List W} {η0 η:Env},(∀ i∈is,rd η0 i≠none)->Nn η0 η->Nn η0 (putAll is ws η)
 | [],_,_,_,_,h=>h
 | _::_,[],_,_,_,h=>h
 | i::is,w::ws,η0,η,hi,h=>by
  show Nn η0 (putAll is ws (put η i w))
  refine cT (fun j hj=>hi j (a0e _ hj)) fun j e=>?_
  rw [aU]; split
  ·rename_i hc; rw [hc.1] at e; exact absurd e (hi i a0c)
  ·exact h j e
theorem dH {f:Env->Res (Option W×Env)}(hf:∀ {η o η'},f η=.ok (o,η')->Nn η η'):∀ {ts:List (List W)} {η η':Env} {acc ws:List W},(∀ i∈tg,rd η i=none)->aO tg f ts η acc=.ok (ws,η')->Nn η η'
 | [],η,η',acc,ws,_,h=>by cases h; exact Nn.refl _
 | t::ts,η,η',acc,ws,ht,h=>by
  obtain ⟨η1,h1,h2⟩:=aa (show (ofO (aK tg t η)).bind (fun η1=>(f η1).bind fun p=>aO tg f ts (af tg p.2) (acc++p.1.toList))=_ from h)
  obtain ⟨⟨o,η2⟩,h3,h4⟩:=aa h2
  have hb:∀ {tg:List Nat} {t:List W} {η η1:Env},aK tg t η=some η1->∀ i,i ∉ tg->rd η1 i=rd η i:=fun {tg}=>by
   induction tg with
   | nil=>intro t η η1 h i hi; cases t with
    | nil=>cases h; rfl
    | cons _ _=>cases h
   | cons j tg ih=>intro t η η1 h i hi; cases t with
    | nil=>cases h
    | cons w t =>
     have:=ih (show aK tg t (put η j w)=some η1 from h) i (fun z=>hi (a0e _ z))
     rw [this,aU,if_neg fun z=>hi (by rw [z.1]; exact a0c)]
  have e1:=hb (bH h1)
  have hd:∀ i,rd η i=none->rd (af tg η2) i=none:=fun i e=>by
   rw [ay]
   split
   ·rfl
   ·rename_i hi
    exact hf h3 i (by rw [e1 i hi]; exact e)
  exact Nn.trans (b:=af tg η2) hd (dH hf (fun i hi=>by rw [ay,if_pos hi]) h4)
noncomputable def eP (sf sg:Nat->Option Nat)(tg:List Nat)(is:List Nat):Prop :=
 ∀ i j,sg i=some j->(∃ k:Nat,tg[k]?=some i/\j=k)\/(i ∉ tg/\∃ (k j0:Nat),j=tg.length+k/\is[k]?=some j0/\sf i=some j0)
theorem At.pin (A:At K ⟨sf,pv⟩ σ Z H Fs η G):∃ val,(∀ i u,pv i=some u->val i=some u)/\At K ⟨sf,val⟩ σ Z H Fs η G/\∀ i m t,rd η i=some (m,t)->val i≠none:=by
 have ch:∀ i,∃ o:Option V,(∀ u,pv i=some u->o=some u)/\(∀ u j,o=some u->sf i=some j->σ[j]?=some (some u))/\∀ m t,rd η i=some (m,t)->∃ v,o=some v/\Rep K Z H m t v (Fs i)/\(∀ j,sf i=some j->σ[j]?=some (some v)):=fun i=>by
  cases e:rd η i with
  | none=>exact ⟨pv i,fun _ h=>h,fun u j h hs=>A.lk i u j h hs,fun _ _ h=>by cases h⟩
  | some w =>
   obtain ⟨m,t⟩:=w
   obtain ⟨v,r,h1,h2⟩:=A.env i m t e
   refine ⟨some v,fun u h=>by rw [h2 u h],fun u j h hs=>?_,fun m' t' h=>by cases h; exact ⟨v,rfl,r,h1⟩⟩
   cases h
   exact h1 j hs
 obtain ⟨val,hval⟩:=Classical.axiomOfChoice ch
 refine ⟨val,fun i u h=>(hval i).1 u h,⟨A.gd,fun i m t e=>?_,A.own,A.dis,fun i u j h hs=>(hval i).2.1 u j h hs,A.ln⟩,fun i m t e=>?_⟩
 ·obtain ⟨v,h1,r,h2⟩:=(hval i).2.2 m t e
  exact ⟨v,r,h2,fun u hu=>by rw [show val i=some u from hu] at h1; cases h1; rfl⟩
 ·obtain ⟨v,h1,r,h2⟩:=(hval i).2.2 m t e
  rw [h1]; simp
theorem At.unpin (h:∀ i u,pv i=some u->val i=some u)(A:At K ⟨sf,val⟩ σ Z H Fs η G):At K ⟨sf,pv⟩ σ Z H Fs η G :=
 ⟨A.gd,fun i m t e=>let ⟨v,r,h1,h2⟩:=A.env i m t e; ⟨v,r,h1,fun u hu=>h2 u (h i u hu)⟩,A.own,A.dis,fun i u j hu hs=>A.lk i u j (h i u hu) hs,A.ln⟩
noncomputable def inV (val:Nat->Option V)(tg:List Nat):Nat->Option V:=fun i=>if i∈tg then none else val i
theorem At.into (I:eP sf sg tg is)(ht:∀ i∈tg,rd η i=none)(hσ:∀ (k j0:Nat) (v:V),is[k]?=some j0->σ[j0]?=some (some v)->σ2[tg.length+k]?=some (some v))(hl:∀ i j,sg i=some j->j < σ2.length)(A:At K ⟨sf,val⟩ σ Z H Fs η G):At K ⟨sg,inV val tg⟩ σ2 Z H Fs η G:=by
 refine ⟨A.gd,fun i m t e=>?_,A.own,A.dis,fun i u j hu hs=>?_,hl⟩
 ·have hi:i ∉ tg:=fun h=>by rw [ht i h] at e; cases e
  obtain ⟨v,r,h1,h2⟩:=A.env i m t e
  refine ⟨v,r,fun j hj=>?_,fun u hu=>h2 u (by have h3:inV val tg i=some u:=hu; unfold inV at h3; rw [if_neg hi] at h3; exact h3)⟩
  rcases I i j hj with ⟨k,hk,_⟩ | ⟨_,k,j0,rfl,hk,hs⟩
  ·exact absurd (a1k hk) hi
  ·exact hσ k j0 v hk (h1 j0 hs)
 ·have hi:i ∉ tg:=fun h=>by
   have hu':inV val tg i=some u:=hu
   unfold inV at hu'; rw [if_pos h] at hu'; cases hu'
  have hu':val i=some u:=by have h3:inV val tg i=some u:=hu; unfold inV at h3; rw [if_neg hi] at h3; exact h3
  rcases I i j hs with ⟨k,hk,_⟩ | ⟨_,k,j0,rfl,hk,hs⟩
  ·exact absurd (a1k hk) hi
  ·exact hσ k j0 u hk (A.lk i u j0 hu' hs)
theorem At.outof (ht:∀ i∈tg,rd η i=none)(hv:∀ i m t,rd η i=some (m,t)->val i≠none)(lk:∀ i u j,val i=some u->sf i=some j->σ[j]?=some (some u))(ln:∀ i j,sf i=some j->j < σ.length)(A:At K ⟨sg,inV val tg⟩ σ2 Z H Fs η G):At K ⟨sf,val⟩ σ Z H Fs η G:=by
 refine ⟨A.gd,fun i m t e=>?_,A.own,A.dis,lk,ln⟩
 have hi:i ∉ tg:=fun h=>by rw [ht i h] at e; cases e
 obtain ⟨v,r,h1,h2⟩:=A.env i m t e
 cases hu:val i with
 | none=>exact absurd hu (hv i m t e)
 | some u =>
  have:v=u:=h2 u (by show inV val tg i=some u; unfold inV; rw [if_neg hi]; exact hu)
  subst this
  exact ⟨v,r,fun j hj=>lk i v j hu hj,fun u' hu'=>by rw [show val i=some u' from hu'] at hu; cases hu; rfl⟩
end
section
variable {C:Call}
theorem dA:∀ (vs:List Nat) (η:Env),Nn η (M.share vs η)
 | [],η=>fun _ e=>e
 | v::vs,η=>Nn.trans (b:=wr η v (toS (rd η v))) (fun i e=>by
   rw [aU]; split
   ·rename_i hc; rw [<- hc.1,e]; rfl
   ·exact e) (dA vs _)
theorem nE (m:Md)(vs:List Nat)(η:Env):Nn η (after m vs η):=by
 cases m with
 | d=>exact fun _ e=>e
 | s=>exact dA vs η
 | o _=>exact dA vs η
theorem gQ {α:Type}{tab:List (Str×α)}{f:α->Env->RE}{p:W×Env}{r:W×Env}(h:jg tab f p=.ok r):∃ x a,p.1.2=.str x/\tab.lookup x=some a/\f a p.2=.ok r:=by
 unfold jg at h
 split at h
 ·rename_i x hx
  split at h
  ·rename_i a ha; exact ⟨x,a,hx,ha,h⟩
  ·cases h
 ·cases h
theorem ot {neg:Bool}{ks:List Str}{p r:W×Env}(h:kIn neg ks p=.ok r):∃ x,p.1.2=.str x/\r.2=p.2/\r.1=(.d,.bl (ks.contains x != neg)):=by
 unfold kIn at h
 split at h
 ·rename_i x hx; cases h; exact ⟨x,hx,rfl,rfl⟩
 ·cases h
theorem lQ {tab:List (Str×T)}{p r:W×Env}(h:pK tab p=.ok r):∃ x,p.1.2=.str x/\r.2=p.2/\r.1=(.s,(tab.lookup x).getD .non):=by
 unfold pK at h
 split at h
 ·rename_i x hx; cases h; exact ⟨x,hx,rfl,rfl⟩
 ·cases h
mutual
theorem ak:∀ (e:E) {η η':Env} {w:W},evE C e η=.ok (w,η')->Nn η η'
 | .var i,η,η',w,h=>by obtain ⟨_,_,e⟩:=ai (show ret η ((rd η i).bind look)=_ from h); cases e; exact Nn.refl _
 | .mv i,η,η',w,h=>by obtain ⟨_,_,e⟩:=ai (show ret (del η i) (rd η i)=_ from h); cases e; exact iw _ _
 | .io i,η,η',w,h=>by obtain ⟨_,_,e⟩:=ai (show ret (del η i) (rd η i)=_ from h); cases e; exact iw _ _
 | .cst t,η,η',w,h=>by cases h; exact Nn.refl _
 | .glb _ t,η,η',w,h=>by cases h; exact Nn.refl _
 | .tup es,η,η',w,h=>by
  obtain ⟨⟨ws,η1⟩,h1,h2⟩:=aa (show (evL C es η).bind iI=_ from h)
  cases h2; exact cf es h1
 | .lst b es,η,η',w,h=>by
  obtain ⟨⟨ws,η1⟩,h1,h2⟩:=aa (show (evL C es η).bind (lY b)=_ from h)
  cases h2; exact cf es h1
 | .wk m e,η,η',w,h=>by
  obtain ⟨⟨u,η1⟩,h1,h2⟩:=aa (show (evE C e η).bind (kWk m)=_ from h)
  obtain ⟨_,_,e3⟩:=ai (show ret η1 _=_ from h2)
  cases e3; exact ak e h1
 | .op o b es,η,η',w,h=>by
  obtain ⟨ws,h1,h2⟩:=bM h
  exact cf es h1
 | .and a b,η,η',w,h=>by
  obtain ⟨⟨u,η1⟩,h1,h2⟩:=aa (show (evE C a η).bind (kx (evE C b))=_ from h)
  obtain ⟨d,h3,h4⟩:=bE (show onT (evE C b) (okW u) (u,η1)=_ from h2)
  cases d with
  | true=>rw [if_pos rfl] at h4; exact (ak a h1).trans (ak b h4)
  | false=>rw [if_neg a0l] at h4; cases h4; exact ak a h1
 | .or a b,η,η',w,h=>by
  obtain ⟨⟨u,η1⟩,h1,h2⟩:=aa (show (evE C a η).bind (kOr (evE C b))=_ from h)
  obtain ⟨d,h3,h4⟩:=bE (show onT (okW u) (evE C b) (u,η1)=_ from h2)
  cases d with
  | false=>rw [if_neg a0l] at h4; exact (ak a h1).trans (ak b h4)
  | true=>rw [if_pos rfl] at h4; cases h4; exact ak a h1
 | .not a,η,η',w,h=>by
  obtain ⟨⟨u,η1⟩,h1,h2⟩:=aa (show (evE C a η).bind nu=_ from h)
  obtain ⟨_,_,e3⟩:=ai (show ret η1 _=_ from h2)
  cases e3; exact ak a h1
 | .ifx c a b,η,η',w,h=>by
  obtain ⟨⟨u,η1⟩,h1,h2⟩:=aa (show (evE C c η).bind (onT (evE C a) (evE C b))=_ from h)
  obtain ⟨d,h3,h4⟩:=bE h2
  cases d with
  | true=>rw [if_pos rfl] at h4; exact (ak c h1).trans (ak a h4)
  | false=>rw [if_neg a0l] at h4; exact (ak c h1).trans (ak b h4)
 | .chain o q a b c,η,η',w,h=>by
  obtain ⟨⟨x,η1⟩,h1,h2⟩:=aa (show (evE C a η).bind (kC1 o q (evE C b) (evE C c))=_ from h)
  obtain ⟨⟨y,η2⟩,h3,h4⟩:=aa (show (evE C b η1).bind (kC2 o q (evE C c) x)=_ from h2)
  obtain ⟨⟨k,η3⟩,h5,h6⟩:=aa (show (ret η2 (oSem o false [x,y])).bind (fun k=>onB k.1.2 (then' (evE C c) (kC3 q y)) (okW (.d,.bl false)) k.2)=_ from h4)
  obtain ⟨k',_,e5⟩:=ai h5
  have e6:η3=η2:=congrArg a1Q e5
  have n2:=(ak a h1).trans (ak b h3)
  have h6':onB k.2 (then' (evE C c) (kC3 q y)) (okW (.d,.bl false)) η2=.ok (w,η'):=by rw [<- e6]; exact h6
  generalize k.2=kk at h6'
  cases kk with
  | bl b =>
   cases b with
   | true =>
    obtain ⟨⟨z,η4⟩,h7,h8⟩:=aa (show (evE C c η2).bind (kC3 q y)=_ from h6')
    obtain ⟨z',_,e8⟩:=ai (show ret η4 (oSem q false [y,z])=_ from h8)
    have e9:η'=η4:=congrArg a1Q e8
    rw [e9]
    exact n2.trans (ak c h7)
   | false=>cases h6'; exact n2
  | _=>cases h6'
 | .call f es,η,η',w,h=>by
  obtain ⟨⟨ws,η1⟩,h1,h2⟩:=aa (show (evA C es η).bind (d6 C f (ios es))=_ from h)
  obtain ⟨⟨u,us⟩,h3,h4⟩:=aa (show (C f ws).bind (gf (ios es) η1)=_ from h2)
  cases h4
  exact cT (dU es h1) (cN es h1)
 | .comp b k src tg none elt,η,η',w,h=>by
  obtain ⟨⟨ws,η1⟩,h1,h2⟩:=aa (show (evL C src η).bind (cD b k tg (cZ (evE C elt)))=_ from h)
  obtain ⟨⟨ts,η2⟩,h3,h4⟩:=aa (show (ret (af tg η1) (aT k ws)).bind (fun t=>(aO tg (cZ (evE C elt)) t.1 t.2 []).bind (gj b))=_ from h2)
  obtain ⟨_,_,e3⟩:=ai h3
  have e4:η2=af tg η1:=congrArg a1Q e3
  subst e4
  obtain ⟨⟨us,η3⟩,h5,h6⟩:=aa (show (aO tg (cZ (evE C elt)) ts (af tg η1) []).bind (gj b)=_ from h4)
  obtain ⟨_,_,e6⟩:=ai (show ret η3 _=_ from h6)
  have e7:η'=η3:=congrArg a1Q e6
  subst e7
  refine (cf src h1).trans (Nn.trans (b:=af tg η1) (fun i e=>by rw [ay]; split<;>first | rfl | exact e) (dH (fun {η o η'} hf=>?_) (fun i hi=>by rw [ay,if_pos hi]) h5))
  obtain ⟨⟨u,η4⟩,h7,h8⟩:=aa (show (evE C elt η).bind eR=_ from hf)
  cases h8
  exact ak elt h7
 | .comp b k src tg (some c) elt,η,η',w,h=>by
  obtain ⟨⟨ws,η1⟩,h1,h2⟩:=aa (show (evL C src η).bind (cD b k tg (m7 (evE C c) (evE C elt)))=_ from h)
  obtain ⟨⟨ts,η2⟩,h3,h4⟩:=aa (show (ret (af tg η1) (aT k ws)).bind (fun t=>(aO tg (m7 (evE C c) (evE C elt)) t.1 t.2 []).bind (gj b))=_ from h2)
  obtain ⟨_,_,e3⟩:=ai h3
  have e4:η2=af tg η1:=congrArg a1Q e3
  subst e4
  obtain ⟨⟨us,η3⟩,h5,h6⟩:=aa (show (aO tg (m7 (evE C c) (evE C elt)) ts (af tg η1) []).bind (gj b)=_ from h4)
  obtain ⟨_,_,e6⟩:=ai (show ret η3 _=_ from h6)
  have e7:η'=η3:=congrArg a1Q e6
  subst e7
  refine (cf src h1).trans (Nn.trans (b:=af tg η1) (fun i e=>by rw [ay]; split<;>first | rfl | exact e) (dH (fun {η o η'} hf=>?_) (fun i hi=>by rw [ay,if_pos hi]) h5))
  obtain ⟨⟨u,η4⟩,h7,h8⟩:=aa (show (evE C c η).bind (onT (cZ (evE C elt)) (okW none))=_ from hf)
  obtain ⟨d,h9,h10⟩:=bE h8
  cases d with
  | true =>
   rw [if_pos rfl] at h10
   obtain ⟨⟨u2,η5⟩,h11,h12⟩:=aa (show (evE C elt η4).bind eR=_ from h10)
   cases h12
   exact (ak c h7).trans (ak elt h11)
  | false =>
   rw [if_neg a0l] at h10
   cases h10
   exact ak c h7
 | .pop i es,η,η',w,h=>by
  obtain ⟨_,_,h0⟩:=aa (show (dF (rd η i)).bind (nq (evL C es) η (pZ i))=_ from h)
  obtain ⟨⟨ws,η1⟩,h1,h2⟩:=aa (show (evL C es η).bind (pZ i)=_ from h0)
  obtain ⟨r,h3,h4⟩:=aa (show (ofO ((rd η1 i).bind fun w=>xJ w ws)).bind (fun r=>.ok (r.1,put η1 i r.2))=_ from h2)
  cases h4
  refine (cf es h1).trans (kW ?_)
  have:=bH h3
  intro e; rw [e] at this; cases this
 | .lenV i,η,η',w,h=>by obtain ⟨_,_,e⟩:=ai (show ret η ((rd η i).bind fun w=>oSem .len false [w])=_ from h); cases e; exact Nn.refl _
 | .tupA es,η,η',w,h=>by
  obtain ⟨⟨ws,η1⟩,h1,h2⟩:=aa (show (evA C es η).bind iI=_ from h)
  cases h2; exact cN es h1
 | .qx vs ls e,η,η',w,h=>by
  obtain ⟨⟨u,η1⟩,h1,h2⟩:=aa (show (evE C e (cK vs ls η)).bind (kX vs η)=_ from h)
  cases h2
  exact nE _ vs η
 | .mvP i p,η,η',w,h=>by
  obtain ⟨r,h1,h2⟩:=aa (show (ofO ((rd η i).bind (takeW p))).bind (kMvP i η)=_ from h)
  cases h2
  refine kW fun e=>?_
  have:=bH h1
  rw [e] at this; cases this
 | .callT tab k es,η,η',w,h=>by
  obtain ⟨⟨u,η1⟩,h1,h2⟩:=aa (show (evE C k η).bind (jg tab (kCT C (evA C es) (ios es)))=_ from h)
  obtain ⟨x,j,_,_,h3⟩:=gQ h2
  obtain ⟨⟨ws,η2⟩,h4,h5⟩:=aa (show (evA C es η1).bind (d6 C j (ios es))=_ from h3)
  obtain ⟨⟨r,bs⟩,h6,h7⟩:=aa (show (C j ws).bind (gf (ios es) η2)=_ from h5)
  cases h7
  exact (ak k h1).trans (cT (dU es h4) (cN es h4))
 | .inT neg ks e,η,η',w,h=>by
  obtain ⟨⟨u,η1⟩,h1,h2⟩:=aa (show (evE C e η).bind (kIn neg ks)=_ from h)
  obtain ⟨x,_,e2,_⟩:=ot h2
  cases e2; exact ak e h1
 | .ixT tab e,η,η',w,h=>by
  obtain ⟨⟨u,η1⟩,h1,h2⟩:=aa (show (evE C e η).bind (jg tab okS)=_ from h)
  obtain ⟨x,j,_,_,h3⟩:=gQ h2
  cases h3; exact ak e h1
 | .getT tab e,η,η',w,h=>by
  obtain ⟨⟨u,η1⟩,h1,h2⟩:=aa (show (evE C e η).bind (pK tab)=_ from h)
  obtain ⟨x,_,e2,_⟩:=lQ h2
  cases e2; exact ak e h1
theorem cf:∀ (es:List E) {η η':Env} {ws:List W},evL C es η=.ok (ws,η')->Nn η η'
 | [],η,η',ws,h=>by cases h; exact Nn.refl _
 | e::es,η,η',ws,h=>by
  obtain ⟨w,η1,us,h1,h2,_⟩:=av h
  exact (ak e h1).trans (cf es h2)
theorem cN:∀ (es:List E) {η η':Env} {ws:List W},evA C es η=.ok (ws,η')->Nn η η'
 | [],η,η',ws,h=>by cases h; exact Nn.refl _
 | e::es,η,η',ws,h=>by
  rcases xh e with ⟨i,hi⟩ | he
  ·subst hi
   obtain ⟨us,η1,w,h1,_,_,h4⟩:=jd h
   rw [h4]
   exact (cN es h1).trans (iw _ _)
  ·obtain ⟨w,η1,us,h1,h2,_⟩:=ee he h
   exact (ak e h1).trans (cN es h2)
theorem dU:∀ (es:List E) {η η':Env} {ws:List W},evA C es η=.ok (ws,η')->∀ i∈ios es,rd η i≠none
 | [],_,_,_,_,i,hi=>by simp [ios] at hi
 | e::es,η,η',ws,h,i,hi=>by
  rcases xh e with ⟨j,hj⟩ | he
  ·subst hj
   obtain ⟨us,η1,w,h1,h2,_,_⟩:=jd h
   rcases a0w.mp (show i∈j::ios es from hi) with z | z
   ·subst z
    exact fun z=>by rw [cN es h1 i z] at h2; cases h2
   ·exact dU es h1 i z
  ·obtain ⟨w,η1,us,h1,h2,_⟩:=ee he h
   have hi':i∈ios es:=by
    cases e with
    | io j=>exact absurd rfl (he j)
    | _=>exact hi
   exact fun z=>dU es h2 i hi' (ak e h1 i z)
end
end
section
variable {K:a0a}{sl:Cf}{sf sg:Nat->Option Nat}{C:Call}{σ σ2:L2.St}{Z Z' Z1:Fp}{H H' H1:Hp}{Fs Fs' Fs1:Fps}{η η' η1 ηb:Env}{G G' R F:Fp}{tg is:List Nat}{pv val:Nat->Option V}
noncomputable def gT (K:a0a):Nat->TG
 | 1=>bR 0
 | 2=>vH K 2 (gB (bR 0) (gB (bR 1) rV))
 | _=>fun _ _ _ _=>False
theorem At.put1 {i:Nat}{w:W}{x:V}(A:At K sl σ Z H Fs η G)(r:Rep K Z H w.1 w.2 x (Fs i))(hl:∀ j,sl.sl i=some j->σ[j]?=some (some x))(hp:sl.pv i=none):At K sl σ Z H Fs (put η i w) G:=by
 refine ⟨A.gd,fun j m t e=>?_,A.own,A.dis,A.lk,A.ln⟩
 rw [aU] at e
 split at e
 ·rename_i hc
  cases e
  obtain ⟨rfl,_⟩:=hc
  exact ⟨x,r,hl,fun u hu=>by rw [hp] at hu; cases hu⟩
 ·exact A.env j m t e
theorem gg {k j0:Nat}{v:V}(h1:is[k]?=some j0)(h2:σ[j0]?=some (some v)):(ba σ is)[k]?=some (some v):=by
 unfold ba
 rw [a0C,h1]
 show some ((σ[j0]?).join)=_
 rw [h2]
 rfl
theorem eQ (I:eP sf sg tg is)(h:σ2.length=tg.length+is.length):∀ i j,sg i=some j->j < σ2.length:=fun i j hj=>by
 rcases I i j hj with ⟨k,hk,rfl⟩ | ⟨_,k,j0,rfl,hk,_⟩
 ·have:=(a0q.mp hk).1
  omega
 ·have:=(a0q.mp hk).1
  omega
theorem j4 {n i:Nat}{J:It}{ts:List (List W)}{ws:List W}{x:V}{Q:L2.St->Hp->Prop}(hn:tg.length=n)(nd:tg.Nodup)(I:eP sf sg tg is)(hz:∀ a,Z1 a->Z a)(st:Stay Z1 H1 H)(yl:Yld K J Z1 H1 ts n)(A:At K ⟨sf,val⟩ σ Z H Fs η G)
  (ht:∀ i∈tg,rd η i=none) (hw:ts[i]?=some ws) (hb:aK tg ws η=some ηb) (y:J.yld i H x H')
  (k:∀ σ2 H2,At K ⟨sg,inV val tg⟩ σ2 Z H2 Fs ηb G->Step Z H no Z H2 no->(σ2.length=n+(ba σ is).length/\σ2.drop n=ba σ is)->Q σ2 H2):gT K n x (a0g n none++ba σ is) H' Q:=by
 have hi:i < ts.length:=(a0q.mp hw).1
 have own0:∀ {t:Nat},t∈tg->inV val tg t=none:=fun {t} h=>if_pos h
 match n,yl with
 | 1,yl =>
  obtain ⟨e0,w,hw',r⟩:=yl H i x H' st hi y
  rw [e0]
  rw [hw] at hw'; cases hw'
  match tg,hn with
  | [t],_ =>
   cases hb
   have r':Rep K Z H w.1 w.2 x (Fs t):=(r.zmono hz).mono fun _ z=>z.elim
   refine k _ H ?_ (Step.refl _ _ _) ⟨by simp [a2g],rfl⟩
   refine (A.into (σ2:=some x::ba σ is) I ht (fun k j0 v h1 h2=>?_) (eQ I (by simp [ba,a2g]))).put1 r' (fun j hj=>?_) (own0 (by simp))
   ·rw [a0t,a2g,a0v]; exact gg h1 h2
   ·rcases I t j hj with ⟨k,hk,rfl⟩ | ⟨h,_⟩
    ·cases j with
     | zero=>rfl
     | succ _=>simp at hk
    ·exact absurd (a0r.mpr rfl) h
 | 2,yl =>
  obtain ⟨p,y1,z1,u,w,rfl,sm,hq,hw',r1,r2⟩:=yl H i x H' st hi y
  rw [hw] at hw'; cases hw'
  match tg,hn with
  | [t,t'],_ =>
   cases hb
   have hne:t≠t':=fun z=>by simp [z] at nd
   have s1:Step Z H G Z H' G:=dN sm
   have o1:Own Z H' G:=fun a ha=>by
    obtain ⟨nz,ys,e⟩:=A.own a ha
    exact ⟨nz,ys,sm _ _ e⟩
   obtain ⟨A1,_⟩:=A.op o1 s1
   have sn:Stay Z H H':=gJ sm
   have r1':Rep K Z H' u.1 u.2 y1 (Fs t):=((r1.zmono hz).keep sn (fun _ z=>z) fun _ _ z=>z.elim).mono fun _ z=>z.elim
   have r2':Rep K Z H' w.1 w.2 z1 (Fs t'):=((r2.zmono hz).keep sn (fun _ z=>z) fun _ _ z=>z.elim).mono fun _ z=>z.elim
   have s0:Step Z H no Z H' no:=dN sm
   refine ⟨p,[y1,z1],rfl,hq,rfl,y1,[z1],rfl,z1,[],rfl,rfl,k (some y1::some z1::ba σ is) _ ?_ s0 ⟨by simp; omega,rfl⟩⟩
   refine ((A1.into (σ2:=some y1::some z1::ba σ is) I ht (fun k j0 v h1 h2=>?_) (eQ I (by simp [ba]; omega))).put1 r1' (fun j hj=>?_) (own0 (by simp))).put1 r2' (fun j hj=>?_) (own0 (by simp))
   ·rw [show [t,t'].length+k=k+1+1 by simp; omega,a0v,a0v]; exact gg h1 h2
   ·rcases I t j hj with ⟨k,hk,rfl⟩ | ⟨h,_⟩
    ·match j,hk with
     | 0,_=>rfl
     | 1,hk=>exact absurd (a0z hk).symm hne
    ·exact absurd (by simp) h
   ·rcases I t' j hj with ⟨k,hk,rfl⟩ | ⟨h,_⟩
    ·match j,hk with
     | 0,hk=>exact absurd (a0z hk) hne
     | 1,_=>rfl
    ·exact absurd (by simp) h
noncomputable def cY (Fs:Fps)(tg:List Nat):Fps:=fun j a=>j ∉ tg/\Fs j a
theorem bD {a:Addr}(h:tot (cY Fs tg) a):tot Fs a:=let ⟨j,_,h2⟩:=h; ⟨j,h2⟩
theorem At.dels (A:At K sl σ Z H Fs η G):At K sl σ Z H (cY Fs tg) (af tg η) G:=by
 refine ⟨⟨fun a h=>A.gd.own a (bD h),fun i j a h1 h2=>A.gd.dis i j a h1.2 h2.2,A.gd.zal⟩,fun i m t e=>?_,A.own,fun a h q=>A.dis a h (bD q),A.lk,A.ln⟩
 rw [ay] at e
 split at e
 ·cases e
 ·rename_i hi
  obtain ⟨v,r,h⟩:=A.env i m t e
  exact ⟨v,r.mono fun a ha=>⟨hi,ha⟩,h⟩
theorem dt:∀ {tg:List Nat} {t:List W} {η η1:Env},aK tg t η=some η1->∀ i,i ∉ tg->rd η1 i=rd η i
 | [],[],η,η1,h,i,_=>by cases h; rfl
 | [],_::_,_,_,h,_,_=>by cases h
 | _::_,[],_,_,h,_,_=>by cases h
 | j::tg,w::t,η,η1,h,i,hi=>by
  rw [dt (show aK tg t (put η j w)=some η1 from h) i fun z=>hi (a0e _ z),aU,if_neg fun z=>hi (by rw [z.1]; exact a0c)]
structure CSt (K:a0a)(sf:Nat->Option Nat)(val:Nat->Option V)(σ:L2.St)(tg:List Nat)(f:Env->Res (Option W×Env))(ts:List (List W))(η0:Env)(us:List W)(η3:Env)(Z1:Fp)(H1:Hp)(F1:Fp)(i:Nat)(ys:List V)(H:Hp):Prop where
 ex:∃ (Z:Fp) (Fs:Fps) (η:Env) (acc:List W) (G:Fp),At K ⟨sf,val⟩ σ Z H Fs η G/\RepW K Z H acc ys G/\aO tg f (ts.drop i) η acc=.ok (us,η3)/\(∀ j∈tg,rd η j=none)/\(∀ j∈tg,∀ a,¬ Fs j a)/\Nn η0 η/\Step Z1 H1 F1 Z H (fun a=>tot Fs a\/G a)
 len:ys.length<=i
theorem lR {h:Bool}{us:List W}{ys:List V}{w:W}{Q:VK}(o:Own Z H G)(za:∀ a,Z a->H a≠none)(r:RepW K Z H us ys G)(hl:ys.length<=LIM)(hn:(if h then (if us.all okD then some ((.d,.lst (aH us)):W) else none) else some (.o .s,.lst (aH us)))=some w)(k:Out K Z H G w Q):∀ p,H p=none->Q (.ref p) (upd H p (.lst ys)):=by
 intro p hp
 cases h with
 | true =>
  rw [if_pos rfl] at hn
  split at hn
  ·rename_i ha
   cases hn
   rw [a0W] at ha
   obtain ⟨G',g1,g2⟩:=RepW.to (N:=.d) (fun u hu=>by
    have:=ha u hu
    unfold okD at this
    rw [a2T] at this
    unfold M.lf
    split
    ·rfl
    ·rename_i hnl
     rcases this with z | z
     ·rw [eq_of_beq z]; rfl
     ·exact absurd z hnl) r
   exact bg (m:=.d) o za g1 hl g2 (by simp) k hp
  ·cases hn
 | false =>
  rw [if_neg a0l] at hn
  cases hn
  obtain ⟨G',g1,g2⟩:=RepW.to (N:=.s) (fun u hu=>by cases M.lf u.1 u.2<;>rfl) r
  exact bg (m:=.o .s) o za g1 hl g2 (by simp) k hp
end
end MR
namespace MR
open L2 L3 M
open PySem (Addr Str sizeLine)
section
variable {K:a0a}{sf sg:Nat->Option Nat}{C:Call}{tg is:List Nat}
theorem eS {α:Type}{l:List α}{i:Nat}{a:α}(h:l[i]?=some a):l.drop i=a::l.drop (i+1):=by
 obtain ⟨h1,h2⟩:=a0q.mp h
 rw [List.drop_eq_getElem_cons h1,h2]
theorem gh {h:Bool}{k:Ik}{f:Env->Res (Option W×Env)}{p:List W×Env}{w:W}{η':Env}(e:cD h k tg f p=.ok (w,η')):∃ ts us,aT k p.1=some ts/\aO tg f ts (af tg p.2) []=.ok (us,η')/\(if h then (if us.all okD then some ((.d,.lst (aH us)):W) else none) else some (.o .s,.lst (aH us)))=some w:=by
 obtain ⟨⟨ts,η2⟩,h3,h4⟩:=aa (show (ret (af tg p.2) (aT k p.1)).bind (fun t=>(aO tg f t.1 t.2 []).bind (gj h))=_ from e)
 obtain ⟨ts',ht,e3⟩:=ai h3
 have e4:ts=ts':=congrArg a3g e3
 have e5:η2=af tg p.2:=congrArg a1Q e3
 subst e4 e5
 obtain ⟨⟨us,η3⟩,h5,h6⟩:=aa (show (aO tg f ts (af tg p.2) []).bind (gj h)=_ from h4)
 obtain ⟨w',hw,e6⟩:=ai (show ret η3 (if h then (if us.all okD then some ((.d,.lst (aH us)):W) else none) else some (.o .s,.lst (aH us)))=_ from h6)
 have e7:w=w':=congrArg a3g e6
 have e8:η'=η3:=congrArg a1Q e6
 subst e7 e8
 exact ⟨ts,us,ht,h5,hw⟩
theorem iG {f:Env->Res (Option W×Env)}{t:List W}{ts:List (List W)}{η η3:Env}{acc us:List W}(e:aO tg f (t::ts) η acc=.ok (us,η3)):∃ ηb o ηc,aK tg t η=some ηb/\f ηb=.ok (o,ηc)/\aO tg f ts (af tg ηc) (acc++o.toList)=.ok (us,η3):=by
 obtain ⟨η1,h1,h2⟩:=aa (show (ofO (aK tg t η)).bind (fun η1=>(f η1).bind fun p=>aO tg f ts (af tg p.2) (acc++p.1.toList))=_ from e)
 obtain ⟨⟨o,η2⟩,h3,h4⟩:=aa h2
 exact ⟨η1,o,η2,bH h1,h3,h4⟩
theorem kc {n:Nat}{h:Bool}{k:Ik}{src:List E}{f:Env->Res (Option W×Env)}{te:L2.St->Hp->(Option V->Hp->Prop)->Prop}(hn:tg.length=n)(nd:tg.Nodup)(I:eP sf sg tg is)
  (hf:∀ {η o η'},f η=.ok (o,η')->Nn η η')
  (hte:∀ {val:Nat->Option V} {σ2:L2.St} {Z:Fp} {H:Hp} {Fs:Fps} {η ηc:Env} {R:Fp} {o:Option W} {Q:Option V->Hp->Prop},At K ⟨sg,val⟩ σ2 Z H Fs η R->f η=.ok (o,ηc) ->
   (∀ oy Z' H' Fs' G,At K ⟨sg,val⟩ σ2 Z' H' Fs' ηc (fun c=>R c\/G c)->(match o,oy with | some w,some y=>Rep K Z' H' w.1 w.2 y G | none,none=>True | _,_=>False)->(∀ c,R c->¬ G c)->Step Z H (tot Fs) Z' H' (fun a=>tot Fs' a\/G a)->Q oy H')->te σ2 H Q)
  {e:E} (he:∀ η,evE C e η=(evL C src η).bind (cD h k tg f)) (σ:L2.St) (H:Hp) (Q:VK) (hw:wE K sf C e σ H Q) :
  wI K sf C n k src σ H fun J H1=>∃ W:Nat->Nat->List V->Hp->Prop,(∃ m,W 0 m [] H1)/\∀ i m ys H,W i m ys H ->
   (J.stop i H/\ys.length<=sizeLine/\∀ p,H p=none->Q (.ref p) (upd H p (.lst ys))) \/
   (J.go i H/\ys.length < sizeLine/\∀ x H',J.yld i H x H'->gT K n x (a0g n none++ba σ is) H' fun σ2 H2=>(σ2.length=n+(ba σ is).length/\σ2.drop n=ba σ is)/\te σ2 H2 fun oy H3=>∃ m',m' < m/\W (i+1) m' (ys++oy.toList) H3):=by
 obtain ⟨pv,Z,Fs,η,w,η',A,ev,kk⟩:=hw
 rw [he] at ev
 obtain ⟨⟨ws,η1⟩,h1,h2⟩:=aa ev
 obtain ⟨ts,us,ht,h3,h4⟩:=gh h2
 refine ⟨pv,Z,Fs,η,ws,η1,ts,A,h1,ht,fun J Z1 H1 Fs1 A1 s1 wk yl=>?_⟩
 obtain ⟨val,v1,A2,v2⟩:=(A1.dels (tg:=tg)).pin
 have s1':Step Z H (tot Fs) Z1 H1 (tot (cY Fs1 tg)):=s1.mono (fun _ z=>z) fun _ z=>bD z
 refine ⟨fun i m ys H=>m=ts.length-i/\i<=ts.length/\CSt K sf val σ tg f ts (af tg η1) us η' Z1 H1 (tot (cY Fs1 tg)) i ys H,⟨ts.length,by simp,a03 _,⟨⟨Z1,cY Fs1 tg,af tg η1,[],no,A2,rfl,h3,fun j hj=>by rw [ay,if_pos hj],fun j hj a ha=>ha.1 hj,Nn.refl _,(Step.refl _ _ _).mono (fun _ z=>z) fun a ha=>ha.elim id fun z=>z.elim⟩,a0j _⟩⟩,?_⟩
 rintro i m ys H0 ⟨rfl,hi,⟨⟨Zi,Fsi,ηi,acc,Ga,Ai,ra,hc,htg,hfp,hnn,si⟩,hlen⟩⟩
 have st:Stay Z1 H1 H0:=A2.gd.own.stay si
 have hL:=wk.len
 by_cases hlt:i < ts.length
 ·right
  refine ⟨wk.go H0 i st hlt,a1P (a0s hlen hi) (fI hL),fun x H2 y=>?_⟩
  have hw:ts[i]?=some ts[i]:=by simp [hlt]
  rw [eS hw] at hc
  obtain ⟨ηb,o,ηc,hb,hfe,hc2⟩:=iG hc
  refine j4 hn nd I si.zm st yl Ai htg hw hb y fun σ2 H3 A3 s3 hσ=>⟨hσ,?_⟩
  refine hte A3 hfe fun oy Z4 H4 Fs4 G4 A4 r4 d4 s4=>⟨ts.length-(i+1),by omega,rfl,hlt,⟨?_,?_⟩⟩
  ·have ra3:RepW K Zi H3 acc ys Ga:=ra.frame bo s3 fun _ _ z=>z
   have ra4:RepW K Z4 H4 acc ys Ga:=ra3.frame A3.gd.own s4 A3.dis
   have vv:∀ j m t,rd (af tg ηc) j=some (m,t)->val j≠none:=fun j m t e=>by
    rw [ay] at e
    split at e
    ·cases e
    ·rename_i hj
     have n1:rd ηb j≠none:=fun z=>by rw [hf hfe j z] at e; cases e
     rw [dt hb j hj] at n1
     have n2:rd (af tg η1) j≠none:=fun z=>n1 (hnn j z)
     cases e2:rd (af tg η1) j with
     | none=>exact absurd e2 n2
     | some u=>exact v2 j u.1 u.2 e2
   have A5:=(A4.dels (tg:=tg)).outof (sf:=sf) (σ:=σ) (val:=val) (fun j hj=>by rw [ay,if_pos hj]) vv Ai.lk Ai.ln
   have s5:Step Z1 H1 (tot (cY Fs1 tg)) Z4 H4 (fun a=>tot (cY Fs4 tg) a\/(Ga a\/G4 a)):=by
    refine (si.trans (((s3.frame (fun a=>tot Fsi a\/Ga a)).mono (fun a ha=>ha.elim (fun z=>z.elim) id) fun a ha=>.inr ha).trans (s4.frame Ga))).mono (fun _ z=>z) fun a ha=>?_
    rcases ha with z | z | z
    ·exact .inl (.inl (bD z))
    ·exact .inr z
    ·exact .inl (.inr z)
   refine ⟨Z4,cY Fs4 tg,af tg ηc,acc++o.toList,fun c=>Ga c\/G4 c,A5,?_,hc2,fun j hj=>by rw [ay,if_pos hj],fun j hj a ha=>ha.1 hj,fun j e=>?_,s5⟩
   ·cases o with
    | none =>
     cases oy with
     | none=>rw [a2s,a2s,a0p,a0p]; exact ra4.mono fun _ z=>.inl z
     | some _=>exact r4.elim
    | some w4 =>
     cases oy with
     | none=>exact r4.elim
     | some y4=>exact RepW.append (fun _ z=>.inl z) (fun _ z=>.inr z) d4 ra4 (RepW.one r4)
   ·have e':=hnn j e
    rw [ay]
    split
    ·rfl
    ·rename_i hj
     exact hf hfe j (by rw [dt hb j hj]; exact e')
  ·have:ys.length<=i:=hlen
   cases oy<;>simp<;>omega
 ·left
  have hi':i=ts.length:=by omega
  subst hi'
  rw [a2L] at hc
  cases hc
  refine ⟨wk.stop H0 _ st (a0j _),LIM_le (a0s hlen hL),lR Ai.own Ai.gd.zal ra (a0s hlen hL) h4 (bw (Ai.unpin v1) (s1'.trans si) kk)⟩
theorem eh {n:Nat}{h:Bool}{k:Ik}{src:List E}{elt:E}(hn:tg.length=n)(nd:tg.Nodup)(I:eP sf sg tg is)(σ:L2.St)(H:Hp)(Q:VK)(hw:wE K sf C (.comp h k src tg none elt) σ H Q):fF n (wI K sf C n k src) is (gT K n) (wE K sg C elt) σ H Q:=by
 refine kc (te:=fun σ2 H Q=>wE K sg C elt σ2 H fun y H'=>Q (some y) H') hn nd I (fun {η o η'} hf=>?_) (fun {val σ2 Z H Fs η ηc R o Q} A hf k=>?_) (fun η=>rfl) σ H Q hw
 ·obtain ⟨⟨u,η4⟩,h7,h8⟩:=aa (show (evE C elt η).bind eR=_ from hf)
  cases h8
  exact ak elt h7
 ·obtain ⟨⟨u,η4⟩,h7,h8⟩:=aa (show (evE C elt η).bind eR=_ from hf)
  cases h8
  exact fS A h7 fun v Z' H' Fs' G B r d s _=>k (some v) Z' H' Fs' G B r d s
end
end MR
namespace MR
open L2 L3 M
open PySem (Addr Str sizeLine)
section
variable {K:a0a}{sl:Cf}{sf sg:Nat->Option Nat}{C:Call}{σ σ2:L2.St}{Z Z' Z1:Fp}{H H' H1:Hp}{Fs Fs' Fs1:Fps}{η η' η1 ηb:Env}{G G' G1 R F:Fp}{tg is:List Nat}{pv val:Nat->Option V}
noncomputable def jj (Fs:Fps)(i:Nat)(G:Fp):Fps:=fun j a=>(j=i/\G a)\/(j≠i/\Fs j a)
theorem bh {i:Nat}{a:Addr}(h:tot (jj Fs i G) a):tot Fs a\/G a:=by
 obtain ⟨j,h | h⟩:=h
 ·exact .inr h.2
 ·exact .inl ⟨j,h.2⟩
theorem At.put {i:Nat}{w:W}{x:V}(A:At K sl σ Z H Fs η G)(r:Rep K Z H w.1 w.2 x G1)(h1:∀ a,G1 a->G a)(h2:∀ a,R a->G a)(hd:∀ a,R a->¬ G1 a)(hl:∀ j,sl.sl i=some j->σ[j]?=some (some x))(hp:∀ u,sl.pv i=some u->x=u) :
  At K sl σ Z H (jj Fs i G1) (M.put η i w) R:=by
 refine ⟨⟨fun a h=>(bh h).elim (A.gd.own a) fun q=>A.own a (h1 a q),fun j k a hj hk=>?_,A.gd.zal⟩,fun j m t e=>?_,fun a h=>A.own a (h2 a h),fun a h q=>(bh q).elim (A.dis a (h2 a h)) (hd a h),A.lk,A.ln⟩
 ·rcases hj with ⟨rfl,hj⟩ | ⟨nj,hj⟩
  ·rcases hk with ⟨rfl,_⟩ | ⟨nk,hk⟩
   ·rfl
   ·exact absurd ⟨k,hk⟩ (A.dis a (h1 a hj))
  ·rcases hk with ⟨rfl,hk⟩ | ⟨nk,hk⟩
   ·exact absurd ⟨j,hj⟩ (A.dis a (h1 a hk))
   ·exact A.gd.dis j k a hj hk
 ·rw [aU] at e
  split at e
  ·rename_i hc
   cases e
   obtain ⟨rfl,_⟩:=hc
   exact ⟨x,r.mono fun a h=>.inl ⟨rfl,h⟩,hl,hp⟩
  ·rename_i hc
   obtain ⟨v,r',h'⟩:=A.env j m t e
   by_cases hj:j=i
   ·subst hj
    exact absurd ⟨rfl,cx e⟩ hc
   ·exact ⟨v,r'.mono fun a h=>.inr ⟨hj,h⟩,h'⟩
noncomputable def wA (K:a0a)(sl:Nat->Option Nat)(C:Call)(es:List E):TA:=fun σ H Q=>∃ pv Z Fs η ws η',At K ⟨sl,pv⟩ σ Z H Fs η no/\evA C es η=.ok (ws,η') /\
 ∀ vs Z' H' Fs' G,At K ⟨sl,pv⟩ σ Z' H' Fs' η' G->RepW K Z' H' ws vs G->Step Z H (tot Fs) Z' H' (fun a=>tot Fs' a\/G a)->(∀ (k i:Nat) (u:V),es[k]?=some (.io i)->pv i=some u->vs[k]?=some u)->Q vs H'
theorem uZ (σ:L2.St)(H:Hp)(Q:List V->Hp->Prop)(h:wA K sf C [] σ H Q):sU σ H Q:=by
 obtain ⟨pv,Z,Fs,η,ws,η',A,ev,k⟩:=h
 cases ev
 exact k [] Z H Fs no A rfl ((Step.refl _ _ _).mono (fun _ z=>z) fun a ha=>ha.elim id fun z=>z.elim) fun k i u h _=>by simp at h
theorem yT {es:List E}{ws:List W}{Q:List V->Hp->Prop}(A:At K sl σ Z H Fs η R)(ev:evA C es η=.ok (ws,η'))
  (k:∀ vs Z' H' Fs' G,At K sl σ Z' H' Fs' η' (fun c=>R c\/G c)->RepW K Z' H' ws vs G->(∀ c,R c->¬ G c)->Step Z H (tot Fs) Z' H' (fun a=>tot Fs' a\/G a) ->
   Step Z H (fun c=>tot Fs c\/R c) Z' H' (fun c=>tot Fs' c\/(R c\/G c))->(∀ (k i:Nat) (u:V),es[k]?=some (.io i)->sl.pv i=some u->vs[k]?=some u)->Q vs H'):wA K sl.sl C es σ H Q :=
 ⟨sl.pv,Z,Fs,η,ws,η',A.bare,ev,fun v Z' H' Fs' G B r s hio=>by
  obtain ⟨h1,h2,h3⟩:=A.frame B s
  exact k v Z' H' Fs' G h1 r h3 s h2 hio⟩
theorem kY {e:E}{es:List E}(he:∀ i,e≠.io i)(σ:L2.St)(H:Hp)(Q:List V->Hp->Prop)(h:wA K sf C (e::es) σ H Q):mw (wE K sf C e) (wA K sf C es) σ H Q:=by
 obtain ⟨pv,Z,Fs,η,ws,η',A,ev,k⟩:=h
 obtain ⟨w,η1,us,h1,h2,rfl⟩:=ee he ev
 refine fS A h1 fun x Z1 H1 Fs1 G1 A1 r1 _ s1 _=>?_
 have A1':=A1.mono (G':=G1) fun _ z=>.inr z
 refine yT A1' h2 fun xs Z2 H2 Fs2 G2 A2 r2 d2 s2 t2 hio=>?_
 refine k (x::xs) Z2 H2 Fs2 _ A2 ⟨x,xs,G1,G2,rfl,fun _ z=>.inl z,fun _ z=>.inr z,d2,r1.frame A1.gd.own s2 A1'.dis,r2⟩ (s1.trans t2) fun k i u h hu=>?_
 cases k with
 | zero=>exact absurd (a0z h) (he i)
 | succ k=>exact hio k i u h hu
noncomputable def atV (io:List Nat)(vs:List V):List V:=io.filterMap fun i=>vs[i]?
noncomputable def spC (K:a0a)(C:Call)(f:Nat)(io:List Nat):List V->Hp->VK->Prop:=fun vs H Q=>∃ Z ws G w bs,RepW K Z H ws vs G/\Own Z H G/\(∀ a,Z a->H a≠none)/\C f ws=.ok (w,bs) /\
 ∀ v Z' H' G1 G2,Rep K Z' H' w.1 w.2 v G1->RepW K Z' H' bs (atV io vs) G2->(∀ a,G1 a->¬ G2 a)->Own Z' H' (fun a=>G1 a\/G2 a)->Step Z H G Z' H' (fun a=>G1 a\/G2 a)->Q v H'
noncomputable def dm:List E->Nat->List Nat
 | [],_=>[]
 | .io _::es,n=>n::dm es (n+1)
 | _::es,n=>dm es (n+1)
theorem q8 {vs:List V}:∀ {es:List E} {n:Nat},(∀ (k i:Nat) (u:V),es[k]?=some (.io i)->pv i=some u->vs[n+k]?=some u)->(∀ i∈ios es,pv i≠none)->(ios es).filterMap pv=atV (dm es n) vs
 | [],_,_,_=>rfl
 | e::es,n,h,hv=>by
  have rest:(∀ i∈ios es,pv i≠none)->(ios es).filterMap pv=atV (dm es (n+1)) vs:=fun q=>q8 (fun k i u hk hu=>by have:=h (k+1) i u hk hu; rw [show n+(k+1)=n+1+k by omega] at this; exact this) q
  cases e with
  | io i =>
   cases hu:pv i with
   | none=>exact absurd hu (hv i (by simp [ios]))
   | some u =>
    have h0:=h 0 i u rfl hu
    rw [Nat.add_zero] at h0
    show (i::ios es).filterMap pv=(n::dm es (n+1)).filterMap fun i=>vs[i]?
    rw [a0S,a0S,hu,h0]
    exact congrArg (u::·) (rest fun j hj=>hv j (by simp [ios,hj]))
  | _=>exact rest fun j hj=>hv j hj
theorem At.putAll:∀ {is:List Nat} {bs:List W} {Fs:Fps} {η:Env} {G2:Fp},At K ⟨sf,val⟩ σ Z H Fs η (fun a=>R a\/G2 a)->(∀ a,R a->¬ G2 a)->RepW K Z H bs (is.filterMap val) G2->(∀ i∈is,val i≠none)->∃ Fs',At K ⟨sf,val⟩ σ Z H Fs' (M.putAll is bs η) R/\∀ a,tot Fs' a->tot Fs a\/G2 a
 | [],bs,Fs,η,G2,A,_,_,_=>⟨Fs,A.mono fun _ z=>.inl z,fun _ z=>.inl z⟩
 | i::is,[],Fs,η,G2,A,_,_,_=>⟨Fs,A.mono fun _ z=>.inl z,fun _ z=>.inl z⟩
 | i::is,b::bs,Fs,η,G2,A,hd,r,hv=>by
  cases hu:val i with
  | none=>exact absurd hu (hv i a0c)
  | some u =>
   rw [a0S,hu] at r
   obtain ⟨x,r',A1,A2,e,a1,a2,ad,p,q⟩:=r
   cases e
   have B:=At.put (i:=i) (R:=fun a=>R a\/A2 a) (G1:=A1) A p (fun a h=>.inr (a1 a h)) (fun a h=>h.imp id (a2 a)) (fun a h q=>h.elim (fun z=>hd a z (a1 a q)) fun z=>ad a q z) (fun j hj=>A.lk i u j hu hj) (fun u' hu'=>by rw [show val i=some u' from hu'] at hu; cases hu; rfl)
   obtain ⟨Fs',B1,B2⟩:=At.putAll (is:=is) (bs:=bs) B (fun a h q=>hd a h (a2 a q)) q fun j hj=>hv j (a0e _ hj)
   exact ⟨Fs',B1,fun a h=>(B2 a h).elim (fun z=>(bh z).imp id (a1 a)) fun z=>.inr (a2 a z)⟩
theorem pJ {f:Nat}{es:List E}{io:List Nat}(hio:dm es 0=io\/ios es=[])(σ:L2.St)(H:Hp)(Q:VK)(h:wE K sf C (.call f es) σ H Q):wA K sf C es σ H fun vs H1=>spC K C f io vs H1 Q:=by
 obtain ⟨pv,Z,Fs,η,w,η',A,ev,k⟩:=h
 obtain ⟨⟨ws,η1⟩,h1,h2⟩:=aa (show (evA C es η).bind (d6 C f (ios es))=_ from ev)
 obtain ⟨⟨u,bs⟩,h3,h4⟩:=aa (show (C f ws).bind (gf (ios es) η1)=_ from h2)
 cases h4
 obtain ⟨val,v1,A2,v2⟩:=A.pin
 have hvn:∀ i∈ios es,val i≠none:=fun i hi=>by
  cases e:rd η i with
  | none=>exact absurd e (dU es h1 i hi)
  | some q=>exact v2 i q.1 q.2 e
 refine ⟨val,Z,Fs,η,ws,η1,A2,h1,fun vs Z1 H1 Fs1 G B r s hv=>?_⟩
 refine ⟨Z1,ws,G,u,bs,r,B.own,B.gd.zal,h3,fun v Z2 H2 G1 G2 r1 r2 d o st=>?_⟩
 obtain ⟨B2,s2⟩:=B.op o st
 have fin:∃ Fs',At K ⟨sf,val⟩ σ Z2 H2 Fs' (M.putAll (ios es) bs η1) G1/\∀ a,tot Fs' a->tot Fs1 a\/G2 a:=by
  rcases hio with e | e
  ·have e2:=q8 (pv:=val) (es:=es) (n:=0) (vs:=vs) (fun k i u' hk hu=>by rw [a2D]; exact hv k i u' hk hu) hvn
   rw [e] at e2
   rw [<- e2] at r2
   exact At.putAll B2 d r2 hvn
  ·rw [e]
   exact ⟨Fs1,B2.mono fun _ z=>.inl z,fun _ z=>.inl z⟩
 obtain ⟨Fs',B3,hF⟩:=fin
 refine k v Z2 H2 Fs' G1 (B3.unpin v1) r1 ((s.trans s2).mono (fun _ z=>z) fun a ha=>?_)
 rcases ha with z | z
 ·exact (hF a z).imp id .inr
 ·exact .inr (.inl z)
end
end MR
namespace MR
open L2 L3 M
open PySem (Addr Str sizeLine)
section
variable {K:a0a}{sl:Cf}{sf sg:Nat->Option Nat}{C:Call}{σ σ2:L2.St}{Z Z' Z1:Fp}{H H' H1:Hp}{Fs Fs' Fs1:Fps}{η η' η1 ηb:Env}{G G' G1 R F F':Fp}{tg is vs ls:List Nat}{pv val:Nat->Option V}
theorem mq (o:Option W):toS (toS o)=toS o:=by
 cases o with
 | none=>rfl
 | some w=>rfl
theorem gn:∀ (vs:List Nat) (η:Env) (i:Nat),rd (share vs η) i=if i∈vs then toS (rd η i) else rd η i
 | [],η,i=>by simp [share]
 | v::vs,η,i=>by
  show rd (share vs (wr η v (toS (rd η v)))) i=_
  rw [gn vs,aU]
  by_cases h2:i=v
  ·subst h2
   rw [if_pos (show i∈i::vs from a0c)]
   by_cases hl:i < η.length
   ·rw [if_pos (show i=i/\i < η.length from ⟨rfl,hl⟩)]
    split
    ·exact mq _
    ·rfl
   ·have e:rd η i=none:=by
     cases e:rd η i with
     | none=>rfl
     | some w=>exact absurd (cx e) hl
    rw [if_neg (show ¬ (i=i/\i < η.length) from fun h=>hl h.2),e]
    split<;>rfl
  ·rw [if_neg (show ¬ (i=v/\v < η.length) from fun h=>h2 h.1)]
   by_cases h1:i∈vs
   ·rw [if_pos h1,if_pos (a0e _ h1)]
   ·rw [if_neg h1,if_neg (by simp [h1,h2])]
theorem gx:∀ (η:Env) (i:Nat),rd (dq η) i=none
 | [],_=>rfl
 | _::_,0=>rfl
 | _::η,i+1=>gx η i
theorem iW:∀ (vs:List Nat) (η0 η:Env) (i:Nat) (w:W),rd (iu vs η0 η) i=some w->rd η i=some w\/(i∈vs/\toS (rd η0 i)=some w)
 | [],_,_,_,_,h=>.inl h
 | v::vs,η0,η,i,w,h=>by
  rcases iW vs η0 (wr η v (toS (rd η0 v))) i w h with e | e
  ·rw [aU] at e
   split at e
   ·rename_i hc; obtain ⟨rfl,_⟩:=hc; exact .inr ⟨a0c,e⟩
   ·exact .inl e
  ·exact .inr ⟨a0e _ e.1,e.2⟩
theorem gi:∀ (vs:List Nat) (η0 η:Env) (i:Nat) (w:W),rd (eg vs η0 η) i=some w->rd η i=some w\/lfO (rd η0 i)=some w
 | [],_,_,_,_,h=>.inl h
 | v::vs,η0,η,i,w,h=>by
  rcases gi vs η0 (wr η v (lfO (rd η0 v))) i w h with e | e
  ·rw [aU] at e
   split at e
   ·rename_i hc; obtain ⟨rfl,_⟩:=hc; exact .inr e
   ·exact .inl e
  ·exact .inr e
theorem oZ {i:Nat}{w:W}(h:rd (cK vs ls η) i=some w):∃ m t,rd η i=some (m,t)/\((i∈vs/\w=(.s,t))\/(t.leaf=true/\w=(.d,t))):=by
 rcases gi ls η _ i w h with e | e
 ·rcases iW vs η _ i w e with e | ⟨hi,e⟩
  ·rw [gx] at e; cases e
  ·cases q:rd η i with
   | none=>rw [q] at e; cases e
   | some u=>rw [q] at e; cases e; exact ⟨u.1,u.2,rfl,.inl ⟨hi,rfl⟩⟩
 ·cases q:rd η i with
  | none=>rw [q] at e; cases e
  | some u =>
   rw [q] at e
   obtain ⟨m,t⟩:=u
   have e':(if t.leaf=true then some ((.d,t):W) else none)=some w:=e
   split at e'
   ·rename_i hl; cases e'; exact ⟨m,t,rfl,.inr ⟨hl,rfl⟩⟩
   ·cases e'
noncomputable def bJ (Fs:Fps)(vs:List Nat):Fp:=fun a=>∃ i,i∈vs/\Fs i a
noncomputable def lb:Fps:=fun _ _=>False
theorem bA {a:Addr}(h:bJ Fs vs a):tot Fs a:=let ⟨i,_,h⟩:=h; ⟨i,h⟩
theorem fo {a:Addr}(h:tot lb a):False:=let ⟨_,h⟩:=h; h
theorem At.quiet (A:At K sl σ Z H Fs η no):At K sl σ (fun a=>Z a\/bJ Fs vs a) H lb (cK vs ls η) no:=by
 refine ⟨⟨fun a h=>(fo h).elim,fun _ _ _ h=>h.elim,fun a h=>h.elim (A.gd.zal a) fun q=>?_⟩,fun i m t e=>?_,bo,fun _ z=>z.elim,A.lk,A.ln⟩
 ·obtain ⟨_,xs,e⟩:=A.gd.own a (bA q)
  rw [e]; simp
 ·obtain ⟨m',t',e1,e2⟩:=oZ e
  obtain ⟨v,r,h⟩:=A.env i m' t' e1
  rcases e2 with ⟨hi,e2⟩ | ⟨hl,e2⟩
  ·cases e2
   exact ⟨v,(r.sh.zmono fun a h=>h.imp id fun q=>⟨i,hi,q⟩).sany,h⟩
  ·cases e2
   exact ⟨v,r.leaf (fun _ _ _ q=>q) hl,h⟩
mutual
theorem Rep.dany:∀ {t:T} {v:V} {G:Fp},Rep K Z H .d t v G->Rep K Z' H .d t v G
 | .non,_,_,h=>h
 | .bl _,_,_,h=>h
 | .int _,_,_,h=>h
 | .str _,_,_,h=>h
 | .scr _,_,_,h=>h
 | .tup ts,_,_,⟨a,xs,e,q,l,r⟩=>⟨a,xs,e,q,l,RepL.dany r⟩
 | .lst ts,_,_,⟨a,xs,e,l,q,r⟩=>⟨a,xs,e,l,q,RepL.dany r⟩
 | .dct _ _,_,_,h=>h.elim
 | .ins _ _ _,_,_,h=>h.elim
 | .gone,_,_,h=>h
theorem RepL.dany:∀ {ts:List T} {xs:List V} {G:Fp},RepL K Z H .d ts xs G->RepL K Z' H .d ts xs G
 | [],_,_,h=>h
 | t::ts,xs,_,⟨x,r,G1,G2,e,h1,h2,hd,p,q⟩=>⟨x,r,G1,G2,e,h1,h2,hd,Rep.dany p,RepL.dany q⟩
end
theorem b8 (A:At K sl σ Z H Fs η no)(B:Own Z' H' G)(zal:∀ a,Z' a->H' a≠none)(s:Step (fun a=>Z a\/bJ Fs vs a) H F Z' H' (fun a=>F' a\/G a))(hF:∀ a,¬ F a) :
  At K sl σ (fun a=>Z' a/\¬ bJ Fs vs a) H' Fs η G/\Step Z H (tot Fs) (fun a=>Z' a/\¬ bJ Fs vs a) H' (fun a=>tot Fs a\/G a):=by
 have keep:∀ a o,H a=some o->H' a=some o:=fun a o e=>s.keep a o e (hF a)
 have zz:∀ a,Z a->Z' a/\¬ bJ Fs vs a:=fun a h=>⟨s.zm a (.inl h),fun q=>(A.gd.own a (bA q)).1 h⟩
 have nz:∀ a,tot Fs a->¬ (Z' a/\¬ bJ Fs vs a):=fun a h q=>by
  obtain ⟨nz,xs,e⟩:=A.gd.own a h
  rcases s.zn a q.1 with z | z | z
  ·exact z.elim nz q.2
  ·exact hF a z
  ·rw [e] at z; cases z
 have gd:∀ a,G a->¬ tot Fs a:=fun a h q=>by
  obtain ⟨_,xs,e⟩:=A.gd.own a q
  rcases s.fn a (.inr h) with z | z
  ·exact hF a z
  ·rw [e] at z; cases z
 refine ⟨⟨⟨fun a h=>?_,A.gd.dis,fun a h=>zal a h.1⟩,fun i m t e=>?_,fun a h=>⟨fun q=>(B a h).1 q.1,(B a h).2⟩,gd,A.lk,A.ln⟩,⟨fun a o e _=>keep a o e,zz,fun a h=>?_,fun a h=>?_,s.al,fun _ a h=>zal a h.1⟩⟩
 ·obtain ⟨_,xs,e⟩:=A.gd.own a h
  exact ⟨nz a h,xs,keep a _ e⟩
 ·obtain ⟨v,r,h⟩:=A.env i m t e
  refine ⟨v,r.keep ⟨fun a o _ e=>keep a o e,fun a xs e=>?_,fun a o u e=>keep a _ e⟩ zz fun a o _ e=>keep a o e,h⟩
  rcases e with e | ⟨u,e⟩
  ·exact .inl (keep a _ e)
  ·exact .inr ⟨u,keep a _ e⟩
 ·rcases s.zn a h.1 with z | z | z
  ·exact z.elim .inl fun q=>absurd q h.2
  ·exact (hF a z).elim
  ·exact .inr (.inr z)
 ·rcases h with h | h
  ·exact .inl h
  ·exact (s.fn a (.inr h)).elim (fun z=>(hF a z).elim) .inr
theorem At.share (A:At K sl σ Z H Fs η G):At K sl σ (fun a=>Z a\/bJ Fs vs a) H (cY Fs vs) (M.share vs η) G/\∀ {Z0 H0 F0},Step Z0 H0 F0 Z H (fun a=>tot Fs a\/G a)->Step Z0 H0 F0 (fun a=>Z a\/bJ Fs vs a) H (fun a=>tot (cY Fs vs) a\/G a):=by
 refine ⟨⟨⟨fun a h=>?_,fun i j a h1 h2=>A.gd.dis i j a h1.2 h2.2,fun a h=>h.elim (A.gd.zal a) fun q=>?_⟩,fun i m t e=>?_,fun a h=>⟨fun z=>z.elim (A.own a h).1 fun q=>A.dis a h (bA q),(A.own a h).2⟩,fun a h q=>A.dis a h (bD q),A.lk,A.ln⟩,fun {Z0 H0 F0} s=>⟨s.keep,fun a h=>.inl (s.zm a h),fun a h=>h.elim (s.zn a) fun q=>.inr (s.fn a (.inl (bA q))),fun a h=>s.fn a (h.imp bD id),s.al,fun z a h=>h.elim (s.za z a) fun q=>?_⟩⟩
 ·obtain ⟨i,hi,h'⟩:=h
  obtain ⟨nz,xs,e⟩:=A.gd.own a ⟨i,h'⟩
  exact ⟨fun z=>z.elim nz fun ⟨j,hj,q⟩=>hi (A.gd.dis i j a h' q ▸ hj),xs,e⟩
 ·obtain ⟨_,xs,e⟩:=A.gd.own a (bA q)
  rw [e]; simp
 ·rw [gn] at e
  split at e
  ·rename_i hi
   cases q:rd η i with
   | none=>rw [q] at e; cases e
   | some u =>
    rw [q] at e; cases e
    obtain ⟨v,r,h⟩:=A.env i u.1 u.2 q
    exact ⟨v,(r.sh.zmono fun a h=>h.imp id fun q=>⟨i,hi,q⟩).sany,h⟩
  ·rename_i hi
   obtain ⟨v,r,h⟩:=A.env i m t e
   exact ⟨v,(r.zmono fun a h=>.inl h).mono fun a h=>⟨hi,h⟩,h⟩
 ·obtain ⟨_,xs,e⟩:=A.gd.own a (bA q)
  rw [e]; simp
theorem mC {x:X}{e:E}{w:W}{Q:VK}(A:At K sl σ Z H Fs η no)(ev:evX C x e η=.ok (w,η'))(k:∀ v Z' H' Fs' G,At K sl σ Z' H' Fs' η' G->Rep K Z' H' w.1 w.2 v G->Step Z H (tot Fs) Z' H' (fun a=>tot Fs' a\/G a)->Q v H'):wE K sl.sl C e σ H Q:=by
 cases x with
 | q vs ls =>
  obtain ⟨⟨u,η2⟩,h1,h2⟩:=aa (show (evE C e (cK vs ls η)).bind (kX vs η)=_ from ev)
  cases h2
  generalize hm0:M.lf u.1 u.2=m0 at k
  refine ⟨sl.pv,_,lb,_,_,η2,A.quiet (vs:=vs) (ls:=ls),h1,fun v Z' H' Fs' G B r0 s=>?_⟩
  have r:=r0.lf
  rw [hm0] at r
  obtain ⟨B1,s1⟩:=b8 A B.own B.gd.zal s fun a h=>fo h
  have other:Q v H'\/m0=.d:=by
   by_cases hd:m0=.d
   ·exact .inr hd
   ·refine .inl ?_
    have e':after m0 vs η=share vs η:=by
     cases hm:m0 with
     | d=>exact absurd hm hd
     | s=>rfl
     | o m=>rfl
    obtain ⟨B2,s2⟩:=B1.share (vs:=vs)
    have zz:∀ a,(Z' a/\¬ bJ Fs vs a)\/bJ Fs vs a->Z' a:=fun a h=>h.elim a12 fun q=>s.zm a (.inr q)
    have zz':∀ a,Z' a->(Z' a/\¬ bJ Fs vs a)\/bJ Fs vs a:=fun a h=>(a3e (bJ Fs vs a)).elim .inr fun q=>.inl ⟨h,q⟩
    exact k v _ H' _ G (e' ▸ B2) (r.zmono zz') (s2 s1)
  rcases other with q | hd
  ·exact q
  ·have e':after m0 vs η=η:=by rw [hd]; rfl
   refine k v _ H' Fs G (e'.symm ▸ B1) ?_ s1
   subst hd
   exact r.dany
 | l vs =>
  obtain ⟨B,s0⟩:=A.share (vs:=vs)
  have s1:=s0 ((Step.refl Z H (tot Fs)).mono (F2:=fun a=>tot Fs a\/no a) (fun _ z=>z) fun a h=>h.elim id fun z=>z.elim)
  refine ⟨sl.pv,_,_,_,w,η',B,ev,fun v Z' H' Fs' G B' r s=>k v Z' H' Fs' G B' r ((s1.mono (fun _ z=>z) fun a h=>.inl h).trans s)⟩
theorem vQ {x:X}{e:E}{b:Bool}{Q:Bool->Hp->Prop}(A:At K sl σ Z H Fs η no)(ev:evT C x e η=.ok (b,η'))(k:∀ Z' H' Fs',At K sl σ Z' H' Fs' η' no->Step Z H (tot Fs) Z' H' (tot Fs')->Q b H'):wT K sl.sl C e σ H Q:=by
 cases x with
 | q vs ls =>
  obtain ⟨⟨u,η2⟩,h1,h2⟩:=aa (show (evE C e (cK vs ls η)).bind (kT η)=_ from ev)
  obtain ⟨b',h3,e3⟩:=ai (show ret η (truth u.2)=_ from h2)
  cases e3
  refine ⟨sl.pv,_,lb,_,u,η2,b,A.quiet (vs:=vs) (ls:=ls),h1,h3,fun Z' H' Fs' B s=>?_⟩
  obtain ⟨B1,s1⟩:=b8 (G:=no) A bo B.gd.zal (s.mono (F2:=fun a=>tot Fs' a\/no a) (fun _ z=>z) fun a h=>h.elim id fun z=>z.elim) fun a h=>fo h
  exact k _ H' Fs B1 (s1.mono (fun _ z=>z) fun a h=>.inl h)
 | l vs =>
  obtain ⟨⟨u,η2⟩,h1,h2⟩:=aa (show (evE C e (M.share vs η)).bind kT2=_ from ev)
  obtain ⟨b',h3,e3⟩:=ai (show ret η2 (truth u.2)=_ from h2)
  cases e3
  obtain ⟨B,s0⟩:=A.share (vs:=vs)
  have s1:=s0 ((Step.refl Z H (tot Fs)).mono (F2:=fun a=>tot Fs a\/no a) (fun _ z=>z) fun a h=>h.elim id fun z=>z.elim)
  exact ⟨sl.pv,_,_,_,u,_,b,B,h1,h3,fun Z' H' Fs' B' s=>k Z' H' Fs' B' ((s1.mono (fun _ z=>z) fun a h=>.inl h).trans s)⟩
end
end MR
namespace MR
open L2 L3 M
open PySem (Addr Str sizeLine)
section
variable {K:a0a}{sl:Cf}{sf sg:Nat->Option Nat}{C:Call}{σ σ2:L2.St}{Z Z' Z1:Fp}{H H' H1:Hp}{Fs Fs' Fs1:Fps}{η η' η1 ηb:Env}{G G' G1 R F F':Fp}{tg is vs ls io:List Nat}{pv val:Nat->Option V}{D:bz}
noncomputable def Fin (K:a0a)(sl:Cf)(Z:Fp)(H:Hp)(F:Fp)(D:bz):Fl->Prop
 | .nx η'=>∀ σ' Z' H' Fs',At K sl σ' Z' H' Fs' η' no->Step Z H F Z' H' (tot Fs')->D.nx σ' H'
 | .rt w η'=>∀ v σ' Z' H' Fs' G,At K sl σ' Z' H' Fs' η' G->Rep K Z' H' w.1 w.2 v G->Step Z H F Z' H' (fun a=>tot Fs' a\/G a)->D.rt v H'
 | .bk η'=>∀ σ' Z' H' Fs',At K sl σ' Z' H' Fs' η' no->Step Z H F Z' H' (tot Fs')->D.bk σ' H'
 | _=>False
theorem Fin.step {fl:Fl}(s:Step Z H F Z1 H1 F')(h:Fin K sl Z H F D fl):Fin K sl Z1 H1 F' D fl:=by
 cases fl with
 | nx η=>exact fun σ' Z' H' Fs' A t=>h σ' Z' H' Fs' A (s.trans t)
 | rt w η=>exact fun v σ' Z' H' Fs' G A r t=>h v σ' Z' H' Fs' G A r (s.trans t)
 | bk η=>exact fun σ' Z' H' Fs' A t=>h σ' Z' H' Fs' A (s.trans t)
 | _=>exact h.elim
structure lT (sf:Nat->Option Nat)(io:List Nat)(pv:Nat->Option V):Prop where
 inj:∀ i i' j,sf i=some j->sf i'=some j->i=i'
 io:∀ i,i ∉ io->pv i=none
noncomputable def wS (K:a0a)(sf:Nat->Option Nat)(io:List Nat)(C:Call)(st:S):TS:=fun D σ H=>∃ pv Z Fs η,lT sf io pv/\At K ⟨sf,pv⟩ σ Z H Fs η no/\Fin K ⟨sf,pv⟩ Z H (tot Fs) D (evS C st η)
noncomputable def wSs (K:a0a)(sf:Nat->Option Nat)(io:List Nat)(C:Call)(st:List S):TS:=fun D σ H=>∃ pv Z Fs η,lT sf io pv/\At K ⟨sf,pv⟩ σ Z H Fs η no/\Fin K ⟨sf,pv⟩ Z H (tot Fs) D (evSs C st η)
theorem qh (D:bz)(σ:L2.St)(H:Hp)(h:wSs K sf io C [] D σ H):qR D σ H:=by
 obtain ⟨pv,Z,Fs,η,N,A,f⟩:=h
 exact f σ Z H Fs A (Step.refl _ _ _)
theorem ni {s:S}{r:List S}(D:bz)(σ:L2.St)(H:Hp)(h:wSs K sf io C (s::r) D σ H):xD (wS K sf io C s) (wSs K sf io C r) D σ H:=by
 obtain ⟨pv,Z,Fs,η,N,A,f⟩:=h
 refine ⟨pv,Z,Fs,η,N,A,?_⟩
 have f':Fin K ⟨sf,pv⟩ Z H (tot Fs) D (Fl.seq (evS C s η) (evSs C r)):=f
 cases e:evS C s η with
 | nx η1 =>
  rw [e] at f'
  exact fun σ' Z' H' Fs' A' t=>⟨pv,Z',Fs',η1,N,A',f'.step t⟩
 | rt w η1=>rw [e] at f'; exact f'
 | bk η1=>rw [e] at f'; exact f'
 | ex c x η1=>rw [e] at f'; exact f'.elim
 | no=>rw [e] at f'; exact f'.elim
theorem om {s:S}(D:bz)(σ:L2.St)(H:Hp)(h:wSs K sf io C [s] D σ H):wS K sf io C s D σ H:=by
 obtain ⟨pv,Z,Fs,η,N,A,f⟩:=h
 refine ⟨pv,Z,Fs,η,N,A,?_⟩
 have f':Fin K ⟨sf,pv⟩ Z H (tot Fs) D (Fl.seq (evS C s η) (evSs C [])):=f
 cases e:evS C s η with
 | nx η1=>rw [e] at f'; exact f'
 | rt w η1=>rw [e] at f'; exact f'
 | bk η1=>rw [e] at f'; exact f'
 | ex c x η1=>rw [e] at f'; exact f'.elim
 | no=>rw [e] at f'; exact f'.elim
theorem bb {α:Type}{r:Res α}{g:α->Fl}(f:Fin K sl Z H F D (Fl.of η r g)):∃ a,r=.ok a/\Fin K sl Z H F D (g a):=by
 cases r with
 | ok a=>exact ⟨a,rfl,f⟩
 | ex c x=>exact f.elim
 | no=>exact f.elim
theorem iR {o:Option Env}(f:Fin K sl Z H F D (nxO η o)):∃ η',o=some η'/\Fin K sl Z H F D (.nx η'):=by
 cases o with
 | some a=>exact ⟨a,rfl,f⟩
 | none=>exact f.elim
theorem At.setR {i j:Nat}{w:W}{x:V}(N:lT sf io pv)(hi:i ∉ io)(hs:sf i=some j)(A:At K ⟨sf,pv⟩ σ Z H Fs η G)(r:Rep K Z H w.1 w.2 x G1)(q1:∀ a,G1 a->G a)(q2:∀ a,R a->G a)(q3:∀ a,R a->¬ G1 a):At K ⟨sf,pv⟩ (σ.set j (some x)) Z H (jj Fs i G1) (M.put η i w) R:=by
 have hj:j < σ.length:=A.ln i j hs
 have B:At K ⟨fun k=>if k=i then none else sf k,pv⟩ (σ.set j (some x)) Z H Fs (M.del η i) G:=by
  refine ⟨A.gd,fun l m t e=>?_,A.own,A.dis,fun l u k hu hk=>?_,fun l k hk=>?_⟩
  ·rw [aU] at e
   split at e
   ·cases e
   ·rename_i hne
    obtain ⟨v,r',h1,h2⟩:=A.env l m t e
    have hl:l≠i:=fun z=>hne ⟨z,by rw [<- z]; exact cx e⟩
    refine ⟨v,r',fun k hk=>?_,h2⟩
    have hk':sf l=some k:=by have:(if l=i then none else sf l)=some k:=hk; rw [if_neg hl] at this; exact this
    have hjk:j≠k:=fun z=>hl (N.inj l i k hk' (by rw [<- z]; exact hs))
    rw [a1j hjk]
    exact h1 k hk'
  ·have hl:l≠i:=fun z=>by
    have hu':pv l=some u:=hu
    rw [z,N.io i hi] at hu'; cases hu'
   have hk':sf l=some k:=by have:(if l=i then none else sf l)=some k:=hk; rw [if_neg hl] at this; exact this
   have hjk:j≠k:=fun z=>hl (N.inj l i k hk' (by rw [<- z]; exact hs))
   rw [a1j hjk]
   exact A.lk l u k hu hk'
  ·have hk':sf l=some k:=by
    have:(if l=i then none else sf l)=some k:=hk
    split at this
    ·cases this
    ·exact this
   rw [a2U]
   exact A.ln l k hk'
 have B2:=At.put (i:=i) (w:=w) (G1:=G1) (R:=R) B r q1 q2 q3 (fun k hk=>by have hk':(if i=i then none else sf i)=some k:=hk; rw [if_pos rfl] at hk'; cases hk') (fun u hu=>by have:=N.io i hi; rw [show pv i=some u from hu] at this; cases this)
 have e1:M.put (M.del η i) i w=M.put η i w:=by
  have:∀ (η:Env) (i:Nat) (a b:Option W),wr (wr η i a) i b=wr η i b:=fun η=>by
   induction η with
   | nil=>intro i a b; rfl
   | cons o η ih=>intro i a b; cases i with
    | zero=>rfl
    | succ i=>show o::wr (wr η i a) i b=o::wr η i b; rw [ih]
  exact this η i none (some w)
 rw [e1] at B2
 refine ⟨B2.gd,fun l m t e=>?_,B2.own,B2.dis,fun l u k hu hk=>?_,fun l k hk=>by rw [a2U]; exact A.ln l k hk⟩
 ·obtain ⟨v,r',h1,h2⟩:=B2.env l m t e
  by_cases hl:l=i
  ·subst hl
   rw [aU] at e
   split at e
   ·cases e
    refine ⟨x,r.mono fun a h=>.inl ⟨rfl,h⟩,fun k hk=>?_,fun u hu=>by have:=N.io l hi; rw [show pv l=some u from hu] at this; cases this⟩
    have:k=j:=by rw [show sf l=some k from hk] at hs; cases hs; rfl
    subst this
    rw [a1y hj]
   ·rename_i hc
    exact absurd ⟨rfl,cx e⟩ hc
  ·refine ⟨v,r',fun k hk=>h1 k ?_,h2⟩
   show (if l=i then none else sf l)=some k
   rw [if_neg hl]; exact hk
 ·by_cases hl:l=i
  ·subst hl
   have:=N.io l hi
   rw [show pv l=some u from hu] at this; cases this
  ·exact B2.lk l u k hu (show (if l=i then none else sf l)=some k by rw [if_neg hl]; exact hk)
theorem At.set {i j:Nat}{w:W}{x:V}(N:lT sf io pv)(hi:i ∉ io)(hs:sf i=some j)(A:At K ⟨sf,pv⟩ σ Z H Fs η G)(r:Rep K Z H w.1 w.2 x G):At K ⟨sf,pv⟩ (σ.set j (some x)) Z H (jj Fs i G) (M.put η i w) no:=At.setR N hi hs A r (fun _ h=>h) (fun _ z=>z.elim) (fun _ z=>z.elim)
theorem mY {x:X}{i j:Nat}{e:E}(hi:i ∉ io)(hs:sf i=some j)(D:bz)(σ:L2.St)(H:Hp)(h:wS K sf io C (.asg x i e) D σ H):pE (wE K sf C e) (bR j) D σ H:=by
 obtain ⟨pv,Z,Fs,η,N,A,f⟩:=h
 obtain ⟨⟨w,η1⟩,h1,h2⟩:=bb (show Fin K ⟨sf,pv⟩ Z H (tot Fs) D (Fl.of η (evX C x e η) (qw i)) from f)
 refine mC (sl:=⟨sf,pv⟩) A h1 fun v Z' H' Fs' G B r s=>?_
 exact h2 _ Z' H' _ (At.set N hi hs B r) (s.mono (fun _ z=>z) fun a ha=>bh ha)
theorem uq {x:X}{e:E}(D:bz)(σ:L2.St)(H:Hp)(h:wS K sf io C (.exp x e) D σ H):qX (wE K sf C e) D σ H:=by
 obtain ⟨pv,Z,Fs,η,N,A,f⟩:=h
 obtain ⟨⟨w,η1⟩,h1,h2⟩:=bb (show Fin K ⟨sf,pv⟩ Z H (tot Fs) D (Fl.of η (evX C x e η) kNx) from f)
 exact mC (sl:=⟨sf,pv⟩) A h1 fun v Z' H' Fs' G B r s=>h2 σ Z' H' Fs' B.bare (s.mono (fun _ z=>z) fun a ha=>.inl ha)
theorem uy {e:E}(D:bz)(σ:L2.St)(H:Hp)(h:wS K sf io C (.ret vs e) D σ H):wu (wE K sf C e) D σ H:=by
 obtain ⟨pv,Z,Fs,η,N,A,f⟩:=h
 obtain ⟨⟨w,η1⟩,h1,h2⟩:=bb (show Fin K ⟨sf,pv⟩ Z H (tot Fs) D (Fl.of η (evE C e (M.share vs η)) kRt) from f)
 exact mC (sl:=⟨sf,pv⟩) (x:=.l vs) A h1 fun v Z' H' Fs' G B r s=>h2 v σ Z' H' Fs' G B r s
theorem uj {x:X}{c:E}{a b:List S}(D:bz)(σ:L2.St)(H:Hp)(h:wS K sf io C (.ite x c a b) D σ H):x9 (wT K sf C c) (wSs K sf io C a) (wSs K sf io C b) D σ H:=by
 obtain ⟨pv,Z,Fs,η,N,A,f⟩:=h
 obtain ⟨⟨k,η1⟩,h1,h2⟩:=bb (show Fin K ⟨sf,pv⟩ Z H (tot Fs) D (Fl.of η (evT C x c η) (kIf (evSs C a) (evSs C b))) from f)
 refine vQ (sl:=⟨sf,pv⟩) A h1 fun Z' H' Fs' B s=>?_
 cases k with
 | true=>rw [if_pos rfl]; exact ⟨pv,Z',Fs',η1,N,B,Fin.step s h2⟩
 | false=>rw [if_neg a0l]; exact ⟨pv,Z',Fs',η1,N,B,Fin.step s h2⟩
theorem qE {m:Md}{ts:List T}{v:V}(hm:m≠.s)(r:Rep K Z H m (.lst ts) v G):∃ a xs,v=.ref a/\xs.length<=LIM/\G a/\H a=some (.lst xs)/\RepL K Z H m.kid ts xs (fun b=>G b/\b≠a):=by
 obtain ⟨a,xs,e,l,q,p⟩:=r
 rw [LstR.own hm] at q
 exact ⟨a,xs,e,l,q.1,q.2,p⟩
theorem qq {i:Nat}{a:Addr}{ts':List T}{xs':List V}{m':Md}(hm:m'≠.s)(A:At K ⟨sf,pv⟩ σ Z H Fs η G){w0:W}(hi:rd η i=some w0)(ha:Fs i a)(hx:∀ j,sf i=some j->σ[j]?=some (some (.ref a)))(hl:xs'.length<=LIM)(hpv:∀ u,pv i=some u->V.ref a=u)
  (hg:∀ b,G' b->(Fs i b\/G b)/\b≠a) (hR:∀ b,R b->(Fs i b\/G b)/\b≠a) (hRG:∀ b,R b->¬ G' b) (p:RepL K (fun b=>Z b\/((Fs i b\/G b)/\b≠a/\¬ G' b/\¬ R b)) H m'.kid ts' xs' G') {Q:Hp->Prop}
  (k:∀ Z' Fs',At K ⟨sf,pv⟩ σ Z' (upd H a (.lst xs')) Fs' (M.put η i (m',.lst ts')) R->Step Z H (fun b=>tot Fs b\/G b) Z' (upd H a (.lst xs')) (fun b=>tot Fs' b\/R b)->(∀ {m t v},Rep K (fun b=>Z b\/((Fs i b\/G b)/\b≠a/\¬ G' b/\¬ R b)) H m t v R->Rep K Z' (upd H a (.lst xs')) m t v R)->Q (upd H a (.lst xs'))):Q (upd H a (.lst xs')):=by
 have hta:tot Fs a:=⟨i,ha⟩
 obtain ⟨nza,ys,hya⟩:=A.gd.own a hta
 have nGa:¬ G a:=fun q=>A.dis a q hta
 have zdef:∀ b,(Z b\/((Fs i b\/G b)/\b≠a/\¬ G' b/\¬ R b))->b≠a:=fun b h z=>by
  subst z
  rcases h with h | h
  ·exact nza h
  ·exact h.2.1 rfl
 have keep:∀ b o,H b=some o->b≠a->upd H a (.lst xs') b=some o:=fun b o e hb=>by rw [ab hb]; exact e
 have neT:∀ b xs,H b=some (.tup xs)->b≠a:=fun b xs e z=>by rw [z,hya] at e; cases e
 have neF:∀ b o u,H b=some (.frz o u)->b≠a:=fun b o u e z=>by rw [z,hya] at e; cases e
 have stay:∀ {Y:Fp},(∀ b,Y b->b≠a)->Stay Y H (upd H a (.lst xs')):=fun {Y} hY=>⟨fun b o hb e=>keep b o e (hY b hb),fun b xs e=>by
  rcases e with e | ⟨u,e⟩
  ·exact .inl (keep b _ e (neT b xs e))
  ·exact .inr ⟨u,keep b _ e (neF b u _ e)⟩,fun b o u e=>keep b _ e (neF b o u e)⟩
 have al:∀ b,H b≠none->upd H a (.lst xs') b≠none:=fun b h=>by
  by_cases e:b=a
  ·rw [e,aq]; simp
  ·rw [ab e]; exact h
 have zal':∀ b,(Z b\/((Fs i b\/G b)/\b≠a/\¬ G' b/\¬ R b))->H b≠none:=fun b h=>by
  rcases h with h | ⟨h | h,_⟩
  ·exact A.gd.zal b h
  ·obtain ⟨_,zs,e⟩:=A.gd.own b ⟨i,h⟩; rw [e]; simp
  ·obtain ⟨_,zs,e⟩:=A.own b h; rw [e]; simp
 have listAt:∀ b,(tot Fs b\/G b)->∃ zs,upd H a (.lst xs') b=some (.lst zs):=fun b h=>by
  by_cases e:b=a
  ·exact ⟨xs',by rw [e,aq]⟩
  ·rcases h with h | h
   ·obtain ⟨_,zs,q⟩:=A.gd.own b h; exact ⟨zs,by rw [ab e]; exact q⟩
   ·obtain ⟨_,zs,q⟩:=A.own b h; exact ⟨zs,by rw [ab e]; exact q⟩
 have nZ:∀ b,(Fs i b\/G b)->¬ Z b:=fun b h z=>h.elim (fun y=>(A.gd.own b ⟨i,y⟩).1 z) fun y=>(A.own b y).1 z
 have gz:∀ b,tot (jj Fs i fun b=>G' b\/b=a) b->(∃ j,j≠i/\Fs j b)\/G' b\/b=a:=fun b h=>by
  obtain ⟨j,h | h⟩:=h
  ·exact .inr h.2
  ·exact .inl ⟨j,h⟩
 refine k (fun b=>Z b\/((Fs i b\/G b)/\b≠a/\¬ G' b/\¬ R b)) (jj Fs i fun b=>G' b\/b=a) ⟨⟨fun b h=>⟨fun z=>?_,?_⟩,fun j l b hj hk=>?_,fun b h=>al b (zal' b h)⟩,fun l m t e=>?_,fun b h=>⟨fun z=>?_,listAt b ((hR b h).1.imp (fun z=>⟨i,z⟩) id)⟩,fun b h q=>?_,A.lk,A.ln⟩ ⟨fun b o e n=>keep b o e fun z=>n (.inl (z ▸ hta)),fun b h=>.inl h,fun b h=>h.imp id fun q=>.inl (q.1.imp (fun z=>⟨i,z⟩) id),fun b h=>?_,al,fun _ b h=>al b (zal' b h)⟩ fun {m t v} r=>r.keep (stay zdef) (fun _ z=>z) fun b o hb e=>keep b o e (hR b hb).2
 ·rcases gz b h with ⟨j,hj,q⟩ | q | q
  ·rcases z with z | ⟨z | z,_⟩
   ·exact (A.gd.own b ⟨j,q⟩).1 z
   ·exact hj (A.gd.dis j i b q z)
   ·exact A.dis b z ⟨j,q⟩
  ·rcases z with z | z
   ·exact nZ b (hg b q).1 z
   ·exact z.2.2.1 q
  ·exact zdef b z q
 ·rcases gz b h with ⟨j,hj,q⟩ | q | q
  ·exact listAt b (.inl ⟨j,q⟩)
  ·exact listAt b ((hg b q).1.imp (fun z=>⟨i,z⟩) id)
  ·exact ⟨xs',by rw [q,aq]⟩
 ·have key:∀ {j:Nat},(G' b\/b=a)->Fs j b->j=i:=fun {j} h q=>by
   rcases h with h | h
   ·rcases (hg b h).1 with y | y
    ·exact A.gd.dis j i b q y
    ·exact absurd ⟨j,q⟩ (A.dis b y)
   ·rw [h] at q; exact A.gd.dis j i a q ha
  rcases hj with ⟨rfl,hj⟩ | ⟨nj,hj⟩
  ·rcases hk with ⟨rfl,_⟩ | ⟨nk,hk⟩
   ·rfl
   ·exact absurd (key hj hk) nk
  ·rcases hk with ⟨rfl,hk⟩ | ⟨nk,hk⟩
   ·exact absurd (key hk hj) nj
   ·exact A.gd.dis j l b hj hk
 ·rw [aU] at e
  split at e
  ·rename_i hc
   obtain ⟨rfl,_⟩:=hc
   cases e
   refine ⟨.ref a,⟨a,xs',rfl,hl,(LstR.own hm).mpr ⟨.inl ⟨rfl,.inr rfl⟩,aq⟩,?_⟩,hx,hpv⟩
   exact (p.keep (stay zdef) (fun _ z=>z) fun b o hb e=>keep b o e (hg b hb).2).mono fun b hb=>⟨.inl ⟨rfl,.inl hb⟩,(hg b hb).2⟩
  ·rename_i hc
   have hl':l≠i:=fun z=>hc ⟨z,cx hi⟩
   obtain ⟨v,r,h⟩:=A.env l m t e
   have nea:∀ b,Fs l b->b≠a:=fun b q z=>hl' (A.gd.dis l i a (z ▸ q) ha)
   exact ⟨v,((r.keep (stay fun b hb z=>nza (z ▸ hb)) (fun _ z=>z) fun b o hb e=>keep b o e (nea b hb)).zmono fun b h=>.inl h).mono fun b h=>.inr ⟨hl',h⟩,h⟩
 ·rcases z with z | z
  ·exact nZ b (hR b h).1 z
  ·exact z.2.2.2 h
 ·rcases gz b q with ⟨j,hj,y⟩ | y | y
  ·rcases (hR b h).1 with z | z
   ·exact hj (A.gd.dis j i b y z)
   ·exact A.dis b z ⟨j,y⟩
  ·exact hRG b h y
  ·exact (hR b h).2 y
 ·rcases h with h | h
  ·rcases gz b h with ⟨j,_,q⟩ | q | q
   ·exact .inl (.inl ⟨j,q⟩)
   ·exact .inl ((hg b q).1.imp (fun z=>⟨i,z⟩) id)
   ·exact .inl (.inl (q ▸ hta))
  ·exact .inl ((hR b h).1.imp (fun z=>⟨i,z⟩) id)
theorem change {i:Nat}{a:Addr}{ts':List T}{xs':List V}{m':Md}(hm:m'≠.s)(A:At K ⟨sf,pv⟩ σ Z H Fs η G){w0:W}(hi:rd η i=some w0)(ha:Fs i a)(hx:∀ j,sf i=some j->σ[j]?=some (some (.ref a)))(hl:xs'.length<=LIM)(hpv:∀ u,pv i=some u->V.ref a=u)
  (hg:∀ b,G' b->(Fs i b\/G b)/\b≠a) (p:RepL K (fun b=>Z b\/((Fs i b\/G b)/\b≠a/\¬ G' b)) H m'.kid ts' xs' G') {Q:Hp->Prop}
  (k:∀ Z' Fs',At K ⟨sf,pv⟩ σ Z' (upd H a (.lst xs')) Fs' (M.put η i (m',.lst ts')) no->Step Z H (fun b=>tot Fs b\/G b) Z' (upd H a (.lst xs')) (tot Fs')->Q (upd H a (.lst xs'))):Q (upd H a (.lst xs')) :=
 qq (R:=no) hm A hi ha hx hl hpv hg (fun _ z=>z.elim) (fun _ z=>z.elim) (p.zmono fun b h=>h.imp id fun q=>⟨q.1,q.2.1,q.2.2,fun z=>z⟩) fun Z' Fs' B s _=>k Z' Fs' B (s.mono (fun _ z=>z) fun _ z=>.inl z)
end
end MR
namespace MR
open L2 L3 M
open PySem (Addr Str sizeLine)
section
variable {K:a0a}{sl:Cf}{sf sg:Nat->Option Nat}{C:Call}{σ σ2:L2.St}{Z Z' Z1:Fp}{H H' H1:Hp}{Fs Fs' Fs1:Fps}{η η' η1 ηb:Env}{G G' G1 R F F':Fp}{tg is vs ls io:List Nat}{pv val:Nat->Option V}{D:bz}
theorem gH {o:Option W}{u:Unit}(h:dF o=.ok u):∃ m ts,o=some (m,.lst ts):=by
 cases o with
 | none=>cases h
 | some w =>
  obtain ⟨m,t⟩:=w
  cases t with
  | lst ts=>exact ⟨m,ts,rfl⟩
  | _=>cases h
theorem At.listAt {i j:Nat}{m:Md}{ts:List T}(hs:sf i=some j)(A:At K ⟨sf,pv⟩ σ Z H Fs η G)(h:rd η i=some (m,.lst ts)):∃ a xs,σ[j]?=some (some (.ref a))/\H a=some (.lst xs):=by
 obtain ⟨v,r,hl,_⟩:=A.env i m _ h
 obtain ⟨a,xs,rfl,hx,_⟩:=aX r
 exact ⟨a,xs,hl j hs,hx⟩
theorem At.ourList {i j:Nat}{a:Addr}{m:Md}{ts:List T}(hs:sf i=some j)(hm:m≠.s)(hj:σ[j]?=some (some (.ref a)))(A:At K ⟨sf,pv⟩ σ Z H Fs η G)(h:rd η i=some (m,.lst ts)) :
  ∃ xs,xs.length<=LIM/\Fs i a/\H a=some (.lst xs)/\RepL K Z H m.kid ts xs (fun b=>Fs i b/\b≠a)/\(∀ u,pv i=some u->V.ref a=u):=by
 obtain ⟨v,r,hl,hp⟩:=A.env i m _ h
 have e:=hl j hs
 rw [hj] at e
 cases e
 obtain ⟨b,xs,e,l,g,hx,p⟩:=qE hm r
 cases e
 exact ⟨xs,l,g,hx,p,hp⟩
theorem lK {u w r:W}(h:ey u w=some r):∃ m ts,u=(m,.lst ts)/\m≠.s/\ts.length < LIM/\r=((m.kid.meet (lf w.1 w.2)).up,.lst (ts++[w.2])):=by
 obtain ⟨m,t⟩:=u
 obtain ⟨n,t'⟩:=w
 cases m with
 | s=>cases h
 | d =>
  cases t with
  | lst ts =>
   have h':(if ts.length < LIM then some ((((Md.d.kid.meet (lf n t')).up,.lst (ts++[t'])):W)) else none)=some r:=h
   split at h'
   ·rename_i hl; cases h'; exact ⟨.d,ts,rfl,by simp,hl,rfl⟩
   ·cases h'
  | _=>cases h
 | o m =>
  cases t with
  | lst ts =>
   have h':(if ts.length < LIM then some (((((Md.o m).kid.meet (lf n t')).up,.lst (ts++[t'])):W)) else none)=some r:=h
   split at h'
   ·rename_i hl; cases h'; exact ⟨.o m,ts,rfl,by simp,hl,rfl⟩
   ·cases h'
  | _=>cases h
theorem mz {u w r:W}(h:eC u w=some r):∃ m ts n us,u=(m,.lst ts)/\w=(n,.lst us)/\m≠.s/\ts.length+us.length<=LIM/\r=((m.kid.meet n.kid).up,.lst (ts++us)):=by
 obtain ⟨m,t⟩:=u
 obtain ⟨n,t'⟩:=w
 cases m with
 | s=>cases h
 | d =>
  cases t with
  | lst ts =>
   cases t' with
   | lst us =>
    have h':(if ts.length+us.length<=LIM then some ((((Md.d.kid.meet n.kid).up,.lst (ts++us)):W)) else none)=some r:=h
    split at h'
    ·rename_i hl; cases h'; exact ⟨.d,ts,n,us,rfl,rfl,by simp,hl,rfl⟩
    ·cases h'
   | _=>cases h
  | _=>cases h
 | o m =>
  cases t with
  | lst ts =>
   cases t' with
   | lst us =>
    have h':(if ts.length+us.length<=LIM then some (((((Md.o m).kid.meet n.kid).up,.lst (ts++us)):W)) else none)=some r:=h
    split at h'
    ·rename_i hl; cases h'; exact ⟨.o m,ts,n,us,rfl,rfl,by simp,hl,rfl⟩
    ·cases h'
   | _=>cases h
  | _=>cases h
theorem mx {a:Addr}{m:Md}{ts:List T}{xs:List V}{w:W}{y:V}{A0:Fp}(hA:∀ b,A0 b->b≠a)(hG:∀ b,G b->b≠a)(d:∀ b,A0 b->¬ G b)(p:RepL K Z H m ts xs A0)(r:Rep K Z H w.1 w.2 y G) :
  ∃ G',(∀ b,G' b->(A0 b\/G b)/\b≠a)/\RepL K (fun b=>Z b\/((A0 b\/G b)/\b≠a/\¬ G' b)) H (m.meet (lf w.1 w.2)) (ts++[w.2]) (xs++[y]) G':=by
 obtain ⟨G',g1,g2⟩:=dM (G:=fun b=>A0 b\/G b) (fun _ z=>.inl z) (fun _ z=>.inr z) d p (RepL.one r.lf)
 have ne:∀ b,(A0 b\/G b)->b≠a:=fun b h=>h.elim (hA b) (hG b)
 exact ⟨G',fun b h=>⟨g1 b h,ne b (g1 b h)⟩,g2.zmono fun b h=>h.imp id fun q=>⟨q.1,ne b q.1,q.2⟩⟩
theorem u3 {x:X}{i j:Nat}{e:E}(hs:sf i=some j)(D:bz)(σ:L2.St)(H:Hp)(h:wS K sf io C (.app x i e) D σ H) :
  ∃ a xs,σ[j]?=some (some (.ref a))/\H a=some (.lst xs)/\wE K sf C e σ H fun y H1=>∃ xs,H1 a=some (.lst xs)/\xs.length < sizeLine/\D.nx σ (upd H1 a (.lst (xs++[y]))):=by
 obtain ⟨pv,Z,Fs,η,N,A,f⟩:=h
 obtain ⟨u,h0,h1⟩:=bb (show Fin K ⟨sf,pv⟩ Z H (tot Fs) D (Fl.of η (dF (rd η i)) (ia (evX C x e) η (kU i))) from f)
 obtain ⟨m0,t0,h00⟩:=gH h0
 obtain ⟨a,xs0,hj,ha⟩:=A.listAt hs h00
 obtain ⟨⟨w,η1⟩,h2,h3⟩:=bb (show Fin K ⟨sf,pv⟩ Z H (tot Fs) D (Fl.of η (evX C x e η) (kU i)) from h1)
 obtain ⟨η2,h4,h5⟩:=iR (show Fin K ⟨sf,pv⟩ Z H (tot Fs) D (nxO η1 (((rd η1 i).bind fun u=>ey u w).map fun u=>M.put η1 i u)) from h3)
 refine ⟨a,xs0,hj,ha,mC (sl:=⟨sf,pv⟩) A h2 fun y Z' H' Fs' G B r s=>?_⟩
 cases e1:rd η1 i with
 | none=>rw [e1] at h4; cases h4
 | some u1 =>
  rw [e1] at h4
  cases e2:ey u1 w with
  | none=>rw [show (some u1).bind (fun u=>ey u w)=ey u1 w from rfl,e2] at h4; cases h4
  | some r1 =>
   rw [show (some u1).bind (fun u=>ey u w)=ey u1 w from rfl,e2] at h4
   cases h4
   obtain ⟨m,ts,rfl,hm,hlen,rfl⟩:=lK e2
   obtain ⟨xs,hl,hf,hx,p,hpv⟩:=B.ourList hs hm hj e1
   have e3:=p.length
   obtain ⟨G',g1,g2⟩:=mx (a:=a) (fun b h=>h.2) (fun b h z=>B.dis b h ⟨i,z ▸ hf⟩) (fun b h q=>B.dis b q ⟨i,h.1⟩) p r
   refine ⟨xs,hx,fI hl,?_⟩
   refine change (K:=K) (m':=(m.kid.meet (lf w.1 w.2)).up) (b5 _) B e1 hf (fun k hk=>by rw [show sf i=some k from hk] at hs; cases hs; exact hj) (by rw [a0b,e3,a0t]; omega) hpv (fun b h=>⟨(g1 b h).1.imp a12 id,(g1 b h).2⟩) (ts':=ts++[w.2]) (by rw [ei]; exact g2.zmono fun b h=>h.imp id fun q=>⟨q.1.imp a12 id,q.2⟩) fun Z2 Fs2 B2 s2=>h5 σ Z2 _ Fs2 B2 (s.trans s2)
theorem vt {x:X}{i j:Nat}{e:E}(hs:sf i=some j)(D:bz)(σ:L2.St)(H:Hp)(h:wS K sf io C (.ext x i e) D σ H) :
  ∃ a xs,σ[j]?=some (some (.ref a))/\H a=some (.lst xs)/\wE K sf C e σ H fun y H1=>∃ b xs zs,y=.ref b/\H1 a=some (.lst xs)/\H1 b=some (.lst zs)/\xs.length+zs.length<=sizeLine/\D.nx σ (upd H1 a (.lst (xs++zs))):=by
 obtain ⟨pv,Z,Fs,η,N,A,f⟩:=h
 obtain ⟨u,h0,h1⟩:=bb (show Fin K ⟨sf,pv⟩ Z H (tot Fs) D (Fl.of η (dF (rd η i)) (ia (evX C x e) η (lF i))) from f)
 obtain ⟨m0,t0,h00⟩:=gH h0
 obtain ⟨a,xs0,hj,ha⟩:=A.listAt hs h00
 obtain ⟨⟨w,η1⟩,h2,h3⟩:=bb (show Fin K ⟨sf,pv⟩ Z H (tot Fs) D (Fl.of η (evX C x e η) (lF i)) from h1)
 obtain ⟨η2,h4,h5⟩:=iR (show Fin K ⟨sf,pv⟩ Z H (tot Fs) D (nxO η1 (((rd η1 i).bind fun u=>eC u w).map fun u=>M.put η1 i u)) from h3)
 refine ⟨a,xs0,hj,ha,mC (sl:=⟨sf,pv⟩) A h2 fun y Z' H' Fs' G B r s=>?_⟩
 cases e1:rd η1 i with
 | none=>rw [e1] at h4; cases h4
 | some u1 =>
  rw [e1] at h4
  cases e2:eC u1 w with
  | none=>rw [show (some u1).bind (fun u=>eC u w)=eC u1 w from rfl,e2] at h4; cases h4
  | some r1 =>
   rw [show (some u1).bind (fun u=>eC u w)=eC u1 w from rfl,e2] at h4
   cases h4
   obtain ⟨m,ts,n,us,rfl,rfl,hm,hlen,rfl⟩:=mz e2
   obtain ⟨xs,hl,hf,hx,p,hpv⟩:=B.ourList hs hm hj e1
   obtain ⟨b,zs,rfl,hb,hl2,p2⟩:=aX r
   have e3:=p.length
   have e4:=p2.length
   have hG:∀ b,G b->b≠a:=fun b h z=>B.dis b h ⟨i,z ▸ hf⟩
   obtain ⟨G',g1,g2⟩:=dM (G:=fun b=>(Fs' i b/\b≠a)\/G b) (fun _ z=>.inl z) (fun _ z=>.inr z) (fun b h q=>B.dis b q ⟨i,h.1⟩) p p2
   have ne:∀ b,((Fs' i b/\b≠a)\/G b)->b≠a:=fun b h=>h.elim And.right (hG b)
   refine ⟨b,xs,zs,rfl,hx,hb,LIM_le (by omega),?_⟩
   refine change (K:=K) (m':=(m.kid.meet n.kid).up) (b5 _) B e1 hf (fun k hk=>by rw [show sf i=some k from hk] at hs; cases hs; exact hj) (by rw [a0b]; omega) hpv (fun b h=>⟨(g1 b h).imp a12 id,ne b (g1 b h)⟩) (ts':=ts++us) (by rw [ei]; exact g2.zmono fun b h=>h.imp id fun q=>⟨q.1.imp a12 id,ne b q.1,q.2⟩) fun Z2 Fs2 B2 s2=>h5 σ Z2 _ Fs2 B2 (s.trans s2)
end
end MR
namespace MR
open L2 L3 M
open PySem (Addr Str sizeLine)
section
variable {K:a0a}{sl:Cf}{sf sg:Nat->Option Nat}{C:Call}{σ σ2:L2.St}{Z Z' Z1:Fp}{H H' H1:Hp}{Fs Fs' Fs1:Fps}{η η' η1 ηb:Env}{G G' G1 R F F':Fp}{tg is vs ls io:List Nat}{pv val:Nat->Option V}{D:bz}
noncomputable def gF (K:a0a):List Nat->TG
 | [j]=>bR j
 | [j,l]=>vH K 2 (gB (bR j) (gB (bR l) rV))
 | _=>fun _ _ _ _=>False
theorem nK {fl:Fl}{g:Env->Fl}(f:Fin K sl Z H F D (Fl.turn fl g)):(∃ η',fl=.nx η'/\Fin K sl Z H F D (g η'))\/(∃ η',fl=.bk η'/\Fin K sl Z H F D (.nx η'))\/(∃ w η',fl=.rt w η'/\Fin K sl Z H F D (.rt w η')):=by
 cases fl with
 | nx η=>exact .inl ⟨η,rfl,f⟩
 | bk η=>exact .inr (.inl ⟨η,rfl,f⟩)
 | rt w η=>exact .inr (.inr ⟨w,η,rfl,f⟩)
 | ex c x η=>exact f.elim
 | no=>exact f.elim
theorem gN {fl:Fl}{g:Env->Fl}{N:L2.St->Hp->Prop}(f:Fin K sl Z H F D (Fl.turn fl g))(hN:∀ η' σ' Z' H' Fs',fl=.nx η'->Fin K sl Z H F D (g η')->At K sl σ' Z' H' Fs' η' no->Step Z H F Z' H' (tot Fs')->N σ' H'):Fin K sl Z H F { D with nx:=N,ct:=N,bk:=D.nx } fl:=by
 rcases nK f with ⟨η',rfl,f⟩ | ⟨η',rfl,f⟩ | ⟨w,η',rfl,f⟩
 ·exact fun σ' Z' H' Fs' A s=>hN η' σ' Z' H' Fs' rfl f A s
 ·exact f
 ·exact f
theorem kC {n i:Nat}{J:It}{ts:List (List W)}{ws:List W}{js:List Nat}{x:V}{Q:L2.St->Hp->Prop}(hn:tg.length=n)(nd:tg.Nodup)(N:lT sf io pv)(hio:∀ t∈tg,t ∉ io)(hjs:tg.map sf=js.map some)(hz:∀ a,Z1 a->Z a)(st:Stay Z1 H1 H)(yl:Yld K J Z1 H1 ts n)(A:At K ⟨sf,pv⟩ σ Z H Fs η no)
  (hw:ts[i]?=some ws) (hb:aK tg ws η=some ηb) (y:J.yld i H x H') (k:∀ σ2 H2 Fs2,At K ⟨sf,pv⟩ σ2 Z H2 Fs2 ηb no->Step Z H (tot Fs) Z H2 (tot Fs2)->Q σ2 H2):gF K js x σ H' Q:=by
 have hi:i < ts.length:=(a0q.mp hw).1
 match n,yl with
 | 1,yl =>
  obtain ⟨e0,w,hw',r⟩:=yl H i x H' st hi y
  rw [e0]
  rw [hw] at hw'; cases hw'
  match tg,hn,js,hjs with
  | [t],_,[j],hjs =>
   cases hb
   have hs:sf t=some j:=by simpa using hjs
   exact k _ H _ (At.set N (hio t (by simp)) hs A (r.zmono hz)) ((Step.refl _ _ _).mono (fun _ z=>z) fun a h=>(bh h).elim id fun z=>z.elim)
  | [t],_,[],hjs=>simp at hjs
  | [t],_,_::_::_,hjs=>simp at hjs
 | 2,yl =>
  obtain ⟨p,y1,z1,u,w,rfl,sm,hq,hw',r1,r2⟩:=yl H i x H' st hi y
  rw [hw] at hw'; cases hw'
  match tg,hn,js,hjs with
  | [t,t'],_,[j,j'],hjs =>
   cases hb
   have hs:sf t=some j:=by simp at hjs; exact hjs.1
   have hs':sf t'=some j':=by simp at hjs; exact hjs.2
   have s0:Step Z H no Z H' no:=dN sm
   obtain ⟨A1,s1⟩:=A.op bo s0
   have sn:Stay Z H H':=gJ sm
   have r1':Rep K Z H' u.1 u.2 y1 no:=(r1.zmono hz).keep sn (fun _ z=>z) fun _ _ z=>z.elim
   have r2':Rep K Z H' w.1 w.2 z1 no:=(r2.zmono hz).keep sn (fun _ z=>z) fun _ _ z=>z.elim
   have A2:=At.set N (hio t (by simp)) hs A1 r1'
   have A3:=At.set N (hio t' (by simp)) hs' A2 r2'
   refine ⟨p,[y1,z1],rfl,hq,rfl,y1,[z1],rfl,z1,[],rfl,rfl,k _ _ _ A3 (s1.mono (fun a h=>h.elim id fun z=>z.elim) fun a h=>?_)⟩
   rcases bh h with h | h
   ·exact .inl ((bh h).elim id fun z=>z.elim)
   ·exact h.elim
  | [t,t'],_,[],hjs=>simp at hjs
  | [t,t'],_,[_],hjs=>simp at hjs
  | [t,t'],_,_::_::_::_,hjs=>simp at hjs
theorem tM {n:Nat}{k:Ik}{src:List E}{js:List Nat}{body:List S}(hn:tg.length=n)(nd:tg.Nodup)(hio:∀ t∈tg,t ∉ io)(hjs:tg.map sf=js.map some)(D:bz)(σ:L2.St)(H:Hp)(h:wS K sf io C (.forS vs ls k src tg body) D σ H) :
  xB (wI K sf C n k src) (gF K js) (wSs K sf io C body) D σ H:=by
 obtain ⟨pv,Z,Fs,η,N,A,f⟩:=h
 obtain ⟨⟨ws,η2⟩,h1,h2⟩:=bb (show Fin K ⟨sf,pv⟩ Z H (tot Fs) D (Fl.of η (evL C src (cK vs ls η)) (nM vs k tg (evSs C body) η)) from f)
 obtain ⟨⟨ts,η3⟩,h3,h4⟩:=bb (show Fin K ⟨sf,pv⟩ Z H (tot Fs) D (Fl.of η (ret (M.share vs η) (aT k ws)) (i8 tg (evSs C body))) from h2)
 obtain ⟨ts',ht,e3⟩:=ai h3
 have e4:ts=ts':=congrArg a3g e3
 have e5:η3=M.share vs η:=congrArg a1Q e3
 subst e4 e5
 have h4':Fin K ⟨sf,pv⟩ Z H (tot Fs) D (gD tg (evSs C body) ts (M.share vs η)):=h4
 refine ⟨pv,_,lb,_,ws,η2,ts,A.quiet (vs:=vs) (ls:=ls),h1,ht,fun J Z1 H1 Fs1 B s wk yl=>?_⟩
 obtain ⟨B1,s1⟩:=b8 (G:=no) A bo B.gd.zal (s.mono (F2:=fun a=>tot Fs1 a\/no a) (fun _ z=>z) fun a h=>h.elim id fun z=>z.elim) fun a h=>fo h
 obtain ⟨B2,s2⟩:=B1.share (vs:=vs)
 have s3:=(s2 s1).mono (F2:=tot (cY Fs vs)) (fun _ z=>z) fun _ z=>.inl z
 have zz:∀ a,Z1 a->((Z1 a/\¬ bJ Fs vs a)\/bJ Fs vs a):=fun a h=>(a3e (bJ Fs vs a)).elim .inr fun q=>.inl ⟨h,q⟩
 refine ⟨fun i m σ' H'=>m=ts.length-i/\i<=ts.length/\∃ Zi Fsi ηi,At K ⟨sf,pv⟩ σ' Zi H' Fsi ηi no/\Step (fun a=>(Z1 a/\¬ bJ Fs vs a)\/bJ Fs vs a) H1 (tot (cY Fs vs)) Zi H' (tot Fsi)/\Fin K ⟨sf,pv⟩ Zi H' (tot Fsi) D (gD tg (evSs C body) (ts.drop i) ηi),⟨ts.length,by simp,a03 _,_,_,_,B2,Step.refl _ _ _,h4'.step s3⟩,?_⟩
 rintro i m σi H0 ⟨rfl,hi,Zi,Fsi,ηi,Ai,si,fi⟩
 have st:Stay Z1 H1 H0:=by
  have:=B2.gd.own.stay si
  exact ⟨fun a o h=>this.1 a o (zz a h),this.2⟩
 by_cases hlt:i < ts.length
 ·right
  refine ⟨wk.go H0 i st hlt,_,fun σ' H' hw=>⟨ts.length-(i+1),by omega,hw⟩,fun x H' y=>?_⟩
  have hw:ts[i]?=some ts[i]:=by simp [hlt]
  rw [eS hw] at fi
  obtain ⟨ηb,hb,fb⟩:=bb (show Fin K ⟨sf,pv⟩ Zi H0 (tot Fsi) D (Fl.of ηi (ofO (aK tg ts[i] ηi)) fun η1=>Fl.turn (evSs C body η1) (gD tg (evSs C body) (ts.drop (i+1)))) from fi)
  refine kC hn nd N hio hjs (fun a h=>si.zm a (zz a h)) st yl Ai hw (bH hb) y fun σ2 H2 Fs2 A2 t2=>?_
  refine ⟨pv,Zi,Fs2,ηb,N,A2,gN (fb.step t2) fun η' σ' Z' H' Fs' _ f' A' s'=>⟨rfl,hlt,Z',Fs',η',A',(si.trans t2).trans s',f'.step s'⟩⟩
 ·left
  have hi':i=ts.length:=by omega
  subst hi'
  rw [a2L] at fi
  exact ⟨wk.stop H0 _ st (a0j _),fi σi Zi H0 Fsi Ai (Step.refl _ _ _)⟩
theorem uH {x:X}{c:E}{body:List S}(D:bz)(σ:L2.St)(H:Hp)(h:wS K sf io C (.whl x c body) D σ H):ke (wT K sf C c) (wSs K sf io C body) D σ H:=by
 obtain ⟨pv,Z,Fs,η,N,A,f⟩:=h
 have f':Fin K ⟨sf,pv⟩ Z H (tot Fs) D (fP (evT C x c) (evSs C body) j9 η):=f
 refine ⟨fun m σ' H'=>∃ Z' Fs' η',At K ⟨sf,pv⟩ σ' Z' H' Fs' η' no/\Fin K ⟨sf,pv⟩ Z' H' (tot Fs') D (fP (evT C x c) (evSs C body) m η'),⟨j9,Z,Fs,η,A,f'⟩,?_⟩
 rintro m σ1 H1 ⟨Z1,Fs1,η1,A1,f1⟩
 cases m with
 | zero=>exact f1.elim
 | succ m =>
  obtain ⟨⟨b,η2⟩,h1,h2⟩:=bb (show Fin K ⟨sf,pv⟩ Z1 H1 (tot Fs1) D (Fl.of η1 (evT C x c η1) (kIf (l4 (evSs C body) (fP (evT C x c) (evSs C body) m)) .nx)) from f1)
  refine vQ (sl:=⟨sf,pv⟩) A1 h1 fun Z2 H2 Fs2 B s=>?_
  cases b with
  | true =>
   rw [if_pos rfl]
   refine ⟨_,fun σ' H' hw=>⟨m,a05 m,hw⟩,pv,Z2,Fs2,η2,N,B,gN (Fin.step s (show Fin K ⟨sf,pv⟩ Z1 H1 (tot Fs1) D (Fl.turn (evSs C body η2) (fP (evT C x c) (evSs C body) m)) from h2)) fun η' σ' Z' H' Fs' _ f' A' s'=>⟨Z',Fs',η',A',f'.step s'⟩⟩
  | false =>
   rw [if_neg a0l]
   exact (show Fin K ⟨sf,pv⟩ Z1 H1 (tot Fs1) D (.nx η2) from h2) σ1 Z2 H2 Fs2 B s
end
end MR

namespace MR
open PySem PySem.Spec PyProof.Rows L2 L3
section
variable {X:Cx}{sf sg:Nat->Option Nat}{C:M.Call}{pos p2:Pos}{ea eb ec:Expr}{a b c:M.E}{h:Bool}{n:Nat}
theorem ah {e:Expr}{t t':TE}(h:PE X e t)(hw:∀ σ H Q,t' σ H Q->t σ H Q):PE X e t':=fun pins s σ H Q I q=>h pins s σ H Q I (hw σ H Q q)
theorem lN {e:Expr}{t t':TT}(h:PT X e t)(hw:∀ σ H Q,t' σ H Q->t σ H Q):PT X e t':=fun pins s σ H Q I q=>h pins s σ H Q I (hw σ H Q q)
theorem vO {e:Expr}{t t':TT}(h:PW X e t)(hw:∀ σ H Q,t' σ H Q->t σ H Q):PW X e t':=fun whole pins s σ H Q I q=>h whole pins s σ H Q I (hw σ H Q q)
theorem i4 {es:List Expr}{t t':TA}(h:PA X es t)(hw:∀ σ H Q,t' σ H Q->t σ H Q):PA X es t':=fun pos pins s σ H Q I q=>h pos pins s σ H Q I (hw σ H Q q)
theorem b6 {s:Stmt}{t t':TS}(h:PS X s t)(hw:∀ D σ H,t' D σ H->t D σ H):PS X s t':=fun pins s σ H D I q=>h pins s σ H D I (hw D σ H q)
theorem iE {s:List Stmt}{t t':TS}(h:PSs X s t)(hw:∀ D σ H,t' D σ H->t D σ H):PSs X s t':=fun pins s σ H D I q=>h pins s σ H D I (hw D σ H q)
theorem k9 {tg e:Expr}{t t':TI}(h:PI X tg e t)(hw:∀ σ H R,t' σ H R->t σ H R):PI X tg e t':=fun pins s σ H R I q=>h pins s σ H R I (hw σ H R q)
theorem vU {tg e:Expr}{t t':TI}(h:PI X tg e t)(h':PI X tg e t'):PI X tg e (fun σ H R=>t σ H R\/t' σ H R):=fun pins s σ H R I q=>q.elim (h pins s σ H R I) (h' pins s σ H R I)
noncomputable abbrev SE (X:Cx)(sf:Nat->Option Nat)(C:M.Call)(me:Expr)(e:M.E):Prop:=PE X me (wE X.K sf C e)
noncomputable abbrev SB (X:Cx)(sf:Nat->Option Nat)(C:M.Call)(me:Expr)(e:M.E):Prop:=PT X me (wT X.K sf C e)
noncomputable abbrev SL (X:Cx)(sf:Nat->Option Nat)(C:M.Call)(me:List Expr)(es:List M.E):Prop:=PA X me (wL X.K sf C es)
noncomputable abbrev SA (X:Cx)(sf:Nat->Option Nat)(C:M.Call)(me:List Expr)(es:List M.E):Prop:=PA X me (wA X.K sf C es)
noncomputable abbrev SS (X:Cx)(sf:Nat->Option Nat)(io:List Nat)(C:M.Call)(ms:Stmt)(s:M.S):Prop:=PS X ms (wS X.K sf io C s)
noncomputable abbrev SSs (X:Cx)(sf:Nat->Option Nat)(io:List Nat)(C:M.Call)(ms:List Stmt)(s:List M.S):Prop:=PSs X ms (wSs X.K sf io C s)
theorem sV (j:Nat){i:Nat}{x:Str}(hs:sf i=some j:=by rfl)(hN:X.N[j]?=some x:=by rfl)(hv:Vis X.env.scope x:=by first | exact a1z rfl | exact a1b (a1z rfl) | exact a1b (a1b rfl))(hd:(x==("__debug__":Str))=false:=by decide)
  (hcd:(x==("__classdict__":Str))=false:=by decide):SE X sf C (.Name x pos) (.var i):=ah (cU hN hv hd hcd) (uw hs)
theorem sM (j:Nat){i:Nat}{x:Str}(hs:sf i=some j:=by rfl)(hN:X.N[j]?=some x:=by rfl)(hv:Vis X.env.scope x:=by first | exact a1z rfl | exact a1b (a1z rfl) | exact a1b (a1b rfl))(hd:(x==("__debug__":Str))=false:=by decide)
  (hcd:(x==("__classdict__":Str))=false:=by decide):SE X sf C (.Name x pos) (.mv i):=ah (cU hN hv hd hcd) (uY (fun _=>rfl) hs)
theorem sI {i:Int}{k:Nat}:SE X sf C (.Constant (.int i) k pos) (.cst (.int i)):=ah k6 (dR fun {_ _}=>rfl)
theorem sO {i:Bool}{k:Nat}:SE X sf C (.Constant (.bool i) k pos) (.cst (.bl i)):=ah xK (dR fun {_ _}=>rfl)
theorem sN {k:Nat}:SE X sf C (.Constant .none k pos) (.cst .non):=ah uO (dR fun {_ _}=>rfl)
theorem jf (s:String)(hl:s.length<=1000):M.sOk (Str.ofString s)=true:=by
 unfold M.sOk
 rw [Str.ofString_eq_toList,a0m]
 refine ⟨?_,decide_eq_true ?_⟩
 ·rw [a1u]
  intro x hx
  rw [List.mem_toArray,a0Z] at hx
  obtain ⟨c,_,rfl⟩:=hx
  refine decide_eq_true ?_
  have:=c.valid
  have h2:c.toNat < 0x110000:=by
   have h3:=c.valid
   unfold UInt32.isValidChar Nat.isValidChar at h3
   show c.val.toNat < _
   omega
  exact h2
 ·rw [a0h,a0d,a1l]
  exact a0s hl (by decide)
theorem sS {s:String}{k:Nat}(hl:s.length<=1000:=by decide):SE X sf C (.Constant (.str (Str.ofString s)) k pos) (.cst (.str (Str.ofString s))):=ah sv (dR fun {_ _}=>⟨rfl,jf s hl⟩)
theorem sl0:SL X sf C [] []:=i4 b9 tv
theorem slc {es:List Expr}{bs:List M.E}(ha:SE X sf C ea a)(hb:SL X sf C es bs)(hs:starEach (ea::es) X.env=(false,eval ea X.env)::starEach es X.env:=by rfl):SL X sf C (ea::es) (a::bs):=i4 (aZ ha hb hs) qL
theorem sT {es:List Expr}{bs:List M.E}{x1:Nat}(h:SL X sf C es bs)(hn:bs.length<=M.LIM:=by decide):SE X sf C (.Tuple es x1 pos) (.tup bs):=ah (mN h) (tZ hn)
theorem sLs {es:List Expr}{bs:List M.E}(hh:SL X sf C es bs)(hn:bs.length<=M.LIM:=by decide):SE X sf C (.List es pos) (.lst h bs):=ah (sX hh) (sr hn)
theorem cj (ha:SE X sf C ea a)(hb:SE X sf C eb b):SE X sf C (.BinOp ea .Add eb pos) (.op .add h [a,b]) :=
 ah (eG (op_add.or (op_add_str.or (op_cat.or qB))) ha hb) (aL (qo (rm X.K) fun {Z H G Q a b xs ys ts} h1 h2 h3 h4 ow r k=>by
  obtain ⟨G',g1,g2⟩:=r
  refine ⟨a,b,xs,ys,rfl,rfl,h1,h2,h3,LIM_le h4,fun v H' same hv=>fX (m:=.s) ow g1 ?_ g2 k same hv⟩
  rw [a0b]; exact h4))
theorem fZ (ha:SE X sf C ea a)(hb:SE X sf C eb b):SE X sf C (.BinOp ea .Sub eb pos) (.op .sub h [a,b]):=ah (eG vc ha hb) (aL oD)
theorem tE (ha:SE X sf C ea a)(hb:SE X sf C eb b):SE X sf C (.BinOp ea .Mult eb pos) (.op .mul h [a,b]):=ah (eG (op_mul.or va) ha hb) (aL pN)
theorem dI (ha:SE X sf C ea a)(hb:SE X sf C eb b):SE X sf C (.BinOp ea .FloorDiv eb pos) (.op .fdiv h [a,b]):=ah (eG qi ha hb) (aL k7)
theorem ed (ha:SE X sf C ea a)(hb:SE X sf C eb b):SE X sf C (.BinOp ea .Mod eb pos) (.op .mod h [a,b]):=ah (eG sF ha hb) (aL oN)
theorem ig (ha:SE X sf C ea a)(hb:SE X sf C eb b):SE X sf C (.BinOp ea .Pow eb pos) (.op .pow h [a,b]):=ah (eG uC ha hb) (aL oX)
theorem vq (ha:SE X sf C ea a):SE X sf C (.UnaryOp .USub ea pos) (.op .neg h [a]):=ah (xQ sG ha) (rN qM)
theorem sLt (ha:SE X sf C ea a)(hb:SE X sf C eb b):SE X sf C (.Compare ea [.Lt] [eb] pos) (.op .lt h [a,b]):=ah (fW rq ha hb (bF _)) (aL k8)
theorem sIx (ha:SE X sf C ea a)(hb:SE X sf C eb b)(hs:fE eb:=by intro _ _; rfl):SE X sf C (.Subscript ea eb pos) (.op .ix h [a,b]):=ah (rD (ix_any.or sJ) ha hb hs) (aL su)
mutual
noncomputable def th:M.T->Th
 | .non=>.non | .bl b=>.bl b | .int i=>.int i | .str x=>.str x | .tup ts=>.tup (ths ts) | .lst ts=>.lst (ths ts) | .dct _ _=>.non | .ins _ _ _=>.non | .scr _=>.non | .gone=>.non
noncomputable def ths:List M.T->List Th
 | []=>[]
 | t::ts=>th t::ths ts
end
mutual
theorem iP {K:a0a}{Z:Fp}{H:Hp}:∀ {t:M.T} {m:M.Md} {v:V} {G:Fp} {n:Nat},M.dp t<=n->n<=64->Rep K Z H m t v G->Has K H (th t) v/\(toD (th t)).canLay0=true/\(toD (th t)).depth<=n
 | .non,_,_,_,_,_,_,r=>⟨r,rfl,a03 _⟩
 | .bl _,_,_,_,_,_,_,r=>⟨r,rfl,a03 _⟩
 | .int _,_,_,_,_,_,_,r=>⟨r,rfl,a03 _⟩
 | .str x,_,_,_,_,_,_,r=>⟨r.1,by have h:=r.2; unfold M.sOk at h; rw [a0m] at h; exact h.1,a03 _⟩
 | .tup ts,m,v,G,n,hd,hn,⟨a,xs,e,q,l,r⟩=>by
  have hd':M.dps ts+1<=n:=hd
  match n,hd' with
  | n+1,hd' =>
   obtain ⟨h1,h2,h3⟩:=dS (n:=n) (by omega) (by omega) r
   exact ⟨⟨a,xs,e,q,h1⟩,h2,a2M h3⟩
 | .lst ts,m,v,G,n,hd,hn,⟨a,xs,e,l,q,r⟩=>by
  have hd':M.dps ts+1<=n:=hd
  match n,hd' with
  | n+1,hd' =>
   obtain ⟨h1,h2,h3⟩:=dS (n:=n) (by omega) (by omega) r
   exact ⟨⟨a,xs,e,by cases m<;>exact q.2,h1⟩,h2,a2M h3⟩
 | .dct _ _,_,_,_,_,hd,hn,_=>by have:1000<=64:=a0s hd hn; omega
 | .ins _ _ _,_,_,_,_,hd,hn,_=>by have:1000<=64:=a0s hd hn; omega
 | .gone,_,_,_,_,hd,hn,_=>by have:1000<=64:=a0s hd hn; omega
 | .scr _,_,_,_,_,hd,hn,_=>by have:1000<=64:=a0s hd hn; omega
theorem dS {K:a0a}{Z:Fp}{H:Hp}:∀ {ts:List M.T} {m:M.Md} {xs:List V} {G:Fp} {n:Nat},M.dps ts<=n->n<=64->RepL K Z H m ts xs G->HasL K H (ths ts) xs/\PyData.canLayAll0 (c5 (ths ts))=true/\PyData.depthAll (c5 (ths ts))<=n
 | [],_,_,_,_,_,_,r=>⟨r,rfl,a03 _⟩
 | t::ts,m,xs,G,n,hd,hn,⟨x,r,G1,G2,e,_,_,_,p,q⟩=>by
  have hd':max (M.dp t) (M.dps ts)<=n:=hd
  obtain ⟨h1,h2,h3⟩:=iP (n:=n) (by omega) hn p
  obtain ⟨k1,k2,k3⟩:=dS (n:=n) (by omega) hn q
  refine ⟨⟨x,r,e,h1,k1⟩,?_,?_⟩
  ·show ((toD (th t)).canLay0&&PyData.canLayAll0 (c5 (ths ts)))=true
   rw [h2,k2]; rfl
  ·show max (toD (th t)).depth (PyData.depthAll (c5 (ths ts)))<=n
   omega
end
mutual
theorem hE:∀ (t u:M.T),M.dp t<=64->M.dp u<=64->PyData.eqv (toD (th t)) (toD (th u))=M.eqT t u
 | .dct _ _,_,h,_=>by have:1000<=64:=h; omega
 | .ins _ _ _,_,h,_=>by have:1000<=64:=h; omega
 | .gone,_,h,_=>by have:1000<=64:=h; omega
 | .scr _,_,h,_=>by have:1000<=64:=h; omega
 | .non,u,_,h=>by cases u<;>first | rfl | (have:1000<=64:=h; omega)
 | .bl a,u,_,h=>by cases u<;>first | rfl | (cases a<;>rfl) | (have:1000<=64:=h; omega)
 | .int i,u,_,h=>by
  cases u with
  | bl b=>cases b<;>rfl
  | _=>first | rfl | (have:1000<=64:=h; omega)
 | .str x,u,_,h=>by cases u<;>first | rfl | (have:1000<=64:=h; omega)
 | .tup ts,u,h1,h=>by
  cases u with
  | tup us=>exact fQ ts us (by have:M.dps ts+1<=64:=h1; omega) (by have:M.dps us+1<=64:=h; omega)
  | _=>first | rfl | (have:1000<=64:=h; omega)
 | .lst ts,u,h1,h=>by
  cases u with
  | lst us=>exact fQ ts us (by have:M.dps ts+1<=64:=h1; omega) (by have:M.dps us+1<=64:=h; omega)
  | _=>first | rfl | (have:1000<=64:=h; omega)
theorem fQ:∀ (ts us:List M.T),M.dps ts<=64->M.dps us<=64->PyData.eqvAll (c5 (ths ts)) (c5 (ths us))=M.eqTs ts us
 | [],[],_,_=>rfl
 | [],_::_,_,_=>rfl
 | _::_,[],_,_=>rfl
 | t::ts,u::us,h1,h2=>by
  have h1':max (M.dp t) (M.dps ts)<=64:=h1
  have h2':max (M.dp u) (M.dps us)<=64:=h2
  show (PyData.eqv (toD (th t)) (toD (th u))&&PyData.eqvAll (c5 (ths ts)) (c5 (ths us)))=(M.eqT t u&&M.eqTs ts us)
  rw [hE t u (by omega) (by omega),fQ ts us (by omega) (by omega)]
end
theorem fO {K:a0a}{Z:Fp}{H:Hp}{t:M.T}{m:M.Md}{v:V}{G:Fp}(hd:M.dp t<=64)(r:Rep K Z H m t v G):Has K H (th t) v/\fz (th t):=by
 obtain ⟨h1,h2,h3⟩:=iP hd (a0j _) r
 refine ⟨h1,?_⟩
 show ((toD (th t)).canLay0&&decide ((toD (th t)).depth<=64))=true
 rw [h2,decide_eq_true h3]; rfl
theorem kM {K:a0a}:Loc K 2 .eq h fun xs H Q=>∀ x y,xs=[x,y]->∃ t t',Has K H t x/\Has K H t' y/\fz t/\fz t'/\Q (.bl (PyData.eqv (toD t) (toD t'))) H:=by
 intro ws w xs Z H G Q hn e r ow za k x y hx
 subst hx
 obtain ⟨⟨m,a⟩,⟨n,b⟩,rfl⟩:=cX r.length.symm
 obtain ⟨G1,G2,w1,w2,d,r1,r2⟩:=bK r
 have e':(if decide (M.dp a<=64)&&decide (M.dp b<=64) then some ((.d,.bl (M.eqT a b)):M.W) else none)=some w:=e
 split at e'
 ·rename_i hc
  rw [a0m,decide_eq_true_eq,decide_eq_true_eq] at hc
  cases e'
  obtain ⟨h1,o1⟩:=fO hc.1 r1
  obtain ⟨h2,o2⟩:=fO hc.2 r2
  refine ⟨th a,th b,h1,h2,o1,o2,?_⟩
  rw [hE a b hc.1 hc.2]
  exact bG k
 ·cases e'
theorem tN {K:a0a}:Loc K 2 .ne h fun xs H Q=>∀ x y,xs=[x,y]->∃ t t',Has K H t x/\Has K H t' y/\fz t/\fz t'/\Q (.bl (!PyData.eqv (toD t) (toD t'))) H:=by
 intro ws w xs Z H G Q hn e r ow za k x y hx
 subst hx
 obtain ⟨⟨m,a⟩,⟨n,b⟩,rfl⟩:=cX r.length.symm
 obtain ⟨G1,G2,w1,w2,d,r1,r2⟩:=bK r
 have e':(if decide (M.dp a<=64)&&decide (M.dp b<=64) then some ((.d,.bl (!M.eqT a b)):M.W) else none)=some w:=e
 split at e'
 ·rename_i hc
  rw [a0m,decide_eq_true_eq,decide_eq_true_eq] at hc
  cases e'
  obtain ⟨h1,o1⟩:=fO hc.1 r1
  obtain ⟨h2,o2⟩:=fO hc.2 r2
  refine ⟨th a,th b,h1,h2,o1,o2,?_⟩
  rw [hE a b hc.1 hc.2]
  exact bG k
 ·cases e'
theorem sEq (hr:Room n X.A)(ha:SE X sf C ea a)(hb:SE X sf C eb b):SE X sf C (.Compare ea [.Eq] [eb] pos) (.op .eq h [a,b]):=ah (fW (iY hr.units) ha hb (bF _)) (aL kM)
theorem qJ {K:a0a}{Z:Fp}{H:Hp}{t:M.T}{m:M.Md}{x:V}{G:Fp}(hg:t.isG=false)(r:Rep K Z H m t x G):decide (x=V.non)=t.isN:=by
 cases t with
 | non=>rw [show x=_ from r]; rfl
 | bl _=>rw [show x=_ from r]; rfl
 | int _=>rw [show x=_ from r]; rfl
 | str _=>rw [show x=_ from r.1]; rfl
 | tup _=>obtain ⟨p,_,e,_⟩:=r; rw [show x=_ from e]; rfl
 | lst _=>obtain ⟨p,_,e,_⟩:=r; rw [show x=_ from e]; rfl
 | scr _=>obtain ⟨p,e,_⟩:=r; rw [show x=_ from e]; rfl
 | dct _ _=>exact r.elim
 | ins _ _ _=>exact r.elim
 | gone=>cases hg
theorem ifN {α:Type}{b:Bool}{x:Option α}{y:α}(h:(if b=true then none else x)=some y):b=false/\x=some y:=by cases b<;>first | exact ⟨rfl,h⟩ | cases h
theorem l0 {K:a0a}:Loc K 2 .is h fun xs H Q=>∀ x y,xs=[x,y]->y=.non/\Q (.bl (decide (x=.non))) H:=by
 intro ws w xs Z H G Q hn e r ow za k x y hx
 subst hx
 obtain ⟨⟨m,a⟩,⟨n,b⟩,rfl⟩:=cX r.length.symm
 obtain ⟨G1,G2,w1,w2,d,r1,r2⟩:=bK r
 cases b with
 | non=>obtain ⟨hg,e⟩:=ifN (show (if a.isG=true then none else some _)=_ from e); cases e; rw [qJ hg r1]; exact ⟨r2,bG k⟩
 | _=>cases a<;>cases e
theorem sIs (ha:SE X sf C ea a)(hb:SE X sf C eb b):SE X sf C (.Compare ea [.Is] [eb] pos) (.op .is h [a,b]):=ah (fW nJ ha hb (bF _)) (aL l0)
theorem iN {K:a0a}{Z:Fp}{H:Hp}{G:Fp}{m:M.Md}{ts:List M.T}{xs:List V}(lo hi:Option Int)(r:RepL K Z H m ts xs G):RepL K Z H m (M.cut ts lo hi) (cG xs lo hi) G:=by
 have e:=r.length
 have hs:∀ n d o,HT.sIx n d o=M.sIx n d o:=fun n d o=>by cases o<;>rfl
 have hc:cG xs lo hi=(xs.drop (M.sIx ts.length 0 lo)).take (M.sIx ts.length ts.length hi-M.sIx ts.length 0 lo):=by
  unfold cG
  rw [hs,hs,e]
 rw [hc]
 exact (r.drop _).take _
theorem mQ (ns:List Int)(lo hi:Option Int):cG (ns.map V.int) lo hi=(M.cut ns lo hi).map V.int:=by
 have hs:∀ n d o,HT.sIx n d o=M.sIx n d o:=fun n d o=>by cases o<;>rfl
 unfold cG M.cut
 rw [hs,hs,a0d,a2t,List.map_drop]
theorem tI {α:Type}(xs:List α)(lo hi:Option Int):(M.cut xs lo hi).length<=xs.length:=by
 unfold M.cut
 rw [a1a,a16]; omega
theorem uf {K:a0a}{Z:Fp}{H:Hp}{G G1:Fp}{Q:VK}{m:M.Md}{a:M.T}{x:V}{w:M.W}{lo hi:Option Int}(hg:∀ b,G1 b->G b)(ow:Own Z H G)(za:∀ a,Z a->H a≠none)(r:Rep K Z H m a x G1)
  (e:(match a with | .lst ts=>M.newL h m.kid (M.cut ts lo hi) | .tup ts=>some ((.s,.tup (M.cut ts lo hi)):M.W) | .scr ns=>some (.d,.lst ((M.cut ns lo hi).map M.T.int)) | _=>none)=some w) (k:Out K Z H G w Q):vK K x lo hi H Q\/u0 K x lo hi H Q:=by
 cases a with
 | lst ts =>
  obtain ⟨p,xs,rfl,hs,hl,q⟩:=aX r
  refine .inl ⟨p,xs,rfl,.inl (.inl hs),fun l hl'=>?_⟩
  exact bO ow za (a0s (bu xs lo hi) hl) ⟨G1,hg,(iN lo hi q).zmono fun _ z=>.inl z⟩ e k hl'
 | tup ts =>
  obtain ⟨p,xs,rfl,hs,hl,q⟩:=cg r
  cases e
  refine .inr ⟨p,xs,rfl,hs,fun v H' same hv=>?_⟩
  exact fX (m:=.s) (G':=no) ow (fun _ z=>z.elim) (a0s (bu xs lo hi) hl) ((RepL.sh (iN lo hi q)).zmono fun b hb=>hb.imp id fun z=>⟨hg b z,fun q=>q⟩) k same hv
 | scr ns =>
  obtain ⟨p,rfl,hL,hs⟩:=r
  cases e
  refine .inl ⟨p,_,rfl,hs.sq,fun l hl'=>?_⟩
  rw [mQ]
  exact bg (m:=.d) (G':=no) ow za (fun _ z=>z.elim) (by rw [a0d]; exact a0s (tI ns lo hi) hL) (iB _) (by simp) k hl'
 | _=>cases e
theorem rW {p3:Pos}(ha:SE X sf C ea a)(hb:SE X sf C eb b):SE X sf C (.Subscript ea (.Slice none (some eb) none p3) pos) (.op .sl2 h [a,b]) :=
 ah (lM (sl_list.or oi) ha pe (nY hb)) (fun σ H Q hw=>aL (r:=fun x y H Q=>∃ i,y=.int i/\(vK X.K x none (some i) H Q\/u0 X.K x none (some i) H Q)) (by
  intro ws w xs Z H G Q hn e r ow za k x y hx
  subst hx
  obtain ⟨⟨m,a⟩,⟨n,b⟩,rfl⟩:=cX r.length.symm
  obtain ⟨G1,G2,w1,w2,d,r1,r2⟩:=bK r
  cases b with
  | int i=>exact ⟨i,r2,uf (h:=h) (lo:=none) (hi:=some i) w1 ow za r1 (by cases a<;>exact e) k⟩
  | _=>cases a<;>cases e) σ H Q hw)
theorem ly {K:a0a}:Loc K 1 .len h fun xs H Q=>∃ x n,xs=[x]/\ye K x H n/\Q (.int n) H:=by
 intro ws w xs Z H G Q hn e r ow za k
 obtain ⟨x,n,hx,hm,q⟩:=nS (h:=h) ws w xs Z H G Q hn e r ow za k
 exact ⟨x,n,hx,by cases x<;>exact hm,q⟩
section
variable {p:Pos}{x1:Str}
theorem eu (hm:X.mg "len"=none)(hg:Gl X "len":=by rfl)(ha:SE X sf C ea a)(hs:starEach [ea] X.env=(false,eval ea X.env)::starEach [] X.env:=by rfl)(hpl:(backTo pos (starEach [] X.env)).any (·.1)=false:=by rfl):SE X sf C (.Call (.Name "len" p) [ea] [] pos) (.op .len h [a]) :=
 ah (bC kR hg hm PySem.boot_len (slc ha sl0 hs) (by decide) (by decide) hs hpl) (cW ly rfl)
theorem yG (hc:X.calm=true:=by rfl)(hm:X.mg "all"=none)(hg:Gl X "all":=by rfl)(ha:SE X sf C ea a)(hs:starEach [ea] X.env=(false,eval ea X.env)::starEach [] X.env:=by rfl)(hpl:(backTo pos (starEach [] X.env)).any (·.1)=false:=by rfl):SE X sf C (.Call (.Name "all" p) [ea] [] pos) (.op .all h [a]) :=
 ah (bC (jR hc) hg hm (by rfl) (slc ha sl0 hs) (by decide) (by decide) hs hpl) (cW oo rfl)
theorem xV (hm:X.mg "list"=none)(hg:Gl X "list":=by rfl)(ha:SE X sf C ea a)(hs:starEach [ea] X.env=(false,eval ea X.env)::starEach [] X.env:=by rfl)(hpl:(backTo pos (starEach [] X.env)).any (·.1)=false:=by rfl):SE X sf C (.Call (.Name "list" p) [ea] [] pos) (.op .list h [a]) :=
 ah (bW fH hg hm a0R (slc ha sl0 hs) (by decide) (by decide) hs hpl) (cW kl rfl)
theorem yz (hc:X.calm=true:=by rfl)(hm:X.mg "max"=none)(hg:Gl X "max":=by rfl)(ha:SE X sf C ea a)(hb:SE X sf C eb b)(hs:starEach [ea,eb] X.env=(false,eval ea X.env)::starEach [eb] X.env:=by rfl)(hs2:starEach [eb] X.env=(false,eval eb X.env)::starEach [] X.env:=by rfl)(hpl:(backTo pos (starEach [eb] X.env)).any (·.1)=false:=by rfl):SE X sf C (.Call (.Name "max" p) [ea,eb] [] pos) (.op .max h [a,b]) :=
 ah (bC (jh hc) hg hm (by rfl) (slc ha (slc hb sl0 hs2) hs) (by decide) (by decide) hs hpl) (cW oO rfl)
theorem yD (hc:X.calm=true:=by rfl)(hm:X.mg "min"=none)(hg:Gl X "min":=by rfl)(ha:SE X sf C ea a)(hb:SE X sf C eb b)(hs:starEach [ea,eb] X.env=(false,eval ea X.env)::starEach [eb] X.env:=by rfl)(hs2:starEach [eb] X.env=(false,eval eb X.env)::starEach [] X.env:=by rfl)(hpl:(backTo pos (starEach [eb] X.env)).any (·.1)=false:=by rfl):SE X sf C (.Call (.Name "min" p) [ea,eb] [] pos) (.op .min h [a,b]) :=
 ah (bC (jH hc) hg hm (by rfl) (slc ha (slc hb sl0 hs2) hs) (by decide) (by decide) hs hpl) (cW oz rfl)
end
theorem iM {K:a0a}{x:V}{H:Hp}{k:Bool}(h:TrV K x H k):nT K x H k:=by
 cases x with
 | ref p=>exact h.imp id .inl
 | byt _=>exact h.elim
 | _=>exact h
theorem tB (ha:SE X sf C ea a)(he:∀ whole,isTrue ea X.env whole=(do let v <- whole; standAt ea.pos; holding [v] (truthy v)):=by intro _; rfl):SB X sf C ea a :=
 lN (nD ha he) fun σ H Q h=>by
  obtain ⟨pv,Z,Fs,η,w,η',b,A,ev,ht,k⟩:=h
  exact ⟨pv,Z,Fs,η,w,η',A,ev,fun v Z' H' Fs' G B r s=>⟨b,iM (eW ht r),k Z' H' Fs' B.bare (s.mono (fun _ z=>z) fun _ z=>.inl z)⟩⟩
theorem dy (ha:SB X sf C ea a):SB X sf C (.UnaryOp .Not ea pos) (.not a):=lN (uM ha) sW
theorem v9 {σ:L2.St}{H:Hp}{Q:Bool->Hp->Prop}(hb:∀ η w η',M.evE C a η=.ok (w,η')->∃ b,w.2=.bl b)(h:wT X.K sf C a σ H Q):rC (wE X.K sf C a) σ H Q:=by
 obtain ⟨pv,Z,Fs,η,w,η',b,A,ev,ht,k⟩:=h
 refine ⟨pv,Z,Fs,η,w,η',A,ev,fun v Z' H' Fs' G B r s=>⟨b,?_,k Z' H' Fs' B.bare (s.mono (fun _ z=>z) fun _ z=>.inl z)⟩⟩
 obtain ⟨b',hb'⟩:=hb _ _ _ ev
 rw [hb'] at ht r
 cases ht
 exact r
theorem wJ {o:M.Op}(ho:∀ u v w,M.oSem o h [u,v]=some w->∃ b,w.2=.bl b):∀ η w η',M.evE C (.op o h [a,b]) η=.ok (w,η')->∃ b,w.2=.bl b:=fun η w η' e=>by
 obtain ⟨ws,h1,h2⟩:=bM e
 obtain ⟨u,η1,us,_,e2,rfl⟩:=av h1
 obtain ⟨v,η2,us,_,e4,rfl⟩:=av e2
 cases e4
 exact ho u v w h2
theorem bX {op:CmpOp}{r:R2}{o:M.Op}(ho:OpR X (compareOp op) r)(ha:SE X sf C ea a)(hb:SE X sf C eb b)(hm:behindInMarks op eb=false)(hl:∀ σ H Q,wE X.K sf C (.op o h [a,b]) σ H Q->tOp r (wE X.K sf C a) (wE X.K sf C b) σ H Q)
  (hbl:∀ u v w,M.oSem o h [u,v]=some w->∃ b,w.2=.bl b):SB X sf C (.Compare ea [op] [eb] pos) (.op o h [a,b]) :=
 lN (pf ho ha hb hm) fun σ H Q hw=>hl σ H _ (v9 (wJ hbl) hw)
theorem yh {u v w:M.W}(e:M.oSem .eq h [u,v]=some w):∃ b,w.2=.bl b:=by
 obtain ⟨m,a⟩:=u; obtain ⟨n,b⟩:=v
 have e':(if decide (M.dp a<=64)&&decide (M.dp b<=64) then some ((.d,.bl (M.eqT a b)):M.W) else none)=some w:=e
 split at e'
 ·cases e'; exact ⟨_,rfl⟩
 ·cases e'
theorem wV {u v w:M.W}(e:M.oSem .ne h [u,v]=some w):∃ b,w.2=.bl b:=by
 obtain ⟨m,a⟩:=u; obtain ⟨n,b⟩:=v
 have e':(if decide (M.dp a<=64)&&decide (M.dp b<=64) then some ((.d,.bl (!M.eqT a b)):M.W) else none)=some w:=e
 split at e'
 ·cases e'; exact ⟨_,rfl⟩
 ·cases e'
theorem xR {u v w:M.W}(e:M.oSem .is h [u,v]=some w):∃ b,w.2=.bl b:=by
 obtain ⟨m,a⟩:=u; obtain ⟨n,b⟩:=v
 cases b with
 | non=>obtain ⟨_,e⟩:=ifN (show (if a.isG=true then none else some _)=_ from e); cases e; exact ⟨_,rfl⟩
 | _=>cases a<;>cases e
theorem xO (ha:SE X sf C ea a)(hb:SE X sf C eb b):SB X sf C (.Compare ea [.Lt] [eb] pos) (.op .lt h [a,b]):=bX rq ha hb (bF _) (aL k8) fun u v w e=>by obtain ⟨_,_,_,_,_,_,rfl⟩:=mU e; exact ⟨_,rfl⟩
theorem yU (ha:SE X sf C ea a)(hb:SE X sf C eb b):SB X sf C (.Compare ea [.Gt] [eb] pos) (.op .gt h [a,b]):=bX wm ha hb (bF _) (aL rS) fun u v w e=>by obtain ⟨_,_,_,_,_,_,rfl⟩:=mB e; exact ⟨_,rfl⟩
theorem zg (ha:SE X sf C ea a)(hb:SE X sf C eb b):SB X sf C (.Compare ea [.GtE] [eb] pos) (.op .ge h [a,b]):=bX vW ha hb (bF _) (aL r6) fun u v w e=>by obtain ⟨_,_,_,_,_,_,rfl⟩:=nh e; exact ⟨_,rfl⟩
theorem cR (hr:Room n X.A)(ha:SE X sf C ea a)(hb:SE X sf C eb b):SB X sf C (.Compare ea [.Eq] [eb] pos) (.op .eq h [a,b]):=bX (iY hr.units) ha hb (bF _) (aL kM) fun u v w e=>yh e
theorem lr (hr:Room n X.A)(ha:SE X sf C ea a)(hb:SE X sf C eb b):SB X sf C (.Compare ea [.NotEq] [eb] pos) (.op .ne h [a,b]):=bX (qk hr.units) ha hb (bF _) (aL tN) fun u v w e=>wV e
theorem w9 (ha:SE X sf C ea a)(hb:SE X sf C eb b):SB X sf C (.Compare ea [.Is] [eb] pos) (.op .is h [a,b]):=bX nJ ha hb (bF _) (aL l0) fun u v w e=>xR e
noncomputable abbrev SW (X:Cx)(sf:Nat->Option Nat)(C:M.Call)(me:Expr)(e:M.E):Prop:=PW X me (wT X.K sf C e)
theorem wO1 (ha:SB X sf C ea a):SW X sf C (.BoolOp .Or [ea] pos) a:=uV ha
theorem wOr {rest:List Expr}(ha:SB X sf C ea a)(hb:SW X sf C (.BoolOp .Or (eb::rest) pos) b):SW X sf C (.BoolOp .Or (ea::eb::rest) pos) (.or a b):=vO (wU ha hb) wg
theorem tW (h:SW X sf C ea a):SB X sf C ea a:=h.pt
theorem sIf (hc:SB X sf C ec c)(ha:SE X sf C ea a)(hb:SE X sf C eb b):SE X sf C (.IfExp ec ea eb pos) (.ifx c a b):=ah (mn hc ha hb) u6
theorem sj {tg:Expr}(ha:SE X sf C ea a):PI X tg ea (wI X.K sf C 1 .seq [a]):=k9 (vU (pV ha) (t9 ha)) rL
theorem wz {tg:Expr}{p:Pos}(hm:X.mg "range"=none)(hg:Gl X "range":=by rfl)(ha:SE X sf C ea a)(hs:starEach [ea] X.env=[(false,eval ea X.env)]:=by rfl):PI X tg (.Call (.Name "range" p) [ea] [] pos) (wI X.K sf C 1 .rng [a]):=k9 (jT hg hm (slc ha sl0 hs) hs) n9
theorem wN {es:List Expr}{kt:Nat}{pt p:Pos}(hc:X.calm=true:=by rfl)(hm:X.mg "zip"=none)(hg:Gl X "zip":=by rfl)(ha:SE X sf C ea a)(hb:SE X sf C eb b)(hs:starEach [ea,eb] X.env=[(false,eval ea X.env),(false,eval eb X.env)]:=by rfl)(hs2:starEach [eb] X.env=[(false,eval eb X.env)]:=by rfl):PI X (.Tuple es kt pt) (.Call (.Name "zip" p) [ea,eb] [] pos) (wI X.K sf C 2 .zip [a,b]):=k9 (sR hg hm (slc ha (slc hb sl0 hs2) (by rw [hs,hs2])) hs hs2) sy
noncomputable def lkN:List Nat->Nat->Nat->Option Nat
 | [],_,_=>none
 | t::ts,n,i=>if i=t then some n else lkN ts (n+1) i
theorem i6:∀ {l:List Nat} {n i j:Nat},lkN l n i=some j->∃ k,l[k]?=some i/\j=n+k/\i ∉ l.take k
 | [],_,_,_,h=>by cases h
 | t::ts,n,i,j,h=>by
  have h':(if i=t then some n else lkN ts (n+1) i)=some j:=h
  split at h'
  ·rename_i e; cases h'; exact ⟨0,by rw [e]; rfl,rfl,by simp⟩
  ·rename_i e
   obtain ⟨k,h1,h2,h3⟩:=i6 h'
   exact ⟨k+1,h1,by omega,by rw [List.take_succ_cons,a0w]; exact fun z=>z.elim e h3⟩
noncomputable def inF (tg ls:List Nat):Nat->Option Nat:=lkN (tg++ls) 0
theorem dz {tg ls is:List Nat}(h:ls.map sf=is.map some):eP sf (inF tg ls) tg is:=fun i j hj=>by
 obtain ⟨k,h1,h2,h3⟩:=i6 (show lkN (tg++ls) 0 i=some j from hj)
 rw [a2D] at h2
 subst h2
 by_cases hk:j < tg.length
 ·rw [a0U hk] at h1
  exact .inl ⟨j,h1,rfl⟩
 ·have hk':tg.length<=j:=a2J hk
  rw [a0I hk'] at h1
  refine .inr ⟨fun hi=>h3 ?_,?_⟩
  ·rw [List.take_append,a1A hk']
   exact a0J _ hi
  ·have e1:(ls.map sf)[j-tg.length]?=some (sf i):=by rw [a0C,h1]; rfl
   rw [h,a0C] at e1
   cases e2:is[j-tg.length]? with
   | none=>rw [e2] at e1; cases e1
   | some j0 =>
    rw [e2] at e1
    exact ⟨j-tg.length,j0,by omega,e2,(a0z e1).symm⟩
theorem wZ {x:Str}{px:Pos}{ys:List Str}{scope:Scope}{cl:List (Str×Addr)}(S:au [x] ys scope)(Ca:Addr)(s:Shared)(H:Hp)(fp:List Addr):PG (ag X ([x]++ys) scope cl Ca s H fp) (.Name x px) (gT X.K 1) :=
 df (X:=ag X ([x]++ys) scope cl Ca s H fp) (i:=0) (x:=x) (pos:=px) S.nd rfl (.inl (lookup_relabel_local (S.loc x (by simp)))) (.inr (lookup_relabel_local (S.loc x (by simp))))
theorem yB {x y:Str}{px py pt:Pos}{kt:Nat}{ys:List Str}{scope:Scope}{cl:List (Str×Addr)}(hc:X.calm=true)(S:au [x,y] ys scope)(Ca:Addr)(s:Shared)(H:Hp)(fp:List Addr):PG (ag X ([x,y]++ys) scope cl Ca s H fp) (.Tuple [.Name x px,.Name y py] kt pt) (gT X.K 2) :=
 vM (X:=ag X ([x,y]++ys) scope cl Ca s H fp) (pos:=pt) (k:=kt) (n:=2) hc (gS (df (pos:=px) (i:=0) (x:=x) S.nd rfl (.inl (lookup_relabel_local (S.loc x (by simp)))) (.inr (lookup_relabel_local (S.loc x (by simp))))) (gS (df (pos:=py) (i:=1) (x:=y) S.nd rfl (.inl (lookup_relabel_local (S.loc y (by simp)))) (.inr (lookup_relabel_local (S.loc y (by simp))))) qD))
end
end MR

namespace MR
open PySem PySem.Spec PyProof.Rows L2 L3
section
variable {X:Cx}{sf sg:Nat->Option Nat}{C:M.Call}{pos p2:Pos}{ea eb ec:Expr}{a b c:M.E}{h:Bool}{n:Nat}{io:List Nat}
section
variable {elt iter cnd:Expr}{x y:Str}{px py pt:Pos}{kt:Nat}{scope:Scope}{cl:List (Str×Addr)}{ys:List Str}{tg ls is:List Nat}{k:M.Ik}{src:List M.E}{e cd:M.E}
theorem sC1 (ls:List Nat)(is:List Nat)(cl:List (Str×Addr))(ys:List Str){t:Nat}(hi:PI X (.Name x px) iter (wI X.K sf C 1 k src))(he:∀ Ca s H fp,SE (ag X ([x]++ys) scope cl Ca s H fp) (inF [t] ls) C elt e)
  (S:au [x] ys scope) (hcl:Clo X cl) (fr:Frees X scope cl ys is) (hc:X.calm=true:=by rfl) (hl:ls.map sf=is.map some:=by rfl)
  (hclos:closureFor scope X.env=pure cl:=by with_unfolding_all rfl) (hfr:(scope.names.all fun p=>p.2 != .free || (cl.lookup p.1).isSome)=true:=by rfl)
  (hs:∀ v,foldedSetIterable iter X.env v=pure v:=by intro _; rfl):SE X sf C (.ListComp elt [⟨.Name x px,iter,[],0⟩] scope pos) (.comp h k src [t] none e) :=
 ah (eI (pre:=[x]) hc hi (wZ S) (fun Ca s H fp=>he Ca s H fp) hclos S hcl hfr fr hs) (eh rfl (by simp) (dz hl))
theorem sC2 (ls:List Nat)(is:List Nat)(cl:List (Str×Addr))(ys:List Str){t t':Nat}(hi:PI X (.Tuple [.Name x px,.Name y py] kt pt) iter (wI X.K sf C 2 k src))(he:∀ Ca s H fp,SE (ag X ([x,y]++ys) scope cl Ca s H fp) (inF [t,t'] ls) C elt e)
  (S:au [x,y] ys scope) (hcl:Clo X cl) (fr:Frees X scope cl ys is) (hc:X.calm=true:=by rfl) (hl:ls.map sf=is.map some:=by rfl) (nd:[t,t'].Nodup:=by decide)
  (hclos:closureFor scope X.env=pure cl:=by with_unfolding_all rfl) (hfr:(scope.names.all fun p=>p.2 != .free || (cl.lookup p.1).isSome)=true:=by rfl)
  (hs:∀ v,foldedSetIterable iter X.env v=pure v:=by intro _; rfl):SE X sf C (.ListComp elt [⟨.Tuple [.Name x px,.Name y py] kt pt,iter,[],0⟩] scope pos) (.comp h k src [t,t'] none e) :=
 ah (eI (pre:=[x,y]) hc hi (yB hc S) (fun Ca s H fp=>he Ca s H fp) hclos S hcl hfr fr hs) (eh rfl nd (dz hl))
end
noncomputable def spS (K:a0a)(C:M.Call)(f:Nat)(io:List Nat):Sp:=fun vs H Q _=>spC K C f io vs H Q
theorem sa0:SA X sf C [] []:=i4 b9 uZ
theorem sac {es:List Expr}{bs:List M.E}(ha:SE X sf C ea a)(hb:SA X sf C es bs)(he:∀ i,a≠.io i:=by intro _ z; cases z)(hs:starEach (ea::es) X.env=(false,eval ea X.env)::starEach es X.env:=by rfl):SA X sf C (ea::es) (a::bs):=i4 (aZ ha hb hs) (kY he)
noncomputable def ae (P:Program)(w:World)(K:a0a)(mg:Str->Option Value)(base:Heap)(n:Nat)(C:M.Call)(x:Str)(f:Nat)(io:List Nat):Prop :=
 ∃ fa fd ps,cw P w K mg base CX0 n fa fd ps (spS K C f io)/\mg x=some (.ref fa)/\a1E K (.ref fa)=true/\Binds K fd ps []
theorem aA {x:Str}{p:Pos}{f:Nat}{es:List Expr}{bs:List M.E}(c:ae X.prog X.w X.K X.mg X.base n C x f io)(hr:Room n X.A)(ha:SA X sf C (ea::es) bs)(hio:dm bs 0=io\/M.ios bs=[]:=by first | exact .inl rfl | exact .inr rfl)(hg:Gl X x:=by rfl)(hdb:(x==("__debug__":Str))=false:=by decide)
  (he:starEach (ea::es) X.env=(false,eval ea X.env)::starEach es X.env:=by rfl) (hpl:(backTo pos (starEach es X.env)).any (·.1)=false:=by rfl):SE X sf C (.Call (.Name x p) (ea::es) [] pos) (.call f bs):=by
 obtain ⟨fa,fd,ps,F,hm,hk,hb⟩:=c
 refine ah (pj (E:=E0) F hr hg hm hk hb .nil wO ha hdb he hpl) fun σ H Q hw=>?_
 have h2:=pJ hio σ H Q hw
 obtain ⟨pv,Z,Fs,η,ws,η',A,ev,k⟩:=h2
 exact ⟨pv,Z,Fs,η,ws,η',A,ev,fun vs Z' H' Fs' G B r s hv=>by show spS X.K C f io (vs++[]) H' Q E0; rw [a0p]; exact k vs Z' H' Fs' G B r s hv⟩
theorem ss0:SSs X sf io C [] []:=iE pk qh
theorem ss1 {s:Stmt}{t:M.S}(hs:SS X sf io C s t):SSs X sf io C [s] [t]:=iE (oC hs) om
theorem ssc {s:Stmt}{t:M.S}{r:List Stmt}{u:List M.S}(hs:SS X sf io C s t)(hr:SSs X sf io C r u):SSs X sf io C (s::r) (t::u):=iE (kj hs hr) ni
theorem bp (j:Nat){i:Nat}{x:Str}{xx:M.X}{pos':Pos}(hN:X.N.Nodup)(ha:SE X sf C ea a)(hi:i ∉ io:=by decide)(hs:sf i=some j:=by rfl)(hj:X.N[j]?=some x:=by rfl)(hx:L2.Loc X.env.scope x:=by first | exact a1z rfl | exact a1b rfl)
  (hsw:swapsWith ea (some (.Name x pos')) pos.line X.env=pure false:=by rfl) (hf:X.fn x=true\/X.env.scope.names.lookup x=some .local:=by first | exact .inl rfl | exact .inr rfl):SS X sf io C (.Assign [.Name x pos'] ea pos) (.asg xx i a):=b6 (vA (i:=j) hN hj hx ha hsw hf) (mY hi hs)
theorem ze {xx:M.X}(ha:SE X sf C ea a)(hs:swapsWith ea none pos.line X.env=pure false:=by rfl):SS X sf io C (.Expr ea pos) (.exp xx a):=b6 (fB ha hs) uq
theorem aG {vs:List Nat}(ha:SE X sf C ea a):SS X sf io C (.Return (some ea) pos) (.ret vs a):=b6 (uk ha) uy
theorem zIf {xx:M.X}{r u:List Stmt}{s t:List M.S}(hc:SB X sf C ec c)(ha:SSs X sf io C r s)(hb:SSs X sf io C u t):SS X sf io C (.If ec r u pos) (.ite xx c s t):=b6 (xo hc ha hb) uj
theorem zj {xx:M.X}{r:List Stmt}{s:List M.S}(hc:SB X sf C ec c)(ha:SSs X sf io C r s)(hp:PassesOwn (model X.prog X.w) X.A X.env X.xe:=by exact PassesOwn.never):SS X sf io C (.While ec r [] pos) (.whl xx c s):=b6 (ll hp hc ha) uH
theorem rB (j:Nat){t:Nat}{x:Str}{px:Pos}{iter:Expr}{r:List Stmt}{s:List M.S}{vs ls:List Nat}{k:M.Ik}{src:List M.E}(hN:X.N.Nodup)(hi:PI X (.Name x px) iter (wI X.K sf C 1 k src))(ha:SSs X sf io C r s)(hio:∀ u∈[t],u ∉ io:=by decide)(hjs:[t].map sf=[j].map some:=by rfl)(hj:X.N[j]?=some x:=by rfl)(hx:L2.Loc X.env.scope x:=by first | exact a1z rfl | exact a1b rfl)
  (hc:X.calm=true:=by rfl) (hp:PassesOwn (model X.prog X.w) X.A X.env X.xe:=by exact PassesOwn.never) (hf:X.fn x=true\/X.env.scope.names.lookup x=some .local:=by first | exact .inl rfl | exact .inr rfl) (hs:∀ x,foldedSetIterable iter X.env x=pure x:=by intro _; rfl):SS X sf io C (.For (.Name x px) iter r [] pos) (.forS vs ls k src [t] s) :=
 b6 (sk hp hc hi (df (i:=j) hN hj hx hf) ha hs) (tM rfl (by simp) hio hjs)
theorem yr (j:Nat){i:Nat}{x:Str}{xx:M.X}{apos cpos px:Pos}(ha:SE X sf C ea a)(hs:sf i=some j:=by rfl)(hN:X.N[j]?=some x:=by rfl)(hv:Vis X.env.scope x:=by first | exact a1z rfl | exact a1b (a1z rfl) | exact a1b (a1b rfl))(hd:(x==("__debug__":Str))=false:=by decide)(hcd:(x==("__classdict__":Str))=false:=by decide)
  (hbase:attributeBase (.Name x px) "append" X.env (eval (.Name x px) X.env)=eval (.Name x px) X.env:=by rfl)
  (hfew:((backTo cpos (starEach [ea] X.env)).all (fun x=>!x.1)&&(backToKw cpos (keywordEach [] X.env)).all (fun x=>x.1.isSome)&&decide ([ea].length+([]:List Keyword).length+(if ([]:List Keyword).isEmpty then 0 else 1) < 30))=true:=by rfl)
  (hline:(apos.endLine==cpos.line)=true:=by rfl) (hst:starEach [ea] X.env=(false,eval ea X.env)::starEach [] X.env:=by rfl) (hplain:(backTo cpos (starEach [] X.env)).any (·.1)=false:=by rfl) (hsw:swapsWith (.Call (.Attribute (.Name x px) "append" apos) [ea] [] cpos) none pos.line X.env=pure false:=by rfl) :
  SS X sf io C (.Expr (.Call (.Attribute (.Name x px) "append" apos) [ea] [] cpos) pos) (.app xx i a) :=
 b6 (fB (gL a1v a1Y a1Z eM (cU hN hv hd hcd) (aZ ha b9 hst) hbase hfew hline hst hplain) hsw) fun D σ H hw=>by
  obtain ⟨p,xs,hj,hp,pv,Z,Fs,η,w,η',A,ev,k⟩:=u3 hs D σ H hw
  refine ⟨.ref p,hj,.inl ⟨rfl,xs,.inl (.inl hp)⟩,pv,Z,Fs,η,w,η',A,ev,fun v Z' H' Fs' G B r s=>?_⟩
  obtain ⟨ys,h1,h2,h3⟩:=k v Z' H' Fs' G B r s
  exact ⟨p,ys,v,rfl,rfl,h1,h2,h3⟩
theorem zx (j:Nat){i:Nat}{x:Str}{xx:M.X}{apos cpos px:Pos}(ha:SE X sf C ea a)(hs:sf i=some j:=by rfl)(hN:X.N[j]?=some x:=by rfl)(hv:Vis X.env.scope x:=by first | exact a1z rfl | exact a1b (a1z rfl) | exact a1b (a1b rfl))(hd:(x==("__debug__":Str))=false:=by decide)(hcd:(x==("__classdict__":Str))=false:=by decide)
  (hbase:attributeBase (.Name x px) "extend" X.env (eval (.Name x px) X.env)=eval (.Name x px) X.env:=by rfl)
  (hfew:((backTo cpos (starEach [ea] X.env)).all (fun x=>!x.1)&&(backToKw cpos (keywordEach [] X.env)).all (fun x=>x.1.isSome)&&decide ([ea].length+([]:List Keyword).length+(if ([]:List Keyword).isEmpty then 0 else 1) < 30))=true:=by rfl)
  (hline:(apos.endLine==cpos.line)=true:=by rfl) (hst:starEach [ea] X.env=(false,eval ea X.env)::starEach [] X.env:=by rfl) (hplain:(backTo cpos (starEach [] X.env)).any (·.1)=false:=by rfl) (hsw:swapsWith (.Call (.Attribute (.Name x px) "extend" apos) [ea] [] cpos) none pos.line X.env=pure false:=by rfl) :
  SS X sf io C (.Expr (.Call (.Attribute (.Name x px) "extend" apos) [ea] [] cpos) pos) (.ext xx i a) :=
 b6 (fB (gL a1v PySem.F.slot_list_extend PySem.F.type_list_extend jq (cU hN hv hd hcd) (aZ ha b9 hst) hbase hfew hline hst hplain) hsw) fun D σ H hw=>by
  obtain ⟨p,xs,hj,hp,pv,Z,Fs,η,w,η',A,ev,k⟩:=vt hs D σ H hw
  refine ⟨.ref p,hj,.inl ⟨rfl,xs,.inl (.inl hp)⟩,pv,Z,Fs,η,w,η',A,ev,fun v Z' H' Fs' G B r s=>?_⟩
  obtain ⟨b,ys,zs,rfl,h1,h2,h3,h4⟩:=k v Z' H' Fs' G B r s
  exact ⟨p,b,ys,zs,rfl,rfl,h1,h2,h3,h4⟩
end
end MR

namespace MR
open PySem PySem.Spec PyProof.Rows L2 L3
section
variable {K:a0a}{Z:Fp}{H:Hp}
theorem fL:∀ {ws:List M.W} {n i:Nat} {w:M.W},M.rd (ws.map some++a0g n none) i=some w->ws[i]?=some w
 | [],0,i,w,h=>by simp [M.rd] at h
 | [],n+1,0,w,h=>by simp [a0N,M.rd] at h
 | [],n+1,i+1,w,h=>by
  have:M.rd (([]:List M.W).map some++a0g n none) i=some w:=by simpa [a0N,M.rd] using h
  have:=fL this
  simp at this
 | u::ws,n,0,w,h=>by simpa [M.rd] using h
 | u::ws,n,i+1,w,h=>by
  have:M.rd (ws.map some++a0g n none) i=some w:=by simpa [M.rd] using h
  simpa using fL this
theorem mR:∀ {ws:List M.W} {vs:List V} {G:Fp},RepW K Z H ws vs G->∃ Fs:Fps,(∀ i a,Fs i a->G a)/\(∀ i j a,Fs i a->Fs j a->i=j)/\∀ i w,ws[i]?=some w->∃ v,vs[i]?=some v/\Rep K Z H w.1 w.2 v (Fs i)
 | [],vs,G,_=>⟨fun _=>no,fun _ _ h=>h.elim,fun _ _ _ h=>h.elim,fun i w h=>by simp at h⟩
 | w::ws,vs,G,⟨x,r,G1,G2,e,h1,h2,hd,p,q⟩=>by
  obtain ⟨Fs,f1,f2,f3⟩:=mR q
  subst e
  refine ⟨fun i=>match i with | 0=>G1 | i+1=>Fs i,fun i a h=>?_,fun i j a hi hj=>?_,fun i u h=>?_⟩
  ·cases i with
   | zero=>exact h1 a h
   | succ i=>exact h2 a (f1 i a h)
  ·cases i with
   | zero =>
    cases j with
    | zero=>rfl
    | succ j=>exact absurd (f1 j a hj) (hd a hi)
   | succ i =>
    cases j with
    | zero=>exact absurd (f1 i a hi) (hd a hj)
    | succ j=>exact congrArg (·+1) (f2 i j a hi hj)
  ·cases i with
   | zero=>simp only [a0X,a10] at h; subst h; exact ⟨x,rfl,p⟩
   | succ i=>simpa using f3 i u (by simpa using h)
noncomputable def slN (n:Nat):Nat->Option Nat:=fun i=>if i < n then some i else none
theorem cO {sl:Cf}{σ:L2.St}{Fs:Fps}{η:M.Env}{G:Fp}{vs:List V}(A:At K sl σ Z H Fs η G):∀ {io:List Nat} {bs:List M.W},io.Nodup->(∀ i∈io,sl.pv i=vs[i]?/\i < vs.length)->M.backs io η=some bs->RepW K Z H bs (atV io vs) (fun a=>∃ i∈io,Fs i a)
 | [],bs,_,_,h=>by
  simp only [M.backs,a10] at h; subst h; rfl
 | i::io,bs,nd,hv,h=>by
  simp only [M.backs] at h
  cases e:M.rd η i with
  | none=>rw [e] at h; cases h
  | some w =>
   rw [e] at h
   simp only [a18] at h
   cases e2:M.backs io η with
   | none=>rw [e2] at h; cases h
   | some ws =>
    rw [e2] at h
    simp only [a18,a10] at h
    subst h
    obtain ⟨v,r,_,hp⟩:=A.env i w.1 w.2 e
    have hi:=hv i a0c
    obtain ⟨u,hu⟩:∃ u,vs[i]?=some u:=⟨vs[i]'hi.2,a0V hi.2⟩
    have:=hp u (hi.1.trans hu)
    subst this
    refine ⟨v,atV io vs,Fs i,fun a=>∃ j∈io,Fs j a,?_,fun a h=>⟨i,a0c,h⟩,fun a ⟨j,hj,h⟩=>⟨j,a0e _ hj,h⟩,fun a h ⟨j,hj,h'⟩=>?_,r,cO A (a1e.mp nd).2 (fun j hj=>hv j (a0e _ hj)) e2⟩
    ·rw [atV,a0S,hu]; rfl
    ·exact (a1e.mp nd).1 (A.gd.dis i j a h h' ▸ hj)
end
section
variable {P:Program}{w:World}{K:a0a}{mg:Str->Option Value}{base:Heap}
theorem nt {Z:Fp}{H:Hp}{ws:List M.W}{vs:List V}{G:Fp}{N:List Str}{n:Nat}{io:List Nat}(r:RepW K Z H ws vs G)(o:Own Z H G)(z:∀ a,Z a->H a≠none)(hl:vs.length<=N.length) :
  ∃ Fs,(∀ a,tot Fs a->G a)/\At K ⟨slN N.length,fun i=>if i∈io then vs[i]? else none⟩ (L2.start N vs) Z H Fs (ws.map some++a0g n none) no:=by
 obtain ⟨Fs,f1,f2,f3⟩:=mR r
 have st:∀ i v,vs[i]?=some v->(L2.start N vs)[i]?=some (some v):=fun i v h=>by
  have hi:=(a0q.mp h).1
  rw [L2.start,a0U (by simpa using hi),a0C,h]; rfl
 refine ⟨Fs,fun a ⟨i,h⟩=>f1 i a h,⟨⟨fun a ⟨i,h⟩=>o a (f1 i a h),f2,z⟩,fun i m t e=>?_,fun a h=>h.elim,fun a h=>h.elim,fun i u j hu hj=>?_,fun i j hj=>?_⟩⟩
 ·obtain ⟨v,hv,rp⟩:=f3 i (m,t) (fL e)
  refine ⟨v,rp,fun j hj=>?_,fun u hu=>?_⟩
  ·simp only [slN] at hj
   split at hj
   ·cases hj; exact st i v hv
   ·cases hj
  ·simp only at hu
   split at hu
   ·rw [hv] at hu; cases hu; rfl
   ·cases hu
 ·simp only at hu
  simp only [slN] at hj
  split at hj
  ·cases hj
   split at hu
   ·exact st i u hu
   ·cases hu
  ·cases hj
 ·simp only [slN] at hj
  split at hj
  ·cases hj
   rename_i h
   rw [L2.start,a0b,a0d,a0G]; omega
  ·cases hj
theorem Fun.okM {x qual:Str}{st:Stmt}{f:Addr}{fd:FuncData}{N ps:List Str}{k:Nat}{C:M.Call}{d:M.Fn}(F:L2.Fun K x qual st f fd)(S:ao N ps (defScope st))(hps:d.ps=ps.length)(hle:ps.length<=N.length)(nd:d.io.Nodup)(hio:∀ i∈d.io,i < ps.length)
  (hbody:∀ (cdv:Value) (A:Around) (outer:List Env) (s:Shared) (H:Hp) (E:XK),Room k (A.deeper (envOfC qual (defScope st) s.heap.objs.size f cdv)) ->
   SSs (fg CX0 P w K mg base N qual (defScope st) f cdv A outer s H E).nox (slN N.length) d.io C (defBody st) d.body) {g:Nat} {C':M.Call} (hC:∀ ws,C' g ws=M.runF C d ws):cw P w K mg base CX0 (k+1) f fd ps (spS K C' g d.io):=by
 have len:∀ vs H Q E,spS K C' g d.io vs H Q E->vs.length=ps.length:=fun vs H Q E ⟨Z,ws,G,w,bs,r,_,_,hr,_⟩=>by
  rw [hC] at hr
  unfold M.runF at hr
  split at hr
  ·rename_i h; rw [r.length,h,hps]
  ·cases hr
 refine F.ok S len fun cdv A outer s H vs Q E hr h=>⟨_,hbody cdv A outer s H E hr,?_⟩
 have hlen:=len vs H Q E h
 obtain ⟨Z,ws,G,w,bs,r,o,z,hc,q⟩:=h
 rw [hC] at hc
 have hwl:ws.length=d.ps:=by rw [<- r.length,hlen,hps]
 rw [M.x_run _ _ _ hwl] at hc
 obtain ⟨Fs,ft,A0⟩:=nt (n:=d.ns) (io:=d.io) r o z (N:=N) (by omega)
 refine ⟨_,Z,Fs,_,⟨fun i i' j h h'=>?_,fun i h=>if_neg h⟩,A0,?_⟩
 ·simp only [slN] at h h'
  split at h
  ·split at h'
   ·cases h; cases h'; rfl
   ·cases h'
  ·cases h
 have hv:∀ i∈d.io,(if i∈d.io then vs[i]? else none)=vs[i]?/\i < vs.length:=fun i hi=>⟨if_pos hi,hlen ▸ hio i hi⟩
 cases e:M.evSs C d.body (ws.map some++a0g d.ns none) with
 | nx η =>
  rw [e] at hc
  intro σ' Z' H' Fs' A' t
  simp only [M.Fl.out] at hc
  cases e2:M.backs d.io η with
  | none=>rw [e2] at hc; cases hc
  | some cs =>
   rw [e2] at hc
   cases hc
   refine q .non Z' H' no _ rfl (cO A' nd hv e2) (fun _ h=>h.elim) (fun a h=>h.elim (fun z=>z.elim) fun ⟨i,_,z⟩=>A'.gd.own a ⟨i,z⟩) (t.mono ft fun a h=>h.elim (fun z=>z.elim) fun ⟨i,_,z⟩=>⟨i,z⟩)
 | rt u η =>
  rw [e] at hc
  intro v σ' Z' H' Fs' G' A' rp t
  simp only [M.Fl.out] at hc
  cases e2:M.backs d.io η with
  | none=>rw [e2] at hc; cases hc
  | some cs =>
   rw [e2] at hc
   cases hc
   exact q v Z' H' G' _ rp (cO A' nd hv e2) (fun a h ⟨i,_,z⟩=>A'.dis a h ⟨i,z⟩) (fun a h=>h.elim (A'.own a) fun ⟨i,_,z⟩=>A'.gd.own a ⟨i,z⟩) (t.mono ft fun a h=>h.elim .inr fun ⟨i,_,z⟩=>.inl ⟨i,z⟩)
 | bk η=>rw [e] at hc; cases hc
 | ex c x η=>rw [e] at hc; cases hc
 | no=>rw [e] at hc; cases hc
end
end MR

namespace MR
open PySem PySem.Spec PyProof.Rows L2 L3
noncomputable def TopV (K:a0a)(H:Hp):Th->V->Prop
 | .tup _,x=>∃ a vs,x=.ref a/\SqT K H a vs
 | .lst _,x=>∃ a vs,x=.ref a/\SqL K H a vs
 | .non,x=>x=.non
 | .bl b,x=>x=.bl b
 | .int i,x=>x=.int i
 | .str z,x=>x=.str z
theorem lJ {X:Cx}{c:String}(hc:c∈["tuple","str","bool","int","list"]):bL X (.builtin "isinstance") (fun xs H Q=>∃ x t,xs=[x,.ty c]/\TopV X.K H t x/\Q (.bl (isI c t)) H):=by
 intro pins s σ H xs us Q I r h
 obtain ⟨x,t,rfl,ht,q⟩:=h
 obtain ⟨u,w',rfl,ru,rw'⟩:=gP r
 cases rw'
 have e:a0Y X.K (.type t.ty) (.type c)=some (isI c t):=kit_type.trans (iC hc t)
 have fin:∀ tk,EP X pins σ Q (.bool (isI c t)) { s with toks:=tk }:=fun tk=>⟨.bl (isI c t),H,I.tok tk,rfl,q⟩
 cases t with
 | non =>
  obtain rfl:x=.non:=ht
  exact bU I ru .non e fin
 | bl b =>
  obtain rfl:x=.bl b:=ht
  exact bU I ru (.bl b) e fin
 | int i =>
  obtain rfl:x=.int i:=ht
  exact bU I ru (.int i) e fin
 | str z =>
  obtain rfl:x=.str z:=ht
  exact bU I ru (.str z) e fin
 | tup ts =>
  obtain ⟨a,vs,rfl,hS⟩:=ht
  cases ru
  obtain ⟨its,_,p,_⟩:=I.tuple hS
  obtain ⟨o,h1,h2,_⟩:=p
  exact a0F a1O I.kIn ⟨o,h1,h2⟩ e (fun z=>nomatch z) fin
 | lst ts =>
  obtain ⟨a,vs,rfl,hS⟩:=ht
  cases ru
  obtain ⟨its,_,p,_⟩:=I.list hS
  obtain ⟨o,n,h1,h2,_⟩:=p
  exact a0F a1C I.kIn ⟨o,h1,h2⟩ e (fun z=>nomatch z) fin
theorem pM {X:Cx}{c1 c2:String}(h1:c1∈["tuple","str","bool","int","list"])(h2:c2∈["tuple","str","bool","int","list"]) :
  bL X (.builtin "isinstance") (fun xs H Q=>∃ x t p,xs=[x,.ref p]/\SqT X.K H p [.ty c1,.ty c2]/\TopV X.K H t x/\Q (.bl (isI c1 t || isI c2 t)) H):=by
 intro pins s σ H xs us Q I r h
 obtain ⟨x,t,p,rfl,hp,ht,q⟩:=h
 obtain ⟨u,w',rfl,ru,rw'⟩:=gP r
 cases rw'
 obtain ⟨its,rv,pt,_⟩:=I.tuple hp
 obtain ⟨y1,y2,rfl,r1,r2⟩:=gP rv
 cases r1
 cases r2
 obtain ⟨⟨oc,od,odt,osl⟩,g1,g2,n,g3⟩:=pt
 have g2':oc=.type "tuple":=g2
 have g3':odt=.seq _ n:=g3
 subst g2' g3'
 have e1:a0Y X.K (.type t.ty) (.type c1)=some (isI c1 t):=kit_type.trans (iC h1 t)
 have e2:a0Y X.K (.type t.ty) (.type c2)=some (isI c2 t):=kit_type.trans (iC h2 t)
 have e:a2n X.K (.type t.ty) [.type c1,.type c2]=some (isI c1 t || isI c2 t):=by
  unfold a2n
  rw [e1]
  cases isI c1 t with
  | true=>rfl
  | false =>
   unfold a2n
   rw [e2]
   cases isI c2 t<;>rfl
 have fin:∀ tk,EP X pins σ Q (.bool (isI c1 t || isI c2 t)) { s with toks:=tk }:=fun tk=>⟨.bl _,H,I.tok tk,rfl,q⟩
 cases t with
 | non =>
  obtain rfl:x=.non:=ht
  cases ru
  exact a1g a2z I.kIn a01 g1 e (fun z=>nomatch z) fin
 | bl b =>
  obtain rfl:x=.bl b:=ht
  cases ru
  exact a1g a2A I.kIn a01 g1 e (fun z=>nomatch z) fin
 | int i =>
  obtain rfl:x=.int i:=ht
  obtain ⟨t,rfl⟩:=ru
  exact a1g a2G I.kIn a01 g1 e (fun z=>nomatch z) fin
 | str z =>
  obtain rfl:x=.str z:=ht
  obtain ⟨t,rfl⟩:=ru
  exact a1g a2H I.kIn a01 g1 e (fun z=>nomatch z) fin
 | tup ts =>
  obtain ⟨a,vs,rfl,hS⟩:=ht
  cases ru
  obtain ⟨its,_,⟨o,q1,q2,_⟩,_⟩:=I.tuple hS
  exact a1g a1O I.kIn ⟨o,q1,q2⟩ g1 e (fun z=>nomatch z) fin
 | lst ts =>
  obtain ⟨a,vs,rfl,hS⟩:=ht
  cases ru
  obtain ⟨its,_,⟨o,n,q1,q2,_⟩,_⟩:=I.list hS
  exact a1g a1C I.kIn ⟨o,q1,q2⟩ g1 e (fun z=>nomatch z) fin
noncomputable def thT:M.T->Th
 | .non=>.non | .bl b=>.bl b | .int i=>.int i | .str x=>.str x | .tup _=>.tup [] | .lst _=>.lst [] | .scr _=>.lst [] | .dct _ _=>.non | .ins _ _ _=>.non | .gone=>.non
theorem iU {K:a0a}{Z:Fp}{H:Hp}{t:M.T}{m:M.Md}{x:V}{G:Fp}(hg:t.isG=false)(r:Rep K Z H m t x G):TopV K H (thT t) x/\(thT t).ty=t.ty:=by
 cases t with
 | non=>exact ⟨r,rfl⟩
 | bl _=>exact ⟨r,rfl⟩
 | int _=>exact ⟨r,rfl⟩
 | str _=>exact ⟨r.1,rfl⟩
 | tup _=>obtain ⟨p,xs,e,q,_⟩:=r; exact ⟨⟨p,xs,e,q⟩,rfl⟩
 | lst _=>obtain ⟨p,xs,e,_,q,_⟩:=r; exact ⟨⟨p,xs,e,.inl (.inl (by cases m<;>exact q.2))⟩,rfl⟩
 | scr _=>obtain ⟨p,e,_,q⟩:=r; exact ⟨⟨p,_,e,q.sq⟩,rfl⟩
 | dct _ _=>exact r.elim
 | ins _ _ _=>exact r.elim
 | gone=>cases hg
theorem ff {t:Th}{u:M.T}{c:String}(h:t.ty=u.ty):isI c t=M.isOne c u:=by unfold isI M.isOne; rw [h]
section
variable {X:Cx}{sf sg:Nat->Option Nat}{C:M.Call}{pos p2 p3:Pos}{ea eb ec:Expr}{a b c:M.E}{h:Bool}{n:Nat}{io:List Nat}
theorem iV {Z:Fp}{H H1:Hp}{G:Fp}(same:∀ a o,H a=some o->H1 a=some o):Step Z H G Z H1 G:=by
 have al:∀ a,H a≠none->H1 a≠none:=fun a h=>by
  cases e:H a with
  | none=>exact absurd e h
  | some o=>rw [same a o e]; simp
 exact ⟨fun a o h _=>same a o h,fun _ h=>h,fun _ h=>.inl h,fun _ h=>.inl h,al,fun z a h=>al a (z a h)⟩
theorem mi {K:a0a}{Z:Fp}{H H1:Hp}{G:Fp}{w:M.W}{Q:VK}(same:∀ a o,H a=some o->H1 a=some o)(k:Out K Z H G w Q):Out K Z H1 G w Q:=fun v Z' H' G' r o t=>k v Z' H' G' r o ((iV same).trans t)
theorem dn {H:Hp}{p:Addr}{o:HO}(hp:H p=none):∀ a u,H a=some u->upd H p o a=some u:=fun a u e=>by
 have:a≠p:=fun q=>by subst q; rw [hp] at e; cases e
 rw [ab this]; exact e
theorem TopV.same {K:a0a}{H H1:Hp}{t:Th}{x:V}(sm:∀ a o,H a=some o->H1 a=some o)(h:TopV K H t x):TopV K H1 t x:=by
 cases t with
 | tup _ =>
  obtain ⟨a,vs,e,q⟩:=h
  refine ⟨a,vs,e,?_⟩
  rcases q with (z | ⟨o,z⟩) | z
  ·exact .inl (.inl (sm _ _ z))
  ·exact .inl (.inr ⟨o,sm _ _ z⟩)
  ·exact .inr z
 | lst _ =>
  obtain ⟨a,vs,e,q⟩:=h
  refine ⟨a,vs,e,?_⟩
  rcases q with (z | ⟨o,z⟩) | z
  ·exact .inl (.inl (sm _ _ z))
  ·exact .inl (.inr ⟨o,sm _ _ z⟩)
  ·exact .inr z
 | _=>exact h
theorem aP {c:String}{k:Str}(hc:c∈["tuple","str","bool","int","list"])(hv:bootBuiltins k=some (.type c))(hm:X.mg "isinstance"=none)(hm2:X.mg k=none)(ha:SE X sf C ea a)(hg:Gl X "isinstance":=by rfl)(hg2:Gl X k:=by rfl)(hn:k≠"__name__":=by decide)(hd:(k==("__debug__":Str))=false:=by decide)
  (hs:starEach [ea,.Name k p2] X.env=(false,eval ea X.env)::starEach [.Name k p2] X.env:=by rfl) (hs2:starEach [.Name k p2] X.env=(false,eval (.Name k p2) X.env)::starEach [] X.env:=by rfl) (hpl:(backTo pos (starEach [.Name k p2] X.env)).any (·.1)=false:=by rfl) :
  SE X sf C (.Call (.Name "isinstance" p3) [ea,.Name k p2] [] pos) (.op (.isI [c]) h [a]) :=
 ah (bC (lJ hc) hg hm a1I (aZ ha (aZ (kL hg2 hm2 hv hn hd) b9 hs2) hs) (by decide) (by decide) hs hpl) fun σ H Q hw=>by
  obtain ⟨pv,Z,Fs,η,w,η',A,ev,k⟩:=hw
  obtain ⟨ws,h1,h2⟩:=bM ev
  obtain ⟨⟨m,u⟩,η1,us,e1,e2,rfl⟩:=av h1
  cases e2
  obtain ⟨hug,h2⟩:=ifN (show (if u.isG=true then none else some _)=_ from h2)
  cases h2
  refine ⟨pv,Z,Fs,η,(m,u),η',A,e1,fun x Z' H' Fs' G B r s=>?_⟩
  obtain ⟨t1,t2⟩:=iU hug r
  refine ⟨x,thT u,rfl,t1,?_⟩
  have:=bG (bw B s k)
  rw [ff t2]
  rw [show ([c].any fun c=>M.isOne c u)=M.isOne c u by simp] at this
  exact this
theorem xI {c1 c2:String}{k1 k2:Str}{p4 pt:Pos}{kt:Nat}(hc1:c1∈["tuple","str","bool","int","list"])(hv1:bootBuiltins k1=some (.type c1))(hc2:c2∈["tuple","str","bool","int","list"])(hv2:bootBuiltins k2=some (.type c2))(hm:X.mg "isinstance"=none)(hm1:X.mg k1=none)(hm2:X.mg k2=none)(ha:SE X sf C ea a)
  (hg:Gl X "isinstance":=by rfl) (hg1:Gl X k1:=by rfl) (hg2:Gl X k2:=by rfl) (hn1:k1≠"__name__":=by decide) (hd1:(k1==("__debug__":Str))=false:=by decide) (hn2:k2≠"__name__":=by decide) (hd2:(k2==("__debug__":Str))=false:=by decide)
  (hs:starEach [ea,.Tuple [.Name k1 p2,.Name k2 p4] kt pt] X.env=(false,eval ea X.env)::starEach [.Tuple [.Name k1 p2,.Name k2 p4] kt pt] X.env:=by rfl) (hs2:starEach [.Tuple [.Name k1 p2,.Name k2 p4] kt pt] X.env=(false,eval (.Tuple [.Name k1 p2,.Name k2 p4] kt pt) X.env)::starEach [] X.env:=by rfl)
  (hs3:starEach [.Name k1 p2,.Name k2 p4] X.env=(false,eval (.Name k1 p2) X.env)::starEach [.Name k2 p4] X.env:=by rfl) (hs4:starEach [.Name k2 p4] X.env=(false,eval (.Name k2 p4) X.env)::starEach [] X.env:=by rfl) (hpl:(backTo pos (starEach [.Tuple [.Name k1 p2,.Name k2 p4] kt pt] X.env)).any (·.1)=false:=by rfl) :
  SE X sf C (.Call (.Name "isinstance" p3) [ea,.Tuple [.Name k1 p2,.Name k2 p4] kt pt] [] pos) (.op (.isI [c1,c2]) h [a]) :=
 ah (bC (pM hc1 hc2) hg hm a1I (aZ ha (aZ (mN (aZ (kL hg1 hm1 hv1 hn1 hd1) (aZ (kL hg2 hm2 hv2 hn2 hd2) b9 hs4) hs3)) b9 hs2) hs) (by decide) (by decide) hs hpl) fun σ H Q hw=>by
  obtain ⟨pv,Z,Fs,η,w,η',A,ev,k⟩:=hw
  obtain ⟨ws,h1,h2⟩:=bM ev
  obtain ⟨⟨m,u⟩,η1,us,e1,e2,rfl⟩:=av h1
  cases e2
  obtain ⟨hug,h2⟩:=ifN (show (if u.isG=true then none else some _)=_ from h2)
  cases h2
  refine ⟨pv,Z,Fs,η,(m,u),η',A,e1,fun x Z' H' Fs' G B r s=>?_⟩
  refine ⟨(by show 2<=sizeLine; decide),fun p hp=>?_⟩
  have st:=iV (Z:=Z') (G:=fun a=>tot Fs' a\/G a) (dn (o:=.tup [.ty c1,.ty c2]) hp)
  obtain ⟨t0,t2⟩:=iU hug r
  have t1:=t0.same (dn (o:=.tup [.ty c1,.ty c2]) hp)
  refine ⟨x,thT u,p,rfl,.inl (.inl aq),t1,?_⟩
  have:=bG (mi (dn (o:=.tup [.ty c1,.ty c2]) hp) (bw B s k))
  rw [ff t2,ff t2]
  rw [show ([c1,c2].any fun c=>M.isOne c u)=(M.isOne c1 u || M.isOne c2 u) by simp] at this
  exact this
end
end MR

namespace MR
open PySem PySem.Spec PyProof.Rows L2 L3
structure Txt (mg:Str->Option Value):Prop where
 isin:mg "isinstance"=none
 int:mg "int"=none
 tup:mg "tuple"=none
 list:mg "list"=none
 bool:mg "bool"=none
 sum:mg "sum"=none
 len:mg "len"=none
 all:mg "all"=none
 zip:mg "zip"=none
 range:mg "range"=none
 enum:mg "enumerate"=none
 any:mg "any"=none
 max:mg "max"=none
 min:mg "min"=none
 sorted:mg "sorted"=none
 str:mg "str"=none
 repr:mg "repr"=none
 abs:mg "abs"=none
 dict:mg "dict"=none
 set:mg "set"=none
 rev:mg "reversed"=none
theorem frc {X:Cx}{scope:Scope}{cl:List (Str×Addr)}{y:Str}{ys:List Str}{i:Nat}{is:List Nat}{c:Addr}(r:Frees X scope cl ys is)(h1:X.N[i]?=some y:=by rfl)(h2:Vis X.env.scope y:=by first | exact a1z rfl | exact a1b (a1z rfl) | exact a1b (a1b rfl))(h3:X.env.kindOf y=some .cell\/X.env.kindOf y=some .free:=by first | exact a1z rfl | exact a1b rfl)
  (h4:X.env.cells.lookup y=some c:=by rfl) (h5:cl.lookup y=some c:=by rfl) (h6:(relabel scope X.env).names.lookup y=some .cell\/(relabel scope X.env).names.lookup y=some .free:=by first | exact a1z rfl | exact a1b rfl):Frees X scope cl (y::ys) (i::is):=.cons h1 h2 h3 h4 h5 h6 r
theorem ou {X:Cx}{y:Str}{c:Addr}{cl:List (Str×Addr)}(r:Clo X cl)(h:X.env.cells.lookup y=some c:=by rfl):Clo X ((y,c)::cl):=.cons h r
section
variable {X:Cx}{sf sg:Nat->Option Nat}{C:M.Call}{pos p2 p3:Pos}{ea eb ec:Expr}{a b c:M.E}{h:Bool}{n:Nat}{io:List Nat}
section
variable {elt iter cnd:Expr}{x y:Str}{px py pt:Pos}{kt:Nat}{scope:Scope}{tg:List Nat}{k:M.Ik}{src:List M.E}{e cd:M.E}
theorem zC1 (j:Nat)(ls:List Nat)(is:List Nat)(cl:List (Str×Addr))(ys:List Str){z:Str}{pz spos:Pos}{xx:M.X}{i t:Nat}(hi:PI X (.Name x px) iter (wI X.K sf C 1 k src))(he:∀ Ca s H fp,SE (ag X ([x]++ys) scope cl Ca s H fp) (inF [t] ls) C elt e)
  (S:au [x] ys scope) (hcl:Clo X cl) (fr:Frees X scope cl ys is) (hN:X.N.Nodup) (hni:i ∉ io:=by decide) (hsj:sf i=some j:=by rfl) (hj:X.N[j]?=some z:=by rfl) (hz:L2.Loc X.env.scope z:=by first | exact a1z rfl | exact a1b rfl)
  (hsw:swapsWith (.ListComp elt [⟨(.Name x px),iter,[],0⟩] scope pos) (some (.Name z pz)) spos.line X.env=pure true:=by rfl) (hc:X.calm=true:=by rfl) (hl:ls.map sf=is.map some:=by rfl)
  (hclos:closureFor scope X.env=pure cl:=by with_unfolding_all rfl) (hfr:(scope.names.all fun p=>p.2 != .free || (cl.lookup p.1).isSome)=true:=by rfl)
  (hs:∀ v,foldedSetIterable iter X.env v=pure v:=by intro _; rfl) (hfn:X.fn z=true\/X.env.scope.names.lookup z=some .local:=by first | exact .inl rfl | exact .inr rfl):SS X sf io C (.Assign [.Name z pz] (.ListComp elt [⟨(.Name x px),iter,[],0⟩] scope pos) spos) (.asg xx i (.comp h k src [t] none e)) :=
 b6 (jv (pre:=[x]) hN hj hz hsw hc hi (wZ S) (fun Ca s H fp=>he Ca s H fp) hclos S hcl hfr fr hs hfn) fun D σ H hw=>eh rfl (by simp) (dz hl) σ H _ (mY hni hsj D σ H hw)
end
end
end MR

namespace MR
open PySem PySem.Spec PyProof.Rows L2 L3
section
variable {P:Program}{w:World}{K:a0a}{mg:Str->Option Value}{base:Heap}
theorem gY {C:M.Call}{g:Nat}{io:List Nat}{vs:List V}{H:Hp}{Q:VK}{E:XK}(hC:∀ ws,C g ws=.no)(h:spS K C g io vs H Q E):False:=by
 obtain ⟨Z,ws,G,w,bs,_,_,_,e,_⟩:=h
 rw [hC] at e
 cases e
theorem fn0 {f:Addr}{fd:FuncData}{ps:List Str}{k g:Nat}{io:List Nat}{C:M.Call}(hC:∀ ws,C g ws=.no):cw P w K mg base CX0 k f fd ps (spS K C g io) :=
 ⟨fun _ _ _ _ h=>(gY hC h).elim,fun _ _ _ _ _ _ _ _ _ _ _ _ _ h=>(gY hC h).elim⟩
theorem iz {Z:Fp}{H:Hp}{a:Addr}{ns:List Int}(hO:mh H)(hl:ns.length<=63)(h:SqL K H a (ns.map V.int)):Rep K Z H .d (.scr ns) (.ref a) no:=by
 refine ⟨a,rfl,a0s hl (by decide),?_⟩
 rcases h with (z | ⟨o,z⟩) | z
 ·rcases hO a with y | ⟨o,xs,y⟩<;>rw [y] at z<;>cases z
 ·exact .inl ⟨o,z⟩
 ·exact .inr (.inr z)
theorem uB {H:Hp}{a:Addr}{ns:List Int}{C:M.Call}{ix:Nat}(hp:∃ m bs,C ix [(.d,.scr ns)]=.ok ((m,.bl true),bs))(hl:ns.length<=63)(hO:mh H)(h:SqL K H a (ns.map V.int)):spS K C ix [] [.ref a] H (fun v _=>v=.bl true) fun _ _ _=>False:=by
 obtain ⟨m,bs,e⟩:=hp
 exact ⟨no,[(.d,.scr ns)],no,(m,.bl true),bs,RepW.one (iz hO hl h),bo,fun _ z=>z.elim,e,fun v Z' H' G1 G2 r _ _ _ _=>r⟩
end
theorem walkM {C:M.Call}{ix k:Nat}{l:a2h}{q:Program}{loose:List Str}{XP:(Str->Option Value)->Heap->Prop}{YP:World->Heap->Prop}{d:DefRec}{K:Params->a0a}(hp:∀ ns:List Int,ns.length<=63->∃ m bs,C ix [(.d,.scr ns)]=.ok ((m,.bl true),bs))(hn:l.most=some 63)(hdf:d.params.defaults=[])(hr:Room k callerA)
  (hY:∀ (w:World) (h:Heap),YP w h->(K w.params).In h)
  (F:∀ (w:World) (mg:Str->Option Value) (fa:Addr) (h:Heap),(K w.params).In h->h.Ns mainGlobals mg->mg d.name=some (.ref fa) ->
   ∃ fd:FuncData,(∀ (s:Shared) (u:Value),BindsTo s fd ⟨[u],[]⟩ [("script",u)])/\∀ base:Heap,(K w.params).In base->base.Ns mainGlobals mg->cw l.prog w (K w.params) mg base CX0 k fa fd ["script"] (spS (K w.params) C ix [])) :
  a24 q loose XP YP l.row.toRowW d [] (fun f vs=>a22 f vs) :=
 L2.walk_of (n:=63) (k:=k) (x:="script") (CX:=fun _=>CX0) (sp:=fun w=>spS (K w.params) C ix []) hn (by decide) hdf hr hY F (fun _ _ a ns hl hO hS=>uB (hp ns hl) hl hO hS) fun _ _ _ _ _ z=>z
end MR

namespace MR
open PySem PySem.Spec PyProof.Rows L2 L3
structure SBs (as:List Addr)(H H':Hp):Prop where
 keep:∀ b u,b ∉ as->H b=some u->H' b=some u
 al:∀ b,H b≠none->H' b≠none
instance {as:List Addr} {H H':Hp}:CoeFun (SBs as H H') (fun _=>∀ b u,b ∉ as->H b=some u->H' b=some u):=⟨fun s=>s.keep⟩
end MR

namespace MR
open PySem PySem.Spec PyProof.Rows L2 L3
section
variable {X:Cx}{sf sg:Nat->Option Nat}{io:List Nat}{C:M.Call}{pos p2:Pos}{ea eb ec:Expr}{a b c:M.E}{h:Bool}{n:Nat}
theorem pG {rest:List Expr}{ta tb:TE}(ha:PE X ea ta)(hb:PE X (.BoolOp .And (eb::rest) pos) tb):PE X (.BoolOp .And (ea::eb::rest) pos) (fun σ H Q=>ta σ H fun x H1=>∃ k,nT X.K x H1 k/\if k=true then tb σ H1 Q else Q x H1):=by
 intro pins s σ H Q I h
 refine BoolOp_and (thn (ha pins s σ H _ I h) fun v s1 ⟨x,H1,I1,r1,q1⟩=>?_)
 refine thn (kJ pins s1 σ H1 x v (fun k H2=>if k=true then tb σ H2 Q else Q x H2) I1 r1 q1) fun k s2 ⟨H2,I2,q2⟩=>?_
 cases k with
 | true=>exact hb pins s2 σ H2 Q I2 (by rw [if_pos rfl] at q2; exact q2)
 | false=>exact ⟨x,H2,I2,r1,by rw [if_neg a0l] at q2; exact q2⟩
theorem vA1 (ha:SE X sf C ea a):SE X sf C (.BoolOp .And [ea] pos) a:=se ha
theorem jX {rest:List Expr}(ha:SE X sf C ea a)(hb:SE X sf C (.BoolOp .And (eb::rest) pos) b):SE X sf C (.BoolOp .And (ea::eb::rest) pos) (.and a b):=ah (pG ha hb) fun σ H Q h=>by
 obtain ⟨pv,Z,Fs,η,w,η',A,ev,k⟩:=uI σ H Q h
 exact ⟨pv,Z,Fs,η,w,η',A,ev,fun v Z' H' Fs' G B r s=>let ⟨c,t,q⟩:=k v Z' H' Fs' G B r s; ⟨c,iM t,q⟩⟩
theorem sBW (h:SE X sf C ea a):SE X sf C ea a:=h
theorem gA {st:Stmt}:SS X sf io C st .stop:=fun pins s σ H D I q=>by
 obtain ⟨pv,Z,Fs,η,N,A,f⟩:=q
 exact (show False from f).elim
end
end MR

namespace MR
open PySem PySem.Spec PyProof.Rows L2 L3
end MR

namespace MR
open PySem PySem.Spec PyProof.Rows L2 L3
section
variable {X:Cx}{sf sg:Nat->Option Nat}{io:List Nat}{C:M.Call}{pos p2:Pos}{ea eb ec:Expr}{a b c:M.E}{h:Bool}{n:Nat}
theorem jL {K:a0a}{o p:M.Op}{g g':Int->Int->Bool}(inv:∀ {u v w:M.W},M.oSem o false [u,v]=some w->∃ m n i j,u=(m,.int i)/\v=(n,.int j)/\w=(.d,.bl (g i j)))(inv':∀ {u v w:M.W},M.oSem p false [u,v]=some w->∃ m n i j,u=(m,.int i)/\v=(n,.int j)/\w=(.d,.bl (g' i j)))
  (σ:L2.St) (H:Hp) (Q:VK) (hw:wE K sf C (.chain o p a b c) σ H Q):mT (rI0 fun i j=>.bl (g i j)) (rI0 fun i j=>.bl (g' i j)) (wE K sf C a) (wE K sf C b) (wE K sf C c) σ H Q:=by
 obtain ⟨pv,Z,Fs,η,w,η',A,ev,k⟩:=hw
 obtain ⟨⟨x,η1⟩,h1,h2⟩:=aa (show (M.evE C a η).bind (M.kC1 o p (M.evE C b) (M.evE C c))=_ from ev)
 obtain ⟨⟨y,η2⟩,h3,h4⟩:=aa (show (M.evE C b η1).bind (M.kC2 o p (M.evE C c) x)=_ from h2)
 obtain ⟨⟨kk,η3⟩,h5,h6⟩:=aa (show (M.ret η2 (M.oSem o false [x,y])).bind (fun k=>M.onB k.1.2 (M.then' (M.evE C c) (M.kC3 p y)) (M.okW (.d,.bl false)) k.2)=_ from h4)
 obtain ⟨k',e5,e5'⟩:=ai h5
 cases e5'
 obtain ⟨m1,m2,i,j,rfl,rfl,rfl⟩:=inv e5
 have dr:∀ {Z:Fp} {H:Hp} {F Z1:Fp} {H1:Hp} {Fs1:Fps} {G1:Fp},Step Z H F Z1 H1 (fun a=>tot Fs1 a\/G1 a)->Step Z H F Z1 H1 (tot Fs1):=fun s=>s.mono (fun _ z=>z) fun _ z=>.inl z
 refine fS A h1 fun vx Z1 H1 Fs1 G1 A1 r1 _ s1 _=>?_
 have A1':=A1.bare
 refine fS A1' h3 fun vy Z2 H2 Fs2 G2 A2 r2 _ s2 _=>⟨i,j,r1,r2,g i j,rfl,?_⟩
 have A2':=A2.bare
 have s12:=(dr s1).trans (dr s2)
 have h6':M.onB (.bl (g i j)) (M.then' (M.evE C c) (M.kC3 p (m2,.int j))) (M.okW (.d,.bl false)) η2=.ok (w,η'):=h6
 cases hg:g i j with
 | true =>
  rw [hg] at h6'
  rw [if_pos rfl]
  obtain ⟨⟨z,η4⟩,h7,h8⟩:=aa (show (M.evE C c η2).bind (M.kC3 p (m2,.int j))=_ from h6')
  obtain ⟨z',e8,e8'⟩:=ai (show M.ret η4 (M.oSem p false [(m2,.int j),z])=_ from h8)
  cases e8'
  obtain ⟨n1,n2,i',j',e9,rfl,rfl⟩:=inv' e8
  cases e9
  refine fS A2' h7 fun vz Z3 H3 Fs3 G3 A3 r3 _ s3 _=>⟨j,j',r2,r3,?_⟩
  exact k _ Z3 H3 Fs3 no A3.bare rfl ((s12.trans (dr s3)).mono (fun _ z=>z) fun _ z=>z.elim id fun q=>q.elim)
 | false =>
  rw [hg] at h6'
  rw [if_neg a0l]
  cases h6'
  exact k _ Z2 H2 Fs2 no A2' rfl (s12.mono (fun _ z=>z) fun _ z=>z.elim id fun q=>q.elim)
theorem nU (ha:SE X sf C ea a)(hb:SE X sf C eb b)(hc:SE X sf C ec c)(hm:lastMarks [.LtE,.LtE] [eb,ec]=false:=by with_unfolding_all rfl):SE X sf C (.Compare ea [.LtE,.LtE] [eb,ec] pos) (.chain .le .le a b c) :=
 ah (kN qU qU ha hb hc hm) (jL mS mS)
end
end MR

namespace MR
open PySem PySem.Spec PyProof.Rows L2 L3
section
variable {X:Cx}{sf sg:Nat->Option Nat}{C:M.Call}{pos p2 p3:Pos}{ea eb ec:Expr}{a b c:M.E}{h:Bool}{n:Nat}{io:List Nat}
theorem sGc {x:Str}{i:Int}(hm:∃ t,X.mg x=some (.int i t))(hg:Gl X x:=by rfl)(hd:(x==("__debug__":Str))=false:=by decide):SE X sf C (.Name x pos) (.cst (.int i)):=by
 obtain ⟨t,hm⟩:=hm
 exact ah (qP (v:=.int i) hg hm ⟨t,rfl⟩ hd) (dR rfl)
noncomputable def PathV (K:a0a)(H:Hp):List Nat->V->V->Prop
 | [],v,u=>u=v
 | j::p,v,u=>∃ a xs x,v=.ref a/\(SqL K H a xs\/SqT K H a xs)/\xs[j]?=some x/\PathV K H p x u
theorem PathV.snoc {K:a0a}{H:Hp}{j:Nat}:∀ {p:List Nat} {v u:V},PathV K H (p++[j]) v u->∃ x,PathV K H p v x/\PathV K H [j] x u
 | [],v,u,h=>⟨v,rfl,h⟩
 | i::p,v,u,⟨a,xs,x,e,q,l,r⟩=>by
  obtain ⟨y,h1,h2⟩:=PathV.snoc (p:=p) r
  exact ⟨y,⟨a,xs,x,e,q,l,h1⟩,h2⟩
noncomputable def wP (K:a0a)(sf:Nat->Option Nat)(i:Nat)(p:List Nat):TE:=fun σ H Q=>∃ j v u,sf i=some j/\σ[j]?=some (some v)/\PathV K H p v u/\Q u H
noncomputable abbrev SP (X:Cx)(sf:Nat->Option Nat)(me:Expr)(i:Nat)(p:List Nat):Prop:=PE X me (wP X.K sf i p)
theorem sPn (j:Nat){i:Nat}{x:Str}(hs:sf i=some j:=by rfl)(hN:X.N[j]?=some x:=by rfl)(hv:Vis X.env.scope x:=by first | exact a1z rfl | exact a1b (a1z rfl) | exact a1b (a1b rfl))(hd:(x==("__debug__":Str))=false:=by decide)
  (hcd:(x==("__classdict__":Str))=false:=by decide):SP X sf (.Name x pos) i []:=ah (cU hN hv hd hcd) fun σ H Q ⟨j',v,u,h1,h2,h3,q⟩=>by
 cases h3
 rw [hs] at h1; cases h1
 exact ⟨v,h2,q⟩
theorem sPi (p:List Nat)(k:Nat){q:List Nat}{i:Nat}{c:Expr}(ha:SP X sf ea i p)(hk:PE X c (tC (.int k)))(hq:q=p++[k]:=by rfl)(hs:fE c:=by intro _ _; rfl):SP X sf (.Subscript ea c pos) i q :=
 ah (rD ix_any ha hk hs) fun σ H Q ⟨j,v,u,h1,h2,h3,r⟩=>by
  subst hq
  obtain ⟨x,g1,a,xs,y,e,g2,g3,g4⟩:=h3.snoc
  cases g4
  refine ⟨j,v,x,h1,h2,g1,a,xs,k,u,e,rfl,g2,?_,r⟩
  have:=(a0q.mp g3).1
  exact L2.atI_nat g3
theorem RepL.at {K:a0a}{Z:Fp}{H:Hp}{m:M.Md}:∀ {ts:List M.T} {xs:List V} {G:Fp} {j:Nat} {t:M.T},RepL K Z H m ts xs G->ts[j]?=some t->∃ (x:V) (A B:Fp),xs[j]?=some x/\(∀ a,A a->G a)/\(∀ a,B a->G a)/\(∀ a,A a->¬ B a)/\Rep K Z H m t x A /\
  ∀ (t':M.T) (A':Fp),(∀ a,A' a->A a)->Rep K Z H m t' x A'->RepL K Z H m (ts.set j t') xs (fun a=>A' a\/B a)
 | [],_,_,_,_,_,e=>by simp at e
 | t0::ts,_,G,0,t,⟨x,r,A,B,e,h1,h2,hd,p,q⟩,e2=>by
  rw [a0X] at e2; cases e2
  refine ⟨x,A,B,by rw [e]; rfl,h1,h2,hd,p,fun t' A' w p'=>?_⟩
  exact ⟨x,r,A',B,e,fun _ z=>.inl z,fun _ z=>.inr z,fun a z=>hd a (w a z),p',q⟩
 | t0::ts,_,G,j+1,t,⟨x,r,A,B,e,h1,h2,hd,p,q⟩,e2=>by
  rw [a0v] at e2
  obtain ⟨y,A2,B2,g0,g1,g2,gd,gp,gq⟩:=RepL.at q e2
  refine ⟨y,A2,fun a=>A a\/B2 a,by rw [e,a0v]; exact g0,fun a z=>h2 a (g1 a z),fun a z=>z.elim (h1 a) fun z=>h2 a (g2 a z),fun a z w=>w.elim (fun w=>hd a w (g1 a z)) (gd a z),gp,fun t' A' w p'=>?_⟩
  refine ⟨x,r,A,fun a=>A' a\/B2 a,e,fun _ z=>.inr (.inl z),fun _ z=>z.imp id .inr,fun a z w'=>w'.elim (fun w'=>hd a z (g1 a (w a w'))) fun w'=>hd a z (g2 a w'),p,gq t' A' w p'⟩
theorem dW {K:a0a}{Z:Fp}{H:Hp}:∀ (p:List Nat) {m:M.Md} {t:M.T} {v:V} {G:Fp} {r:M.W×M.T},M.takeP p m t=some r->Rep K Z H m t v G ->
  ∃ u G1 G2,PathV K H p v u/\(∀ a,G1 a->G a)/\(∀ a,G2 a->G a)/\(∀ a,G1 a->¬ G2 a)/\Rep K Z H r.1.1 r.1.2 u G1/\Rep K Z H m r.2 v G2
 | [],m,t,v,G,r,e,h=>by
  cases e
  exact ⟨v,G,no,rfl,fun _ z=>z,fun _ z=>z.elim,fun _ _ z=>z,h,trivial⟩
 | j::p,m,.lst ts,v,G,r,e,⟨a,xs,ev,l,q,rl⟩=>by
  obtain ⟨t,e1,e2⟩:=a1w.mp (show (ts[j]?).bind _=some r from e)
  obtain ⟨r',e3,rfl⟩:=a1B.mp e2
  obtain ⟨x,A,B,g0,g1,g2,gd,gp,gq⟩:=rl.at e1
  obtain ⟨u,G1,G2,k1,k2,k3,kd,k4,k5⟩:=dW p e3 gp
  have hH:H a=some (.lst xs):=by cases m<;>exact q.2
  refine ⟨u,G1,fun b=>(G2 b\/B b)\/(G b/\b=a),⟨a,xs,x,ev,.inl (.inl (.inl hH)),g0,k1⟩,fun b z=>(g1 b (k2 b z)).1,fun b z=>z.elim (fun z=>z.elim (fun z=>(g1 b (k3 b z)).1) fun z=>(g2 b z).1) a12,fun b z w=>?_,k4,a,xs,ev,l,?_,?_⟩
  ·rcases w with (w | w) | w
   ·exact kd b z w
   ·exact gd b (k2 b z) w
   ·exact (g1 b (k2 b z)).2 w.2
  ·cases m with
   | s=>exact q
   | d=>exact ⟨.inr ⟨q.1,rfl⟩,q.2⟩
   | o _=>exact ⟨.inr ⟨q.1,rfl⟩,q.2⟩
  ·exact (gq _ G2 k3 k5).mono fun b z=>⟨.inl z,z.elim (fun z=>(g1 b (k3 b z)).2) fun z=>(g2 b z).2⟩
 | j::p,m,.tup ts,v,G,r,e,⟨a,xs,ev,q,l,rl⟩=>by
  obtain ⟨t,e1,e2⟩:=a1w.mp (show (ts[j]?).bind _=some r from e)
  obtain ⟨r',e3,rfl⟩:=a1B.mp e2
  obtain ⟨x,A,B,g0,g1,g2,gd,gp,gq⟩:=rl.at e1
  obtain ⟨u,G1,G2,k1,k2,k3,kd,k4,k5⟩:=dW p e3 gp
  refine ⟨u,G1,fun b=>G2 b\/B b,⟨a,xs,x,ev,.inr q,g0,k1⟩,fun b z=>g1 b (k2 b z),fun b z=>z.elim (fun z=>g1 b (k3 b z)) fun z=>g2 b z,fun b z w=>?_,k4,a,xs,ev,q,l,gq _ G2 k3 k5⟩
  exact w.elim (kd b z) (gd b (k2 b z))
 | _::_,_,.non,_,_,_,e,_=>by cases e
 | _::_,_,.bl _,_,_,_,e,_=>by cases e
 | _::_,_,.int _,_,_,_,e,_=>by cases e
 | _::_,_,.str _,_,_,_,e,_=>by cases e
 | _::_,_,.scr _,_,_,_,e,_=>by cases e
 | _::_,_,.dct _ _,_,_,_,e,_=>by cases e
 | _::_,_,.ins _ _ _,_,_,_,e,_=>by cases e
 | _::_,_,.gone,_,_,_,e,_=>by cases e
noncomputable def pW (Fs:Fps)(i:Nat)(G:Fp):Fps:=fun l a=>(l=i/\G a)\/(l≠i/\Fs l a)
theorem rK {K:a0a}{i j:Nat}{p:List Nat}(hs:sf i=some j)(σ:L2.St)(H:Hp)(Q:VK)(h:wE K sf C (.mvP i p) σ H Q):wP K sf i p σ H Q:=by
 obtain ⟨pv,Z,Fs,η,w,η',A,ev,k⟩:=h
 obtain ⟨r,h1,h2⟩:=aa (show (M.ofO ((M.rd η i).bind (M.takeW p))).bind (M.kMvP i η)=_ from ev)
 obtain ⟨⟨m,t⟩,e1,e2⟩:=a1w.mp (bH h1)
 obtain ⟨r',e3,rfl⟩:=a1B.mp (show (M.takeP p m t).map _=some r from e2)
 cases h2
 obtain ⟨v,rp,hv⟩:=A.env i m t e1
 obtain ⟨u,G1,G2,k1,k2,k3,kd,k4,k5⟩:=dW p e3 rp
 refine ⟨j,v,u,hs,hv.1 j hs,k1,k u Z H (pW Fs i G2) G1 ⟨⟨fun a ⟨l,hl⟩=>?_,fun l l' a hl hl'=>?_,A.gd.zal⟩,fun l m' t' e=>?_,fun a ha=>A.gd.own a ⟨i,k2 a ha⟩,fun a ha ⟨l,hl⟩=>?_,A.lk,A.ln⟩ k4 (bZ fun a ha=>?_)⟩
 ·rcases hl with ⟨_,hl⟩ | ⟨_,hl⟩
  ·exact A.gd.own a ⟨i,k3 a hl⟩
  ·exact A.gd.own a ⟨l,hl⟩
 ·have f:∀ l,pW Fs i G2 l a->Fs l a:=fun l hl=>by
   rcases hl with ⟨q,hl⟩ | ⟨_,hl⟩
   ·rw [q]; exact k3 a hl
   ·exact hl
  exact A.gd.dis l l' a (f l hl) (f l' hl')
 ·rw [aU] at e
  split at e
  ·rename_i hc
   obtain ⟨rfl,_⟩:=hc
   cases e
   exact ⟨v,k5.mono fun a z=>.inl ⟨rfl,z⟩,hv⟩
  ·rename_i hc
   have hli:l≠i:=fun z=>hc ⟨z,cx e1⟩
   obtain ⟨v',r',hv'⟩:=A.env l m' t' e
   exact ⟨v',r'.mono fun a z=>.inr ⟨hli,z⟩,hv'⟩
 ·rcases hl with ⟨_,hl⟩ | ⟨hi,hl⟩
  ·exact kd a ha hl
  ·exact hi (A.gd.dis l i a hl (k2 a ha))
 ·rcases ha with ⟨l,⟨_,hl⟩ | ⟨_,hl⟩⟩ | ha
  ·exact ⟨i,k3 a hl⟩
  ·exact ⟨l,hl⟩
  ·exact ⟨i,k2 a ha⟩
theorem yH (j:Nat){i:Nat}{p:List Nat}(ha:SP X sf ea i p)(hs:sf i=some j:=by rfl):SE X sf C ea (.mvP i p):=ah ha (rK hs)
end
end MR

namespace MR
open PySem PySem.Spec PyProof.Rows L2 L3
theorem fsc {N P:List Str}{sc:Scope}(h1:sc.kind=.function:=by rfl)(h2:sc.isCoroutine=false:=by rfl)(h3:sc.isGenerator=false:=by rfl)(h4:N.Nodup:=by decide +kernel)(h5:N.take P.length=P:=by rfl)(h6:∀ x∈P,sc.names.lookup x=some .local\/sc.names.lookup x=some .cell:=by decide +kernel)(h7:∀ y∈sc.names,y.2≠.free:=by decide +kernel):ao N P sc:=⟨h1,h2,h3,h4,h5,h6,h7⟩
theorem csc {pre ys:List Str}{scope:Scope}(h1:scope.kind=.function:=by rfl)(h2:∀ y∈scope.names,y.2≠.cell:=by decide +kernel)(h3:∀ y∈scope.names,y.2=.local->scope.names.lookup y.1=some .local:=by decide +kernel)(h4:∀ x∈pre,scope.names.lookup x=some .local:=by decide +kernel)(h5:(pre++ys).Nodup:=by decide +kernel):au pre ys scope:=⟨h1,h2,h3,h4,h5⟩
section
variable {P:Program}{w:World}{K:a0a}{mg:Str->Option Value}{base:Heap}{x:Str}{st:Stmt}{ps N:List Str}{n g:Nat}{io:List Nat}{C C':M.Call}{d:Value}{t:M.T}
structure Df (K:a0a)(mg:Str->Option Value)(x:Str)(st:Stmt)(ps:List Str):Prop where
 ex:∃ f fd,Fun K x x st f fd/\Binds K fd ps []/\mg x=some (.ref f)
theorem Df.ok (e:Df K mg x st ps)(h:∀ f fd,Fun K x x st f fd->cw P w K mg base CX0 n f fd ps (spS K C g io)):ae P w K mg base n C x g io:=by
 obtain ⟨f,fd,F,b,m⟩:=e.ex
 exact ⟨f,fd,ps,h f fd F,m,F.kp,b⟩
theorem Df.z (e:Df K mg x st ps)(hC:∀ ws,C g ws=.no:=by intro _; rfl):ae P w K mg base n C x g io:=e.ok fun _ _ _=>fn0 hC
theorem Df.s (fn:M.Fn)(e:Df K mg x st ps)(S:ao N ps (defScope st))
  (hb:∀ {f:Addr} {cdv:Value} {A:Around} {outer:List Env} {s:Shared} {H:Hp} {E:XK},Room n (A.deeper (envOfC x (defScope st) s.heap.objs.size f cdv))->SSs (fg CX0 P w K mg base N x (defScope st) f cdv A outer s H E).nox (slN N.length) fn.io C (defBody st) fn.body)
  (hC:∀ ws,C' g ws=M.runF C fn ws:=by intro _; rfl) (hps:fn.ps=ps.length:=by rfl) (hle:ps.length<=N.length:=by decide) (nd:fn.io.Nodup:=by decide) (hio:∀ i∈fn.io,i < ps.length:=by decide):ae P w K mg base (n+1) C' x g fn.io :=
 e.ok fun _ _ F=>Fun.okM F S hps hle nd hio (fun _ _ _ _ _ _ h=>hb h) hC
noncomputable def Raw (K:a0a)(x:Str)(st:Stmt)(dV:Value):Prop:=∃ f oc od sl kV dc pm an cd ct,a1R K mainGlobals x=some (some (.ref f))/\K.lookup f=some ⟨oc,od,.func (a07 x x (defArgs st) (defBody st) (defScope st) dV kV dc pm an cd ct),sl⟩/\a1T K cd x=true/\a1E K (.ref f)=true
theorem br {h:Heap}(X:K.In h)(G:h.Ns mainGlobals mg)(r:Raw K x st .none)(hb:∀ (kV doc pm:Value) (an:Option Addr) (cdv ct:Value) (us:List Value),us.length=ps.length->bindArgs (a07 x x (defArgs st) (defBody st) (defScope st) .none kV doc pm an cdv ct) ⟨us,[]⟩=pure (ps.zip us)):Df K mg x st ps:=by
 obtain ⟨f,oc,od,sl,kV,dc,pm,an,cd,ct,h1,h2,h3,h4⟩:=r
 have F:=mj (st:=st) h2 h3 h4
 exact ⟨f,_,F,F.binds hb,a13 X G h1⟩
theorem sA {h:Heap}{fa:Addr}{pr:Program}{k:Nat}{sp:Sp}(X:K.In h)(G:h.Ns mainGlobals mg)(hfa:mg "law"=some (.ref fa))(r:Raw K "law" st .none)(hb:∀ (kV dc pm:Value) (an:Option Addr) (cd ct:Value) (s:Shared) (v:Value),BindsTo s (a07 "law" "law" (defArgs st) (defBody st) (defScope st) .none kV dc pm an cd ct) ⟨[v],[]⟩ [("script",v)])
  (ok:∀ f fd,Fun K "law" "law" st f fd->∀ base,cw pr w K mg base CX0 k f fd ["script"] sp):∃ fd:FuncData,(∀ (s:Shared) (v:Value),BindsTo s fd ⟨[v],[]⟩ [("script",v)])/\∀ base:Heap,K.In base->base.Ns mainGlobals mg->cw pr w K mg base CX0 k fa fd ["script"] sp:=by
 obtain ⟨f,oc,od,sl,kV,dc,pm,an,cd,ct,h1,h2,h3,h4⟩:=r
 have e:=hfa.symm.trans (a13 X G h1)
 cases e
 exact ⟨_,hb kV dc pm an cd ct,fun base _ _=>ok _ _ (mj (st:=st) h2 h3 h4) base⟩
noncomputable def vd (K:a0a):List Str->Prop
 | []=>True
 | x::r=>a1R K mainGlobals x=some none/\vd K r
theorem uS {h:Heap}(X:K.In h)(G:h.Ns mainGlobals mg)(r:vd K ["isinstance","int","tuple","list","bool","sum","len","all","zip","range","enumerate","any","max","min","sorted","str","repr","abs","dict","set","reversed"]):Txt mg:=by
 obtain ⟨z1,z2,z3,z4,z5,z6,z7,z8,z9,z10,z11,z12,z13,z14,z15,z16,z17,z18,z19,z20,z21,_⟩:=r
 have m:=fun {x:Str} (z:a1R K mainGlobals x=some none)=>PySem.W.mg_none_of X G z
 exact ⟨m z1,m z2,m z3,m z4,m z5,m z6,m z7,m z8,m z9,m z10,m z11,m z12,m z13,m z14,m z15,m z16,m z17,m z18,m z19,m z20,m z21⟩
end
end MR

namespace MR
open PySem PySem.Spec PyProof.Rows L2 L3
section
variable {X:Cx}{sf sg:Nat->Option Nat}{C:M.Call}{pos p p2 p3:Pos}{ea eb ec:Expr}{a b c:M.E}{h:Bool}{n:Nat}{io:List Nat}{K:a0a}
theorem qI:Loc K 1 .int h fun xs H Q=>(∃ i,xs=[.int i]/\Q (.int i) H)\/∃ k,xs=[.bl k]/\Q (.int (if k then 1 else 0)) H:=by
 intro ws w xs Z H G Q hn e r ow za k
 match ws,hn with
 | [(m,a)],_ =>
  obtain ⟨x,rfl,r1⟩:=aS rfl r
  cases a with
  | int i=>cases e; exact .inl ⟨i,by rw [show x=_ from r1],aD k⟩
  | bl b=>cases e; exact .inr ⟨b,by rw [show x=_ from r1],by cases b<;>exact aD k⟩
  | _=>cases e
theorem yN (hm:X.mg "int"=none)(hg:Gl X "int":=by rfl)(ha:SE X sf C ea a)(hs:starEach [ea] X.env=(false,eval ea X.env)::starEach [] X.env:=by rfl)(hpl:(backTo pos (starEach [] X.env)).any (·.1)=false:=by rfl):SE X sf C (.Call (.Name "int" p) [ea] [] pos) (.op .int h [a]) :=
 ah (bW jV hg hm a0O (slc ha sl0 hs) (by decide) (by decide) hs hpl) (cW qI rfl)
end
end MR
namespace MR
open PySem PySem.Spec PyProof.Rows L2 L3
end MR
namespace MR
open PySem PySem.Spec PyProof.Rows L2 L3
end MR
namespace MR
open PySem PySem.Spec PyProof.Rows L2 L3
end MR
namespace MR
open PySem PySem.Spec PyProof.Rows L2 L3
end MR

namespace MR
open PySem PySem.W L2 M
end MR

namespace MR
open PySem PySem.Spec PyProof.Rows L2 L3 M
end MR

namespace L3
open PySem PySem.Spec PyProof.Rows L2
end L3
namespace MR
open PySem PySem.Spec PyProof.Rows L2 L3
end MR

namespace L3
open PySem PySem.Spec PyProof.Rows L2
end L3
namespace MR
open PySem PySem.Spec PyProof.Rows L2 L3
end MR

namespace L3
open PySem PySem.Spec PySem.NumText PyProof.Rows L2
theorem tP {i:Int}(h:i.natAbs < 10000000000000000000):i.natAbs.log2 < 1920:=by
 by_cases h0:i.natAbs=0
 ·rw [h0]; decide
 ·exact a0i ((Nat.log2_lt h0).mpr (show i.natAbs < 2 ^ 64 from a0i h (by decide))) (by decide)
theorem j6 {X:Cx}:bL X (.type "str") (fun xs H Q=>∃ i,xs=[.int i]/\i.natAbs < 10000000000000000000/\Q (.str (Str.ofString (toString i))) H):=by
 intro pins s σ H xs us Q I r h
 obtain ⟨i,rfl,hi,q⟩:=h
 obtain ⟨u,rfl,ru⟩:=dh r
 obtain ⟨t,rfl⟩:=ru
 exact PySem.P.str_of_int (tP hi) ⟨.str _,H,I.tok _,⟨_,rfl⟩,q⟩
theorem jJ (m:Nat):(Str.ofString (toString (a2V m))).cps.toList=45::(a00 10 (m+1)).map a0P:=by
 rw [signs_ofString]
 show ("-"++Nat.repr (m+1)).toList.map a0P=_
 rw [a2l,a2W]
 rfl
theorem i9 (m:Nat):AllDigits ((a00 10 m).map a0P)/\(a00 10 m).map a0P≠[]:=by
 refine ⟨fun c hc=>?_,fun e=>?_⟩
 ·obtain ⟨ch,hch,e⟩:=a0Z.mp hc
  have r:=digit_range (a1J (by decide) (by decide) hch)
  rw [<- e]
  exact r
 ·have h:=toDigits_len_ge 10 m
  rw [a1o.mp e] at h
  exact absurd h (by decide)
theorem gC {n:Int}(h:n.natAbs < 10000000000000000000):(Str.ofString (toString n)).length<=20:=by
 have h2:=int_text_length_le10 (a:=n) (k:=19) (by decide) h
 have:(Str.ofString (toString n)).length=(toString n).length:=by
  show (Str.ofString (toString n)).cps.size=_
  rw [<- a0E,signs_ofString,a0d,a1l]
 omega
theorem jt {n:Int}(h:n.natAbs < 10000000000000000000):PySem.intText? (a1S (toString n))=some n:=by
 have hl:=gC h
 cases n with
 | ofNat m =>
  obtain ⟨d1,d2⟩:=i9 m
  have e:=intText_digits (x:=a1S (toString ((m:Nat):Int))) (by rw [a1h]; exact d1) (by rw [a1h]; exact d2) (a0s hl (by decide))
  rw [a1h,a1m] at e
  exact e
 | negSucc m =>
  obtain ⟨d1,d2⟩:=i9 (m+1)
  have e:=intText_neg (x:=a1S (toString (a2V m))) (jJ m) d1 d2 (a0s hl (by decide))
  rw [a1m] at e
  exact e
theorem jN {X:Cx}:bL X (.type "int") (fun xs H Q=>∃ i:Int,xs=[.str (Str.ofString (toString i))]/\i.natAbs < 10000000000000000000/\Q (.int i) H):=by
 intro pins s σ H xs us Q I r h
 obtain ⟨i,rfl,hi,q⟩:=h
 obtain ⟨u,rfl,ru⟩:=dh r
 obtain ⟨t,rfl⟩:=ru
 exact PySem.W.KIN.call_text (jt hi) (a0s (gC hi) (by decide)) ⟨.int _,H,I.tok _,⟨_,rfl⟩,q⟩
noncomputable def spJ (c:Nat)(ls:List (List Nat)):List a02:=ls.map fun l=>⟨l.toArray⟩
theorem iJ (c:Nat):∀ (xs acc:List Nat),M.spl c acc xs≠[]
 | [],acc=>a0M _ _
 | x::xs,acc=>by
  unfold M.spl
  split
  ·exact a0M _ _
  ·exact iJ c xs _
theorem dG (c:Nat):∀ (xs acc:List Nat),c ∉ acc->∀ l∈M.spl c acc xs,c ∉ l
 | [],acc,h,l,hl=>by rw [a0r.mp hl]; exact h
 | x::xs,acc,h,l,hl=>by
  unfold M.spl at hl
  split at hl
  ·rcases a0w.mp hl with rfl | hl
   ·exact h
   ·exact dG c xs [] (by simp) l hl
  ·rename_i hx
   refine dG c xs _ (fun z=>?_) l hl
   rcases a0L.mp z with z | z
   ·exact h z
   ·exact hx (a0r.mp z).symm
theorem bx (c:Nat):∀ (xs acc:List Nat),(a0o ⟨#[c]⟩ (spJ c (M.spl c acc xs))).cps.toList=acc++xs
 | [],acc=>by rw [a0p]; rfl
 | x::xs,acc=>by
  unfold M.spl
  split
  ·rename_i hx
   have ih:=bx c xs []
   obtain ⟨y,r,e⟩:∃ y r,M.spl c [] xs=y::r:=by
    cases h:M.spl c [] xs with
    | nil=>exact absurd h (iJ c xs [])
    | cons y r=>exact ⟨y,r,rfl⟩
   rw [e] at ih ⊢
   show ((⟨acc.toArray⟩:a02)++⟨#[c]⟩++a0o ⟨#[c]⟩ (spJ c (y::r))).cps.toList=_
   rw [aJ,aJ,ih,hx]
   simp
  ·rw [bx c xs (acc++[x]),a0n]; rfl
theorem jx (x:a02):PySem.Txt.split x (Str.ofString " ")=M.splS x:=by
 have hc:Str.ofString " "=⟨#[32]⟩:=by decide +kernel
 rw [hc]
 have e1:a0o ⟨#[32]⟩ (M.splS x)=x:=by
  have:=bx 32 x.cps.toList []
  cases x with
  | mk a =>
   have h2:(a0o ⟨#[32]⟩ (M.splS ⟨a⟩)).cps.toList=a.toList:=this
   generalize a0o ⟨#[32]⟩ (M.splS ⟨a⟩)=u at h2
   cases u
   exact congrArg a2i (a1F.mp h2)
 refine gb 32 _ _ (kh _ _) (fun z=>iJ 32 _ _ (a1o.mp z)) (StrLaws.split_free _ 32) (fun p hp=>?_) ((StrLaws.join_split _ _).trans e1.symm)
 obtain ⟨l,hl,rfl⟩:=a0Z.mp hp
 exact dG 32 _ _ a1c l hl
theorem jD {z:a02}{ss:List a02}(h:(ss.map fun s=>s.cps.size+z.cps.size).sum<=M.LIM):JoinOk z ss=true:=by
 have e:∀ (l:List a02) (a:Nat),l.foldl (fun a s=>a+s.length+z.length) a=a+(l.map fun s=>s.cps.size+z.cps.size).sum:=by
  intro l
  induction l with
  | nil=>intro a; rfl
  | cons s l ih =>
   intro a
   rw [a2Q,ih,a0u,a14]
   show a+s.cps.size+z.cps.size+_=_
   omega
 unfold JoinOk
 rw [show ss.toArray.foldl (·+·.length+z.length) 0=ss.foldl (fun a s=>a+s.length+z.length) 0 from List.foldl_toArray ..,e,a2D]
 unfold Builtin.Str.tooLong
 have:¬ (ss.map fun s=>s.cps.size+z.cps.size).sum > sizeLine:=by
  have:=MR.LIM_le h
  omega
 rw [decide_eq_false this]; rfl
theorem sC {X:Cx}{body:List Stmt}{h0:ExceptHandler}{hs:List ExceptHandler}{pos:Pos}{t:TS}(hx:∀ v s,X.xe v s->False)(hb:PSs X body t):PS X (.Try body (h0::hs) [] [] pos) t:=by
 intro pins s σ H D I h
 refine wpAny_Try_except (wpAny_mono (hb pins s σ H D I h) (fun f s1 q=>?_) fun e s1 q=>(hx _ _ q).elim)
 cases f with
 | next=>exact wpAny_execs_nil q
 | brk=>exact q
 | cont=>exact q
 | ret u=>exact q
end L3
namespace MR
open PySem PySem.Spec PyProof.Rows L2 L3
section
variable {X:Cx}{sf sg:Nat->Option Nat}{C:M.Call}{pos p p2 p3:Pos}{ea eb ec:Expr}{a b c:M.E}{h:Bool}{n:Nat}{io:List Nat}{K:a0a}
theorem y8 {body:List Stmt}{h0:ExceptHandler}{hs:List ExceptHandler}{s:List M.S}(ha:SSs X sf io C body s)(hx:∀ v s,X.xe v s->False:=by exact fun _ _ z=>z):SS X sf io C (.Try body (h0::hs) [] [] pos) (.tri s):=b6 (sC hx ha) fun D σ H hw=>hw
theorem ov:Loc K 1 .str h fun xs H Q=>∃ i,xs=[.int i]/\i.natAbs < 10000000000000000000/\Q (.str (Str.ofString (toString i))) H:=by
 intro ws w xs Z H G Q hn e r ow za k
 match ws,hn with
 | [(m,a)],_ =>
  obtain ⟨x,rfl,r1⟩:=aS rfl r
  cases a with
  | int i =>
   have e2:(if decide (i.natAbs < 10000000000000000000)=true then some ((.d,.str (M.strI i)):M.W) else none)=some w:=e
   split at e2
   ·rename_i hb
    cases e2
    have hb:=of_decide_eq_true hb
    refine ⟨i,by rw [show x=_ from r1],hb,c9 k (jf _ ?_)⟩
    have:=int_text_length_le10 (a:=i) (k:=19) (by decide) hb
    omega
   ·cases e2
  | _=>cases e
theorem vB (hm:X.mg "str"=none)(hg:Gl X "str":=by rfl)(ha:SE X sf C ea a)(hs:starEach [ea] X.env=(false,eval ea X.env)::starEach [] X.env:=by rfl)(hpl:(backTo pos (starEach [] X.env)).any (·.1)=false:=by rfl):SE X sf C (.Call (.Name "str" p) [ea] [] pos) (.op .str h [a]) :=
 ah (bW j6 hg hm a2j (slc ha sl0 hs) (by decide) (by decide) hs hpl) (cW ov rfl)
theorem lW:Loc K 1 .intS h fun xs H Q=>∃ i:Int,xs=[.str (Str.ofString (toString i))]/\i.natAbs < 10000000000000000000/\Q (.int i) H:=by
 intro ws w xs Z H G Q hn e r ow za k
 match ws,hn with
 | [(m,a)],_ =>
  obtain ⟨x,rfl,r1⟩:=aS rfl r
  cases a with
  | str y =>
   have e2:(if (decide ((M.decI y).natAbs < 10000000000000000000)&&(M.strI (M.decI y)==y))=true then some ((.d,.int (M.decI y)):M.W) else none)=some w:=e
   split at e2
   ·rename_i hb
    cases e2
    rw [a0m] at hb
    have h2:M.strI (M.decI y)=y:=eq_of_beq hb.2
    refine ⟨M.decI y,?_,of_decide_eq_true hb.1,aD k⟩
    rw [show x=.str y from r1.1]
    show [V.str y]=[V.str (M.strI (M.decI y))]
    rw [h2]
   ·cases e2
  | _=>cases e
theorem xG (hm:X.mg "int"=none)(hg:Gl X "int":=by rfl)(ha:SE X sf C ea a)(hs:starEach [ea] X.env=(false,eval ea X.env)::starEach [] X.env:=by rfl)(hpl:(backTo pos (starEach [] X.env)).any (·.1)=false:=by rfl):SE X sf C (.Call (.Name "int" p) [ea] [] pos) (.op .intS h [a]) :=
 ah (bW jN hg hm a0O (slc ha sl0 hs) (by decide) (by decide) hs hpl) (cW lW rfl)
theorem kI {Z:Fp}{H:Hp}{G:Fp}{m:M.Md}:∀ {ts:List M.T} {ss:List Str} {xs:List V},M.strsOf ts=some ss->RepL K Z H m ts xs G->xs=ss.map V.str:=by
 intro ts
 induction ts generalizing G with
 | nil=>intro ns xs e r; cases e; exact r
 | cons t ts ih =>
  intro ns xs e r
  obtain ⟨x,r',G1,G2,rfl,_,_,_,p,q⟩:=r
  cases t with
  | str i =>
   cases e1:M.strsOf ts with
   | none=>simp [M.strsOf,e1] at e
   | some ms =>
    have:ns=i::ms:=by simpa [M.strsOf,e1] using e.symm
    subst this
    rw [a0u,<- ih e1 q,show x=.str i from p.1]
  | _=>cases e
theorem lj {Z:Fp}{H:Hp}{m:M.Md}:∀ {ss:List Str},(∀ x∈ss,M.sOk x=true)->RepL K Z H m (ss.map M.T.str) (ss.map V.str) no
 | [],_=>rfl
 | x::ss,h=>⟨.str x,ss.map V.str,no,no,rfl,fun _ z=>z.elim,fun _ z=>z.elim,fun _ z=>z.elim,⟨rfl,h x a0c⟩,lj fun y hy=>h y (a0e _ hy)⟩
theorem my {o:M.Op}{e1 e2:M.E}{T:String}{r:V->List V->Hp->VK->Prop}(ty:∀ {m:M.Md} {t:M.T} {w2 w:M.W} {x:V} {Z:Fp} {H:Hp} {G:Fp},M.oSem o h [(m,t),w2]=some w->Rep K Z H m t x G->tyV K T x H)
  (l:Loc K 2 o h fun xs H Q=>∀ x y,xs=[x,y]->r x [y] H Q) (σ:L2.St) (H:Hp) (Q:VK) (hw:wE K sf C (.op o h [e1,e2]) σ H Q):tBM K T r (wE K sf C e1) (wL K sf C [e2]) σ H Q:=by
 obtain ⟨pv,Z,Fs,η,w,η',A,ev,k⟩:=hw
 obtain ⟨ws,h1,h2⟩:=bM ev
 obtain ⟨⟨m,t⟩,η1,us,g1,g2,rfl⟩:=av h1
 obtain ⟨wb,η2,us,g3,g4,rfl⟩:=av g2
 cases g4
 refine fS A g1 fun x Z1 H1 Fs1 G1 A1 r1 _ s1 _=>?_
 have A1':=A1.mono (G':=G1) fun _ z=>.inr z
 refine ⟨ty h2 r1,?_⟩
 refine wy A1' g2 fun vs Z2 H2 Fs2 G2 A2 r2 d2 s2 t2=>?_
 obtain ⟨y,rfl,ry⟩:=aS rfl r2
 exact l [(m,t),wb] w [x,y] Z2 H2 _ Q rfl h2 ⟨x,[y],G1,G2,rfl,fun _ z=>.inl z,fun _ z=>.inr z,d2,r1.frame A1.gd.own s2 A1'.dis,r2⟩ A2.own A2.gd.zal (bw A2 (s1.trans t2) k) x y rfl
theorem ku:Loc K 2 .join h fun xs H Q=>∀ x y,xs=[x,y]->rf K x [y] H Q:=by
 intro ws w xs Z H G Q hn e r ow za k x y hx
 match ws,hn with
 | [(m,a),(m2,b)],_ =>
  subst hx
  obtain ⟨x',r',G1,G2,e0,g1,g2,gd,p1,p2⟩:=r
  cases e0
  obtain ⟨y',e1,p3⟩:=aS rfl p2
  cases e1
  cases a with
  | str z =>
   cases b with
   | lst ts =>
    have e2:((M.strsOf ts).bind fun ss=>if (M.sOk (Str.join z ss)&&decide ((ss.map fun s=>s.cps.size+z.cps.size).sum<=M.LIM))=true then some ((.d,.str (Str.join z ss)):M.W) else none)=some w:=e
    cases e3:M.strsOf ts with
    | none=>rw [e3] at e2; cases e2
    | some ss =>
     rw [e3] at e2
     have e4:(if (M.sOk (Str.join z ss)&&decide ((ss.map fun s=>s.cps.size+z.cps.size).sum<=M.LIM))=true then some ((.d,.str (Str.join z ss)):M.W) else none)=some w:=e2
     split at e4
     ·rename_i hb
      cases e4
      rw [a0m] at hb
      obtain ⟨q,xs,hq,hs,hl,pr⟩:=aX p3
      rw [kI e3 pr] at hs
      exact ⟨z,q,ss,p1.1,by rw [hq],.inl (.inl hs),jD (of_decide_eq_true hb.2),c9 k hb.1⟩
     ·cases e4
   | _=>cases e
  | _=>cases e
theorem jE:Loc K 2 .split h fun xs H Q=>∀ x y,xs=[x,y]->kG x [y] H Q:=by
 intro ws w xs Z H G Q hn e r ow za k x y hx
 match ws,hn with
 | [(m,a),(m2,b)],_ =>
  subst hx
  obtain ⟨x',r',G1,G2,e0,g1,g2,gd,p1,p2⟩:=r
  cases e0
  obtain ⟨y',e1,p3⟩:=aS rfl p2
  cases e1
  cases a with
  | str z =>
   cases b with
   | str y =>
    have e4:(if ((y==Str.ofString " ")&&decide (z.cps.size+2<=M.LIM)&&(M.splS z).all M.sOk)=true then some ((.d,.lst ((M.splS z).map M.T.str)):M.W) else none)=some w:=e
    split at e4
    ·rename_i hb
     cases e4
     rw [a0m,a0m] at hb
     have hy:y=Str.ofString " ":=eq_of_beq hb.1.1
     have hz:=of_decide_eq_true hb.1.2
     have hl:(M.splS z).length<=M.LIM:=by
      have:∀ (xs acc:List Nat),(M.spl 32 acc xs).length<=xs.length+1:=by
       intro xs
       induction xs with
       | nil=>intro acc; exact a0j _
       | cons x xs ih =>
        intro acc
        unfold M.spl
        split
        ·rw [a0k,a0k]; have:=ih []; omega
        ·rw [a0k]; have:=ih (acc++[x]); omega
      have h2:=this z.cps.toList []
      have h3:z.cps.toList.length=z.cps.size:=a0E
      unfold M.splS
      rw [a0d]
      omega
     refine ⟨z,y,p1.1,congrArg (fun v=>[v]) p3.1,by rw [hy]; decide +kernel,LIM_le hz,fun p hp=>?_⟩
     rw [hy,jx]
     exact bg (G':=no) ow za (fun _ z=>z.elim) (by rw [a0d]; exact hl) (lj fun x hx=>a0W.mp hb.2 x hx) (by simp) k hp
    ·cases e4
   | _=>cases e
  | _=>cases e
theorem pT:Loc K 2 .apd h fun xs H Q=>∀ x y,xs=[x,y]->iS x [y] H Q:=by
 intro ws w xs Z H G Q hn e r ow za k x y hx
 match ws,hn with
 | [(m,a),(m2,b)],_ =>
  subst hx
  obtain ⟨x',r',G1,G2,e0,g1,g2,gd,p1,p2⟩:=r
  cases e0
  obtain ⟨y',e1,p3⟩:=aS rfl p2
  cases e1
  cases a with
  | lst ts =>
   have e4:(if (m==.s)=true then none else if decide (ts.length < M.LIM)=true then some ((.d,.non):M.W) else none)=some w:=e
   split at e4
   ·cases e4
   ·rename_i hm
    split at e4
    ·rename_i hlt
     cases e4
     have hlt:=of_decide_eq_true hlt
     have hm:m≠.s:=fun z=>hm (by rw [z]; rfl)
     obtain ⟨q,xs,hq,hl,hL,pr⟩:=p1
     obtain ⟨hg,hh⟩:=(LstR.own hm).mp hL
     have e5:=pr.length
     refine ⟨q,xs,y,hq,rfl,hh,fI (by omega),?_⟩
     refine k _ Z _ no rfl bo ⟨fun a o ho hn=>?_,fun _ z=>z,fun _ z=>.inl z,fun _ z=>z.elim,fun a ha=>?_,fun z a ha=>?_⟩
     ·rw [ab (fun z=>hn (by rw [z]; exact g1 _ hg))]; exact ho
     ·by_cases hz:a=q
      ·rw [hz,aq]; simp
      ·rw [ab hz]; exact ha
     ·by_cases hz:a=q
      ·rw [hz,aq]; simp
      ·rw [ab hz]; exact z a ha
    ·cases e4
  | _=>cases e
section
variable {apos cpos:Pos}
theorem gO (ha:SE X sf C ea a)(hb:SE X sf C eb b)(hs:starEach [eb] X.env=(false,eval eb X.env)::starEach [] X.env:=by rfl)
  (hbase:attributeBase ea "join" X.env (eval ea X.env)=eval ea X.env:=by rfl) (hline:(apos.endLine==cpos.line)=true:=by rfl) (hplain:(backTo cpos (starEach [] X.env)).any (·.1)=false:=by rfl)
  (hfew:((backTo cpos (starEach [eb] X.env)).all (fun x=>!x.1)&&(backToKw cpos (keywordEach [] X.env)).all (fun x=>x.1.isSome)&&decide ([eb].length+([]:List Keyword).length+(if ([]:List Keyword).isEmpty then 0 else 1) < 30))=true:=by rfl):SE X sf C (.Call (.Attribute ea "join" apos) [eb] [] cpos) (.op .join h [a,b]) :=
 ah (gL a2b PySem.F.slot_str_join PySem.F.type_str_join pd ha (slc hb sl0 hs) hbase hfew hline hs hplain) (my (fun {m t w2 w x Z H G} e r=>by
  cases t with
  | str z=>rw [show x=_ from r.1]; exact rfl
  | _=>cases e) ku)
theorem uJ (ha:SE X sf C ea a)(hb:SE X sf C eb b)(hs:starEach [eb] X.env=(false,eval eb X.env)::starEach [] X.env:=by rfl)
  (hbase:attributeBase ea "split" X.env (eval ea X.env)=eval ea X.env:=by rfl) (hline:(apos.endLine==cpos.line)=true:=by rfl) (hplain:(backTo cpos (starEach [] X.env)).any (·.1)=false:=by rfl)
  (hfew:((backTo cpos (starEach [eb] X.env)).all (fun x=>!x.1)&&(backToKw cpos (keywordEach [] X.env)).all (fun x=>x.1.isSome)&&decide ([eb].length+([]:List Keyword).length+(if ([]:List Keyword).isEmpty then 0 else 1) < 30))=true:=by rfl):SE X sf C (.Call (.Attribute ea "split" apos) [eb] [] cpos) (.op .split h [a,b]) :=
 ah (gL a2b PySem.F.slot_str_split PySem.F.type_str_split ml ha (slc hb sl0 hs) hbase hfew hline hs hplain) (my (fun {m t w2 w x Z H G} e r=>by
  cases t with
  | str z=>rw [show x=_ from r.1]; exact rfl
  | _=>cases e) jE)
theorem y9 (ha:SE X sf C ea a)(hb:SE X sf C eb b)(hs:starEach [eb] X.env=(false,eval eb X.env)::starEach [] X.env:=by rfl)
  (hbase:attributeBase ea "append" X.env (eval ea X.env)=eval ea X.env:=by rfl) (hline:(apos.endLine==cpos.line)=true:=by rfl) (hplain:(backTo cpos (starEach [] X.env)).any (·.1)=false:=by rfl)
  (hfew:((backTo cpos (starEach [eb] X.env)).all (fun x=>!x.1)&&(backToKw cpos (keywordEach [] X.env)).all (fun x=>x.1.isSome)&&decide ([eb].length+([]:List Keyword).length+(if ([]:List Keyword).isEmpty then 0 else 1) < 30))=true:=by rfl):SE X sf C (.Call (.Attribute ea "append" apos) [eb] [] cpos) (.op .apd h [a,b]) :=
 ah (gL a1v a1Y a1Z eM ha (slc hb sl0 hs) hbase hfew hline hs hplain) (my (fun {m t w2 w x Z H G} e r=>by
  cases t with
  | lst z =>
   obtain ⟨l,xs,hq,hs,hl,q⟩:=aX r
   rw [hq]
   exact .inl ⟨rfl,_,.inl (.inl hs)⟩
  | _=>cases e) pT)
end
end
end MR

namespace TP
open PySem PySem.W
noncomputable def en (P:Params)(k:Str)(t:Nat)(v:Value):DictEntry:=⟨PyData.keyHash P k,.str k t,v⟩
noncomputable def tu (xs:List Value):Obj:=⟨.type "tuple",none,.seq xs.toArray 0,#[]⟩
noncomputable def fe (xs:List Value):Obj:=⟨.none,none,.fields xs.toArray,#[]⟩
noncomputable def di (es:List DictEntry)(n:Nat):Obj:=⟨.type "dict",none,.dict es.toArray n,#[]⟩
noncomputable abbrev fl:Str:="/claim/cut.py"
noncomputable def iv (i:Int):Value:=.int i 0
noncomputable def cdo (n q:Str)(t t2:Nat)(ln ac:Nat)(f:Nat)(a:Nat)(b:Bool)(x y z:Value):Obj :=
 ⟨.type "code",none,.fields #[.str n t,.str q (t+1),.str fl (t+2),iv ln,iv ac,iv 0,iv 0,iv f,.ref a,.bool b,iv 181,.ref (a+1),.none,x,y,z,iv t2,iv ln,.str fl (t2+1)],#[]⟩
noncomputable def ofn (c:Value)(st:Stmt)(q:Str)(g:Nat)(d m:Value)(cd:Value):Obj:=match st with
 | .FunctionDef n ar b _ _ _ sc _ _ _=>⟨c,none,.func { name:=n,qualname:=q,params:=ar,body:=.stmts b,scope:=sc,globals:=g,closure:=[],defaults:=d,kwdefaults:=.none,pyModule:=m,code:=cd },#[]⟩
 | _=>default
noncomputable def tks:List Str->Nat->List Value
 | [],_=>[]
 | x::r,t=>.str x t::tks r (t+1)
structure R where
 os:List Obj
 ns:List DictEntry
 tb:List Value
 n:Nat
 tk:Nat
 md:Value
inductive Rc where
 | d | m | c
 | x (k:Str) (kt:Nat) (v:Value) (os:Params->List Obj) (tb:List Value) (n tk:Nat)
noncomputable def cv:Expr->Value
 | .Constant (.bool b) _ _=>.bool b
 | _=>.none
noncomputable def dO (P:Params)(n tk:Nat)(md:Value)(st:Stmt):R:=match st with
 | .FunctionDef nm ar b _ _ _ sc _ _ pos =>
  let pr:List Obj×Value×Nat:=match ar.defaults with
   | []=>([],.none,n)
   | ds=>([tu (ds.map cv)],.ref n,n+1)
  let a:=pr.2.2
  match localNames ar sc (.stmts b) with
  | none=>⟨pr.1++[tu [],fe [],ofn .none st nm 0 .none .none .none,cdo nm nm tk (tk+3) pos.line ar.args.length 3 a true .none .none (.ref (a+2)),ofn (.type "function") st nm 3 pr.2.1 md (.ref (a+3))],
    [en P nm (tk+5) (.ref (a+4))],[iv pos.line,iv pos.col,.ref (a+3)],a+5,tk+6,md⟩
  | some l =>
   let k:=l.1.length
   let j:=l.2.length
   ⟨pr.1++[tu [],fe [],tu (tks l.1 (tk+3)),tu (tks l.2 (tk+3+k)),ofn .none st nm 0 .none .none .none,cdo nm nm tk (tk+3+k+j) pos.line ar.args.length 3 a true (.ref (a+2)) (.ref (a+3)) (.ref (a+4)),ofn (.type "function") st nm 3 pr.2.1 md (.ref (a+5))],
    [en P nm (tk+5+k+j) (.ref (a+6))],[iv pos.line,iv pos.col,.ref (a+5)],a+7,tk+6+k+j,md⟩
 | _=>⟨[],[],[],n,tk,md⟩
noncomputable def one (P:Params)(n tk:Nat)(md:Value)(st:Stmt):Rc->R
 | .d=>dO P n tk md st
 | .m=>match st with
  | .Assign _ (.Constant (.str s) _ _) _=>⟨[],[],[],n,tk+2,.str s tk⟩
  | _=>⟨[],[],[],n,tk,md⟩
 | .c=>match st with
  | .Assign (.Name x _::_) (.Constant (.str s) _ _) _=>⟨[],[en P x (tk+1) (.str s tk)],[],n,tk+2,md⟩
  | .Assign (.Name x _::_) (.Constant (.int i) _ _) _=>⟨[],[en P x (tk+1) (.int i tk)],[],n,tk+2,md⟩
  | _=>⟨[],[],[],n,tk,md⟩
 | .x k kt v os tb n' tk'=>⟨os P,[en P k kt v],tb,n',tk',md⟩
noncomputable def go (P:Params):List (Stmt×Rc)->Nat->Nat->Value->List R
 | [],_,_,_=>[]
 | (st,r)::l,n,tk,md=>let x:=one P n tk md st r
  x::go P l x.n x.tk x.md
noncomputable def v5 (x:R):List R->R
 | []=>x
 | y::l=>v5 y l
noncomputable def ds:Data->List DictEntry
 | .dict es _=>es.toList
 | _=>[]
noncomputable def ep:Data->Nat
 | .dict _ n=>n
 | _=>0
noncomputable def r0:R:=⟨[],[],[],15,187,.str "__main__" 164⟩
noncomputable def rs (P:Params)(l:List (Stmt×Rc)):List R:=go P l 15 187 (.str "__main__" 164)
noncomputable def o3 (P:Params)(l:List R):Obj:=di (en P "__name__" 165 (v5 r0 l).md::((ds (boot_o_3 P).data).tail++l.flatMap R.ns)) (ep (boot_o_3 P).data+(l.flatMap R.ns).length)
noncomputable def os (P:Params)(l:List R):List Obj :=
 boot_o_0 P::boot_o_1 P::boot_o_2 P::o3 P l::boot_o_4 P::boot_o_5 P::boot_o_6 P::boot_o_7 P::boot_o_8 P::boot_o_9 P::boot_o_10 P ::
 tu []::fe (l.flatMap R.tb)::cdo "<module>" "<module>" 182 185 1 0 0 11 false .none .none .none ::
 ⟨.type "frame",none,.plain,#[some (.ref 13),some (.ref 3),some (.ref 3),none,some (.str "__main__" 164),none,some (.ref 0)]⟩::l.flatMap R.os
noncomputable def odd {α:Type}:List α->List α×List α
 | []=>([],[])
 | x::l=>(x::(odd l).2,(odd l).1)
noncomputable def bt:Nat->List Obj->BT
 | 0,_=>.nil
 | _+1,[]=>.nil
 | k+1,x::l=>.node x (bt k (odd l).1) (bt k (odd l).2)
noncomputable abbrev p0:Pos:=⟨0,0,0,0⟩
noncomputable abbrev B0:List Frame:=[topFrame p0]
noncomputable abbrev an:Option Value:=some (.ref 6)
noncomputable def ev (p:Program):Env:={ scope:=p.main.scope,locals:=mainNs,globals:=mainNs,cells:=[],code:=.ref 13,frame:=some 14 }
noncomputable def cE (p:Program):Code:=.body (behindTheImports p) (ev p)
noncomputable def sT (p:Program)(rc:List Rc)(P:Params)(m n tk:Nat)(o:OsState):SharedT:=⟨bt 12 (os P (rs P ((p.main.body.zip rc).take m))),n,{},#[],{},tk,o⟩
noncomputable def hp (p:Program)(rc:List Rc)(m n:Nat)(P:Params):Heap:=absHeap (bt 12 (os P (rs P ((p.main.body.zip rc).take m)))) n {}
noncomputable def Cut (p:Program)(rc:List Rc)(i n t:Nat)(ps:Pos)(k N n' t':Nat)(ps':Pos)(w:World):Prop:=∀ o,segRunT treeTable p w 11 an 1 N (sT p rc w.params i n t o) (piecesOf ((p.main.body.drop i).take k) (ev p) (cE p) ps B0)=some (.next,sT p rc w.params (i+k) n' t' o,cE p,ps')
noncomputable def Ch (p:Program)(rc:List Rc)(m n1 t1:Nat)(i n t:Nat)(ps:Pos)(M:Nat):Prop:=∀ w o,topRun treeTable p w 11 an M (sT p rc w.params i n t o).abs (restOf (p.main.body.drop i) (ev p) (cE p) ps B0)=some (sT p rc w.params m n1 t1 o).abs
theorem fk {p:Program}{rc:List Rc}{m n1 t1 i n t k N n' t' M:Nat}{ps ps':Pos}(c:∀ w,Cut p rc i n t ps k N n' t' ps' w)(h:Ch p rc m n1 t1 (i+k) n' t' ps' M):Ch p rc m n1 t1 i n t ps (N+M):=fun w o=>by
 have x:=piece_app (segRun_of (c w o)) (h w o)
 rw [<- List.drop_drop,List.take_append_drop] at x
 exact x
theorem t7 {p:Program}{rc:List Rc}{m n1 t1:Nat}{ps:Pos}(hd:p.main.body.drop m=[]):Ch p rc m n1 t1 m n1 t1 ps 2:=fun w o=>by
 rw [hd]
 exact piece_nil rfl
theorem qt (w:World):((boot_heap w.params).isNs mainGlobals&&(a27 []:Array GenState).size==0,(boot_heap w.params).objs.size,(boot_heap w.params).nsMap mainGlobals "__annotations__")=(true,11,an):=by kernel_rfl
theorem qH {p q:Program}{loose:List Str}{Xt:Shared->Bool}{α:Type}{Yf:Shared->α}{Ya:World->α}{N M m n1 t1:Nat}{rc:List Rc}
  (e:opening p=plainProg p.main.scope.names) (hN:Nat.ble 600 N=true) (f:∀ s,fenceModules? p s=some s) (hb:behindTheImports p=p.main.body)
  (size:∀ w:World,((boot_heap w.params).isNs mainGlobals&&(a27 []:Array GenState).size==0,(boot_heap w.params).objs.size,(boot_heap w.params).nsMap mainGlobals "__annotations__")=(true,11,an))
  (pre:∀ (w:World) (o:OsState),topGo treeTable p w 11 an 12 ⟨boot_heap w.params,a27 [],boot_drawn,boot_toks,o⟩ (topStub p)=some ((sT p rc w.params 0 15 187 o).abs,⟨denote treeTable (cE p),cE p,p0,B0⟩))
  (blk:∀ (w:World) (o:OsState),segRun treeTable p w 11 an 1 1 (sT p rc w.params 0 15 187 o).abs (blockOf (behindTheImports p) (ev p) (cE p) p0 B0)=some (.next,(sT p rc w.params 0 15 187 o).abs,cE p,p0))
  (ch:Ch p rc m n1 t1 0 15 187 p0 M) (le:Nat.ble (12+(1+M)) N=true)
  (looks:∀ w:World,(fun o=>((staticsOk (importedModules p.main.body) (boot_heap w.params) (hp p rc m n1 w.params)&&namesBound p (hp p rc m n1 w.params)&&gensDone ⟨hp p rc m n1 w.params,#[],{},t1,o⟩&&laidKept (boot_heap w.params) (hp p rc m n1 w.params)),
    openSeen q loose (importedModules p.main.body) Xt true ⟨hp p rc m n1 w.params,#[],{},t1,o⟩,Yf ⟨hp p rc m n1 w.params,#[],{},t1,o⟩))=fun _=>(true,openGood q loose,Ya w)):LeftO p q loose Xt Yf Ya N :=
 LeftO.of_pieces (H₀:=boot_heap) (H₁:=hp p rc m n1) (gs₁:=#[]) (d₁:={}) (k₁:=t1) (boot_open e hN f) size
  (fun w o=>go_top (pre w o) (piece_block (blk w o) (by have x:=ch w o; rw [a20,<- hb] at x; exact x))) le looks
noncomputable def cb (st:Stmt)(j:Nat):Stmt:=match st with
 | .ClassDef _ _ _ b _ _ _ _ _ _ _=>b.getD j st
 | _=>st
noncomputable def drec (st:Stmt):PySem.DefRec:=match st with
 | .FunctionDef n a b _ _ _ sc _ _ pos=>⟨n,a,b,sc,pos⟩
 | _=>⟨default,default,[],default,default⟩
theorem c8 {α:Type}:∀ (l:List α) (i:Nat),(odd l).1[i]?=l[2 * i]?/\(odd l).2[i]?=l[2 * i+1]?
 | [],i=>by simp [odd]
 | x::l,i=>by
  refine ⟨?_,?_⟩
  ·cases i with
   | zero=>simp [odd]
   | succ j=>rw [show 2 * (j+1)=2 * j+1+1 by omega]; simp only [odd,a0v]; exact (c8 l j).2
  ·simp only [odd,a0v]; exact (c8 l i).1
theorem jb {α:Type}:∀ (l:List α),(odd l).1.length=(l.length+1) / 2/\(odd l).2.length=l.length / 2
 | []=>by simp [odd]
 | x::l=>by
  have h:=jb l
  simp only [odd,a0k,h.1,h.2]
  exact ⟨by omega,trivial⟩
theorem iy:∀ (k:Nat) (l:List Obj) (a:Nat),l.length < 2 ^ k->(bt k l).get a=l[a]?
 | 0,l,a,h=>by
  have:l=[]:=List.length_eq_zero_iff.mp (by simpa using h)
  subst this; simp [bt,BT.get]
 | k+1,[],a,h=>by simp [bt,BT.get]
 | k+1,x::l,a,h=>by
  have e:2 ^ (k+1)=2 * 2 ^ k:=by rw [Nat.pow_succ]; omega
  have hl:=jb l
  simp only [a0k] at h
  unfold bt
  rw [BT.get_node]
  by_cases h0:a=0
  ·simp [h0]
  ·rw [if_neg h0]
   by_cases h1:a % 2=1
   ·rw [if_pos h1,iy k _ _ (by omega),(c8 l (a / 2)).1]
    obtain ⟨b,rfl⟩:∃ b,a=b+1:=⟨a-1,by omega⟩
    rw [a0v]; congr 1; omega
   ·rw [if_neg h1,iy k _ _ (by omega),(c8 l (a / 2-1)).2]
    obtain ⟨b,rfl⟩:∃ b,a=b+1:=⟨a-1,by omega⟩
    rw [a0v]; congr 1; omega
noncomputable def lL (p:Program)(rc:List Rc)(m:Nat)(P:Params):List Obj:=os P (rs P ((p.main.body.zip rc).take m))
noncomputable def kK (p:Program)(rc:List Rc)(m:Nat)(as:List Addr)(P:Params):Frag:=as.map fun a=>(a,(lL p rc m P).getD a default)
noncomputable def okO:Option Obj->Bool
 | some ⟨_,_,.freed,_⟩=>false
 | some _=>true
 | none=>false
theorem i5 {p:Program}{rc:List Rc}{m:Nat}{P:Params}{a:Addr}{o:Obj}:∀ {as:List Addr},(kK p rc m as P).lookup a=some o->a∈as/\o=(lL p rc m P).getD a default
 | [],h=>by simp [kK] at h
 | b::as,h=>by
  unfold kK at h
  rw [a0u,a17] at h
  by_cases e:a=b
  ·subst e
   rw [beq_self_eq_true] at h
   exact ⟨a0c ..,(a0z h).symm⟩
  ·rw [beq_false_of_ne e] at h
   have x:=i5 (as:=as) h
   exact ⟨a0e _ x.1,x.2⟩
noncomputable def hkk (p:Program)(rc:List Rc)(m n:Nat):Hook where
 α:=Array Obj
 obs s:=s.heap.objs
 val w:=(hp p rc m n w.params).objs
 says w h:=∀ a o,(hp p rc m n w.params).get? a=some o->h.get? a=some o
 of w s e a o x:=by unfold Heap.get? at *; rw [e]; exact x
 keeps w h h' X k a o x:=k _ _ (X a o x)
theorem yJ {p:Program}{rc:List Rc}{m n:Nat}{as:List Addr}{w:World}{h:Heap}(hl:Nat.blt (lL p rc m w.params).length 4096=true)(hc:(as.all fun a=>Nat.blt a n&&okO (lL p rc m w.params)[a]?)=true)
  (Y:(hkk p rc m n).says w h):(kK p rc m as w.params).In h:=fun a o e=>by
 obtain ⟨e1,e2⟩:=i5 e
 obtain ⟨c1,c2⟩:=a1G.mp (a0W.mp hc a e1)
 refine Y a o ?_
 have c3:a < n:=a1f c1
 have c4:(lL p rc m w.params).length < 2 ^ 12:=a1f hl
 have g:=iy 12 (lL p rc m w.params) a c4
 unfold hp Heap.get?
 rw [absHeap_at,if_pos c3]
 show (match some (((bt 12 (lL p rc m w.params)).get a).getD default) with | some ⟨_,_,.freed,_⟩=>none | o=>o)=some o
 rw [g]
 rw [a04] at e2
 rw [<- e2]
 cases q:(lL p rc m w.params)[a]? with
 | none=>rw [q] at c2; cases c2
 | some x =>
  rw [q] at c2 e2
  have e3:o=x:=e2
  subst e3
  obtain ⟨_,_,d,_⟩:=o
  cases d<;>first | rfl | cases c2
noncomputable def pmO:Option Obj->Value
 | some ⟨_,_,.func f,_⟩=>f.pyModule
 | _=>.none
noncomputable def rfO:Option (Option Value)->Nat
 | some (some (.ref a))=>a
 | _=>0
noncomputable def tkO:Option (Option Value)->Nat
 | some (some (.int _ t))=>t
 | some (some (.str _ t))=>t
 | _=>0
theorem raw_mk {K:Frag}{x:Str}{st:Stmt}{dV:Value}(h1:nsIn K mainGlobals x=some (some (.ref (rfO (nsIn K mainGlobals x)))))
  (h2:K.lookup (rfO (nsIn K mainGlobals x))=some ⟨.type "function",none,.func (fnOf x x (L2.defArgs st) (L2.defBody st) (L2.defScope st) dV .none .none (pmO (K.lookup (rfO (nsIn K mainGlobals x)))) none (.ref (rfO (nsIn K mainGlobals x)-1)) .none),#[]⟩)
  (h3:codeIn K (.ref (rfO (nsIn K mainGlobals x)-1)) x=true) (h4:keepIn K (.ref (rfO (nsIn K mainGlobals x)))=true):MR.Raw K x st dV:=⟨_,_,_,_,_,_,_,_,_,_,h1,h2,h3,h4⟩
end TP

namespace A05
open M
open PySem (Str)
noncomputable abbrev q:=Str.ofString
noncomputable def a6:Fn:={ ps:=1,ns:=0,io:=[],body:=[
  .ite (.q [0] []) (.or (.not (.op (.isI ["int"]) false [.var 0])) (.op (.isI ["bool"]) false [.var 0])) [
   .ret [] (.cst (.bl false))] [],
  .ret [] (.chain .le .le (.op .neg false [.cst (.int 1000000000000000000)]) (.mv 0) (.cst (.int 1000000000000000000)))] }
noncomputable def aw:Fn:={ ps:=1,ns:=2,io:=[],body:=[
  .ite (.q [0] []) (.op (.isI ["bool"]) false [.var 0]) [
   .ret [] (.ifx (.mv 0) (.cst (.str (q "yes"))) (.cst (.str (q "no"))))] [],
  .ite (.q [0] []) (.op (.isI ["int"]) false [.var 0]) [
   .ret [] (.op .str false [.mv 0])] [],
  .asg (.q [0] []) 1 (.comp false .seq [.var 0] [2] none (.call 162 [.var 2])),
  .ite (.q [0] []) (.op (.isI ["tuple"]) false [.var 0]) [
   .ret [] (.op .join false [.cst (.str (q " ")),.mv 1])] [],
  .ret [] (.op .join false [.cst (.str (q " ")),.op .add false [.op .add false [.lst false [.cst (.str (q "["))],.mv 1],.lst false [.cst (.str (q "]"))]]])] }
noncomputable def aR:Fn:={ ps:=2,ns:=2,io:=[],body:=[
  .asg (.q [1] []) 2 (.op .split false [.var 1,.cst (.str (q " "))]),
  .asg (.q [0,2] []) 3 (.call 164 [.var 0,.var 2,.cst (.int 0)]),
  .ite (.q [2,3] []) (.op .lt false [.op .ix false [.var 3,.cst (.int 1)],.op .len false [.var 2]]) [
   .stop] [],
  .ret [] (.op .ix false [.mv 3,.cst (.int 0)])] }
noncomputable def aB:Fn:={ ps:=3,ns:=1,io:=[],body:=[
  .ite (.q [0] []) (.op .eq false [.op .ix false [.var 0,.cst (.int 0)],.cst (.str (q "pair"))]) [
   .ret [] (.call 167 [.mv 0,.mv 1,.mv 2])] [],
  .ite (.q [0] []) (.op .eq false [.op .ix false [.var 0,.cst (.int 0)],.cst (.str (q "row"))]) [
   .ret [] (.call 168 [.mv 0,.mv 1,.mv 2])] [],
  .ite (.q [1,2] []) (.op .ge false [.var 2,.op .len false [.var 1]]) [
   .stop] [],
  .asg (.q [0,1,2] []) 3 (.ifx (.op .eq false [.op .ix false [.var 0,.cst (.int 0)],.cst (.str (q "num"))]) (.call 165 [.op .ix false [.var 1,.var 2]]) (.call 166 [.op .ix false [.var 1,.var 2]])),
  .ite (.q [3] []) (.op .is false [.var 3,.cst (.non)]) [
   .stop] [],
  .ret [] (.tup [.mv 3,.op .add false [.mv 2,.cst (.int 1)]])] }
noncomputable def a8:Fn:={ ps:=1,ns:=1,io:=[],body:=[
  .tri [
   .asg (.q [0] []) 1 (.op .intS false [.var 0])],
  .ite (.q [0] [1]) (.or (.op .ne false [.op .str false [.var 1],.var 0]) (.not (.call 3 [.var 1]))) [
   .ret [] (.cst (.non))] [],
  .ret [] (.mv 1)] }
noncomputable def aV:Fn:={ ps:=1,ns:=0,io:=[],body:=[
  .ite (.q [0] []) (.op .eq false [.var 0,.cst (.str (q "yes"))]) [
   .ret [] (.cst (.bl true))] [],
  .ite (.q [0] []) (.op .eq false [.var 0,.cst (.str (q "no"))]) [
   .ret [] (.cst (.bl false))] [],
  .ret [] (.cst (.non))] }
noncomputable def a7:Fn:={ ps:=3,ns:=2,io:=[],body:=[
  .asg (.q [0,1,2] []) 3 (.call 164 [.op .ix false [.var 0,.cst (.int 1)],.var 1,.var 2]),
  .asg (.q [0,1,3] []) 4 (.call 164 [.op .ix false [.var 0,.cst (.int 2)],.var 1,.op .ix false [.var 3,.cst (.int 1)]]),
  .ret [4] (.tup [.tup [.op .ix false [.mv 3,.cst (.int 0)],.op .ix false [.var 4,.cst (.int 0)]],.op .ix false [.var 4,.cst (.int 1)]])] }
noncomputable def bj:Fn:={ ps:=3,ns:=3,io:=[],body:=[
  .ite (.q [1,2] []) (.not (.call 169 [.var 1,.var 2,.cst (.str (q "["))])) [
   .stop] [],
  .asg (.q [] []) 3 (.lst false []),
  .asg (.q [2] []) 4 (.op .add false [.var 2,.cst (.int 1)]),
  .whl (.q [1] [4]) (.not (.call 169 [.var 1,.var 4,.cst (.str (q "]"))])) [
   .ite (.q [3] []) (.op .eq false [.op .len false [.var 3],.cst (.int 200)]) [
    .stop] [],
   .asg (.q [0,1] [4]) 5 (.call 164 [.op .ix false [.var 0,.cst (.int 1)],.var 1,.var 4]),
   .app (.q [5] []) 3 (.op .ix false [.var 5,.cst (.int 0)]),
   .asg (.q [5] []) 4 (.op .ix false [.var 5,.cst (.int 1)])],
  .ret [] (.tup [.mv 3,.op .add false [.mv 4,.cst (.int 1)]])] }
noncomputable def a4:Fn:={ ps:=3,ns:=0,io:=[],body:=[
  .ret [0,1] (.and (.op .lt false [.var 1,.op .len false [.var 0]]) (.op .eq false [.op .ix false [.var 0,.var 1],.mv 2]))] }
noncomputable def ax:Fn:={ ps:=2,ns:=2,io:=[],body:=[
  .ite (.q [1] []) (.op (.isI ["tuple","list"]) false [.var 1]) [
   .ite (.q [0,1] []) (.or (.op .ne false [.op (.isI ["tuple"]) false [.var 1],.op (.isI ["tuple"]) false [.var 0]]) (.op .ne false [.op (.isI ["list"]) false [.var 1],.op (.isI ["list"]) false [.var 0]])) [
    .ret [] (.cst (.bl false))] [],
   .ret [0,1] (.and (.op .eq false [.op .len false [.var 0],.op .len false [.var 1]]) (.op .all false [.comp false .zip [.var 0,.var 1] [2,3] none (.call 170 [.var 2,.var 3])]))] [],
  .ite (.q [0,1] []) (.or (.op (.isI ["bool"]) false [.var 1]) (.op (.isI ["bool"]) false [.var 0])) [
   .ret [0,1] (.and (.op (.isI ["bool"]) false [.var 1]) (.and (.op (.isI ["bool"]) false [.var 0]) (.op .eq false [.var 0,.var 1])))] [],
  .ite (.q [1] []) (.op (.isI ["int"]) false [.var 1]) [
   .ret [0] (.and (.op (.isI ["int"]) false [.var 0]) (.op .eq false [.var 0,.mv 1]))] [],
  .ite (.q [1] []) (.op .is false [.var 1,.cst (.non)]) [
   .ret [] (.op .is false [.mv 0,.cst (.non)])] [],
  .ret [0] (.and (.op (.isI ["str"]) false [.var 0]) (.op .eq false [.var 0,.mv 1]))] }
noncomputable def aF:Fn:={ ps:=2,ns:=1,io:=[],body:=[
  .asg (.q [] [0]) 2 (.op .mod false [.var 0,.cst (.int 6)]),
  .ite (.q [] [1,2]) (.or (.op .eq false [.var 1,.cst (.int 0)]) (.op .lt false [.var 2,.cst (.int 2)])) [
   .ret [] (.op .ix false [.lst false [.tup [.cst (.str (q "num"))],.tup [.cst (.str (q "truth"))]],.op .mod false [.mv 0,.cst (.int 2)]])] [],
  .ite (.q [] [2]) (.op .eq false [.var 2,.cst (.int 2)]) [
   .ret [] (.tup [.cst (.str (q "pair")),.call 171 [.op .fdiv false [.var 0,.cst (.int 6)],.op .sub false [.var 1,.cst (.int 1)]],.call 171 [.op .fdiv false [.var 0,.cst (.int 216)],.op .sub false [.var 1,.cst (.int 1)]]])] [],
  .ret [] (.tup [.cst (.str (q "row")),.call 171 [.op .fdiv false [.mv 0,.cst (.int 6)],.op .sub false [.mv 1,.cst (.int 1)]]])] }
noncomputable def aM:Fn:={ ps:=1,ns:=1,io:=[],body:=[
  .asg (.q [] []) 1 (.lst false [.cst (.int 0),.cst (.int 1),.op .neg false [.cst (.int 1)],.op .pow false [.cst (.int 10),.cst (.int 18)],.op .sub false [.cst (.int 0),.op .pow false [.cst (.int 10),.cst (.int 18)]],.op .sub false [.op .pow false [.cst (.int 10),.cst (.int 18)],.cst (.int 1)],.op .sub false [.cst (.int 1),.op .pow false [.cst (.int 10),.cst (.int 18)]],.cst (.int 7),.op .neg false [.cst (.int 30)],.op .pow false [.cst (.int 10),.cst (.int 9)]]),
  .ite (.q [] [0]) (.op .eq false [.op .mod false [.var 0,.cst (.int 3)],.cst (.int 0)]) [
   .ret [] (.op .sub false [.op .mod false [.op .fdiv false [.mv 0,.cst (.int 3)],.op .add false [.op .mul false [.cst (.int 2),.op .pow false [.cst (.int 10),.cst (.int 18)]],.cst (.int 1)]],.op .pow false [.cst (.int 10),.cst (.int 18)]])] [],
  .ret [] (.op .ix false [.mv 1,.op .mod false [.op .fdiv false [.mv 0,.cst (.int 3)],.cst (.int 10)]])] }
noncomputable def aI:Fn:={ ps:=3,ns:=2,io:=[],body:=[
  .ite (.q [0] []) (.op .eq false [.op .ix false [.var 0,.cst (.int 0)],.cst (.str (q "num"))]) [
   .ret [] (.call 172 [.mv 1])] [],
  .ite (.q [0] []) (.op .eq false [.op .ix false [.var 0,.cst (.int 0)],.cst (.str (q "truth"))]) [
   .ret [] (.op .eq false [.op .mod false [.mv 1,.cst (.int 2)],.cst (.int 1)])] [],
  .ite (.q [0] []) (.op .eq false [.op .ix false [.var 0,.cst (.int 0)],.cst (.str (q "pair"))]) [
   .ret [0] (.tup [.call 173 [.op .ix false [.var 0,.cst (.int 1)],.op .fdiv false [.var 1,.cst (.int 3)],.var 2],.call 173 [.op .ix false [.var 0,.cst (.int 2)],.op .add false [.op .fdiv false [.var 1,.cst (.int 5)],.cst (.int 1)],.var 2]])] [],
  .asg (.q [] [1,2]) 3 (.op .mod false [.var 1,.op .ix false [.lst false [.cst (.int 2),.cst (.int 4),.cst (.int 6)],.op .max false [.cst (.int 0),.op .min false [.cst (.int 2),.var 2]]]]),
  .ret [0] (.comp false .rng [.mv 3] [4] none (.call 173 [.op .ix false [.var 0,.cst (.int 1)],.op .add false [.op .mul false [.op .fdiv false [.var 1,.cst (.int 7)],.op .add false [.var 4,.cst (.int 1)]],.var 4],.op .sub false [.var 2,.cst (.int 1)]]))] }
noncomputable def aC:Fn:={ ps:=1,ns:=2,io:=[],body:=[
  .ite (.q [0] []) (.op (.isI ["bool"]) false [.var 0]) [
   .ret [] (.lst false [.op .ix false [.lst false [.cst (.str (q "no")),.cst (.str (q "yes"))],.op .int false [.mv 0]]])] [],
  .ite (.q [0] []) (.op (.isI ["int"]) false [.var 0]) [
   .ret [] (.lst false [.op .str false [.mv 0]])] [],
  .asg (.q [] []) 1 (.lst false []),
  .forS [0] [] .seq [.var 0] [2] [
   .ext (.q [2] []) 1 (.call 174 [.var 2])],
  .ite (.q [0] []) (.op (.isI ["list"]) false [.var 0]) [
   .ret [] (.op .add false [.op .add false [.lst false [.cst (.str (q "["))],.mv 1],.lst false [.cst (.str (q "]"))]])] [],
  .ret [] (.mv 1)] }
noncomputable def f7:Fn:={ ps:=1,ns:=9,io:=[],body:=[
  .forS [0] [] .seq [.ifx (.op .gt false [.op .len false [.var 0],.cst (.int 0)]) (.op .sl2 false [.var 0,.cst (.int 16)]) (.lst false [.cst (.int 0)])] [1] [
   .asg (.q [] [1]) 2 (.call 171 [.var 1,.cst (.int 4)]),
   .asg (.q [2] [1]) 3 (.call 173 [.var 2,.op .fdiv false [.var 1,.cst (.int 7)],.cst (.int 2)]),
   .ite (.q [] [1]) (.op .eq false [.op .mod false [.var 1,.cst (.int 8)],.cst (.int 1)]) [
    .asg (.q [] []) 2 (.tup [.cst (.str (q "row")),.tup [.cst (.str (q "truth"))]]),
    .asg (.q [] [1]) 3 (.comp false .rng [.cst (.int 200)] [9] none (.op .eq false [.op .mod false [.op .add false [.op .fdiv false [.var 1,.cst (.int 8)],.op .mul false [.var 9,.var 9]],.cst (.int 3)],.cst (.int 0)]))] [],
   .asg (.q [3] []) 4 (.call 174 [.var 3]),
   .ite (.q [2,3,4] []) (.or (.op .ne false [.call 162 [.var 3],.op .join false [.cst (.str (q " ")),.var 4]]) (.not (.call 170 [.call 163 [.var 2,.op .join false [.cst (.str (q " ")),.var 4]],.var 3]))) [
    .ret [] (.cst (.bl false))] [],
   .asg (.q [] [1]) 5 (.op .sl2 false [.lst false [.cst (.str (q "[")),.cst (.str (q "")),.cst (.str (q "5")),.cst (.str (q "no")),.cst (.str (q "]"))],.op .mod false [.var 1,.cst (.int 5)]]),
   .asg (.q [4,5] [1]) 6 (.op .add false [.op .add false [.var 5,.var 4],.op .sl2 false [.lst false [.cst (.str (q "]")),.cst (.str (q "1")),.cst (.str (q ""))],.op .mod false [.op .fdiv false [.var 1,.cst (.int 5)],.cst (.int 4)]]]),
   .asg (.q [6] []) 7 (.op .list false [.var 6]),
   .asg (.q [2,5,6] []) 8 (.call 164 [.var 2,.var 6,.op .len false [.var 5]]),
   .ite (.q [3,4,5,6,7,8] []) (.or (.not (.call 170 [.var 8,.tup [.var 3,.op .add false [.op .len false [.var 5],.op .len false [.var 4]]]])) (.op .ne false [.var 6,.var 7])) [
    .ret [] (.cst (.bl false))] [],
   .ite (.q [8] []) (.op (.isI ["list"]) false [.op .ix false [.var 8,.cst (.int 0)]]) [
    .exp (.l []) (.op .apd false [.mvP 8 [0],.cst (.int 0)]),
    .ite (.q [2,3,4] []) (.not (.call 170 [.call 163 [.var 2,.op .join false [.cst (.str (q " ")),.var 4]],.var 3])) [
     .ret [] (.cst (.bl false))] []] []],
  .ret [] (.cst (.bl true))] }
noncomputable def prog:List Fn:=[f7,zf,zf,a6,zf,zf,zf,zf,zf,zf,zf,zf,zf,zf,zf,zf,zf,zf,zf,zf,zf,zf,zf,zf,zf,zf,zf,zf,zf,zf,zf,zf,zf,zf,zf,zf,zf,zf,zf,zf,zf,zf,zf,zf,zf,zf,zf,zf,zf,zf,zf,zf,zf,zf,zf,zf,zf,zf,zf,zf,zf,zf,zf,zf,zf,zf,zf,zf,zf,zf,zf,zf,zf,zf,zf,zf,zf,zf,zf,zf,zf,zf,zf,zf,zf,zf,zf,zf,zf,zf,zf,zf,zf,zf,zf,zf,zf,zf,zf,zf,zf,zf,zf,zf,zf,zf,zf,zf,zf,zf,zf,zf,zf,zf,zf,zf,zf,zf,zf,zf,zf,zf,zf,zf,zf,zf,zf,zf,zf,zf,zf,zf,zf,zf,zf,zf,zf,zf,zf,zf,zf,zf,zf,zf,zf,zf,zf,zf,zf,zf,zf,zf,zf,zf,zf,zf,zf,zf,zf,zf,zf,zf,aw,aR,aB,a8,aV,a7,bj,a4,ax,aF,aM,aI,aC]
end A05

set_option compiler.extract_closed false
namespace P05
noncomputable section
open M A05
open PySem (Str)
local macro_rules
 | `(tactic| simp_all only [$ls,*])=>`(tactic| simp only [sP,sQ,vL,uc,uU,sZ,uv,oB,pw,qy,oS,pI,pH,oT,oj,qA,pU,oM,oH,pB,ql,qc,oE,nR,n8,nN,qz,nX,nQ,oA,pD,mD,mJ,pS,pY,pQ,qp,iI,lY,kOp,kx,kOr,nu,kC3,kC2,kC1,gf,d6,eR,cZ,gj,cD,jc,aQ,kX,kT,kT2,kIf,qw,kU,lF,rh,tH,ia,kNx,kRt,i8,nM,m8,okW,then',l4,d9,aH,af,ios,putAll,ux,zy,rZ,sH,tm,pP,pq,p9,sx,vJ,tU,vF,tV,sD,u9,xc,yo,xZ,wc,x3,xX,pC,nW,oY,oP,vV,uF,m5,kr,ma,mf,tD,oR,pX,mE,kg,xk,xu,wC,xb,mZ,kE,kO,vG,tR,uW,sY,r9,uG,vE,tw,oK,oI,pO,vb,kP,mL,mW,xw,kv,mP,qV,xl,ug,uR,uD,td,vw,sd,yx,yW,y0,zr,xp,wj,vn,uz,uE,wG,xi,vi,w8,nV,sE,wx,oU,oG,xM,vf,uA,tL,tS,kq,nH,nG,x6,lu,lP,qC,qO,n5,oh,uN,uT,uo,kB,cy,kb,j3,jS,ud,uP,uh,uQ,ve,tO,rP,ue,wX,lg,lZ,rR,uu,at0,at1,at2,at3,at4,a1n,a0Q,a0p,a0u,a1r,a0N,List.replicate_zero,reduceIte,if_true,if_false,String.reduceBEq,Bool.not_true,Bool.not_false,a2u,Bool.and_self,Bool.true_and,Bool.and_true,qF,kIo,vg,tQ,jW,mF,j8,jA,j1,mX,jZ,lX,jC,j7,gK,iF,il,jr,jM,kMvP,oQ,nF,mI,kf,tX,ui,xf,yp,ph,qG,tG,vm,vC,um,tf,vD,nO,yb,jO,yR,we,yS,xY,wY,wQ,v3,xA,vZ,yw,x4,xg,w6,ya,x5,xq,wo,wH,yO,zh,yK,uK,oJ,t6,$ls,*])
noncomputable abbrev C (n:Nat):Call:=callR prog 1000000 1000001 n
theorem fw (n:Nat)(ws:List W):C (n+1) 3 ws=runF (C n) a6 ws:=rfl
theorem aY (n:Nat)(ws:List W):C (n+1) 162 ws=runF (C n) aw ws:=rfl
theorem ek (n:Nat)(ws:List W):C (n+1) 163 ws=runF (C n) aR ws:=rfl
theorem a0 (n:Nat)(ws:List W):C (n+1) 164 ws=runF (C n) aB ws:=rfl
theorem fm (n:Nat)(ws:List W):C (n+1) 165 ws=runF (C n) a8 ws:=rfl
theorem gy (n:Nat)(ws:List W):C (n+1) 166 ws=runF (C n) aV ws:=rfl
theorem fN (n:Nat)(ws:List W):C (n+1) 167 ws=runF (C n) a7 ws:=rfl
theorem gR (n:Nat)(ws:List W):C (n+1) 168 ws=runF (C n) bj ws:=rfl
theorem fR (n:Nat)(ws:List W):C (n+1) 169 ws=runF (C n) a4 ws:=rfl
theorem cB (n:Nat)(ws:List W):C (n+1) 170 ws=runF (C n) ax ws:=rfl
theorem cV (n:Nat)(ws:List W):C (n+1) 171 ws=runF (C n) aF ws:=rfl
theorem ej (n:Nat)(ws:List W):C (n+1) 172 ws=runF (C n) aM ws:=rfl
theorem bc (n:Nat)(ws:List W):C (n+1) 173 ws=runF (C n) aI ws:=rfl
theorem bf (n:Nat)(ws:List W):C (n+1) 174 ws=runF (C n) aC ws:=rfl
theorem qeq (a b:String):(q a==q b)=(a==b):=by
 by_cases h:a=b
 ·subst h; simp
 ·have h2:q a≠q b:=fun z=>h (by
   have:=congrArg (fun s:Str=>s.cps.toList) z
   rw [q,Str.ofString_eq_toList,Str.ofString_eq_toList] at this
   simp only at this
   have h3:a.toList=b.toList:=by
    have inj:∀ l1 l2:List Char,l1.map a0P=l2.map a0P->l1=l2:=by
     intro l1
     induction l1 with
     | nil=>intro l2 h; cases l2 with
      | nil=>rfl
      | cons=>cases h
     | cons c cs ih=>intro l2 h; cases l2 with
      | nil=>cases h
      | cons d ds =>
       rw [a0u,a0u] at h
       injection h with h1 h2
       rw [ih ds h2,Char.toNat_inj.mp h1]
    exact inj _ _ (by simpa using this)
   exact String.toList_inj.mp h3)
  rw [beq_eq_false_iff_ne.mpr h2,beq_eq_false_iff_ne.mpr h]
noncomputable abbrev sp:Str:=q " "
theorem je:sp=⟨#[32]⟩:=by decide +kernel
theorem aJ (x y:Str):(x++y).cps.toList=x.cps.toList++y.cps.toList:=a2q
theorem n0 {x y:Str}(h:x.cps.toList=y.cps.toList):x=y:=by
 cases x; cases y
 exact congrArg Str.mk (a1F.mp h)
theorem eZ (a b d:Str):a++(b++d)=(a++b)++d:=by
 cases a; cases b; cases d
 exact congrArg Str.mk (a1N).symm
theorem cJ (s:Str):∀ (xs ys:List Str),xs≠[]->ys≠[]->Str.join s (xs++ys)=Str.join s xs++s++Str.join s ys
 | [],_,h,_=>absurd rfl h
 | _::_,[],_,h=>absurd rfl h
 | [x],y::ys,_,_=>rfl
 | x::x2::xs,y::ys,_,hy=>by
  have ih:=cJ s (x2::xs) (y::ys) (a0M _ _) hy
  show x++s++Str.join s ((x2::xs)++(y::ys))=(x++s++Str.join s (x2::xs))++s++Str.join s (y::ys)
  rw [ih,eZ,eZ]
theorem cQ (s:Str):∀ (ls:List (List Str)),(∀ l∈ls,l≠[])->∀ ys,Str.join s (ls.map (Str.join s)++ys)=Str.join s (ls.flatten++ys)
 | [],_,ys=>rfl
 | l::ls,h,ys=>by
  have hl:=h l a0c
  have ih:=cQ s ls (fun m hm=>h m (a0e _ hm)) ys
  rw [a0u,a06,a0n,a1n]
  by_cases hr:ls.flatten++ys=[]
  ·have h1:ls=[]:=by
    cases ls with
    | nil=>rfl
    | cons m ls =>
     rw [a06,a0n] at hr
     exact absurd (a2c.mp hr).1 (h m (a0e _ a0c))
   subst h1
   have h2:ys=[]:=hr
   subst h2
   show Str.join s l=Str.join s (l++[])
   rw [a0p]
  ·have hr':ls.map (Str.join s)++ys≠[]:=by
    intro z
    obtain ⟨a,b⟩:=a2c.mp z
    rw [a1o.mp a,b] at hr
    exact hr rfl
   rw [cJ s l _ hl hr,<- ih]
   have:∀ zs:List Str,zs≠[]->Str.join s (Str.join s l::zs)=Str.join s l++s++Str.join s zs:=fun zs hz=>by
    cases zs with
    | nil=>exact absurd rfl hz
    | cons z zs=>rfl
   exact this _ hr'
structure Gw (x:Str):Prop where
 sz:x.cps.size<=20
 cp:∀ c∈x.cps.toList,c < 0x110000
 fr:32 ∉ x.cps.toList
theorem fV (s:String)(h1:s.length<=20)(h2:32 ∉ s.toList.map a0P):Gw (q s):=by
 have e:(q s).cps.toList=s.toList.map a0P:=by rw [q,Str.ofString_eq_toList]
 refine ⟨?_,fun c hc=>?_,by rw [e]; exact h2⟩
 ·rw [<- a0E,e,a0d,a1l]; exact h1
 ·rw [e] at hc
  obtain ⟨ch,_,rfl⟩:=a0Z.mp hc
  have h3:=ch.valid
  rcases h3 with h3 | h3
  ·exact a3f h3 (by decide)
  ·exact h3.2
theorem lh {x:Str}(h1:∀ c∈x.cps.toList,c < 0x110000)(h2:x.cps.size<=LIM):sOk x=true:=by
 unfold sOk
 rw [a0m]
 refine ⟨?_,decide_eq_true h2⟩
 rw [a1u]
 intro c hc
 exact decide_eq_true (h1 c (by simpa using hc))
theorem rM {x:Str}(h:Gw x):sOk x=true:=lh h.cp (a0s h.sz (by show 20<=16777215; decide))
theorem iX:∀ {ws:List Str},(∀ x∈ws,∀ c∈x.cps.toList,c < 0x110000)->∀ c∈(Str.join sp ws).cps.toList,c < 0x110000
 | [],_,c,hc=>by cases hc
 | [x],h,c,hc=>h x a0c c hc
 | x::y::r,h,c,hc=>by
  have e:(Str.join sp (x::y::r)).cps.toList=x.cps.toList++sp.cps.toList++(Str.join sp (y::r)).cps.toList:=by
   show (x++sp++Str.join sp (y::r)).cps.toList=_
   rw [aJ,aJ]
  rw [e] at hc
  rcases a0L.mp hc with hc | hc
  ·rcases a0L.mp hc with hc | hc
   ·exact h x a0c c hc
   ·rw [je] at hc
    rw [a0r.mp hc]; decide
  ·exact iX (fun z hz=>h z (a0e _ hz)) c hc
theorem fA:∀ {ws:List Str},(∀ x∈ws,Gw x)->(Str.join sp ws).cps.size<=21 * ws.length
 | [],_=>a0j _
 | [x],h=>a0s (h x a0c).sz (by show 20<=21; decide)
 | x::y::r,h=>by
  have ih:=fA (ws:=y::r) fun z hz=>h z (a0e _ hz)
  have h1:=(h x a0c).sz
  have e:(Str.join sp (x::y::r)).cps.size=x.cps.size+1+(Str.join sp (y::r)).cps.size:=by
   rw [<- a0E,<- a0E,<- a0E]
   show (x++sp++Str.join sp (y::r)).cps.toList.length=_
   rw [aJ,aJ,a0b,a0b,je]
   rfl
  rw [e,a0k]
  omega
theorem fK (c:Nat):∀ (x acc y:List Nat),c ∉ x->spl c acc (x++y)=spl c (acc++x) y
 | [],acc,y,_=>by rw [a0p]; rfl
 | a::x,acc,y,h=>by
  have h1:a≠c:=fun z=>h (z ▸ a0c)
  show spl c acc (a::(x++y))=_
  rw [spl,if_neg h1,fK c x (acc++[a]) y fun z=>h (a0e _ z),a0n]
  rfl
theorem bx:∀ {ws:List Str},ws≠[]->(∀ x∈ws,Gw x)->spl 32 [] (Str.join sp ws).cps.toList=ws.map fun x=>x.cps.toList
 | [],h,_=>absurd rfl h
 | [x],_,h=>by
  have:=fK 32 x.cps.toList [] [] (h x a0c).fr
  rw [a0p] at this
  exact this
 | x::y::r,_,h=>by
  have ih:=bx (ws:=y::r) (a0M _ _) fun z hz=>h z (a0e _ hz)
  have e:(Str.join sp (x::y::r)).cps.toList=x.cps.toList++32::(Str.join sp (y::r)).cps.toList:=by
   show (x++sp++Str.join sp (y::r)).cps.toList=_
   rw [aJ,aJ,je,a0n]; rfl
  rw [e,fK 32 _ _ _ (h x a0c).fr,a0Q,spl,if_pos rfl,ih]
  rfl
theorem j2 {ws:List Str}(h0:ws≠[])(h:∀ x∈ws,Gw x):splS (Str.join sp ws)=ws:=by
 unfold splS
 rw [bx h0 h,a2k]
 conv=>rhs; rw [<- List.map_id ws]
 exact List.map_congr_left fun x _=>n0 rfl
theorem cH:∀ ws:List Str,strsOf (ws.map T.str)=some ws
 | []=>rfl
 | x::ws=>by show (strsOf (ws.map T.str)).map (x::·)=_; rw [cH ws]; rfl
inductive Kd where | num | truth | pair (a b:Kd) | row (a:Kd)
noncomputable def Kd.th:Kd->T
 | .num=>.tup [.str (q "num")]
 | .truth=>.tup [.str (q "truth")]
 | .pair a b=>.tup [.str (q "pair"),a.th,b.th]
 | .row a=>.tup [.str (q "row"),a.th]
noncomputable def Kd.deep:Kd->Nat
 | .num=>0 | .truth=>0 | .pair a b=>max a.deep b.deep+1 | .row a=>a.deep+1
noncomputable def OfK:Kd->T->Prop
 | .num,t=>∃ i:Int,t=.int i/\i.natAbs<=1000000000000000000
 | .truth,t=>∃ b,t=.bl b
 | .pair a b,t=>∃ x y,t=.tup [x,y]/\OfK a x/\OfK b y
 | .row a,t=>∃ ts,t=.lst ts/\ts.length<=200/\∀ u∈ts,OfK a u
mutual
noncomputable def sz:T->Nat
 | .tup ts=>szs ts+1
 | .lst ts=>szs ts+1
 | _=>1
noncomputable def szs:List T->Nat
 | []=>0
 | t::ts=>sz t+szs ts
end
noncomputable def B:Nat->Nat
 | 0=>1
 | d+1=>3 * B d+201
noncomputable def D:Nat->Nat
 | 0=>5
 | d+1=>3 * D d+1003
theorem cM:∀ {ws:List W} {t:T},t∈aH ws->∃ w∈ws,w.2=t
 | w::ws,t,h=>by
  rcases a0w.mp (show t∈w.2::aH ws from h) with e | e
  ·exact ⟨w,a0c,e.symm⟩
  ·obtain ⟨v,hv,e2⟩:=cM e
   exact ⟨v,a0e _ hv,e2⟩
theorem eT:∀ ws:List W,(aH ws).length=ws.length
 | []=>rfl
 | w::ws=>by show (aH ws).length+1=ws.length+1; rw [eT ws]
theorem uX:∀ a:Kd,∃ l,a.th=.tup l/\(l.length=1->a.deep=0)
 | .num=>⟨_,rfl,fun _=>rfl⟩
 | .truth=>⟨_,rfl,fun _=>rfl⟩
 | .pair a b=>⟨_,rfl,fun h=>by cases h⟩
 | .row a=>⟨_,rfl,fun h=>by cases h⟩
theorem ka (i:Int):decI (strI i)=i:=by
 unfold decI strI
 cases i with
 | ofNat m =>
  have e:(Str.ofString (toString (Int.ofNat m))).cps.toList=(a00 10 m).map a0P:=a1h m
  have v:ng ((a00 10 m).map a0P)=m:=a1m m
  rw [e]
  have hne:(a00 10 m).map a0P≠[]:=fun z=>by
   have h:=PySem.toDigits_len_ge 10 m
   rw [a1o.mp z] at h
   exact absurd h (by decide)
  have hd:∀ c∈(a00 10 m).map a0P,48<=c/\c<=57:=fun c hc=>by
   obtain ⟨ch,hch,e⟩:=a0Z.mp hc
   rw [<- e]
   exact a23 (a1J (by decide) (by decide) hch)
  generalize (a00 10 m).map a0P=l at v hne hd
  cases l with
  | nil=>exact absurd rfl hne
  | cons c l =>
   have h1:=(hd c a0c).1
   split
   ·rename_i heq
    injection heq with h2 h3
    omega
   ·exact congrArg Int.ofNat v
 | negSucc m =>
  have e:(Str.ofString (toString (a2V m))).cps.toList=45::(a00 10 (m+1)).map a0P:=by
   rw [a1K]
   show ("-"++Nat.repr (m+1)).toList.map a0P=_
   rw [a2l,a2W]
   rfl
  have v:ng ((a00 10 (m+1)).map a0P)=m+1:=a1m (m+1)
  rw [e]
  show -((ng ((a00 10 (m+1)).map a0P):Nat):Int)=_
  rw [v]
  rfl
theorem r8 {i:Int}(h:i.natAbs<=1000000000000000000):Gw (strI i):=by
 have e:(strI i).cps.toList=(toString i).toList.map a0P:=a1K _
 refine ⟨?_,fun c hc=>?_,fun z=>(a2N i).mp z⟩
 ·rw [<- a0E,e,a0d,a1l]
  exact PySem.int_text_length_le10 (a:=i) (k:=19) (by decide) (a1P h (by decide))
 ·rw [e] at hc
  obtain ⟨ch,_,rfl⟩:=a0Z.mp hc
  have h3:=ch.valid
  rcases h3 with h3 | h3
  ·exact a3f h3 (by decide)
  ·exact h3.2
mutual
noncomputable def wds:T->List Str
 | .bl b=>[if b then q "yes" else q "no"]
 | .int i=>[strI i]
 | .tup ts=>aj ts
 | .lst ts=>q "["::(aj ts++[q "]"])
 | _=>[]
noncomputable def aj:List T->List Str
 | []=>[]
 | t::ts=>wds t++aj ts
end
theorem ef:∀ ts us:List T,aj (ts++us)=aj ts++aj us
 | [],us=>rfl
 | t::ts,us=>by show wds t++aj (ts++us)=_; rw [ef ts us,<- a0n]; rfl
theorem cS:∀ ts:List T,aj ts=(ts.map wds).flatten
 | []=>rfl
 | t::ts=>by show wds t++aj ts=_; rw [cS ts]; rfl
theorem t8:Gw (q "yes"):=fV "yes" (by decide) (by decide)
theorem v7:Gw (q "no"):=fV "no" (by decide) (by decide)
theorem gw_op:Gw (q "["):=fV "[" (by decide) (by decide)
theorem gw_cl:Gw (q "]"):=fV "]" (by decide) (by decide)
theorem ck:∀ (k:Kd) (t:T),OfK k t->(∀ x∈wds t,Gw x)
 | .num,_,⟨i,e,h⟩,x,hx=>by
  subst e
  rw [a0r.mp (show x∈[strI i] from hx)]; exact r8 h
 | .truth,_,⟨b,e⟩,x,hx=>by
  subst e
  have hx:=a0r.mp (show x∈[if b then q "yes" else q "no"] from hx)
  rw [hx]
  cases b
  ·exact v7
  ·exact t8
 | .pair a b,_,⟨u,v,e,h1,h2⟩,x,hx=>by
  subst e
  rcases a0L.mp (show x∈wds u++(wds v++[]) from hx) with h | h
  ·exact ck a u h1 x h
  ·rw [a0p] at h; exact ck b v h2 x h
 | .row a,_,⟨ts,e,_,h⟩,x,hx=>by
  subst e
  rcases a0w.mp (show x∈q "["::(aj ts++[q "]"]) from hx) with rfl | h1
  ·exact gw_op
  ·rcases a0L.mp h1 with h2 | h2
   ·rw [cS] at h2
    obtain ⟨l,hl,hx⟩:=List.mem_flatten.mp h2
    obtain ⟨u,hu,rfl⟩:=a0Z.mp hl
    exact ck a u (h u hu) x hx
   ·rw [a0r.mp h2]; exact gw_cl
theorem qv (i:Int):(strI i==q "]")=false:=beq_eq_false_iff_ne.mpr fun e=>by
 have:=(a2O i).mp
 apply this
 show 93∈(strI i).cps.toList
 rw [e]
 have:(q "]").cps.toList=[93]:=by decide +kernel
 rw [this]
 exact a0r.mpr rfl
theorem cz:∀ (k:Kd) (t:T),OfK k t->∃ x r,wds t=x::r/\(x==q "]")=false
 | .num,_,⟨i,e,h⟩=>by subst e; exact ⟨_,_,rfl,qv i⟩
 | .truth,_,⟨b,e⟩=>by
  subst e
  refine ⟨_,_,rfl,?_⟩
  cases b<;>decide +kernel
 | .pair a b,_,⟨u,v,e,h1,h2⟩=>by
  subst e
  obtain ⟨x,r,e1,e2⟩:=cz a u h1
  exact ⟨x,r++aj [v],by show wds u++aj [v]=_; rw [e1]; rfl,e2⟩
 | .row a,_,⟨ts,e,_,h⟩=>by subst e; exact ⟨_,_,rfl,by decide +kernel⟩
theorem fx {k:Kd}{t:T}(h:OfK k t):wds t≠[]:=by
 obtain ⟨x,r,e,_⟩:=cz k t h
 rw [e]; exact a0M _ _
noncomputable def txt (t:T):Str:=Str.join sp (wds t)
theorem xa (n:Nat)(i:Int)(h:i.natAbs<=1000000000000000000)(m:Md):C (n+1) 3 [(m,.int i)]=.ok ((.d,.bl true),[]):=by
 rw [fw,x_run _ _ _ rfl]
 have h1:decide (-1000000000000000000<=i)=true:=decide_eq_true (by omega)
 have h2:decide (i<=1000000000000000000)=true:=decide_eq_true (by omega)
 have a1:isOne "int" (.int i)=true:=rfl
 have a2:isOne "bool" (.int i)=false:=rfl
 simp_all only [a6,a0y,a0B,a1,a2,a0x,h1,h2]
theorem yg (n:Nat)(i:Int)(h:i.natAbs<=1000000000000000000)(m:Md):C (n+2) 165 [(m,.str (strI i))]=.ok ((.d,.int i),[]):=by
 rw [fm,x_run _ _ _ rfl]
 have e:=fun m=>xa n i h m
 have b:decide (i.natAbs < 10000000000000000000)=true:=decide_eq_true (by omega)
 simp_all only [a8,ka,b,beq_self_eq_true,e]
theorem x8 (n:Nat)(b:Bool)(m:Md):C (n+1) 166 [(m,.str (if b then q "yes" else q "no"))]=.ok ((.d,.bl b),[]):=by
 rw [gy,x_run _ _ _ rfl]
 cases b with
 | true=>simp_all only [aV,qeq]
 | false=>simp_all only [aV,qeq]
theorem hV (pre:List Str)(x:Str)(post:List Str):atI ((pre++x::post).map T.str) ((pre.length:Nat):Int)=some (.str x):=atN rfl (by
 rw [a0C,a0I (a0j _),Nat.sub_self]; rfl)
theorem vp (pre:List Str)(x:Str)(post:List Str):decide (((pre.length:Nat):Int) < ((((pre++x::post).map T.str).length:Nat):Int))=true:=decide_eq_true (by rw [a0d,a0b,a0k]; omega)
theorem kZ (pre:List Str)(x:Str)(post:List Str):decide (((((pre++x::post).map T.str).length:Nat):Int)<=((pre.length:Nat):Int))=false:=decide_eq_false (by rw [a0d,a0b,a0k]; omega)
theorem ij (n:Nat)(pre:List Str)(x:Str)(post:List Str)(w:Str)(m m1 m2:Md):C (n+1) 169 [(m,.lst ((pre++x::post).map T.str)),(m1,.int (pre.length:Nat)),(m2,.str w)]=.ok ((.d,.bl (x==w)),[]):=by
 rw [fR,x_run _ _ _ rfl]
 have e1:=vp pre x post
 have e2:=hV pre x post
 generalize (pre++x::post).map T.str=ws at e1 e2
 simp_all only [a4,e1,e2]
theorem yj (t:T):lf .s t=.d\/lf .s t=.s:=by
 unfold lf
 cases t.leaf with
 | true=>exact .inl rfl
 | false=>exact .inr rfl
theorem i3 {c:Env->Res (Bool×Env)}{f:Env->Fl}(I:Nat->Env->Prop)(P:Env->Prop):∀ (N m:Nat) (η:Env),m < N->I m η->(∀ m η,I m η->(∃ η',c η=.ok (false,η')/\P η')\/∃ η1 η2 m',c η=.ok (true,η1)/\f η1=.nx η2/\m' < m/\I m' η2) ->
  ∃ η',fP c f N η=.nx η'/\P η'
 | 0,_,_,h,_,_=>by omega
 | N+1,m,η,h,hi,k=>by
  rcases k m η hi with ⟨η',h1,h2⟩ | ⟨η1,η2,m',h1,h2,h3,h4⟩
  ·refine ⟨η',?_,h2⟩
   show Fl.of η (c η) _=_
   rw [h1]; rfl
  ·obtain ⟨η',e,p⟩:=i3 I P N m' η2 (by omega) h4 k
   refine ⟨η',?_,p⟩
   show Fl.of η (c η) _=_
   rw [h1]
   show Fl.turn (f η1) _=_
   rw [h2]; exact e
noncomputable abbrev q0:List S:=[
   .ite (.q [3] []) (.op .eq false [.op .len false [.var 3],.cst (.int 200)]) [
    .stop] [],
   .asg (.q [0,1] [4]) 5 (.call 164 [.op .ix false [.var 0,.cst (.int 1)],.var 1,.var 4]),
   .app (.q [5] []) 3 (.op .ix false [.var 5,.cst (.int 0)]),
   .asg (.q [5] []) 4 (.op .ix false [.var 5,.cst (.int 1)])]
noncomputable def xj (a:Kd)(ts:List T)(ws post:List Str)(o2:Option W)(m:Nat)(η:Env):Prop:=∃ (acc rest:List T) (p:List Str) (m0 m1:Md) (o5:Option W),η=[some (m0,.tup [.str (q "row"),a.th]),some (m1,.lst (ws.map T.str)),o2,some (.o .s,.lst acc),some (.d,.int (p.length:Nat)),o5]/\acc++rest=ts/\ws=p++(aj rest++q "]"::post)/\m=rest.length
theorem mG {n:Nat}{a:Kd}{ts:List T}{ws post p:List Str}{o2:Option W}{m0 m1:Md}(hl:ts.length<=200)(ho:∀ u∈ts,OfK a u)(hw:ws=p++(aj ts++q "]"::post))
  (ih:∀ u,OfK a u->∀ (pre post:List Str),ws=pre++(wds u++post)->∃ md,C (n+1) 164 [(.s,a.th),(.s,.lst (ws.map T.str)),(.d,.int (pre.length:Nat))]=.ok ((md,.tup [u,.int ((pre++wds u).length:Nat)]),[])) :
  ∃ m0' m1' o5 p',ws=p'++q "]"::post/\fP (evT (C (n+1)) (.q [1] [4]) (.not (.call 169 [.var 1,.var 4,.cst (.str (q "]"))]))) (evSs (C (n+1)) q0) j9 [some (m0,.tup [.str (q "row"),a.th]),some (m1,.lst (ws.map T.str)),o2,some (.o .s,.lst []),some (.d,.int (p.length:Nat)),none]=.nx [some (m0',.tup [.str (q "row"),a.th]),some (m1',.lst (ws.map T.str)),o2,some (.o .s,.lst ts),some (.d,.int (p'.length:Nat)),o5]:=by
 have hLM:LIM=16777215:=rfl
 have key:=i3 (c:=evT (C (n+1)) (.q [1] [4]) (.not (.call 169 [.var 1,.var 4,.cst (.str (q "]"))]))) (f:=evSs (C (n+1)) q0) (xj a ts ws post o2) (fun η=>∃ m0' m1' o5 p',ws=p'++q "]"::post/\η=[some (m0',.tup [.str (q "row"),a.th]),some (m1',.lst (ws.map T.str)),o2,some (.o .s,.lst ts),some (.d,.int (p'.length:Nat)),o5]) j9 ts.length _ (by show ts.length < 1000000000000; omega) ⟨[],ts,p,m0,m1,none,rfl,rfl,hw,rfl⟩ (fun m η hI=>by
  obtain ⟨acc,rest,p,m0,m1,o5,rfl,hT,hw,rfl⟩:=hI
  cases rest with
  | nil =>
   have hw2:ws=p++q "]"::post:=hw
   have e:=fun m m1 m2=>ij n p (q "]") post (q "]") m m1 m2
   rw [beq_self_eq_true,<- hw2] at e
   rw [a0p] at hT
   subst hT
   refine .inl ⟨_,?_,m0,m1,o5,p,hw2,rfl⟩
   simp_all only [e]
  | cons u rest =>
   have hu:=ho u (by rw [<- hT]; simp)
   obtain ⟨x,r,e1,e2⟩:=cz a u hu
   have hw3:ws=p++(wds u++(aj rest++q "]"::post)):=by rw [hw]; show p++((wds u++aj rest)++_)=_; rw [a0n]
   have hw2:ws=p++x::(r++(aj rest++q "]"::post)):=by rw [hw3,e1]; rfl
   have e:=fun m m1 m2=>ij n p x (r++(aj rest++q "]"::post)) (q "]") m m1 m2
   rw [e2,<- hw2] at e
   obtain ⟨md,t1⟩:=ih u hu p _ hw3
   have hacc:acc.length < 200:=by
    have:=congrArg a2o hT
    rw [a0b,a0k] at this
    omega
   have h200:(((acc.length:Nat):Int)==200)=false:=beq_eq_false_iff_ne.mpr (by omega)
   have hlt:acc.length < LIM:=by omega
   have hfin:∀ (m0' m1':Md) (o5':Option W),xj a ts ws post o2 rest.length [some (m0',.tup [.str (q "row"),a.th]),some (m1',.lst (ws.map T.str)),o2,some (.o .s,.lst (acc++[u])),some (.d,.int ((p++wds u).length:Nat)),o5']:=fun m0' m1' o5'=>⟨acc++[u],rest,p++wds u,m0',m1',o5',rfl,by rw [<- hT,a0n]; rfl,by rw [hw3,a0n],rfl⟩
   refine .inr ⟨[some (m0,.tup [.str (q "row"),a.th]),some (m1,.lst (ws.map T.str)),o2,some (.o .s,.lst acc),some (.d,.int (p.length:Nat)),o5],?_⟩
   have c1:evT (C (n+1)) (.q [1] [4]) (.not (.call 169 [.var 1,.var 4,.cst (.str (q "]"))])) [some (m0,.tup [.str (q "row"),a.th]),some (m1,.lst (ws.map T.str)),o2,some (.o .s,.lst acc),some (.d,.int (p.length:Nat)),o5]=.ok (true,[some (m0,.tup [.str (q "row"),a.th]),some (m1,.lst (ws.map T.str)),o2,some (.o .s,.lst acc),some (.d,.int (p.length:Nat)),o5]):=by
    simp_all only [e]
   rcases yj u with hv | hv
   ·cases md with
    | d=>exact ⟨_,_,c1,by simp_all only [h200,t1,hv,if_pos hlt],a05 _,hfin m0 m1 (some (.d,.tup [u,.int ((p++wds u).length:Nat)]))⟩
    | s=>exact ⟨_,_,c1,by simp_all only [h200,t1,hv,if_pos hlt],a05 _,hfin .s .s (some (.s,.tup [u,.int ((p++wds u).length:Nat)]))⟩
    | o md=>exact ⟨_,_,c1,by simp_all only [h200,t1,hv,if_pos hlt],a05 _,hfin .s .s (some (.o md,.tup [u,.int ((p++wds u).length:Nat)]))⟩
   ·cases md with
    | d=>exact ⟨_,_,c1,by simp_all only [h200,t1,hv,if_pos hlt],a05 _,hfin m0 m1 (some (.s,.tup [u,.int ((p++wds u).length:Nat)]))⟩
    | s=>exact ⟨_,_,c1,by simp_all only [h200,t1,hv,if_pos hlt],a05 _,hfin .s .s (some (.s,.tup [u,.int ((p++wds u).length:Nat)]))⟩
    | o md=>exact ⟨_,_,c1,by simp_all only [h200,t1,hv,if_pos hlt],a05 _,hfin .s .s (some (.s,.tup [u,.int ((p++wds u).length:Nat)]))⟩)
 obtain ⟨η',e,m0',m1',o5,p',h1,rfl⟩:=key
 exact ⟨m0',m1',o5,p',h1,e⟩
theorem jY (pre:List Str)(x:Str):T.int (((pre++[x]).length:Nat):Int)=.int (((pre.length:Nat):Int)+1):=by rw [a0b,a0t]; rfl
theorem take:∀ (k:Kd) (n:Nat) (w:T) (ws pre post:List Str) (m m1 m2:Md),OfK k w->ws=pre++(wds w++post)->∃ md,(∀ ts,w=.lst ts->md=.o (.o .s))/\C (n+2 * k.deep+3) 164 [(m,k.th),(m1,.lst (ws.map T.str)),(m2,.int (pre.length:Nat))]=.ok ((md,.tup [w,.int ((pre++wds w).length:Nat)]),[])
 | .num,n,w,ws,pre,post,m,m1,m2,⟨i,e,h⟩,hw=>by
  subst e
  have hw2:ws=pre++strI i::post:=hw
  have e1:=kZ pre (strI i) post
  have e2:=hV pre (strI i) post
  rw [<- hw2] at e1 e2
  have e3:=fun m=>yg n i h m
  have e4:T.int (((pre++wds (.int i)).length:Nat):Int)=.int (((pre.length:Nat):Int)+1):=jY pre (strI i)
  refine ⟨.d,(fun _ z=>nomatch z),?_⟩
  rw [show n+2 * Kd.num.deep+3=(n+2)+1 from rfl,a0,x_run _ _ _ rfl,e4]
  generalize ws.map T.str=us at e1 e2
  simp_all only [aB,Kd.th,qeq,e1,e2,e3]
 | .truth,n,w,ws,pre,post,m,m1,m2,⟨b,e⟩,hw=>by
  subst e
  have hw2:ws=pre++(if b then q "yes" else q "no")::post:=hw
  have e1:=kZ pre (if b then q "yes" else q "no") post
  have e2:=hV pre (if b then q "yes" else q "no") post
  rw [<- hw2] at e1 e2
  have e3:=fun m=>x8 (n+1) b m
  have e4:T.int (((pre++wds (.bl b)).length:Nat):Int)=.int (((pre.length:Nat):Int)+1):=jY pre (if b then q "yes" else q "no")
  refine ⟨.d,(fun _ z=>nomatch z),?_⟩
  rw [show n+2 * Kd.truth.deep+3=(n+2)+1 from rfl,a0,x_run _ _ _ rfl,e4]
  generalize ws.map T.str=us at e1 e2
  generalize (if b then q "yes" else q "no")=y at e2 e3
  simp_all only [aB,Kd.th,qeq,e1,e2,e3]
 | .pair a b,n,w,ws,pre,post,m,m1,m2,⟨u,v,e,h1,h2⟩,hw=>by
  subst e
  have hw1:ws=pre++(wds u++(wds v++post)):=by rw [hw]; show pre++((wds u++(wds v++[]))++post)=_; rw [a0p,a0n]
  have hw2:ws=(pre++wds u)++(wds v++post):=by rw [hw1,a0n]
  obtain ⟨md1,_,t1⟩:=take a (n+2 * (max a.deep b.deep-a.deep)) u ws pre _ .s .s .s h1 hw1
  obtain ⟨md2,_,t2⟩:=take b (n+2 * (max a.deep b.deep-b.deep)) v ws (pre++wds u) _ .s .s .s h2 hw2
  rw [show n+2 * (max a.deep b.deep-a.deep)+2 * a.deep+3=n+2 * max a.deep b.deep+3 by omega] at t1
  rw [show n+2 * (max a.deep b.deep-b.deep)+2 * b.deep+3=n+2 * max a.deep b.deep+3 by omega] at t2
  have e4:(pre++wds (.tup [u,v])).length=(pre++wds u++wds v).length:=by show (pre++(wds u++(wds v++[]))).length=_; rw [a0p,a0n]
  rw [show n+2 * (Kd.pair a b).deep+3=(n+2 * max a.deep b.deep+3)+1+1 by show n+2 * (max a.deep b.deep+1)+3=_; omega,e4]
  generalize ws.map T.str=us at t1 t2
  have tp:∀ m m1 m2,∃ md,C (n+2 * max a.deep b.deep+3+1) 167 [(m,.tup [.str (q "pair"),a.th,b.th]),(m1,.lst us),(m2,.int (pre.length:Nat))]=.ok ((md,.tup [.tup [u,v],.int ((pre++wds u++wds v).length:Nat)]),[]):=fun m m1 m2=>by
   rw [fN,x_run _ _ _ rfl]
   cases md1<;>cases md2<;>exact ⟨_,by
    simp_all only [a7,t1,t2]
    rfl⟩
  obtain ⟨md,tp1⟩:=tp m m1 m2
  refine ⟨md,(fun _ z=>nomatch z),?_⟩
  rw [a0,x_run _ _ _ rfl]
  simp_all only [aB,Kd.th,qeq,tp1]
 | .row a,n,w,ws,pre,post,m,m1,m2,⟨ts,e,hl,h⟩,hw=>by
  subst e
  have hw1:ws=pre++q "["::(aj ts++q "]"::post):=by rw [hw]; show pre++(q "["::(aj ts++[q "]"])++post)=_; rw [a1n,a0n]; rfl
  have hw2:ws=(pre++[q "["])++(aj ts++q "]"::post):=by rw [hw1,a0n]; rfl
  have ih:∀ u,OfK a u->∀ (pre post:List Str),ws=pre++(wds u++post)->∃ md,C (n+2 * a.deep+2+1) 164 [(.s,a.th),(.s,.lst (ws.map T.str)),(.d,.int (pre.length:Nat))]=.ok ((md,.tup [u,.int ((pre++wds u).length:Nat)]),[]):=fun u hu pre post e=>by
   obtain ⟨md,_,t⟩:=take a n u ws pre post .s .s .d hu e
   exact ⟨md,t⟩
  obtain ⟨m0',m1',o5,p',h1,lp⟩:=mG (n:=n+2 * a.deep+2) (o2:=some (m2,.int (pre.length:Nat))) (m0:=m) (m1:=m1) hl h hw2 ih
  have e0:=fun m m1 m2=>ij (n+2 * a.deep+2) pre (q "[") (aj ts++q "]"::post) (q "[") m m1 m2
  rw [beq_self_eq_true,<- hw1] at e0
  have e4:T.int (((pre++wds (.lst ts)).length:Nat):Int)=.int (((p'.length:Nat):Int)+1):=by
   have h2:=congrArg a2o (h1.symm.trans hw)
   have h3:(wds (.lst ts)).length=(aj ts).length+2:=by show (q "["::(aj ts++[q "]"])).length=_; rw [a0k,a0b,a0t]
   rw [a0b,a0b,a0b,a0k] at h2
   rw [a0b]
   congr 1
   omega
  have e5:T.int (((pre++[q "["]).length:Nat):Int)=.int (((pre.length:Nat):Int)+1):=jY pre (q "[")
  rw [show n+2 * (Kd.row a).deep+3=(n+2 * a.deep+3)+1+1 by show n+2 * (a.deep+1)+3=_; omega,e4]
  rw [e5] at lp
  generalize ws.map T.str=us at lp e0
  have tr:C (n+2 * a.deep+3+1) 168 [(m,.tup [.str (q "row"),a.th]),(m1,.lst us),(m2,.int (pre.length:Nat))]=.ok ((.o (.o .s),.tup [.lst ts,.int (((p'.length:Nat):Int)+1)]),[]):=by
   rw [gR,x_run _ _ _ rfl]
   simp_all only [bj,e0,lp]
  refine ⟨.o (.o .s),fun _ _=>rfl,?_⟩
  rw [a0,x_run _ _ _ rfl]
  simp_all only [aB,Kd.th,qeq,tr]
theorem yY (k:Kd)(n:Nat)(w:T)(m m1:Md)(h:OfK k w)(hl:(wds w).length<=1000):∃ md,C (n+2 * k.deep+4) 163 [(m,k.th),(m1,.str (txt w))]=.ok ((md,w),[]):=by
 have g:=ck k w h
 have e1:splS (txt w)=wds w:=j2 (fx h) g
 have sz:=fA g
 have b1:decide ((txt w).cps.size+2<=LIM)=true:=decide_eq_true (by show (Str.join sp (wds w)).cps.size+2<=16777215; omega)
 have b2:(wds w).all sOk=true:=a0W.mpr fun x hx=>rM (g x hx)
 have b3:(q " "==Str.ofString " ")=true:=beq_self_eq_true _
 obtain ⟨md,_,t⟩:=take k n w (wds w) [] [] .s .s .d h (by rw [a0Q,a0p])
 rw [a0Q,show (([]:List Str).length:Nat)=0 from rfl] at t
 have lt:decide ((((wds w).length:Nat):Int) < ((((wds w).map T.str).length:Nat):Int))=false:=decide_eq_false (by rw [a0d]; omega)
 rw [show n+2 * k.deep+4=(n+2 * k.deep+3)+1 from rfl,ek,x_run _ _ _ rfl]
 have b4:(splS (txt w)).all sOk=true:=by rw [e1]; exact b2
 have t2:∀ _m:Md,C (n+2 * k.deep+3) 164 [(.s,k.th),(.s,.lst ((splS (txt w)).map T.str)),(.d,.int 0)]=.ok ((md,.tup [w,.int ((wds w).length:Nat)]),[]):=fun _=>by rw [e1]; exact t
 have lt2:decide ((((wds w).length:Nat):Int) < ((((splS (txt w)).map T.str).length:Nat):Int))=false:=by rw [e1]; exact lt
 have t3:=t2 .d
 generalize txt w=tx at b1 b4 t3 lt2
 generalize wds w=ww at t3 lt2
 cases md<;>exact ⟨_,by
  simp_all only [aR,b1,b3,b4,t3,lt2]
  rfl⟩
theorem gG {α:Type}{tg:List Nat}{f:Env->Fl}{g:α->List W}(I:List α->Env->Prop):∀ (ts pre:List α) (η:Env),I pre η->(∀ p x r η,pre++ts=p++x::r->I p η->∃ η1 η2,aK tg (g x) η=some η1/\f η1=.nx η2/\I (p++[x]) η2) ->
  ∃ η',gD tg f (ts.map g) η=.nx η'/\I (pre++ts) η'
 | [],pre,η,h,_=>⟨η,rfl,by rw [a0p]; exact h⟩
 | x::ts,pre,η,h,k=>by
  obtain ⟨η1,η2,h1,h2,h3⟩:=k pre x ts η rfl h
  obtain ⟨η',e,hi⟩:=gG I ts (pre++[x]) η2 h3 fun p y r η e=>k p y r η (by rw [<- e,a0n]; rfl)
  refine ⟨η',?_,by rw [a0n] at hi; exact hi⟩
  rw [a0u]
  show Fl.of _ (ofO (aK tg (g x) η)) _=_
  rw [h1]
  show Fl.turn (f η1) _=_
  rw [h2]
  exact e
theorem gE (a b:List Str):a.map T.str++b.map T.str=(a++b).map T.str:=a1L.symm
theorem lD {n:Nat}{o0:Option W}:∀ (ts:List T) (acc:List Str) (o2:Option W),(∀ u∈ts,C n 174 [(.s,u)]=.ok ((.o .s,.lst ((wds u).map T.str)),[]))->acc.length+(aj ts).length<=2000->∃ o2',gD [2] (evSs (C n) [.ext (.q [2] []) 1 (.call 174 [.var 2])]) (ts.map fun t=>[((.s,t):W)]) [o0,some (.o .s,.lst (acc.map T.str)),o2]=.nx [o0,some (.o .s,.lst ((acc++aj ts).map T.str)),o2']
 | [],acc,o2,_,_=>⟨o2,by rw [show aj []=[] from rfl,a0p]; rfl⟩
 | u::ts,acc,o2,h,hl=>by
  have hl2:acc.length+((wds u).length+(aj ts).length)<=2000:=by
   rw [show aj (u::ts)=wds u++aj ts from rfl,a0b] at hl; exact hl
  have e:=h u a0c
  have hlt:(acc.map T.str).length+((wds u).map T.str).length<=LIM:=by rw [a0d,a0d]; show _<=16777215; omega
  have step:evSs (C n) [.ext (.q [2] []) 1 (.call 174 [.var 2])] [o0,some (.o .s,.lst (acc.map T.str)),some (.s,u)]=.nx [o0,some (.o .s,.lst ((acc++wds u).map T.str)),some (.s,u)]:=by
   simp_all only [e,if_pos hlt,gE]
  obtain ⟨o2',ih⟩:=lD (n:=n) (o0:=o0) ts (acc++wds u) (some (.s,u)) (fun v hv=>h v (a0e _ hv)) (by rw [a0b]; omega)
  refine ⟨o2',?_⟩
  rw [show aj (u::ts)=wds u++aj ts from rfl,<- a0n]
  exact (congrArg (Fl.turn · _) step).trans ih
theorem words:∀ (k:Kd) (n:Nat) (w:T) (m:Md),OfK k w->(wds w).length<=1000->C (n+k.deep+1) 174 [(m,w)]=.ok ((.o .s,.lst ((wds w).map T.str)),[])
 | .num,n,w,m,⟨i,e,h⟩,_=>by
  subst e
  have b:decide (i.natAbs < 10000000000000000000)=true:=decide_eq_true (by omega)
  have a1:isOne "int" (.int i)=true:=rfl
  have a2:isOne "bool" (.int i)=false:=rfl
  rw [show n+Kd.num.deep+1=n+1 from rfl,bf,x_run _ _ _ rfl]
  simp_all only [aC,a0y,a0B,a1,a2,a0x,b,wds]
 | .truth,n,w,m,⟨b,e⟩,_=>by
  subst e
  have a2:isOne "bool" (.bl b)=true:=rfl
  rw [show n+Kd.truth.deep+1=n+1 from rfl,bf,x_run _ _ _ rfl]
  cases b with
  | true=>simp_all only [aC,a0y,a0B,a2,a0x,b2i,wds]
  | false=>simp_all only [aC,a0y,a0B,a2,a0x,b2i,wds]
 | .pair a b,n,w,m,⟨u,v,e,h1,h2⟩,hl=>by
  subst e
  have hl2:(wds u).length+(wds v).length<=1000:=by
   rw [show wds (.tup [u,v])=wds u++(wds v++[]) from rfl,a0p,a0b] at hl; exact hl
  have e1:=words a (n+(max a.deep b.deep-a.deep)) u .s h1 (by omega)
  have e2:=words b (n+(max a.deep b.deep-b.deep)) v .s h2 (by omega)
  rw [show n+(max a.deep b.deep-a.deep)+a.deep+1=n+max a.deep b.deep+1 by omega] at e1
  rw [show n+(max a.deep b.deep-b.deep)+b.deep+1=n+max a.deep b.deep+1 by omega] at e2
  obtain ⟨o2',lp⟩:=lD (n:=n+max a.deep b.deep+1) (o0:=some (.s,.tup [u,v])) [u,v] [] none (fun x hx=>by
   rcases a0w.mp hx with rfl | hx
   ·exact e1
   ·rw [a0r.mp hx]; exact e2) (by rw [a2X,show aj [u,v]=wds u++(wds v++[]) from rfl,a0p,a0b]; omega)
  rw [a0Q,a1r] at lp
  have a1:isOne "int" (.tup [u,v])=false:=rfl
  have a2:isOne "bool" (.tup [u,v])=false:=rfl
  have a3:isOne "list" (.tup [u,v])=false:=rfl
  rw [show n+(Kd.pair a b).deep+1=(n+max a.deep b.deep+1)+1 from rfl,bf,x_run _ _ _ rfl,show wds (.tup [u,v])=aj [u,v] from rfl]
  generalize hts:[u,v]=ts at lp a1 a2 a3
  generalize aj ts=ww at lp
  simp_all only [aC,a0y,a0B,a1,a2,a3,a0x,lp]
 | .row a,n,w,m,⟨ts,e,hl,h⟩,hw=>by
  subst e
  have hw2:(aj ts).length+2<=1000:=by
   rw [show wds (.lst ts)=q "["::(aj ts++[q "]"]) from rfl,a0k,a0b,a0t] at hw; exact hw
  have sub:∀ u∈ts,(wds u).length<=(aj ts).length:=fun u hu=>by
   obtain ⟨s,t,rfl⟩:=a2v hu
   rw [ef,show aj (u::t)=wds u++aj t from rfl,a0b,a0b]
   omega
  obtain ⟨o2',lp⟩:=lD (n:=n+a.deep+1) (o0:=some (.s,.lst ts)) ts [] none (fun u hu=>words a n u .s (h u hu) (by have:=sub u hu; omega)) (by rw [a2X]; omega)
  rw [a0Q,a1r] at lp
  have a1:isOne "int" (.lst ts)=false:=rfl
  have a2:isOne "bool" (.lst ts)=false:=rfl
  have a3:isOne "list" (.lst ts)=true:=rfl
  have f1:bq ([T.str (q "[")].length+((aj ts).map T.str).length)=true:=decide_eq_true (by rw [a0d,a0t]; show _<=16777215; omega)
  have f2:bq (([T.str (q "[")]++(aj ts).map T.str).length+[T.str (q "]")].length)=true:=decide_eq_true (by rw [a0b,a0d,a0t,a0t]; show _<=16777215; omega)
  have e3:(wds (.lst ts)).map T.str=T.str (q "[")::((aj ts).map T.str++[T.str (q "]")]):=by rw [show wds (.lst ts)=q "["::(aj ts++[q "]"]) from rfl,a0u,a1L]; rfl
  rw [show n+(Kd.row a).deep+1=(n+a.deep+1)+1 from rfl,bf,x_run _ _ _ rfl,e3]
  rw [a1n,a0Q] at f2
  simp_all only [aC,a0y,a0B,a1,a2,a3,a0x,lp,f1,f2]
theorem fJ {k:Kd}{t:T}(h:OfK k t):(txt t).cps.size<=21 * (wds t).length:=fA (ck k t h)
theorem iA {k:Kd}{t:T}(h:OfK k t)(hl:(wds t).length<=1000):sOk (txt t)=true:=lh (iX fun x hx=>(ck k t h x hx).cp) (by have:=fJ h; show _<=16777215; omega)
theorem qe {k:Kd}{t:T}(h:OfK k t):1<=(wds t).length:=by
 obtain ⟨x,r,e,_⟩:=cz k t h
 rw [e,a0k]; omega
theorem eN:sp.cps.size=1:=by rw [je]; rfl
theorem iO {a:Kd}:∀ ts:List T,(∀ u∈ts,OfK a u)->((ts.map txt).map fun s=>s.cps.size+sp.cps.size).sum<=22 * (aj ts).length
 | [],_=>a0j _
 | t::ts,h=>by
  have ih:=iO ts fun u hu=>h u (a0e _ hu)
  have h1:=fJ (h t a0c)
  have h2:=qe (h t a0c)
  rw [a0u,a0u,a14,show aj (t::ts)=wds t++aj ts from rfl,a0b,eN]
  rw [eN] at ih
  omega
theorem gV {n:Nat}{o1:Option W}{ts:List T}{w0:W}(h:∀ u∈ts,C n 162 [(.s,u)]=.ok ((.d,.str (txt u)),[])):aO [2] (cZ (evE (C n) (.call 162 [.var 2]))) (ts.map fun t=>[((.s,t):W)]) [some w0,o1,none] []=.ok ([]++ts.map (fun u=>((.d,.str (txt u)):W)),[some w0,o1,none]):=bY _ _ [] fun u hu=>⟨_,[some w0,o1,some (.s,u)],rfl,by
  have e:=h u hu
  simp_all only [e],rfl⟩
theorem ki (ts:List T):aH (ts.map fun u=>((.d,.str (txt u)):W))=(ts.map txt).map T.str:=by
 rw [a2k]
 exact ji _ _ _
theorem i0:∀ (k:Kd) (n:Nat) (w:T) (m:Md),OfK k w->(wds w).length<=1000->C (n+k.deep+1) 162 [(m,w)]=.ok ((.d,.str (txt w)),[])
 | .num,n,w,m,⟨i,e,h⟩,_=>by
  subst e
  have b:decide (i.natAbs < 10000000000000000000)=true:=decide_eq_true (by omega)
  have a1:isOne "int" (.int i)=true:=rfl
  have a2:isOne "bool" (.int i)=false:=rfl
  have a3:txt (.int i)=strI i:=rfl
  rw [show n+Kd.num.deep+1=n+1 from rfl,aY,x_run _ _ _ rfl,a3]
  simp_all only [aw,a0y,a0B,a1,a2,a0x,b]
 | .truth,n,w,m,⟨b,e⟩,_=>by
  subst e
  have a2:isOne "bool" (.bl b)=true:=rfl
  have a3:txt (.bl b)=if b then q "yes" else q "no":=rfl
  rw [show n+Kd.truth.deep+1=n+1 from rfl,aY,x_run _ _ _ rfl,a3]
  cases b with
  | true=>simp_all only [aw,a0y,a0B,a2,a0x]
  | false=>simp_all only [aw,a0y,a0B,a2,a0x]
 | .pair a b,n,w,m,⟨u,v,e,h1,h2⟩,hl=>by
  have hw:OfK (.pair a b) w:=⟨u,v,e,h1,h2⟩
  have hok:=iA hw hl
  subst e
  have hl2:(wds u).length+(wds v).length<=1000:=by
   rw [show wds (.tup [u,v])=wds u++(wds v++[]) from rfl,a0p,a0b] at hl; exact hl
  have e1:=i0 a (n+(max a.deep b.deep-a.deep)) u .s h1 (by omega)
  have e2:=i0 b (n+(max a.deep b.deep-b.deep)) v .s h2 (by omega)
  rw [show n+(max a.deep b.deep-a.deep)+a.deep+1=n+max a.deep b.deep+1 by omega] at e1
  rw [show n+(max a.deep b.deep-b.deep)+b.deep+1=n+max a.deep b.deep+1 by omega] at e2
  have cm:=fun o1 w0=>gV (n:=n+max a.deep b.deep+1) (ts:=[u,v]) (o1:=o1) (w0:=w0) (fun x hx=>by
   rcases a0w.mp hx with rfl | hx
   ·exact e1
   ·rw [a0r.mp hx]; exact e2)
  have jn:Str.join sp ([u,v].map txt)=txt (.tup [u,v]):=by
   have:=cQ sp [wds u,wds v] (fun l hl=>by
    rcases a0w.mp hl with rfl | hl
    ·exact fx h1
    ·rw [a0r.mp hl]; exact fx h2) []
   rw [a0p,a0p] at this
   exact this
  have sm:decide ((([u,v].map txt).map fun s=>s.cps.size+sp.cps.size).sum<=LIM)=true:=decide_eq_true (by
   have s1:=fJ h1
   have s2:=fJ h2
   show (txt u).cps.size+sp.cps.size+((txt v).cps.size+sp.cps.size+0)<=16777215
   rw [eN]; omega)
  rw [<- jn] at hok
  have tr:=ki [u,v]
  have a1:isOne "int" (.tup [u,v])=false:=rfl
  have a2:isOne "bool" (.tup [u,v])=false:=rfl
  have a3:isOne "tuple" (.tup [u,v])=true:=rfl
  rw [show n+(Kd.pair a b).deep+1=(n+max a.deep b.deep+1)+1 from rfl,aY,x_run _ _ _ rfl]
  rw [<- jn]
  generalize [u,v]=ts at cm hok sm tr a1 a2 a3
  simp_all only [aw,a0y,a0B,a1,a2,a3,a0x,cm,tr,cH,hok,sm]
 | .row a,n,w,m,⟨ts,e,hl,h⟩,hw=>by
  have hW:OfK (.row a) w:=⟨ts,e,hl,h⟩
  have hok:=iA hW hw
  subst e
  have hw2:(aj ts).length+2<=1000:=by
   rw [show wds (.lst ts)=q "["::(aj ts++[q "]"]) from rfl,a0k,a0b,a0t] at hw; exact hw
  have sub:∀ u∈ts,(wds u).length<=(aj ts).length:=fun u hu=>by
   obtain ⟨s,t,rfl⟩:=a2v hu
   rw [ef,show aj (u::t)=wds u++aj t from rfl,a0b,a0b]
   omega
  have cm:=fun o1 w0=>gV (n:=n+a.deep+1) (ts:=ts) (o1:=o1) (w0:=w0) (fun u hu=>i0 a n u .s (h u hu) (by have:=sub u hu; omega))
  have jn:Str.join sp (q "["::(ts.map txt++[q "]"]))=txt (.lst ts):=by
   have:=cQ sp (ts.map wds) (fun l hl=>by obtain ⟨u,hu,rfl⟩:=a0Z.mp hl; exact fx (h u hu)) [q "]"]
   rw [<- cS,a2k] at this
   have cc:∀ zs:List Str,zs≠[]->Str.join sp (q "["::zs)=q "["++sp++Str.join sp zs:=fun zs hz=>by
    cases zs with
    | nil=>exact absurd rfl hz
    | cons z zs=>rfl
   show _=Str.join sp (q "["::(aj ts++[q "]"]))
   rw [cc _ (by simp),cc _ (by simp),<- this]
   rfl
  have sm:decide (((q "["::(ts.map txt++[q "]"])).map fun s=>s.cps.size+sp.cps.size).sum<=LIM)=true:=decide_eq_true (by
   have s1:=iO ts h
   have g1:=gw_op.sz
   have g2:=gw_cl.sz
   rw [a0u,a1L,a14,List.sum_append]
   show (q "[").cps.size+sp.cps.size+(_+((q "]").cps.size+sp.cps.size+0))<=16777215
   rw [eN] at s1 ⊢
   omega)
  rw [a0u] at sm
  rw [<- jn] at hok
  have tr:=ki ts
  have a1:isOne "int" (.lst ts)=false:=rfl
  have a2:isOne "bool" (.lst ts)=false:=rfl
  have a3:isOne "tuple" (.lst ts)=false:=rfl
  have lt:((ts.map txt).map T.str).length<=200:=by rw [a0d,a0d]; exact hl
  have f1:bq ([T.str (q "[")].length+((ts.map txt).map T.str).length)=true:=decide_eq_true (by rw [a0t]; show _<=16777215; omega)
  have f2:bq (([T.str (q "[")]++(ts.map txt).map T.str).length+[T.str (q "]")].length)=true:=decide_eq_true (by rw [a0b,a0t,a0t]; show _<=16777215; omega)
  rw [a1n,a0Q] at f2
  have so:strsOf (T.str (q "[")::((ts.map txt).map T.str++[T.str (q "]")]))=some (q "["::(ts.map txt++[q "]"])):=by
   have:=cH (q "["::(ts.map txt++[q "]"]))
   rw [a0u,a1L] at this
   exact this
  rw [show n+(Kd.row a).deep+1=(n+a.deep+1)+1 from rfl,aY,x_run _ _ _ rfl,<- jn]
  simp_all only [aw,a0y,a0B,a1,a2,a3,a0x,cm,tr,f1,f2,so,hok,sm]
noncomputable def PT:Nat->T->Prop
 | _,.bl _=>True
 | _,.int _=>True
 | d+1,.tup ts=>∀ u∈ts,PT d u
 | d+1,.lst ts=>∀ u∈ts,PT d u
 | _,_=>False
theorem cP (m n:Md):∀ ts:List T,cq m n ts ts=ts.map fun t=>[(m,t),(n,t)]
 | []=>rfl
 | t::ts=>by show _::cq m n ts ts=_::_; rw [cP m n ts]
theorem u5 (m n:Md)(ts us:List T):aT .zip [(m,.lst ts),(n,.lst us)]=some (cq .s .s ts us):=rfl
theorem vI (m n:Md)(ts us:List T):aT .zip [(m,.tup ts),(n,.tup us)]=some (cq .s .s ts us):=rfl
theorem b7:∀ ts:List T,aN (ts.map fun _=>T.bl true)=some (ts.map fun _=>true)
 | []=>rfl
 | _::ts=>by show (aN (ts.map fun _=>T.bl true)).map _=_; rw [b7 ts]; rfl
theorem dj:∀ ts:List T,(ts.map fun _=>true).all id=true
 | []=>rfl
 | _::ts=>by show (true&&(ts.map fun _=>true).all id)=true; rw [dj ts]; rfl
theorem bI {α:Type}(f:α->Md)(g:α->T):∀ ts:List α,aH (ts.map fun x=>(f x,g x))=ts.map g
 | []=>rfl
 | x::ts=>by show g x::aH _=g x::ts.map g; rw [bI f g ts]
theorem wW (ts:List T):isOne "list" (.lst ts)=true:=rfl
theorem xF (ts:List T):isOne "tuple" (.lst ts)=false:=rfl
theorem wB (ts:List T):isOne "list" (.tup ts)=false:=rfl
theorem xm (ts:List T):isOne "tuple" (.tup ts)=true:=rfl
theorem rk (i:Int):isOne "list" (.int i)=false:=rfl
theorem rF (i:Int):isOne "tuple" (.int i)=false:=rfl
theorem qW (b:Bool):isOne "list" (.bl b)=false:=rfl
theorem rH (b:Bool):isOne "tuple" (.bl b)=false:=rfl
theorem rJ (b:Bool):isOne "bool" (.bl b)=true:=rfl
theorem qS (i:Int):isOne "bool" (.int i)=false:=rfl
theorem qT (i:Int):isOne "int" (.int i)=true:=rfl
theorem qY (n:Nat):∀ (d:Nat) (t:T) (m m':Md),PT d t->C (n+d+1) 170 [(m,t),(m',t)]=.ok ((.d,.bl true),[]):=by
 intro d
 induction d with
 | zero =>
  intro t m m' h
  rw [cB,x_run _ _ _ rfl]
  cases t with
  | bl b=>simp_all only [ax,a0y,a0B,qW,rH,rJ,a0x,a1s,beq_self_eq_true]
  | int i=>simp_all only [ax,a0y,a0B,rk,rF,qS,qT,a0x,a1s,beq_self_eq_true]
  | _=>exact h.elim
 | succ d ih =>
  intro t m m' h
  rw [show n+(d+1)+1=(n+d+1)+1 by omega,cB,x_run _ _ _ rfl]
  have cm:∀ ts:List T,(∀ u∈ts,PT d u)->∀ o0 o1:Option W,aO [2,3] (cZ (evE (C (n+d+1)) (.call 170 [.var 2,.var 3]))) (ts.map fun t=>[((.s,t):W),(.s,t)]) [o0,o1,none,none] []=.ok ([]++ts.map fun _=>(.d,.bl true),[o0,o1,none,none]):=by
   intro ts hts o0 o1
   refine bY (fun _=>((.d,.bl true):W)) ts [] fun u hu=>⟨_,[o0,o1,some (.s,u),some (.s,u)],rfl,?_,rfl⟩
   simp_all only [ih u .s .s (hts u hu)]
  cases t with
  | bl b=>simp_all only [ax,a0y,a0B,qW,rH,rJ,a0x,a1s,beq_self_eq_true]
  | int i=>simp_all only [ax,a0y,a0B,rk,rF,qS,qT,a0x,a1s,beq_self_eq_true]
  | lst ts=>simp_all only [ax,a0y,a0B,wW,xF,a0x,a1s,beq_self_eq_true,u5,cP,cm ts h,bI (fun _=>Md.d),b7,dj]
  | tup ts=>simp_all only [ax,a0y,a0B,wB,xm,a0x,a1s,beq_self_eq_true,vI,cP,cm ts h,bI (fun _=>Md.d),b7,dj]
  | _=>exact h.elim
theorem f9:∀ (k:Kd) (t:T),OfK k t->PT k.deep t
 | .num,_,⟨i,e,_⟩=>by subst e; exact a01
 | .truth,_,⟨b,e⟩=>by subst e; exact a01
 | .pair a b,_,⟨u,v,e,h1,h2⟩=>by
  subst e
  intro x hx
  have mono:∀ {d e:Nat} {t:T},d<=e->PT d t->PT e t:=by
   intro d
   induction d with
   | zero=>intro e t _ h; cases t<;>first | exact h.elim | (cases e<;>exact a01)
   | succ d ih =>
    intro e t hde h
    obtain ⟨e',rfl⟩:∃ e',e=e'+1:=⟨e-1,by omega⟩
    cases t<;>first | exact h.elim | exact a01 | exact fun u hu=>ih (by omega) (h u hu)
  rcases a0w.mp hx with rfl | hx
  ·exact mono (show a.deep<=max a.deep b.deep by omega) (f9 a _ h1)
  ·rw [a0r.mp hx]; exact mono (show b.deep<=max a.deep b.deep by omega) (f9 b v h2)
 | .row a,_,⟨ts,e,_,h⟩=>by
  subst e
  exact fun u hu=>f9 a u (h u hu)
theorem m6:decide ((0:Int) < 6)=true:=rfl
theorem m2':decide ((0:Int) < 2)=true:=rfl
theorem xN:decide ((0:Int) < 216)=true:=rfl
theorem l6:decide ((6:Int) < 1073741824)=true:=rfl
theorem vS:decide ((216:Int) < 1073741824)=true:=rfl
theorem lH (c:Int)(A B:T):∃ b:Bool,atI [A,B] (c % 2)=some (if b then B else A):=by
 have:c % 2=0\/c % 2=1:=by omega
 rcases this with h | h
 ·exact ⟨false,by rw [h]; rfl⟩
 ·exact ⟨true,by rw [h]; rfl⟩
theorem mM:∀ (l n:Nat) (c:Int) (m m':Md),∃ md k,Kd.deep k<=l/\C (n+l+1) 171 [(m,.int c),(m',.int (l:Nat))]=.ok ((md,Kd.th k),[])
 | 0,n,c,m,m'=>by
  obtain ⟨b,hb⟩:=lH c (.tup [.str (q "num")]) (.tup [.str (q "truth")])
  have h0:(((0:Nat):Int)==0)=true:=rfl
  rw [show n+0+1=n+1 from rfl,cV,x_run _ _ _ rfl]
  cases b with
  | true=>exact ⟨.s,.truth,a0j _,by simp_all only [aF,m6,m2',h0,hb,Kd.th]⟩
  | false=>exact ⟨.s,.num,a0j _,by simp_all only [aF,m6,m2',h0,hb,Kd.th]⟩
 | l+1,n,c,m,m'=>by
  have h0:((((l+1:Nat)):Int)==0)=false:=beq_eq_false_iff_ne.mpr (by omega)
  have hs:(((l+1:Nat)):Int)-1=((l:Nat):Int):=by omega
  rw [show n+(l+1)+1=(n+l+1)+1 by omega,cV,x_run _ _ _ rfl]
  cases h1:decide (c % 6 < 2) with
  | true =>
   obtain ⟨b,hb⟩:=lH c (.tup [.str (q "num")]) (.tup [.str (q "truth")])
   cases b with
   | true=>exact ⟨.s,.truth,a03 _,by simp_all only [aF,m6,m2',h0,h1,hb,Kd.th]⟩
   | false=>exact ⟨.s,.num,a03 _,by simp_all only [aF,m6,m2',h0,h1,hb,Kd.th]⟩
  | false =>
   obtain ⟨md1,k1,d1,e1⟩:=mM l n (c / 6) .d .d
   cases h2:c % 6==2 with
   | true =>
    obtain ⟨md2,k2,d2,e2⟩:=mM l n (c / 216) .d .d
    have e:=show (Kd.pair k1 k2).th=.tup [.str (q "pair"),k1.th,k2.th] from rfl
    exact ⟨_,.pair k1 k2,by show max k1.deep k2.deep+1<=l+1; omega,by
     rw [e]
     simp_all only [aF,m6,m2',xN,l6,vS,h0,h1,h2,hs,e1,e2]
     rfl⟩
   | false =>
    have e:=show (Kd.row k1).th=.tup [.str (q "row"),k1.th] from rfl
    exact ⟨_,.row k1,by show k1.deep+1<=l+1; omega,by
     rw [e]
     simp_all only [aF,m6,m2',xN,l6,vS,h0,h1,h2,hs,e1]
     rfl⟩
theorem kH:oSem .pow false [(.d,.int 10),(.d,.int 18)]=some (.d,.int 1000000000000000000):=rfl
theorem rA:oSem .pow false [(.d,.int 10),(.d,.int 9)]=some (.d,.int 1000000000):=rfl
theorem oF (n:Nat)(c:Int)(m:Md):∃ md i,Int.natAbs i<=1000000000000000000/\C (n+1) 172 [(m,.int c)]=.ok ((md,.int i),[]):=by
 have d3:decide ((0:Int) < 3)=true:=rfl
 have l3:decide ((3:Int) < 1073741824)=true:=rfl
 have d10:decide ((0:Int) < 10)=true:=rfl
 have b2n:decide ((2:Int).natAbs < 18446744073709551616)=true:=rfl
 have dB:decide ((0:Int) < 2 * 1000000000000000000+1)=true:=by decide
 rw [ej,x_run _ _ _ rfl]
 cases h:c % 3==0 with
 | true =>
  refine ⟨.d,c / 3 % (2 * 1000000000000000000+1)-1000000000000000000,?_,?_⟩
  ·have h1:=a1M (c / 3) (show (2 * 1000000000000000000+1:Int)≠0 by decide)
   have h2:=a1x (c / 3) (show (0:Int) < 2 * 1000000000000000000+1 by decide)
   omega
  ·simp_all only [aM,d3,l3,d10,dB,h,kH,rA,b2n,a2E]
 | false =>
  obtain ⟨i,hi,hb⟩:∃ i:Int,atI [T.int 0,T.int 1,T.int (-1),T.int 1000000000000000000,T.int (0-1000000000000000000),T.int (1000000000000000000-1),T.int (1-1000000000000000000),T.int 7,T.int (-30),T.int 1000000000] (c / 3 % 10)=some (.int i)/\i.natAbs<=1000000000000000000:=by
   have h1:=a1M (c / 3) (show (10:Int)≠0 by decide)
   have h2:=a1x (c / 3) (show (0:Int) < 10 by decide)
   generalize c / 3 % 10=v at h1 h2
   have:v=0\/v=1\/v=2\/v=3\/v=4\/v=5\/v=6\/v=7\/v=8\/v=9:=by omega
   rcases this with rfl | rfl | rfl | rfl | rfl | rfl | rfl | rfl | rfl | rfl<;>exact ⟨_,rfl,by decide⟩
  refine ⟨.s,i,hb,?_⟩
  simp_all only [aM,d3,l3,d10,dB,h,kH,rA,b2n,a2E,hi]
noncomputable def wb:Nat->Nat
 | 0=>1
 | d+1=>5 * wb d+2
theorem dg:∀ {a b:Nat},a<=b->wb a<=wb b
 | _,0,h=>by cases Nat.le_zero.mp h; exact a0j _
 | a,b+1,h=>by
  by_cases e:a=b+1
  ·rw [e]; exact a0j _
  ·have:=dg (a:=a) (b:=b) (by omega)
   have e2:wb (b+1)=5 * wb b+2:=rfl
   omega
theorem ur {mm:Int}(h0:0<=mm)(h1:mm<=1000000):decide (mm.natAbs < 4611686018427387904)=true/\bq mm.toNat=true:=⟨decide_eq_true (by omega),decide_eq_true (by show mm.toNat<=16777215; omega)⟩
theorem fh {b:Nat}:∀ {ts:List T},(∀ t∈ts,(wds t).length<=b)->(aj ts).length<=ts.length * b
 | [],_=>a03 _
 | t::ts,h=>by
  have h1:=h t a0c
  have h2:=fh fun v hv=>h v (a0e _ hv)
  rw [show aj (t::ts)=wds t++aj ts from rfl,a0b,a0k,a3a]; omega
theorem fT:∀ (k:Kd) (n:Nat) (c left:Int) (m m' m'':Md),∃ md w,OfK k w/\(wds w).length<=wb k.deep/\C (n+k.deep+2) 173 [(m,k.th),(m',.int c),(m'',.int left)]=.ok ((md,w),[])
 | .num,n,c,left,m,m',m''=>by
  obtain ⟨md,i,hi,e⟩:=oF n c m'
  refine ⟨md,.int i,⟨i,rfl,hi⟩,a0j _,?_⟩
  rw [show n+Kd.num.deep+2=(n+1)+1 from rfl,bc,x_run _ _ _ rfl]
  simp_all only [aI,Kd.th,qeq,e]
 | .truth,n,c,left,m,m',m''=>by
  refine ⟨.d,.bl (c % 2==1),⟨_,rfl⟩,a0j _,?_⟩
  rw [show n+Kd.truth.deep+2=(n+1)+1 from rfl,bc,x_run _ _ _ rfl]
  simp_all only [aI,Kd.th,qeq,m2']
 | .pair a b,n,c,left,m,m',m''=>by
  have d3:decide ((0:Int) < 3)=true:=rfl
  have l3:decide ((3:Int) < 1073741824)=true:=rfl
  have d5:decide ((0:Int) < 5)=true:=rfl
  have l5:decide ((5:Int) < 1073741824)=true:=rfl
  obtain ⟨md1,u,h1,w1,e1⟩:=fT a (n+(max a.deep b.deep-a.deep)) (c / 3) left .s .d (lkM m'')
  obtain ⟨md2,v,h2,w2,e2⟩:=fT b (n+(max a.deep b.deep-b.deep)) (c / 5+1) left .s .d (lkM m'')
  rw [show n+(max a.deep b.deep-a.deep)+a.deep+2=n+max a.deep b.deep+2 by omega] at e1
  rw [show n+(max a.deep b.deep-b.deep)+b.deep+2=n+max a.deep b.deep+2 by omega] at e2
  have q1:=dg (a:=a.deep) (b:=max a.deep b.deep) (by omega)
  have q2:=dg (a:=b.deep) (b:=max a.deep b.deep) (by omega)
  have q3:wb (Kd.pair a b).deep=5 * wb (max a.deep b.deep)+2:=rfl
  exact ⟨_,.tup [u,v],⟨u,v,rfl,h1,h2⟩,by show (wds u++(wds v++[])).length<=_; rw [a0p,a0b]; omega,by
   rw [show n+(Kd.pair a b).deep+2=(n+max a.deep b.deep+2)+1 by show n+(max a.deep b.deep+1)+2=_; omega,bc,x_run _ _ _ rfl]
   simp_all only [aI,Kd.th,qeq,d3,l3,d5,l5,e1,e2]
   rfl⟩
 | .row a,n,c,left,m,m',m''=>by
  have d7:decide ((0:Int) < 7)=true:=rfl
  have l7:decide ((7:Int) < 1073741824)=true:=rfl
  obtain ⟨L,hL,L0,L1⟩:∃ L:Int,atI [T.int 2,T.int 4,T.int 6] (if (if left < 2 then left else 2) > 0 then (if left < 2 then left else 2) else 0)=some (.int L)/\0 < L/\L<=6:=by
   have:(if (if left < 2 then left else 2) > 0 then (if left < 2 then left else 2) else 0)=0\/(if (if left < 2 then left else 2) > 0 then (if left < 2 then left else 2) else 0)=1\/(if (if left < 2 then left else 2) > 0 then (if left < 2 then left else 2) else 0)=2:=by
    split<;>split<;>omega
   rcases this with h | h | h<;>rw [h]
   ·exact ⟨2,rfl,by decide,by decide⟩
   ·exact ⟨4,rfl,by decide,by decide⟩
   ·exact ⟨6,rfl,by decide,by decide⟩
  have r0:=a1M c (show L≠0 by omega)
  have r1:=a1x c L0
  obtain ⟨b1,b2⟩:=ur (mm:=c % L) r0 (by omega)
  have dL:decide (0 < L)=true:=decide_eq_true L0
  generalize hM:c % L=M at r0 r1 b1 b2
  obtain ⟨ws,η',e,rfl,hl,hw⟩:=eL (tg:=[4]) (f:=cZ (evE (C (n+a.deep+2)) (.call 173 [.op .ix false [.var 0,.cst (.int 1)],.op .add false [.op .mul false [.op .fdiv false [.var 1,.cst (.int 7)],.op .add false [.var 4,.cst (.int 1)]],.var 4],.op .sub false [.var 2,.cst (.int 1)]]))) (g:=fun (k:Nat)=>[((.d,.int k):W)])
   (fun pre η acc=>η=[some (.s,.tup [.str (q "row"),a.th]),some (m',.int c),some (m'',.int left),none,none]/\acc.length=pre.length/\∀ w∈acc,OfK a w.2/\(wds w.2).length<=wb a.deep)
   (a0H M.toNat) [] _ [] ⟨rfl,rfl,(fun _ h=>nomatch h)⟩ (fun p k r η acc hp ⟨he,hl,hw⟩=>by
    subst he
    have hk:k∈a0H M.toNat:=by rw [show a0H M.toNat=p++k::r from hp]; simp
    have hk:=a1D.mp hk
    have bk:decide ((((k:Nat):Int)+1).natAbs < 18446744073709551616)=true:=decide_eq_true (by omega)
    obtain ⟨md,u,h1,w1,e1⟩:=fT a n (c / 7 * (((k:Nat):Int)+1)+((k:Nat):Int)) (left-1) .s .d .d
    refine ⟨_,some (md,u),[some (.s,.tup [.str (q "row"),a.th]),some (m',.int c),some (m'',.int left),none,some (.d,.int k)],rfl,?_,rfl,?_,?_⟩
    ·simp_all only [d7,l7,bk,a1s,e1]
    ·rw [a0b,a0b,hl]; rfl
    ·intro w hw'
     rcases a0L.mp hw' with z | z
     ·exact hw w z
     ·rw [a0r.mp z]; exact ⟨h1,w1⟩)
  rw [a0Q,a1X] at hl
  have tl:(aH ws).length<=5:=by rw [eT,hl]; omega
  refine ⟨.o .s,.lst (aH ws),⟨_,rfl,by omega,fun u hu=>by obtain ⟨w,h,rfl⟩:=cM hu; exact (hw w h).1⟩,?_,?_⟩
  ·have h1:=fh (b:=wb a.deep) (ts:=aH ws) fun u hu=>by obtain ⟨w,h,rfl⟩:=cM hu; exact (hw w h).2
   have h2:=Nat.mul_le_mul tl (a0j (wb a.deep))
   show (q "["::(aj (aH ws)++[q "]"])).length<=5 * wb a.deep+2
   rw [a0k,a0b,a0t]
   omega
  ·rw [show n+(Kd.row a).deep+2=(n+a.deep+2)+1 by show n+(a.deep+1)+2=_; omega,bc,x_run _ _ _ rfl]
   simp_all only [aI,Kd.th,qeq,hL,dL,hM,b1,b2,e]
noncomputable abbrev s0:S:=.asg (.q [] [1]) 2 (.call 171 [.var 1,.cst (.int 4)])
noncomputable abbrev s1:S:=.asg (.q [2] [1]) 3 (.call 173 [.var 2,.op .fdiv false [.var 1,.cst (.int 7)],.cst (.int 2)])
noncomputable abbrev s2:S:=.ite (.q [] [1]) (.op .eq false [.op .mod false [.var 1,.cst (.int 8)],.cst (.int 1)]) [
    .asg (.q [] []) 2 (.tup [.cst (.str (q "row")),.tup [.cst (.str (q "truth"))]]),
    .asg (.q [] [1]) 3 (.comp false .rng [.cst (.int 200)] [9] none (.op .eq false [.op .mod false [.op .add false [.op .fdiv false [.var 1,.cst (.int 8)],.op .mul false [.var 9,.var 9]],.cst (.int 3)],.cst (.int 0)]))] []
noncomputable abbrev s3:S:=.asg (.q [3] []) 4 (.call 174 [.var 3])
noncomputable abbrev s4:S:=.ite (.q [2,3,4] []) (.or (.op .ne false [.call 162 [.var 3],.op .join false [.cst (.str (q " ")),.var 4]]) (.not (.call 170 [.call 163 [.var 2,.op .join false [.cst (.str (q " ")),.var 4]],.var 3]))) [
    .ret [] (.cst (.bl false))] []
noncomputable abbrev s5:S:=.asg (.q [] [1]) 5 (.op .sl2 false [.lst false [.cst (.str (q "[")),.cst (.str (q "")),.cst (.str (q "5")),.cst (.str (q "no")),.cst (.str (q "]"))],.op .mod false [.var 1,.cst (.int 5)]])
noncomputable abbrev s6:S:=.asg (.q [4,5] [1]) 6 (.op .add false [.op .add false [.var 5,.var 4],.op .sl2 false [.lst false [.cst (.str (q "]")),.cst (.str (q "1")),.cst (.str (q ""))],.op .mod false [.op .fdiv false [.var 1,.cst (.int 5)],.cst (.int 4)]]])
noncomputable abbrev s7:S:=.asg (.q [6] []) 7 (.op .list false [.var 6])
noncomputable abbrev s8:S:=.asg (.q [2,5,6] []) 8 (.call 164 [.var 2,.var 6,.op .len false [.var 5]])
noncomputable abbrev s9:S:=.ite (.q [3,4,5,6,7,8] []) (.or (.not (.call 170 [.var 8,.tup [.var 3,.op .add false [.op .len false [.var 5],.op .len false [.var 4]]]])) (.op .ne false [.var 6,.var 7])) [
    .ret [] (.cst (.bl false))] []
noncomputable abbrev s10:S:=.ite (.q [8] []) (.op (.isI ["list"]) false [.op .ix false [.var 8,.cst (.int 0)]]) [
    .exp (.l []) (.op .apd false [.mvP 8 [0],.cst (.int 0)]),
    .ite (.q [2,3,4] []) (.not (.call 170 [.call 163 [.var 2,.op .join false [.cst (.str (q " ")),.var 4]],.var 3])) [
     .ret [] (.cst (.bl false))] []] []
noncomputable abbrev BL:List S:=[s0,s1,s2,s3,s4,s5,s6,s7,s8,s9,s10]
theorem fj (C:Call):∀ (a b:List S) (η:Env),evSs C (a++b) η=(evSs C a η).seq (evSs C b)
 | [],b,η=>rfl
 | s::a,b,η=>by
  show (evS C s η).seq (evSs C (a++b))=((evS C s η).seq (evSs C a)).seq (evSs C b)
  cases evS C s η<;>first | rfl | exact fj C a b _
theorem go1 {C:Call}{a:S}{b:List S}{η η':Env}(h:evSs C [a] η=.nx η'):evSs C (a::b) η=evSs C b η':=by
 have:=fj C [a] b η
 rw [h] at this
 exact this
theorem gw {α:Type}(ts:List α)(j:Nat):cut ts none (some (j:Int))=ts.take j:=by
 show (ts.drop 0).take ((if (j:Int) < 0 then ((j:Int)+ts.length).toNat else min (j:Int).toNat ts.length)-0)=_
 rw [if_neg (by omega),a1W,Nat.sub_zero,a20]
 by_cases h:j<=ts.length
 ·rw [Nat.min_eq_left h]
 ·rw [Nat.min_eq_right (by omega),a1A (a0j _),a1A (by omega)]
theorem af0 (m:Md)(η:Env):after m [] η=η:=by cases m<;>rfl
noncomputable def AH:List Str:=[q "[",q "",q "5",q "no",q "]"]
noncomputable def BH:List Str:=[q "]",q "1",q ""]
theorem eO:∀ ws:List Str,eqTs (ws.map T.str) (ws.map T.str)=true
 | []=>rfl
 | x::ws=>by show (x==x&&eqTs (ws.map T.str) (ws.map T.str))=true; rw [beq_self_eq_true,eO ws]; rfl
theorem nL (h:Bool)(m n:Md)(ws:List Str):oSem .ne h [(m,.lst (ws.map T.str)),(n,.lst (ws.map T.str))]=some (.d,.bl false):=by
 have d0:∀ ws:List Str,dps (ws.map T.str)=0:=fun ws=>by
  induction ws with
  | nil=>rfl
  | cons x ws ih=>show max 0 (dps (ws.map T.str))=0; rw [ih]; rfl
 have hd:dp (.lst (ws.map T.str))<=64:=by show dps (ws.map T.str)+1<=64; rw [d0]; decide
 rw [yX _ _ _ _ _ hd hd]
 show some (Md.d,T.bl (!eqTs (ws.map T.str) (ws.map T.str)))=_
 rw [eO]; rfl
theorem qb {ws:List Str}(h:∀ x∈ws,Gw x):(ws.map fun s=>s.cps.size+sp.cps.size).sum<=21 * ws.length:=by
 induction ws with
 | nil=>exact a0j _
 | cons x ws ih =>
  have h1:=(h x a0c).sz
  have h2:=ih fun y hy=>h y (a0e _ hy)
  rw [a0u,a14,a0k,eN]
  rw [eN] at h2
  omega
structure Dr (k:Kd)(w:T):Prop where
 dk:k.deep<=4
 of:OfK k w
 wl:(wds w).length<=1000
theorem drawn (c:Int)(ns:List Int)(o2 o3 o4 o5 o6 o7 o8:Option W)(m1:Md):∃ (k:Kd) (w:T) (m2 m3:Md),Dr k w/\evSs (C 39) [s0,s1,s2] [some (.s,.scr ns),some (m1,.int c),o2,o3,o4,o5,o6,o7,o8,none]=.nx [some (.s,.scr ns),some (m1,.int c),some (m2,k.th),some (m3,w),o4,o5,o6,o7,o8,none]:=by
 have d7:decide ((0:Int) < 7)=true:=rfl
 have l7:decide ((7:Int) < 1073741824)=true:=rfl
 have d8:decide ((0:Int) < 8)=true:=rfl
 have l8:decide ((8:Int) < 1073741824)=true:=rfl
 have d3:decide ((0:Int) < 3)=true:=rfl
 obtain ⟨md,k,hk,e1⟩:=mM 4 34 c .d .d
 rw [show ((4:Nat):Int)=4 from rfl] at e1
 obtain ⟨md2,w,ho,hw,e2⟩:=fT k (37-k.deep) (c / 7) 2 .s .d .d
 rw [show 37-k.deep+k.deep+2=39 by omega] at e2
 have hw2:(wds w).length<=1000:=a0s hw (a0s (dg hk) (by decide))
 obtain ⟨l,hl,_⟩:=uX k
 rw [hl] at e1 e2
 cases h:c % 8==1 with
 | false =>
  cases hM:lf md2 w with
  | d=>exact ⟨k,w,md,.d,⟨hk,ho,hw2⟩,by rw [hl]; simp_all only [af0,d7,l7,d8,e1,e2,hM,h]⟩
  | s=>exact ⟨k,w,.s,.s,⟨hk,ho,hw2⟩,by rw [hl]; simp_all only [af0,d7,l7,d8,e1,e2,hM,h]⟩
  | o m=>exact ⟨k,w,.s,.o m,⟨hk,ho,hw2⟩,by rw [hl]; simp_all only [af0,d7,l7,d8,e1,e2,hM,h]⟩
 | true =>
  have t200:(200:Int).toNat=200:=rfl
  have r1:decide ((200:Int).natAbs < 4611686018427387904)=true:=rfl
  have r2:bq 200=true:=rfl
  have du:aO [9] (cZ (evE (C 39) (.op .eq false [.op .mod false [.op .add false [.op .fdiv false [.var 1,.cst (.int 8)],.op .mul false [.var 9,.var 9]],.cst (.int 3)],.cst (.int 0)]))) ((a0H 200).map fun (k:Nat)=>[((.d,.int k):W)]) [none,some (.d,.int c),none,none,none,none,none,none,none,none] []=.ok ([]++(a0H 200).map (fun (k:Nat)=>((.d,.bl ((c / 8+(k:Int) * (k:Int)) % 3==0)):W)),[none,some (.d,.int c),none,none,none,none,none,none,none,none]):=bY _ _ [] fun k hk=>⟨_,[none,some (.d,.int c),none,none,none,none,none,none,none,some (.d,.int k)],rfl,by
   have bk:decide (((k:Nat):Int).natAbs < 18446744073709551616)=true:=decide_eq_true (by have:=a1D.mp hk; omega)
   simp_all only [d8,l8,d3,bk,a2E],rfl⟩
  have tr:aH ((a0H 200).map fun (k:Nat)=>((.d,.bl ((c / 8+(k:Int) * (k:Int)) % 3==0)):W))=(a0H 200).map fun (k:Nat)=>T.bl ((c / 8+(k:Int) * (k:Int)) % 3==0):=bI (fun _=>Md.d) (fun (k:Nat)=>T.bl ((c / 8+(k:Int) * (k:Int)) % 3==0)) _
  have hl2:((a0H 200).map fun (k:Nat)=>T.bl ((c / 8+(k:Int) * (k:Int)) % 3==0)).length=200:=by rw [a0d,a1X]
  have hb:∀ t∈(a0H 200).map fun (k:Nat)=>T.bl ((c / 8+(k:Int) * (k:Int)) % 3==0),∃ b,t=.bl b:=fun t ht=>by obtain ⟨k,_,rfl⟩:=a0Z.mp ht; exact ⟨_,rfl⟩
  generalize ((a0H 200).map fun (k:Nat)=>T.bl ((c / 8+(k:Int) * (k:Int)) % 3==0))=us at tr hl2 hb
  have wl:=fh (b:=1) (ts:=us) fun t ht=>by obtain ⟨b,rfl⟩:=hb t ht; exact a0j _
  refine ⟨.row .truth,.lst us,.d,.o .s,⟨by decide,⟨us,rfl,by omega,hb⟩,?_⟩,?_⟩
  ·show (q "["::(aj us++[q "]"])).length<=1000
   rw [a0k,a0b,a0t]; omega
  ·rw [show (Kd.row .truth).th=.tup [.str (q "row"),.tup [.str (q "truth")]] from rfl]
   cases hM:lf md2 w with
   | d=>simp_all only [af0,d7,l7,d8,e1,e2,hM,h,r1,t200,r2,du,tr]
   | s=>simp_all only [af0,d7,l7,d8,e1,e2,hM,h,r1,t200,r2,du,tr]
   | o m=>simp_all only [af0,d7,l7,d8,e1,e2,hM,h,r1,t200,r2,du,tr]
theorem vX (c:Int)(n:Nat)(hn:0 < n):∃ j:Nat,c % (n:Int)=(j:Int)/\j < n:=by
 have h1:=a1M c (show (n:Int)≠0 by omega)
 have h2:=a1x c (show (0:Int) < n by omega)
 exact ⟨(c % (n:Int)).toNat,by omega,by omega⟩
theorem pF (c:Int)(ns:List Int){k:Kd}{w:T}(D:Dr k w)(o4 o5 o6 o7 o8:Option W)(m1 m2 m3:Md):∃ o2 o3 o4' o5' o6' o7' o8',evSs (C 39) [s3,s4,s5,s6,s7,s8,s9,s10] [some (.s,.scr ns),some (m1,.int c),some (m2,k.th),some (m3,w),o4,o5,o6,o7,o8,none]=.nx [some (.s,.scr ns),some (m1,.int c),o2,o3,o4',o5',o6',o7',o8',none]:=by
 have hLM:LIM=16777215:=rfl
 have hk:=D.dk
 have g:=ck k w D.of
 have hW:=D.wl
 have ew:∀ m,C 39 174 [(m,w)]=.ok ((.o .s,.lst ((wds w).map T.str)),[]):=fun m=>by
  have:=words k (38-k.deep) w m D.of hW
  rw [show 38-k.deep+k.deep+1=39 by omega] at this
  exact this
 have et:∀ m,C 39 162 [(m,w)]=.ok ((.d,.str (Str.join (q " ") (wds w))),[]):=fun m=>by
  have:=i0 k (38-k.deep) w m D.of hW
  rw [show 38-k.deep+k.deep+1=39 by omega] at this
  exact this
 obtain ⟨mr,er⟩:∃ md,C 39 163 [(.s,k.th),(.d,.str (Str.join (q " ") (wds w)))]=.ok ((md,w),[]):=by
  obtain ⟨md,e⟩:=yY k (35-2 * k.deep) w .s .d D.of hW
  rw [show 35-2 * k.deep+2 * k.deep+4=39 by omega] at e
  exact ⟨md,e⟩
 have al:∀ m m',C 39 170 [(m,w),(m',w)]=.ok ((.d,.bl true),[]):=fun m m'=>by
  have:=qY (38-k.deep) k.deep w m m' (f9 k w D.of)
  rw [show 38-k.deep+k.deep+1=39 by omega] at this
  exact this
 have al2:∀ i m m',C 39 170 [(m,.tup [w,.int i]),(m',.tup [w,.int i])]=.ok ((.d,.bl true),[]):=fun i m m'=>by
  have:=qY (37-k.deep) (k.deep+1) (.tup [w,.int i]) m m' (fun u hu=>by
   rcases a0w.mp hu with rfl | hu
   ·exact f9 k _ D.of
   ·rw [a0r.mp hu]; cases k.deep<;>exact a01)
  rw [show 37-k.deep+(k.deep+1)+1=39 by omega] at this
  exact this
 have jk:sOk (Str.join (q " ") (wds w))=true:=iA D.of hW
 have js:decide (((wds w).map fun s=>s.cps.size+(q " ").cps.size).sum<=LIM)=true:=decide_eq_true (by have:((wds w).map fun s=>s.cps.size+(q " ").cps.size).sum<=21 * (wds w).length:=qb g; omega)
 obtain ⟨j,hj,hj5⟩:=vX c 5 (by decide)
 obtain ⟨j',hj',hj4⟩:=vX (c / 5) 4 (by decide)
 have d5:decide ((0:Int) < 5)=true:=rfl
 have l5:decide ((5:Int) < 1073741824)=true:=rfl
 have d4:decide ((0:Int) < 4)=true:=rfl
 rw [show ((5:Nat):Int)=5 from rfl] at hj
 rw [show ((4:Nat):Int)=4 from rfl] at hj'
 have eA:[T.str (q "["),T.str (q ""),T.str (q "5"),T.str (q "no"),T.str (q "]")].take j=(AH.take j).map T.str:=by rw [a2t]; rfl
 have eB:[T.str (q "]"),T.str (q "1"),T.str (q "")].take j'=(BH.take j').map T.str:=by rw [a2t]; rfl
 have lA:(AH.take j).length<=5:=by rw [a1a]; exact a15 _ _
 have lB:(BH.take j').length<=3:=by rw [a1a]; exact a15 _ _
 generalize AH.take j=A at eA lA
 generalize BH.take j'=B at eB lB
 obtain ⟨mt,hmt,tk⟩:∃ md,(∀ ts,w=.lst ts->md=.o (.o .s))/\C 39 164 [(.s,k.th),(.s,.lst ((A++wds w++B).map T.str)),(.d,.int (A.length:Nat))]=.ok ((md,.tup [w,.int (((A.length:Nat):Int)+(((wds w).length:Nat):Int))]),[]):=by
  obtain ⟨md,h1,e⟩:=take k (36-2 * k.deep) w (A++wds w++B) A B .s .s .d D.of (by rw [a0n])
  rw [show 36-2 * k.deep+2 * k.deep+3=39 by omega,a0b] at e
  exact ⟨md,h1,e⟩
 have la:∀ X:List Str,((X.map T.str).length)=X.length:=fun X=>a0d ..
 have f1:bq (A.length+(wds w).length)=true:=decide_eq_true (by omega)
 have f2:bq ((A++wds w).length+B.length)=true:=decide_eq_true (by rw [a0b]; omega)
 have H3:evSs (C 39) [s3] [some (.s,.scr ns),some (m1,.int c),some (m2,k.th),some (m3,w),o4,o5,o6,o7,o8,none]=.nx [some (.s,.scr ns),some (m1,.int c),some (m2,k.th),some (.s,w),some (.o .s,.lst ((wds w).map T.str)),o5,o6,o7,o8,none]:=by
  simp_all only [ew]
 have H4:evSs (C 39) [s4] [some (.s,.scr ns),some (m1,.int c),some (m2,k.th),some (.s,w),some (.o .s,.lst ((wds w).map T.str)),o5,o6,o7,o8,none]=.nx [some (.s,.scr ns),some (m1,.int c),some (m2,k.th),some (.s,w),some (.o .s,.lst ((wds w).map T.str)),o5,o6,o7,o8,none]:=by
  simp_all only [et,cH,jk,js,beq_self_eq_true,er,al]
 have H5:evSs (C 39) [s5] [some (.s,.scr ns),some (m1,.int c),some (m2,k.th),some (.s,w),some (.o .s,.lst ((wds w).map T.str)),o5,o6,o7,o8,none]=.nx [some (.s,.scr ns),some (m1,.int c),some (m2,k.th),some (.s,w),some (.o .s,.lst ((wds w).map T.str)),some (.o .s,.lst (A.map T.str)),o6,o7,o8,none]:=by
  simp_all only [d5,hj,gw,eA,af0]
 have H6:evSs (C 39) [s6] [some (.s,.scr ns),some (m1,.int c),some (m2,k.th),some (.s,w),some (.o .s,.lst ((wds w).map T.str)),some (.o .s,.lst (A.map T.str)),o6,o7,o8,none]=.nx [some (.s,.scr ns),some (m1,.int c),some (m2,k.th),some (.s,w),some (.s,.lst ((wds w).map T.str)),some (.s,.lst (A.map T.str)),some (.o .s,.lst ((A++wds w++B).map T.str)),o7,o8,none]:=by
  simp_all only [d5,l5,d4,hj',gw,eB,la,f1,gE,f2]
 have H7:evSs (C 39) [s7] [some (.s,.scr ns),some (m1,.int c),some (m2,k.th),some (.s,w),some (.s,.lst ((wds w).map T.str)),some (.s,.lst (A.map T.str)),some (.o .s,.lst ((A++wds w++B).map T.str)),o7,o8,none]=.nx [some (.s,.scr ns),some (m1,.int c),some (m2,k.th),some (.s,w),some (.s,.lst ((wds w).map T.str)),some (.s,.lst (A.map T.str)),some (.s,.lst ((A++wds w++B).map T.str)),some (.o .s,.lst ((A++wds w++B).map T.str)),o8,none]:=by
  simp_all only []
 generalize hX:A++wds w++B=X at H6 H7 tk
 obtain ⟨m2',H8⟩:∃ m2',evSs (C 39) [s8] [some (.s,.scr ns),some (m1,.int c),some (m2,k.th),some (.s,w),some (.s,.lst ((wds w).map T.str)),some (.s,.lst (A.map T.str)),some (.s,.lst (X.map T.str)),some (.o .s,.lst (X.map T.str)),o8,none]=.nx [some (.s,.scr ns),some (m1,.int c),some (m2',k.th),some (.s,w),some (.s,.lst ((wds w).map T.str)),some (.s,.lst (A.map T.str)),some (.s,.lst (X.map T.str)),some (.o .s,.lst (X.map T.str)),some (mt,.tup [w,.int (((A.length:Nat):Int)+(((wds w).length:Nat):Int))]),none]:=by
  cases mt with
  | d=>exact ⟨m2,by simp_all only [la,tk]⟩
  | s=>exact ⟨.s,by simp_all only [la,tk]⟩
  | o m=>exact ⟨.s,by simp_all only [la,tk]⟩
 have ns1:=fun h m n=>nL h m n X
 have H9:evSs (C 39) [s9] [some (.s,.scr ns),some (m1,.int c),some (m2',k.th),some (.s,w),some (.s,.lst ((wds w).map T.str)),some (.s,.lst (A.map T.str)),some (.s,.lst (X.map T.str)),some (.o .s,.lst (X.map T.str)),some (mt,.tup [w,.int (((A.length:Nat):Int)+(((wds w).length:Nat):Int))]),none]=.nx [some (.s,.scr ns),some (m1,.int c),some (m2',k.th),some (.s,w),some (.s,.lst ((wds w).map T.str)),some (.s,.lst (A.map T.str)),some (.s,.lst (X.map T.str)),some (.o .s,.lst (X.map T.str)),some (mt,.tup [w,.int (((A.length:Nat):Int)+(((wds w).length:Nat):Int))]),none]:=by
  simp_all only [la,al2,ns1]
 rw [go1 H3,go1 H4,go1 H5,go1 H6,go1 H7,go1 H8,go1 H9]
 cases w with
 | lst ts =>
  have hm:=hmt ts rfl
  subst hm
  have b0:(Md.o .s==Md.s)=false:=rfl
  have a1:isOne "list" (.lst ts)=true:=rfl
  have hts:ts.length < LIM:=by
   cases k with
   | row a=>obtain ⟨us,e,h1,_⟩:=D.of; cases e; omega
   | num=>obtain ⟨i,e,_⟩:=D.of; cases e
   | truth=>obtain ⟨i,e⟩:=D.of; cases e
   | pair a b=>obtain ⟨u,v,e,_⟩:=D.of; cases e
  exact ⟨_,_,_,_,_,_,_,by
   simp_all only [a0y,a0B,a1,a0x,a0X,a18,Option.map_some,List.set_cons_zero,b0,a2u,if_false,decide_eq_true hts,cH,jk,js,er,al]
   rfl⟩
 | tup ts =>
  have a1:isOne "list" (.tup ts)=false:=rfl
  exact ⟨_,_,_,_,_,_,_,by
   simp_all only [a0y,a0B,a1,a0x]
   rfl⟩
 | int i =>
  have a1:isOne "list" (.int i)=false:=rfl
  exact ⟨_,_,_,_,_,_,_,by
   simp_all only [a0y,a0B,a1,a0x]
   rfl⟩
 | bl i =>
  have a1:isOne "list" (.bl i)=false:=rfl
  exact ⟨_,_,_,_,_,_,_,by
   simp_all only [a0y,a0B,a1,a0x]
   rfl⟩
 | _ =>
  exfalso
  have ho:=D.of
  cases k with
  | row a=>obtain ⟨us,e,h1,_⟩:=ho; cases e
  | num=>obtain ⟨i,e,_⟩:=ho; cases e
  | truth=>obtain ⟨i,e⟩:=ho; cases e
  | pair a b=>obtain ⟨u,v,e,_⟩:=ho; cases e
theorem rn (ns L:List Int):∃ η',gD [1] (evSs (C 39) BL) ((L.map T.int).map fun t=>[((.s,t):W)]) [some (.s,.scr ns),none,none,none,none,none,none,none,none,none]=.nx η':=by
 have e:(L.map T.int).map (fun t=>[((.s,t):W)])=L.map fun i=>[((.s,.int i):W)]:=by rw [a2k]; rfl
 rw [e]
 obtain ⟨η',h,_⟩:=gG (tg:=[1]) (f:=evSs (C 39) BL) (g:=fun (i:Int)=>[((.s,.int i):W)]) (fun _ η=>∃ o1 o2 o3 o4 o5 o6 o7 o8,η=[some (.s,.scr ns),o1,o2,o3,o4,o5,o6,o7,o8,none]) L [] _ ⟨none,none,none,none,none,none,none,none,rfl⟩ (fun p c r η _ ⟨o1,o2,o3,o4,o5,o6,o7,o8,he⟩=>by
  subst he
  obtain ⟨k,w,m2,m3,D,e1⟩:=drawn c ns o2 o3 o4 o5 o6 o7 o8 .s
  obtain ⟨p2,p3,p4,p5,p6,p7,p8,e2⟩:=pF c ns D o4 o5 o6 o7 o8 .s m2 m3
  refine ⟨_,_,rfl,?_,some (.s,.int c),p2,p3,p4,p5,p6,p7,p8,rfl⟩
  show evSs (C 39) ([s0,s1,s2]++[s3,s4,s5,s6,s7,s8,s9,s10]) _=_
  rw [fj]
  exact (congrArg (fun z=>Fl.seq z (evSs (C 39) [s3,s4,s5,s6,s7,s8,s9,s10])) e1).trans e2)
 exact ⟨η',h⟩
theorem pure_law (ns:List Int):∃ m bs,C 40 0 [(.d,.scr ns)]=.ok ((m,.bl true),bs):=by
 rw [show C 40 0 [(.d,.scr ns)]=runF (C 39) f7 [(.d,.scr ns)] from rfl,x_run _ _ _ rfl]
 refine ⟨.d,[],?_⟩
 cases h:decide (0 < ((ns.length:Nat):Int)) with
 | true =>
  obtain ⟨η',lp⟩:=rn ns (cut ns none (some 16))
  simp_all only [f7,h,lp]
 | false =>
  obtain ⟨η',lp⟩:=rn ns [0]
  rw [show [(0:Int)].map T.int=[T.int 0] from rfl,a0u,a1r] at lp
  simp_all only [f7,h,lp]
end
end P05

namespace A05
open PySem PySem.Spec PyProof.Rows L2 L3 MR
noncomputable def top (i:Nat):Stmt:=PySem.Challenge.pw_broadrow_k05_worths_written_and_read.main.body.getD i (.Pass ⟨0,0,0,0⟩)
noncomputable abbrev s3:Stmt:=top 6
noncomputable abbrev kQ:Stmt:=top 7
noncomputable abbrev lC:Stmt:=top 8
noncomputable abbrev lG:Stmt:=top 9
noncomputable abbrev mV:Stmt:=top 10
noncomputable abbrev m9:Stmt:=top 11
noncomputable abbrev ko:Stmt:=top 12
noncomputable abbrev lS:Stmt:=top 13
noncomputable abbrev ny:Stmt:=top 14
noncomputable abbrev lO:Stmt:=top 16
noncomputable abbrev ky:Stmt:=top 17
noncomputable abbrev lx:Stmt:=top 18
noncomputable abbrev mK:Stmt:=top 19
noncomputable abbrev nA:Stmt:=top 20
noncomputable abbrev s0:Stmt:=top 21
structure Glb (K:a0a)(w:World)(mg:Str->Option Value):Prop where
 GREATEST:∃ t,mg "GREATEST"=some (.int 1000000000000000000 t)
 LONGEST:∃ t,mg "LONGEST"=some (.int 200 t)
structure Calls (P:Program)(w:World)(K:a0a)(mg:Str->Option Value)(base:Heap)(n:Nat)(C:M.Call):Prop where
 c3:ae P w K mg base n C "is_number" 3 []
 c162:ae P w K mg base n C "worth_text" 162 []
 c163:ae P w K mg base n C "read_worth" 163 []
 c164:ae P w K mg base n C "take_worth" 164 []
 c165:ae P w K mg base n C "number_of" 165 []
 c166:ae P w K mg base n C "truth_of" 166 []
 c167:ae P w K mg base n C "take_pair" 167 []
 c168:ae P w K mg base n C "take_row" 168 []
 c169:ae P w K mg base n C "stands_at" 169 []
 c170:ae P w K mg base n C "_law_alike" 170 []
 c171:ae P w K mg base n C "_law_kind" 171 []
 c172:ae P w K mg base n C "_law_number" 172 []
 c173:ae P w K mg base n C "_law_worth" 173 []
 c174:ae P w K mg base n C "_law_words" 174 []
noncomputable abbrev DD (x:Str)(st:Stmt)(N:List Str)(fn:M.Fn):Prop:=∀ {P:Program} {w:World} {K:a0a} {mg:Str->Option Value} {base:Heap} {n:Nat} {C:M.Call} {f:Addr} {cdv:Value} {A:Around} {outer:List Env} {s:Shared} {H:Hp} {E:XK},Calls P w K mg base n C->Txt mg->Glb K w mg->Room n (A.deeper (envOfC x (defScope st) s.heap.objs.size f cdv))->SSs (fg CX0 P w K mg base N x (defScope st) f cdv A outer s H E).nox (slN N.length) fn.io C (defBody st) fn.body
theorem S3:ao ["thing"] ["thing"] (defScope s3):=fsc
theorem D3:DD "is_number" s3 ["thing"] a6:=fun {_ _ _ _ _ _ _ _ _ _ _ s _ _} cs T G hr =>
 have S:=S3
 (ssc (zIf (tW (wOr (dy (tB (aP (by decide) a0O T.isin T.int (sV 0)))) (wO1 (tB (aP (by decide) a0K T.isin T.bool (sV 0)))))) (ss1 (aG sO)) ss0)
    (ss1 (aG (nU (vq (sGc G.GREATEST)) (sM 0) (sGc G.GREATEST)))))
theorem xE:ao ["worth","texts"] ["worth"] (defScope kQ):=fsc
theorem yC:DD "worth_text" kQ ["worth","texts"] aw:=fun {_ _ _ _ _ _ _ _ _ _ _ s _ _} cs T G hr =>
 have S:=xE
 (ssc (zIf (tB (aP (by decide) a0K T.isin T.bool (sV 0))) (ss1 (aG (sIf (tB (sM 0)) sS sS))) ss0)
    (ssc (zIf (tB (aP (by decide) a0O T.isin T.int (sV 0))) (ss1 (aG (vB (hm:=T.str) (ha:=(sM 0))))) ss0)
    (ssc (zC1 1 [] [] [] [] (sj (sV 0)) (fun _ _ _ _=>(aA cs.c162 hr (sac (sV 0) sa0))) csc .nil .nil S.nd)
    (ssc (zIf (tB (aP (by decide) a09 T.isin T.tup (sV 0))) (ss1 (aG (gO sS (sM 1)))) ss0)
    (ss1 (aG (gO sS (cj (cj (sLs (slc sS sl0)) (sM 1)) (sLs (slc sS sl0))))))))))
theorem wd:ao ["kind","text","words","taken"] ["kind","text"] (defScope lC):=fsc
theorem yu:DD "read_worth" lC ["kind","text","words","taken"] aR:=fun {_ _ _ _ _ _ _ _ _ _ _ s _ _} cs T G hr =>
 have S:=wd
 (ssc (bp 2 S.nd (uJ (sV 1) sS))
    (ssc (bp 3 S.nd (aA cs.c164 hr (sac (sV 0) (sac (sV 2) (sac sI sa0)))))
    (ssc (zIf (xO (sIx (sV 3) sI) (eu (hm:=T.len) (ha:=(sV 2)))) (ss1 gA) ss0)
    (ss1 (aG (sIx (sM 3) sI))))))
theorem vT:ao ["kind","words","at","worth"] ["kind","words","at"] (defScope lG):=fsc
theorem yQ:DD "take_worth" lG ["kind","words","at","worth"] aB:=fun {_ _ _ _ _ _ _ _ _ _ _ s _ _} cs T G hr =>
 have S:=vT
 (ssc (zIf (cR hr (sIx (sV 0) sI) sS) (ss1 (aG (aA cs.c167 hr (sac (sM 0) (sac (sM 1) (sac (sM 2) sa0)))))) ss0)
    (ssc (zIf (cR hr (sIx (sV 0) sI) sS) (ss1 (aG (aA cs.c168 hr (sac (sM 0) (sac (sM 1) (sac (sM 2) sa0)))))) ss0)
    (ssc (zIf (zg (sV 2) (eu (hm:=T.len) (ha:=(sV 1)))) (ss1 gA) ss0)
    (ssc (bp 3 S.nd (sIf (cR hr (sIx (sV 0) sI) sS) (aA cs.c165 hr (sac (sIx (sV 1) (sV 2)) sa0)) (aA cs.c166 hr (sac (sIx (sV 1) (sV 2)) sa0))))
    (ssc (zIf (w9 (sV 3) sN) (ss1 gA) ss0)
    (ss1 (aG (sT (slc (sM 3) (slc (cj (sM 2) sI) sl0))))))))))
theorem yf:ao ["word","number"] ["word"] (defScope mV):=fsc
theorem yP:DD "number_of" mV ["word","number"] a8:=fun {_ _ _ _ _ _ _ _ _ _ _ s _ _} cs T G hr =>
 have S:=yf
 (ssc (y8 (ss1 (bp 1 S.nd (xG (hm:=T.int) (ha:=(sV 0))))))
    (ssc (zIf (tW (wOr (lr hr (vB (hm:=T.str) (ha:=(sV 1))) (sV 0)) (wO1 (dy (tB (aA cs.c3 hr (sac (sV 1) sa0))))))) (ss1 (aG sN)) ss0)
    (ss1 (aG (sM 1)))))
theorem xW:ao ["word"] ["word"] (defScope m9):=fsc
theorem zk:DD "truth_of" m9 ["word"] aV:=fun {_ _ _ _ _ _ _ _ _ _ _ s _ _} cs T G hr =>
 have S:=xW
 (ssc (zIf (cR hr (sV 0) sS) (ss1 (aG sO)) ss0)
    (ssc (zIf (cR hr (sV 0) sS) (ss1 (aG sO)) ss0)
    (ss1 (aG sN))))
theorem wt:ao ["kind","words","at","first","second"] ["kind","words","at"] (defScope ko):=fsc
theorem zw:DD "take_pair" ko ["kind","words","at","first","second"] a7:=fun {_ _ _ _ _ _ _ _ _ _ _ s _ _} cs T G hr =>
 have S:=wt
 (ssc (bp 3 S.nd (aA cs.c164 hr (sac (sIx (sV 0) sI) (sac (sV 1) (sac (sV 2) sa0)))))
    (ssc (bp 4 S.nd (aA cs.c164 hr (sac (sIx (sV 0) sI) (sac (sV 1) (sac (sIx (sV 3) sI) sa0)))))
    (ss1 (aG (sT (slc (sT (slc (sIx (sM 3) sI) (slc (sIx (sV 4) sI) sl0))) (slc (sIx (sV 4) sI) sl0)))))))
theorem yd:ao ["kind","words","at","things","after","taken"] ["kind","words","at"] (defScope lS):=fsc
theorem yE:DD "take_row" lS ["kind","words","at","things","after","taken"] bj:=fun {_ _ _ _ _ _ _ _ _ _ _ s _ _} cs T G hr =>
 have S:=yd
 (ssc (zIf (dy (tB (aA cs.c169 hr (sac (sV 1) (sac (sV 2) (sac sS sa0)))))) (ss1 gA) ss0)
    (ssc (bp 3 S.nd (sLs sl0))
    (ssc (bp 4 S.nd (cj (sV 2) sI))
    (ssc (zj (dy (tB (aA cs.c169 hr (sac (sV 1) (sac (sV 4) (sac sS sa0)))))) (ssc (zIf (cR hr (eu (hm:=T.len) (ha:=(sV 3))) (sGc G.LONGEST)) (ss1 gA) ss0)
     (ssc (bp 5 S.nd (aA cs.c164 hr (sac (sIx (sV 0) sI) (sac (sV 1) (sac (sV 4) sa0)))))
     (ssc (yr 3 (sIx (sV 5) sI))
     (ss1 (bp 4 S.nd (sIx (sV 5) sI)))))))
    (ss1 (aG (sT (slc (sM 3) (slc (cj (sM 4) sI) sl0)))))))))
theorem xy:ao ["words","at","word"] ["words","at","word"] (defScope ny):=fsc
theorem zt:DD "stands_at" ny ["words","at","word"] a4:=fun {_ _ _ _ _ _ _ _ _ _ _ s _ _} cs T G hr =>
 have S:=xy
 (ss1 (aG (sBW (jX (sLt (sV 1) (eu (hm:=T.len) (ha:=(sV 0)))) (vA1 (sEq hr (sIx (sV 0) (sV 1)) (sM 2)))))))
theorem wM:ao ["found","due"] ["found","due"] (defScope lO):=fsc
theorem yt:DD "_law_alike" lO ["found","due"] ax:=fun {_ _ _ _ _ _ _ _ _ _ _ s _ _} cs T G hr =>
 have S:=wM
 (ssc (zIf (tB (xI (by decide) a09 (by decide) a0R T.isin T.tup T.list (sV 1))) (ssc (zIf (tW (wOr (lr hr (aP (by decide) a09 T.isin T.tup (sV 1)) (aP (by decide) a09 T.isin T.tup (sV 0))) (wO1 (lr hr (aP (by decide) a0R T.isin T.list (sV 1)) (aP (by decide) a0R T.isin T.list (sV 0)))))) (ss1 (aG sO)) ss0)
      (ss1 (aG (sBW (jX (sEq hr (eu (hm:=T.len) (ha:=(sV 0))) (eu (hm:=T.len) (ha:=(sV 1)))) (vA1 (yG (hm:=T.all) (ha:=(sC2 [] [] [] [] (wN (hm:=T.zip) (ha:=(sV 0)) (hb:=(sV 1))) (fun _ _ _ _=>(aA cs.c170 hr (sac (sV 0) (sac (sV 1) sa0)))) csc .nil .nil))))))))) ss0)
    (ssc (zIf (tW (wOr (tB (aP (by decide) a0K T.isin T.bool (sV 1))) (wO1 (tB (aP (by decide) a0K T.isin T.bool (sV 0)))))) (ss1 (aG (sBW (jX (aP (by decide) a0K T.isin T.bool (sV 1)) (jX (aP (by decide) a0K T.isin T.bool (sV 0)) (vA1 (sEq hr (sV 0) (sV 1)))))))) ss0)
    (ssc (zIf (tB (aP (by decide) a0O T.isin T.int (sV 1))) (ss1 (aG (sBW (jX (aP (by decide) a0O T.isin T.int (sV 0)) (vA1 (sEq hr (sV 0) (sM 1))))))) ss0)
    (ssc (zIf (w9 (sV 1) sN) (ss1 (aG (sIs (sM 0) sN))) ss0)
    (ss1 (aG (sBW (jX (aP (by decide) a2j T.isin T.str (sV 0)) (vA1 (sEq hr (sV 0) (sM 1)))))))))))
theorem vY:ao ["cell","left","way"] ["cell","left"] (defScope ky):=fsc
theorem zv:DD "_law_kind" ky ["cell","left","way"] aF:=fun {_ _ _ _ _ _ _ _ _ _ _ s _ _} cs T G hr =>
 have S:=vY
 (ssc (bp 2 S.nd (ed (sV 0) sI))
    (ssc (zIf (tW (wOr (cR hr (sV 1) sI) (wO1 (xO (sV 2) sI)))) (ss1 (aG (sIx (sLs (slc (sT (slc sS sl0)) (slc (sT (slc sS sl0)) sl0))) (ed (sM 0) sI)))) ss0)
    (ssc (zIf (cR hr (sV 2) sI) (ss1 (aG (sT (slc sS (slc (aA cs.c171 hr (sac (dI (sV 0) sI) (sac (fZ (sV 1) sI) sa0))) (slc (aA cs.c171 hr (sac (dI (sV 0) sI) (sac (fZ (sV 1) sI) sa0))) sl0)))))) ss0)
    (ss1 (aG (sT (slc sS (slc (aA cs.c171 hr (sac (dI (sM 0) sI) (sac (fZ (sM 1) sI) sa0))) sl0))))))))
theorem yn:ao ["cell","some"] ["cell"] (defScope lx):=fsc
theorem yM:DD "_law_number" lx ["cell","some"] aM:=fun {_ _ _ _ _ _ _ _ _ _ _ s _ _} cs T G hr =>
 have S:=yn
 (ssc (bp 1 S.nd (sLs (slc sI (slc sI (slc (vq sI) (slc (ig sI sI) (slc (fZ sI (ig sI sI)) (slc (fZ (ig sI sI) sI) (slc (fZ sI (ig sI sI)) (slc sI (slc (vq sI) (slc (ig sI sI) sl0))))))))))))
    (ssc (zIf (cR hr (ed (sV 0) sI) sI) (ss1 (aG (fZ (ed (dI (sM 0) sI) (cj (tE sI (ig sI sI)) sI)) (ig sI sI)))) ss0)
    (ss1 (aG (sIx (sM 1) (ed (dI (sM 0) sI) sI))))))
theorem xn:ao ["kind","cell","left","many"] ["kind","cell","left"] (defScope mK):=fsc
theorem zp:DD "_law_worth" mK ["kind","cell","left","many"] aI:=fun {_ _ _ _ _ _ _ _ _ _ _ s _ _} cs T G hr =>
 have S:=xn
 (ssc (zIf (cR hr (sIx (sV 0) sI) sS) (ss1 (aG (aA cs.c172 hr (sac (sM 1) sa0)))) ss0)
    (ssc (zIf (cR hr (sIx (sV 0) sI) sS) (ss1 (aG (sEq hr (ed (sM 1) sI) sI))) ss0)
    (ssc (zIf (cR hr (sIx (sV 0) sI) sS) (ss1 (aG (sT (slc (aA cs.c173 hr (sac (sIx (sV 0) sI) (sac (dI (sV 1) sI) (sac (sV 2) sa0)))) (slc (aA cs.c173 hr (sac (sIx (sV 0) sI) (sac (cj (dI (sV 1) sI) sI) (sac (sV 2) sa0)))) sl0))))) ss0)
    (ssc (bp 3 S.nd (ed (sV 1) (sIx (sLs (slc sI (slc sI (slc sI sl0)))) (yz (hm:=T.max) (ha:=sI) (hb:=(yD (hm:=T.min) (ha:=sI) (hb:=(sV 2))))))))
    (ss1 (aG (sC1 [1,0,2] [1,0,2] [("left",s.heap.objs.size+3),("kind",s.heap.objs.size+1),("cell",s.heap.objs.size+2)] ["cell","kind","left"] (wz (hm:=T.range) (ha:=(sM 3))) (fun _ _ _ _=>(aA cs.c173 hr (sac (sIx (sV 2) sI) (sac (cj (tE (dI (sV 1) sI) (cj (sV 0) sI)) (sV 0)) (sac (fZ (sV 3) sI) sa0))))) csc (ou (ou (ou .nil))) (frc (frc (frc .nil))))))))))
theorem w5:ao ["worth","words","one"] ["worth"] (defScope nA):=fsc
theorem zc:DD "_law_words" nA ["worth","words","one"] aC:=fun {_ _ _ _ _ _ _ _ _ _ _ s _ _} cs T G hr =>
 have S:=w5
 (ssc (zIf (tB (aP (by decide) a0K T.isin T.bool (sV 0))) (ss1 (aG (sLs (slc (sIx (sLs (slc sS (slc sS sl0))) (yN (hm:=T.int) (ha:=(sM 0)))) sl0)))) ss0)
    (ssc (zIf (tB (aP (by decide) a0O T.isin T.int (sV 0))) (ss1 (aG (sLs (slc (vB (hm:=T.str) (ha:=(sM 0))) sl0)))) ss0)
    (ssc (bp 1 S.nd (sLs sl0))
    (ssc (rB 2 S.nd (sj (sV 0)) (ss1 (zx 1 (aA cs.c174 hr (sac (sV 2) sa0)))))
    (ssc (zIf (tB (aP (by decide) a0R T.isin T.list (sV 0))) (ss1 (aG (cj (cj (sLs (slc sS sl0)) (sM 1)) (sLs (slc sS sl0))))) ss0)
    (ss1 (aG (sM 1))))))))
theorem S0:ao ["script","cell","kind","worth","words","ahead","handed","handed_in","told"] ["script"] (defScope s0):=fsc
theorem D0:DD "law" s0 ["script","cell","kind","worth","words","ahead","handed","handed_in","told"] f7:=fun {_ _ _ _ _ _ _ _ _ _ _ s _ _} cs T G hr =>
 have S:=S0
 (ssc (rB 1 S.nd (sj (sIf (yU (eu (hm:=T.len) (ha:=(sV 0))) sI) (rW (sV 0) sI) (sLs (slc sI sl0)))) (ssc (bp 2 S.nd (aA cs.c171 hr (sac (sV 1) (sac sI sa0))))
      (ssc (bp 3 S.nd (aA cs.c173 hr (sac (sV 2) (sac (dI (sV 1) sI) (sac sI sa0)))))
      (ssc (zIf (cR hr (ed (sV 1) sI) sI) (ssc (bp 2 S.nd (sT (slc sS (slc (sT (slc sS sl0)) sl0))))
       (ss1 (zC1 3 [1] [1] [("cell",s.heap.objs.size+1)] ["cell"] (wz (hm:=T.range) (ha:=sI)) (fun _ _ _ _=>(sEq hr (ed (cj (dI (sV 1) sI) (tE (sV 0) (sV 0))) sI) sI)) csc (ou .nil) (frc .nil) S.nd))) ss0)
      (ssc (bp 4 S.nd (aA cs.c174 hr (sac (sV 3) sa0)))
      (ssc (zIf (tW (wOr (lr hr (aA cs.c162 hr (sac (sV 3) sa0)) (gO sS (sV 4))) (wO1 (dy (tB (aA cs.c170 hr (sac (aA cs.c163 hr (sac (sV 2) (sac (gO sS (sV 4)) sa0))) (sac (sV 3) sa0)))))))) (ss1 (aG sO)) ss0)
      (ssc (bp 5 S.nd (rW (sLs (slc sS (slc sS (slc sS (slc sS (slc sS sl0)))))) (ed (sV 1) sI)))
      (ssc (bp 6 S.nd (cj (cj (sV 5) (sV 4)) (rW (sLs (slc sS (slc sS (slc sS sl0)))) (ed (dI (sV 1) sI) sI))))
      (ssc (bp 7 S.nd (xV (hm:=T.list) (ha:=(sV 6))))
      (ssc (bp 8 S.nd (aA cs.c164 hr (sac (sV 2) (sac (sV 6) (sac (eu (hm:=T.len) (ha:=(sV 5))) sa0)))))
      (ssc (zIf (tW (wOr (dy (tB (aA cs.c170 hr (sac (sV 8) (sac (sT (slc (sV 3) (slc (cj (eu (hm:=T.len) (ha:=(sV 5))) (eu (hm:=T.len) (ha:=(sV 4)))) sl0))) sa0))))) (wO1 (lr hr (sV 6) (sV 7))))) (ss1 (aG sO)) ss0)
      (ss1 (zIf (tB (aP (by decide) a0R T.isin T.list (sIx (sV 8) sI))) (ssc (ze (y9 (yH 8 (sPi [] 0 (sPn 8) k6)) sI))
       (ss1 (zIf (dy (tB (aA cs.c170 hr (sac (aA cs.c163 hr (sac (sV 2) (sac (gO sS (sV 4)) sa0))) (sac (sV 3) sa0))))) (ss1 (aG sO)) ss0))) ss0)))))))))))))
    (ss1 (aG sO)))
end A05

namespace A05
open PySem PySem.Spec PyProof.Rows L2 L3 MR
noncomputable abbrev Cl (n:Nat):M.Call:=M.callR prog 1000000 1000001 n
section
variable {P:Program}{w:World}{K:a0a}{mg:Str->Option Value}{base:Heap}
theorem all (d3:Df K mg "is_number" s3 ["thing"])(d162:Df K mg "worth_text" kQ ["worth"])(d163:Df K mg "read_worth" lC ["kind","text"])(d164:Df K mg "take_worth" lG ["kind","words","at"])(d165:Df K mg "number_of" mV ["word"])(d166:Df K mg "truth_of" m9 ["word"])(d167:Df K mg "take_pair" ko ["kind","words","at"])(d168:Df K mg "take_row" lS ["kind","words","at"])(d169:Df K mg "stands_at" ny ["words","at","word"])(d170:Df K mg "_law_alike" lO ["found","due"])(d171:Df K mg "_law_kind" ky ["cell","left"])(d172:Df K mg "_law_number" lx ["cell"])(d173:Df K mg "_law_worth" mK ["kind","cell","left"])(d174:Df K mg "_law_words" nA ["worth"])  (T:Txt mg)(G:Glb K w mg):∀ n,Calls P w K mg base n (Cl n)
 | 0 =>
  have c3:ae P w K mg base 0 (Cl 0) "is_number" 3 []:=d3.z
  have c162:ae P w K mg base 0 (Cl 0) "worth_text" 162 []:=d162.z
  have c163:ae P w K mg base 0 (Cl 0) "read_worth" 163 []:=d163.z
  have c164:ae P w K mg base 0 (Cl 0) "take_worth" 164 []:=d164.z
  have c165:ae P w K mg base 0 (Cl 0) "number_of" 165 []:=d165.z
  have c166:ae P w K mg base 0 (Cl 0) "truth_of" 166 []:=d166.z
  have c167:ae P w K mg base 0 (Cl 0) "take_pair" 167 []:=d167.z
  have c168:ae P w K mg base 0 (Cl 0) "take_row" 168 []:=d168.z
  have c169:ae P w K mg base 0 (Cl 0) "stands_at" 169 []:=d169.z
  have c170:ae P w K mg base 0 (Cl 0) "_law_alike" 170 []:=d170.z
  have c171:ae P w K mg base 0 (Cl 0) "_law_kind" 171 []:=d171.z
  have c172:ae P w K mg base 0 (Cl 0) "_law_number" 172 []:=d172.z
  have c173:ae P w K mg base 0 (Cl 0) "_law_worth" 173 []:=d173.z
  have c174:ae P w K mg base 0 (Cl 0) "_law_words" 174 []:=d174.z
  ⟨c3,c162,c163,c164,c165,c166,c167,c168,c169,c170,c171,c172,c173,c174⟩
 | n+1 =>
  have c:=all d3 d162 d163 d164 d165 d166 d167 d168 d169 d170 d171 d172 d173 d174  T G n
  have c3:ae P w K mg base (n+1) (Cl (n+1)) "is_number" 3 []:=d3.s a6 S3 (D3 c T G)
  have c162:ae P w K mg base (n+1) (Cl (n+1)) "worth_text" 162 []:=d162.s aw xE (yC c T G)
  have c163:ae P w K mg base (n+1) (Cl (n+1)) "read_worth" 163 []:=d163.s aR wd (yu c T G)
  have c164:ae P w K mg base (n+1) (Cl (n+1)) "take_worth" 164 []:=d164.s aB vT (yQ c T G)
  have c165:ae P w K mg base (n+1) (Cl (n+1)) "number_of" 165 []:=d165.s a8 yf (yP c T G)
  have c166:ae P w K mg base (n+1) (Cl (n+1)) "truth_of" 166 []:=d166.s aV xW (zk c T G)
  have c167:ae P w K mg base (n+1) (Cl (n+1)) "take_pair" 167 []:=d167.s a7 wt (zw c T G)
  have c168:ae P w K mg base (n+1) (Cl (n+1)) "take_row" 168 []:=d168.s bj yd (yE c T G)
  have c169:ae P w K mg base (n+1) (Cl (n+1)) "stands_at" 169 []:=d169.s a4 xy (zt c T G)
  have c170:ae P w K mg base (n+1) (Cl (n+1)) "_law_alike" 170 []:=d170.s ax wM (yt c T G)
  have c171:ae P w K mg base (n+1) (Cl (n+1)) "_law_kind" 171 []:=d171.s aF vY (zv c T G)
  have c172:ae P w K mg base (n+1) (Cl (n+1)) "_law_number" 172 []:=d172.s aM yn (yM c T G)
  have c173:ae P w K mg base (n+1) (Cl (n+1)) "_law_worth" 173 []:=d173.s aI xn (zp c T G)
  have c174:ae P w K mg base (n+1) (Cl (n+1)) "_law_words" 174 []:=d174.s aC w5 (zc c T G)
  ⟨c3,c162,c163,c164,c165,c166,c167,c168,c169,c170,c171,c172,c173,c174⟩
end
theorem pure_law:∀ ns:List Int,ns.length<=63->∃ m bs,Cl 40 0 [(.d,.scr ns)]=.ok ((m,.bl true),bs):=fun ns _=>P05.pure_law ns
theorem all_mk {l:a2h}{w:World}{K:a0a}{h:Heap}{mg:Str->Option Value}{fa:Addr}(X:K.In h)(G:h.Ns mainGlobals mg)(hfa:mg "law"=some (.ref fa))(r3:Raw K "is_number" s3 .none)(r162:Raw K "worth_text" kQ .none)(r163:Raw K "read_worth" lC .none)(r164:Raw K "take_worth" lG .none)(r165:Raw K "number_of" mV .none)(r166:Raw K "truth_of" m9 .none)(r167:Raw K "take_pair" ko .none)(r168:Raw K "take_row" lS .none)(r169:Raw K "stands_at" ny .none)(r170:Raw K "_law_alike" lO .none)(r171:Raw K "_law_kind" ky .none)(r172:Raw K "_law_number" lx .none)(r173:Raw K "_law_worth" mK .none)(r174:Raw K "_law_words" nA .none)(r0:Raw K "law" s0 .none)(g0:∃ t,a1R K mainGlobals "GREATEST"=some (some (.int 1000000000000000000 t)))(g1:∃ t,a1R K mainGlobals "LONGEST"=some (some (.int 200 t)))  (tx:vd K ["isinstance","int","tuple","list","bool","sum","len","all","zip","range","enumerate","any","max","min","sorted","str","repr","abs","dict","set","reversed"]) :
  ∃ fd:FuncData,(∀ (s:Shared) (v:Value),BindsTo s fd ⟨[v],[]⟩ [("script",v)])/\∀ base:Heap,K.In base->base.Ns mainGlobals mg->cw l.prog w K mg base CX0 40 fa fd ["script"] (spS K (Cl 40) 0 []):=by
 have d3:Df K mg "is_number" s3 ["thing"]:=br X G r3 fun _ _ _ _ _ _ us hl=>match us,hl with | [_],_=>rfl
 have d162:Df K mg "worth_text" kQ ["worth"]:=br X G r162 fun _ _ _ _ _ _ us hl=>match us,hl with | [_],_=>rfl
 have d163:Df K mg "read_worth" lC ["kind","text"]:=br X G r163 fun _ _ _ _ _ _ us hl=>match us,hl with | [_,_],_=>rfl
 have d164:Df K mg "take_worth" lG ["kind","words","at"]:=br X G r164 fun _ _ _ _ _ _ us hl=>match us,hl with | [_,_,_],_=>rfl
 have d165:Df K mg "number_of" mV ["word"]:=br X G r165 fun _ _ _ _ _ _ us hl=>match us,hl with | [_],_=>rfl
 have d166:Df K mg "truth_of" m9 ["word"]:=br X G r166 fun _ _ _ _ _ _ us hl=>match us,hl with | [_],_=>rfl
 have d167:Df K mg "take_pair" ko ["kind","words","at"]:=br X G r167 fun _ _ _ _ _ _ us hl=>match us,hl with | [_,_,_],_=>rfl
 have d168:Df K mg "take_row" lS ["kind","words","at"]:=br X G r168 fun _ _ _ _ _ _ us hl=>match us,hl with | [_,_,_],_=>rfl
 have d169:Df K mg "stands_at" ny ["words","at","word"]:=br X G r169 fun _ _ _ _ _ _ us hl=>match us,hl with | [_,_,_],_=>rfl
 have d170:Df K mg "_law_alike" lO ["found","due"]:=br X G r170 fun _ _ _ _ _ _ us hl=>match us,hl with | [_,_],_=>rfl
 have d171:Df K mg "_law_kind" ky ["cell","left"]:=br X G r171 fun _ _ _ _ _ _ us hl=>match us,hl with | [_,_],_=>rfl
 have d172:Df K mg "_law_number" lx ["cell"]:=br X G r172 fun _ _ _ _ _ _ us hl=>match us,hl with | [_],_=>rfl
 have d173:Df K mg "_law_worth" mK ["kind","cell","left"]:=br X G r173 fun _ _ _ _ _ _ us hl=>match us,hl with | [_,_,_],_=>rfl
 have d174:Df K mg "_law_words" nA ["worth"]:=br X G r174 fun _ _ _ _ _ _ us hl=>match us,hl with | [_],_=>rfl
 have T:=uS X G tx
 have Gm:Glb K w mg:=⟨(let ⟨t,z⟩:=g0; ⟨t,a13 X G z⟩),(let ⟨t,z⟩:=g1; ⟨t,a13 X G z⟩)⟩
 exact sA X G hfa r0 (fun _ _ _ _ _ _ _ _=>.of_eq rfl) fun f fd F base=>Fun.okM F S0 rfl (by decide) (by decide) (by decide) (fun _ _ _ _ _ _ h=>D0 (all d3 d162 d163 d164 d165 d166 d167 d168 d169 d170 d171 d172 d173 d174  T Gm 39) T Gm h) fun _=>rfl
end A05

set_option maxHeartbeats 0
namespace H05
open PySem PySem.W TP
noncomputable abbrev pr:Program:=PySem.Challenge.pw_broadrow_k05_worths_written_and_read
noncomputable def tn (i:Nat):Stmt:=pr.main.body.getD i (.Pass p0)
noncomputable def rc:List Rc:=[.m,
.x "BroadError" 206 (.ref 24) (fun P=>[tu [.type "ValueError"],⟨.type "builtin_function_or_method",none,.fields #[.builtin "type.__prepare__",.type "type"],#[]⟩,di [en P "__module__" 196 (.str "broadrow.errors" 187),en P "__qualname__" 198 (.str "BroadError" 197),en P "__firstlineno__" 200 (.int (2) 199),en P "__static_attributes__" 201 (.ref 22)] 4,tu [],fe [],cdo "BroadError" "BroadError" 191 194 2 0 0 18 false .none .none .none,⟨.type "frame",none,.plain,#[some (.ref 20),some (.ref 3),some (.ref 17),none,some (.str "broadrow.errors" 187),none,some (.ref 0)]⟩,tu [],di [en P "__module__" 196 (.str "broadrow.errors" 187),en P "__firstlineno__" 200 (.int (2) 199),en P "__static_attributes__" 201 (.ref 22),en P "__weakref__" 203 (.ref 25),en P "__doc__" 204 .none] 3,⟨.type "type",none,.cls {name:="BroadError",bases:=[.type "ValueError"],mro:=[.ref 24,.type "ValueError",.type "Exception",.type "BaseException",.type "object"],ns:=23,qualname:="BroadError",subclasses:=[.ref 44]},#[some (.ref 15),none,some (.str "BroadError" 189),some (.str "BroadError" 197),some (.builtin "ValueError.__new__"),some (.bool true)]⟩,⟨.type "getset_descriptor",none,.fields #[.str "__weakref__" 202,.ref 24,.builtin "ExceptionGroup.__weakref__",.none],#[]⟩,⟨.type "super",none,.fields #[.ref 24,.ref 24,.ref 24],#[]⟩,⟨.type "builtin_function_or_method",none,.fields #[.builtin "object.__init_subclass__",.ref 24],#[]⟩]) [iv 2,iv 0,.ref 20] 28 207,
.x "NoText" 231 (.ref 44) (fun P=>[tu [.ref 24],⟨.type "builtin_function_or_method",none,.fields #[.builtin "type.__prepare__",.type "type"],#[]⟩,di [en P "__module__" 214 (.str "broadrow.errors" 187),en P "__qualname__" 216 (.str "NoText" 215),en P "__firstlineno__" 218 (.int (4) 217),en P "__init__" 226 (.ref 41),en P "__static_attributes__" 228 (.ref 42)] 5,tu [],fe [iv 6,iv 4,.ref 40],cdo "NoText" "NoText" 209 212 4 0 0 31 false .none .none .none,⟨.type "frame",none,.plain,#[some (.ref 33),some (.ref 3),some (.ref 30),none,some (.str "broadrow.errors" 187),none,some (.ref 0)]⟩,tu [],fe [],tu [.str "self" 222,.str "at" 223],tu [],ofn .none (cb (tn 2) 0) "NoText.__init__" 0 .none .none .none,cdo "__init__" "NoText.__init__" 219 224 6 2 3 35 true (.ref 37) (.ref 38) (.ref 39),ofn (.type "function") (cb (tn 2) 0) "NoText.__init__" 3 .none (.str "broadrow.errors" 187) (.ref 40),tu [.str "at" 227],di [en P "__module__" 214 (.str "broadrow.errors" 187),en P "__firstlineno__" 218 (.int (4) 217),en P "__init__" 226 (.ref 41),en P "__static_attributes__" 228 (.ref 42),en P "__doc__" 229 .none] 2,⟨.type "type",none,.cls {name:="NoText",bases:=[.ref 24],mro:=[.ref 44,.ref 24,.type "ValueError",.type "Exception",.type "BaseException",.type "object"],ns:=43,qualname:="NoText"},#[some (.ref 28),none,some (.str "NoText" 207),some (.str "NoText" 215),some (.builtin "ValueError.__new__"),some (.bool true)]⟩,⟨.type "super",none,.fields #[.ref 44,.ref 44,.ref 44],#[]⟩,⟨.type "builtin_function_or_method",none,.fields #[.builtin "object.__init_subclass__",.ref 44],#[]⟩]) [iv 4,iv 0,.ref 33] 47 232,
.m,
.c,
.c,
.d,
.d,
.d,
.d,
.d,
.d,
.d,
.d,
.d,
.m,
.d,
.d,
.d,
.d,
.d,
.d]
theorem c0 (w:World):Cut pr rc 0 15 187 p0 1 10 15 189 ⟨1,0,1,8⟩ w:=fun o=>by kernel_rfl
theorem c1 (w:World):Cut pr rc 1 15 189 ⟨1,0,1,8⟩ 2 432 47 232 ⟨4,0,8,20⟩ w:=fun o=>by kernel_rfl
theorem c3 (w:World):Cut pr rc 3 47 232 ⟨4,0,8,20⟩ 19 483 144 364 ⟨119,0,139,15⟩ w:=fun o=>by kernel_rfl
theorem ch:Ch pr rc 22 144 364 0 15 187 p0 (10+(432+(483+(2)))):=fk c0 ( fk c1 ( fk c3 (t7 (by kernel_rfl))))
noncomputable def q:Program:=view pr [21]
noncomputable def lo:List Str:=(["BroadError","NoText","GREATEST","LONGEST","is_number","worth_text","read_worth","take_worth","number_of","truth_of","take_pair","take_row","stands_at","_law_alike","_law_kind","_law_number","_law_worth","_law_words"]:List String).map Str.ofString
noncomputable def as:List Addr:=[3,24,44,52,53,57,58,64,65,71,72,78,79,85,86,92,93,99,100,106,107,111,112,118,119,125,126,130,131,137,138,142,143]
noncomputable def K:Params->Frag:=kK pr rc 22 as
noncomputable def hk:Hook:=hkk pr rc 22 144
noncomputable abbrev Xt (s:Shared):Bool:=xlAt q [] s&&recOk (RowW.records (OpenRow.toRowW (OpenLaw.row PySem.Challenge.rw_broadrow_k05_worths_written_and_read))) s
theorem kin (w:World)(h:Heap)(Y:hk.says w h):(K w.params).In h:=yJ (by kernel_rfl) (by kernel_rfl) Y
theorem lk (w:World):(fun o=>((staticsOk (importedModules pr.main.body) (boot_heap w.params) (hp pr rc 22 144 w.params)&&namesBound pr (hp pr rc 22 144 w.params)&&gensDone ⟨hp pr rc 22 144 w.params,#[],{},364,o⟩&&laidKept (boot_heap w.params) (hp pr rc 22 144 w.params)),openSeen q lo (importedModules pr.main.body) Xt true ⟨hp pr rc 22 144 w.params,#[],{},364,o⟩,Hook.obs hk ⟨hp pr rc 22 144 w.params,#[],{},364,o⟩))=fun _=>(true,openGood q lo,Hook.val hk w):=by kernel_rfl
theorem e1:opening pr=plainProg pr.main.scope.names:=by kernel_rfl
theorem e2:behindTheImports pr=pr.main.body:=by kernel_rfl
theorem e3 (s:Shared):fenceModules? pr s=some s:=by kernel_rfl
theorem pre (w:World)(o:OsState):topGo treeTable pr w 11 an 12 ⟨boot_heap w.params,a27 [],boot_drawn,boot_toks,o⟩ (topStub pr)=some ((sT pr rc w.params 0 15 187 o).abs,⟨denote treeTable (cE pr),cE pr,p0,B0⟩):=by kernel_rfl
theorem blk (w:World)(o:OsState):segRun treeTable pr w 11 an 1 1 (sT pr rc w.params 0 15 187 o).abs (blockOf (behindTheImports pr) (ev pr) (cE pr) p0 B0)=some (.next,(sT pr rc w.params 0 15 187 o).abs,cE pr,p0):=by kernel_rfl
theorem left:LeftO pr q lo Xt (Hook.obs hk) (Hook.val hk) 1970:=qH e1 (by kernel_rfl) e3 e2 qt pre blk ch (by kernel_rfl) lk
end H05

set_option maxHeartbeats 4000000
open PySem PySem.W PyProof.Rows
set_option maxRecDepth 100000 in
set_option maxHeartbeats 0 in
theorem PySem.Challenge.cw_broadrow_k05_worths_written_and_read_holds : PySem.Challenge.rw_broadrow_k05_worths_written_and_read.Holds := by
 w_on; o_law
 refine holds_open (q:=H05.q) (loose:=H05.lo) (Xt:=H05.Xt) (XP:=XL H05.q []) (Yf:=Hook.obs H05.hk) (Ya:=Hook.val H05.hk) (YP:=Hook.says H05.hk) (N:=1970) (d:=TP.drec (H05.tn 21)) (kwd:=[]) H05.left (Hook.of H05.hk) (Hook.keeps H05.hk) (fun s e=>xl_of s (a1G.mp e).1) XL.keeps (by kernel_rfl) (by kernel_rfl) (by kernel_rfl) (fun s e=>recFacts_of (a1G.mp e).2) (by rfl) (by first | assumption | decide +kernel) (by decide +kernel) ⟨rfl,rfl,rfl,rfl,rfl,by decide +kernel⟩ ?hw ?hc
 case hw=>w_witness2
 refine MR.walkM (l:=PySem.Challenge.rw_broadrow_k05_worths_written_and_read) (k:=40) (C:=A05.Cl 40) (ix:=0) (K:=H05.K) A05.pure_law rfl (by kernel_rfl) ⟨rfl,by decide,by decide⟩ H05.kin ?F
 case F =>
  intro w mg fa h KX G hmg
  refine' A05.all_mk KX G hmg ?zr3 ?zr162 ?zr163 ?zr164 ?zr165 ?zr166 ?zr167 ?zr168 ?zr169 ?zr170 ?zr171 ?zr172 ?zr173 ?zr174 ?zr0 ?zg0 ?zg1  ?ztx
  case zg0=>exact ⟨TP.tkO (nsIn (H05.K w.params) mainGlobals "GREATEST"),by kernel_rfl⟩
  case zg1=>exact ⟨TP.tkO (nsIn (H05.K w.params) mainGlobals "LONGEST"),by kernel_rfl⟩
  case ztx=>refine' ⟨?_,?_,?_,?_,?_,?_,?_,?_,?_,?_,?_,?_,?_,?_,?_,?_,?_,?_,?_,?_,?_,trivial⟩<;>kernel_rfl
  all_goals exact TP.raw_mk (by kernel_rfl) (by kernel_rfl) (by kernel_rfl) (by kernel_rfl)
