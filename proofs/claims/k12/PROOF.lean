import PyProof.Rows.All
import Wide.All
import OpenK.AllK
import Wide.FinOn
import PyProof.EqAt
import PyProof.EqKinds
import PyProof.TupleCall
import PyProof.Rows.EqDataRows
import PyProof.ReprRoads
import KE.KIsAll
import KE.KTryMore
import HandS.ForMost
import HandS.ForExc
import HandS.ExcInit
import HandS.ExcIs
import HandS.IsInst
import HandS.More
import HandS.Defaults
import HandS.MakeKw
import HandS.MakeKwOnly
import HandS.ExcValue
import HandS.ExcField
import HandS.Wide
import HandS.WideBits
import HandS.OwnEq
import HandS.CallSlots
import PyProof.InstEq
import PyProof.FactsAll.dict_1
import HandS.Zip0
import HandS.Zip
import HandS.Walk
import HandS.TupMul
import PyProof.TupleKey
import PyProof.DictRoadsH
import PyProof.DictKinds
import KE.SortKeyHeap
import HandS.Lambda
import HandS.SortKw
import PyProof.DictMoreH
import KE.KDictCopyH
import KE.GoesZip
import KE.GoesMore
import HandS.Iter
import HandS.Records
import HandS.Style
import PyProof.EnumFor
import PyProof.EnumMake
import PyProof.EnumStmt
import HandS.TupAny
import KE.KDictPairs
import HandS.EndTab
import HandS.HeadWalk
import HandS.HeadHook4
import HandS.Head2
import PySem.Challenge.RW_latesums_k12_forms_added_and_multiplied
set_option Elab.async false
set_option linter.all false
set_option maxRecDepth 100000
set_option maxHeartbeats 8000000
/-! # What the laws' proofs lean on, 1: data that is shown and compared as a whole; errors held as values; defs whose frame knows that no repr runs around them. -/
namespace L2.Vf
open PySem PySem.Spec PyProof.Rows

/-! ## data, read off the abstract heap -/
def keyD : Key → PyData
  | .inl i => .int i
  | .inr x => .str x
mutual
/-- the value v is the data d; as: the lists in it -/
inductive Sh (K : PySem.W.Frag) (H : Hp) : V → PyData → List Addr → Prop
  | non : Sh K H .non .none []
  | bl (b : Bool) : Sh K H (.bl b) (.bool b) []
  | int (i : Int) : Sh K H (.int i) (.int i) []
  | str (x : Str) : Sh K H (.str x) (.str x) []
  | lst {a : Addr} {xs : List V} {ds : List PyData} {as : List Addr} : SqL K H a xs → Shs K H xs ds as → Sh K H (.ref a) (.list ds) (a :: as)
  | tup {a : Addr} {xs : List V} {ds : List PyData} {as : List Addr} : SqT K H a xs → Shs K H xs ds as → Sh K H (.ref a) (.tuple ds) as
  | dK {a : Addr} {kvs : List (Key × V)} {ds : List PyData} {as : List Addr} : Rd H a (.dK kvs) → Shs K H (kvs.map (·.2)) ds as → Sh K H (.ref a) (.dict ((kvs.map fun p => keyD p.1).zip ds)) as
inductive Shs (K : PySem.W.Frag) (H : Hp) : List V → List PyData → List Addr → Prop
  | nil : Shs K H [] [] []
  | cons {x : V} {xs : List V} {d : PyData} {ds : List PyData} {as bs : List Addr} : Sh K H x d as → Shs K H xs ds bs → Shs K H (x :: xs) (d :: ds) (as ++ bs)
end
theorem Shs.length {K : PySem.W.Frag} {H : Hp} : ∀ {xs : List V} {ds : List PyData} {as : List Addr}, Shs K H xs ds as → xs.length = ds.length
  | _, _, _, .nil => rfl
  | _, _, _, .cons _ t => by simp [Shs.length t]

theorem reads_keys {P : Program} {w : World} {h : Heap} : ∀ {es : List DictEntry} {vs : List (Key × Value)}, PySem.Pairs (mixKind P w) es vs → ReadsAll h (es.map (·.key)) (vs.map fun p => keyD p.1) []
  | _, _, .nil => .nil
  | _, _, .cons (e := e) (kv := kv) h1 _ t => by
    have ih := reads_keys (h := h) t
    have k : Reads h e.key (keyD kv.1) [] := by
      rcases keyIs_shape (show keyIs kv.1 e.key = true from h1) with ⟨i, u, e1, e2⟩ | ⟨x, u, e1, e2⟩
      · rw [e1, e2]; exact .int i u
      · rw [e1, e2]; exact .str x u
    exact ReadsAll.cons (as := []) (bs := []) k ih
theorem pairs_vals {P : Program} {w : World} : ∀ {es : List DictEntry} {vs : List (Key × Value)}, PySem.Pairs (mixKind P w) es vs → es.map (·.val) = vs.map (·.2)
  | _, _, .nil => rfl
  | _, _, .cons _ h2 t => by
    rw [List.map_cons, List.map_cons, pairs_vals t, h2]
theorem kv_keys : ∀ {ks : List (Key × V)} {vs : List (Key × Value)}, KV ks vs → (ks.map fun p => keyD p.1) = vs.map fun p => keyD p.1
  | _, _, .nil => rfl
  | _, _, .cons h t => by
    rw [List.map_cons, List.map_cons, kv_keys t, h.1]
theorem kv_vals : ∀ {ks : List (Key × V)} {vs : List (Key × Value)}, KV ks vs → Vals (ks.map (·.2)) (vs.map (·.2))
  | _, _, .nil => .nil
  | _, _, .cons h t => .cons h.2 (kv_vals t)

section
variable {X : Cx} {pins : List (Addr × Obj)} {σ : St} {H : Hp} {s : Shared}
mutual
theorem Sh.reads (I : Inv X pins σ H s) : ∀ {v : V} {d : PyData} {as : List Addr} {u : Value}, Sh X.K H v d as → RelV v u → ∃ bs, Reads s.heap u d bs ∧ ∀ b ∈ bs, b ∈ as ∨ b ≠ sysModules
  | _, _, _, _, .non, r => by cases r; exact ⟨[], .none, fun _ h => nomatch h⟩
  | _, _, _, _, .bl b, r => by cases r; exact ⟨[], .bool b, fun _ h => nomatch h⟩
  | _, _, _, _, .int i, r => by obtain ⟨t, rfl⟩ := r; exact ⟨[], .int i t, fun _ h => nomatch h⟩
  | _, _, _, _, .str x, r => by obtain ⟨t, rfl⟩ := r; exact ⟨[], .str x t, fun _ h => nomatch h⟩
  | _, _, _, _, .lst (a := a) h hs, r => by
    cases r
    obtain ⟨us, rv, ⟨o, n, e, hc, _, hd⟩, _⟩ := I.list h
    obtain ⟨bs, q, hb⟩ := Shs.reads I hs rv
    exact ⟨_, .list e hc hd q, fun b m => (List.mem_cons.mp m).elim (fun z => .inl (z ▸ List.mem_cons_self)) fun z => (hb b z).imp (List.mem_cons_of_mem _) id⟩
  | _, _, _, _, .tup (a := a) h hs, r => by
    cases r
    obtain ⟨us, rv, ⟨o, e, hc, n, hd⟩, _⟩ := I.tuple h
    obtain ⟨bs, q, hb⟩ := Shs.reads I hs rv
    exact ⟨_, .tuple e hc hd q, hb⟩
  | _, _, _, _, .dK (a := a) (kvs := kvs) (ds := ds) h hs, r => by
    cases r
    obtain ⟨_, hm, vs, kv, o, es, ep, e, hc, hd, _, pr, _⟩ := dk_rd I.hok h
    have l1 := hs.length
    rw [List.length_map] at l1
    have k1 : (((kvs.map fun p => keyD p.1).zip ds).map (·.1)) = vs.map fun p => keyD p.1 := by
      rw [← kv_keys kv, List.map_fst_zip]
      rw [List.length_map]; omega
    have k2 : (((kvs.map fun p => keyD p.1).zip ds).map (·.2)) = ds := by
      rw [List.map_snd_zip]
      rw [List.length_map]; omega
    obtain ⟨bs, q, hb⟩ := Shs.reads I hs (kv_vals kv)
    refine ⟨_, Reads.dict (as := []) (bs := bs) e hc.1 hd ?_ ?_, fun b m => ?_⟩
    · rw [k1]; exact reads_keys pr
    · rw [k2, pairs_vals pr]; exact q
    · rcases List.mem_cons.mp (show b ∈ a :: bs from m) with z | z
      · exact .inr (by rw [z]; exact beq_eq_false_iff_ne.mp hm)
      · exact hb b z
theorem Shs.reads (I : Inv X pins σ H s) : ∀ {vs : List V} {ds : List PyData} {as : List Addr} {us : List Value}, Shs X.K H vs ds as → Vals vs us → ∃ bs, ReadsAll s.heap us ds bs ∧ ∀ b ∈ bs, b ∈ as ∨ b ≠ sysModules
  | _, _, _, _, .nil, r => by cases r; exact ⟨[], .nil, fun _ h => nomatch h⟩
  | _, _, _, _, .cons h t, r => by
    cases r with
    | cons r1 r2 =>
      obtain ⟨b1, q1, m1⟩ := Sh.reads I h r1
      obtain ⟨b2, q2, m2⟩ := Shs.reads I t r2
      exact ⟨_, .cons q1 q2, fun b m => (List.mem_append.mp m).elim (fun z => (m1 b z).imp (List.mem_append_left _) id) fun z => (m2 b z).imp (List.mem_append_right _) id⟩
end
end

/-- data that may be written out: ints not too long, not too deep, short enough; no table of modules in a dict -/
structure Wr (d : PyData) (as : List Addr) : Prop where
  show_ : d.showable = true
  deep : d.depth ≤ 50
  len : d.shown.length ≤ sizeLine
  nom : d.hasDict = true → sysModules ∉ as
/-- repr(x) -/
def rRepr (K : PySem.W.Frag) : List V → Hp → VK → Prop := fun xs H Q => ∃ (v : V) (d : PyData) (as : List Addr), xs = [v] ∧ Sh K H v d as ∧ Wr d as ∧ Q (.str d.shown) H
section
variable {X : Cx}
theorem call_reprD (hg : X.A.guards = some []) (hu : X.A.units + 64 < cLine) : CallR X (.builtin "repr") (rRepr X.K) := by
  intro pins s σ H xs us Q I r h
  obtain ⟨v, d, as, rfl, hs, hw, q⟩ := h
  obtain ⟨u, rfl, r1⟩ := vals1 r
  obtain ⟨bs, rd, hb⟩ := hs.reads I r1
  have nom : d.hasDict = true → sysModules ∉ bs := fun h m => (hb _ m).elim (hw.nom h) fun z => z rfl
  have fin : ∀ h' t tk, (∀ b o, s.heap.get? b = some o → h'.get? b = some o) → EP X pins σ Q (.str d.shown t) { s with heap := h', toks := tk } := fun h' t tk k => ⟨.str d.shown, H, I.kept k, ⟨t, rfl⟩, q⟩
  cases rd with
  | none => exact PySem.P.repr_of_none (fin s.heap _ _ fun _ _ e => e)
  | bool b => exact PySem.P.repr_of_bool (fin s.heap _ _ fun _ _ e => e)
  | int i t => exact PySem.P.repr_of_int (by simpa [PyData.showable] using hw.show_) (fin s.heap _ _ fun _ _ e => e)
  | str x t => exact PySem.P.repr_of_str (fin s.heap _ _ fun _ _ e => e) (by simpa only [PyData.shown] using hw.len)
  | list h1 h2 h3 h4 => exact repr_of_reads' (.list h1 h2 h3 h4) hw.show_ nom hg (by have := hw.deep; omega) (fun _ _ e => e) fin hw.len
  | tuple h1 h2 h3 h4 => exact repr_of_reads' (.tuple h1 h2 h3 h4) hw.show_ nom hg (by have := hw.deep; omega) (fun _ _ e => e) fin hw.len
  | dict h1 h2 h3 h4 h5 => exact repr_of_reads' (.dict h1 h2 h3 h4 h5) hw.show_ nom hg (by have := hw.deep; omega) (fun _ _ e => e) fin hw.len
/-- a == b, a != b of data without dicts -/
def rEqD (K : PySem.W.Frag) (neg : Bool) : R2 := fun x y H Q => ∃ (d e : PyData) (as bs : List Addr), Sh K H x d as ∧ Sh K H y e bs ∧ SeqAt.shaped d = true ∧ SeqAt.shaped e = true ∧ Q (.bl (if neg then !PyData.eqv d e else PyData.eqv d e)) H
theorem op_eqD (hu : X.A.units + 64 < cLine) : OpR X (compareOp .Eq) (rEqD X.K false) := by
  intro pins s σ H x y v u Q I rx ry h
  obtain ⟨d, e, as, bs, h1, h2, s1, s2, q⟩ := h
  obtain ⟨_, q1, _⟩ := h1.reads I rx
  obtain ⟨_, q2, _⟩ := h2.reads I ry
  exact eq_dataH q1 q2 s1 s2 hu ⟨.bl _, H, I, rfl, q⟩
theorem op_neD (hu : X.A.units + 64 < cLine) : OpR X (compareOp .NotEq) (rEqD X.K true) := by
  intro pins s σ H x y v u Q I rx ry h
  obtain ⟨d, e, as, bs, h1, h2, s1, s2, q⟩ := h
  obtain ⟨_, q1, _⟩ := h1.reads I rx
  obtain ⟨_, q2, _⟩ := h2.reads I ry
  exact ne_dataH q1 q2 s1 s2 hu ⟨.bl _, H, I, rfl, q⟩
end
end L2.Vf

/-! # 2: errors of the program's own made by a call with keywords -/
namespace PySem
namespace VfK
open PySem.W PySem.Calls PyProof.Rows PySem.HandSPX
open Builtin Builtin.ObjectAttr
section
variable {prog : Program} {w : World} {A : Around} {E : Value → Shared → Prop} {R : Result → Shared → Prop} {h : Heap} {g : Array GenState} {d : Drawn} {t : Nat} {os : OsState} {kw : List (Str × Value)}
variable {nm q : Str} {C N : Addr} {bs bm bmB : List Value} {hdct : Bool} {sn : List Str} {sub : List Value} {ab : Bool} {col : Option Bool} {dd : Option Addr} {k0 k1 k2 k3 k5 : Option Value} {B newId initId : String}
theorem kw_check {M : Model} (F : ExcBaseFacts B newId initId bmB) (hT : ∀ X : String, bm.contains (.type X) = bmB.contains (.type X)) {rest : List Value} {Q : Unit → Shared → Prop}
    (hC : h.get? C = some (excClassObj nm q C N bs bm hdct sn sub ab col dd k0 k1 k2 k3 k5 newId)) (hq : Q () ⟨h, g, d, t, os⟩) : wpAny M A (checkBuiltinCall newId ⟨.ref C :: rest, kw⟩) Q E ⟨h, g, d, t, os⟩ := by
  have hstar := F.noStar; have hcont : (Value.ref C :: bm).contains (.type B) = true := by rw [List.contains_cons, hT, F.hasB, Bool.or_true]
  simp only [checkBuiltinCall, F.newKind, F.newSplit, F.newRow] <;> repeat (first | refine wpAny_loadPart_at hC ?_ | (refine wpAny_isSubtype_exc hC ?_; rw [hcont]) | refine wpAny_staticBase_exc hC ?_ | refine wpAny_madeBy_exc hC ?_ | simp only [bne_self_eq_false, Bool.false_eq_true, if_false] | wp_step)
  exact hq
theorem kw_new (F : ExcBaseFacts B newId initId bmB) (hT : ∀ X : String, bm.contains (.type X) = bmB.contains (.type X)) {rest : List Value}
    (hC : h.get? C = some (excClassObj nm q C N bs bm hdct sn sub ab col dd k0 k1 k2 k3 k5 newId)) (hrest : rest.length ≤ sizeLine)
    (hq : R (.ok (.ret (.ref (h.objs.size + 1)))) ⟨(h.push (W.kdv_tup rest)).push (excO C h.objs.size), g, d, t, os⟩) : codeAny (model prog w) A (.builtin newId ⟨.ref C :: rest, kw⟩) R ⟨h, g, d, t, os⟩ := by
  have hends := F.ends; have hcB : (Value.ref C :: bm).contains (.type B) = true := by rw [List.contains_cons, hT, F.hasB, Bool.or_true]
  have hcA : (Value.ref C :: bm).contains (.type "AttributeError") = false ∧ (Value.ref C :: bm).contains (.type "NameError") = false := ⟨by rw [List.contains_cons, hT, F.noAttr]; rfl, by rw [List.contains_cons, hT, F.noName]; rfl⟩
  refine codeAny_builtinAt F.entry ?_; unfold Builtin.«BaseException.__new__»
  refine wpAt_bind ?_; show wpAt _ _ _ (stack >>= _) _ _ _
  refine wpAt_bind (wpAt_stack fun p below => wpAt_of_wpAny ?_); wp_walk
  refine wpAt_of_wpAny ?_; rw [F.owner]; repeat (first | with_reducible refine wpAny_madeHere_exc F.canon hC ?_ | with_reducible refine wpAny_loadPart_at hC ?_ | (with_reducible refine wpAny_isSubtype_exc hC ?_; first | rw [hcB] | rw [hcA.1] | rw [hcA.2]) | wp_step)
  show R _ _; rw [Heap.size_push]; exact hq
theorem kw_type (F : ExcBaseFacts B newId initId bmB) (hT : ∀ X : String, bm.contains (.type X) = bmB.contains (.type X)) {rest : List Value} {fI : Addr} {Q : Fin → Shared → Prop}
    (hC : h.get? C = some (excClassObj nm q C N bs bm hdct sn sub ab col dd k0 k1 k2 k3 k5 newId)) (hrest : rest.length ≤ sizeLine)
    (hi : W.Looks (model prog w) h (typeLookup (.ref C) "__init__") (some (.ref fI))) (hb : ∀ self, W.Looks (model prog w) h (bindSpecial (.ref fI) self) (.ref fI, [self]))
    (hq : codeAny (model prog w) A (.call (.ref fI) ⟨.ref (h.objs.size + 1) :: rest, kw⟩) (fun r s' => match r with | .ok (.ret v) => v = .none ∧ Q (.done (.ret (.ref (h.objs.size + 1)))) s' | .ok _ => False | .error e => E e s')
      ⟨(h.push (W.kdv_tup rest)).push (excO C h.objs.size), g, d, t, os⟩) : wpAny (model prog w) A (Builtin.«type.__call__» ⟨.ref C :: rest, kw⟩) Q E ⟨h, g, d, t, os⟩ := by
  repeat (first | with_reducible refine wpAny_loadPart_at hC ?_ | with_reducible refine wpAny_madeBy_exc hC ?_ | wp_step)
  refine codeAny_call_builtin_code (Code.quiet_builtin _ F.quiet) (kw_check F hT hC ?_); refine kw_new F hT hC hrest ?_
  show wpAny _ _ _ _ _ _
  have k : ∀ b o, h.get? b = some o → ((h.push (W.kdv_tup rest)).push (excO C h.objs.size)).get? b = some o := fun b o e => Heap.get?_push_of_some _ (Heap.get?_push_of_some _ e)
  have i1 := hi.keeps k; have b1 := (hb (.ref (h.objs.size + 1))).keeps k; have hC₁ := k _ _ hC
  have hcC : (Value.ref C :: bm).contains (.ref C) = true ∧ ((h.push (W.kdv_tup rest)).push (excO C h.objs.size)).get? (h.objs.size + 1) = some (excO C h.objs.size) := ⟨by simp, by heap_get⟩
  have hget := hcC.2
  unfold isInstance; repeat (first | with_reducible refine wpAny_loadPart_at hget ?_ | (with_reducible refine wpAny_isSubtype_exc hC₁ ?_; rw [hcC.1]) | wp_step)
  show wpAny _ _ (typeLookup (.ref C) _) _ _ _; refine i1.at ?_; refine wpAny_holding (wpAny_bind (b1.at ?_))
  refine wpAny_bind (wpAny_call (codeAny_mono hq fun r s' z => ?_)); rcases r with e | (v | _ | _ | _) <;> first | exact z | exact z.elim | skip
  obtain ⟨rfl, z⟩ := z; first | exact wpAny_pure (wpAny_pure z) | (wp_walk; exact z)
theorem kw_call (F : ExcBaseFacts B newId initId bmB) (hT : ∀ X : String, bm.contains (.type X) = bmB.contains (.type X)) {rest : List Value} {fI : Addr}
    (hC : h.get? C = some (excClassObj nm q C N bs bm hdct sn sub ab col dd k0 k1 k2 k3 k5 newId)) (hrest : rest.length ≤ sizeLine)
    (hi : W.Looks (model prog w) h (typeLookup (.ref C) "__init__") (some (.ref fI))) (hb : ∀ self, W.Looks (model prog w) h (bindSpecial (.ref fI) self) (.ref fI, [self]))
    (hq : codeAny (model prog w) (A.under (.builtin "type.__call__" ⟨.ref C :: rest, kw⟩)) (.call (.ref fI) ⟨.ref (h.objs.size + 1) :: rest, kw⟩) (W.InitBack (h.objs.size + 1) R) ⟨(h.push (W.kdv_tup rest)).push (excO C h.objs.size), g, d, t, os⟩) :
    codeAny (model prog w) A (.call (.ref C) ⟨rest, kw⟩) R ⟨h, g, d, t, os⟩ := by
  have f1 := tc_lookup; have f2 := tc_bind (.ref C); have hTy : (⟨h, g, d, t, os⟩ : Shared).TypeIs (.ref C) "type" := ⟨_, hC, rfl⟩
  refine codeAny_of_tree ?_; show wpAny _ _ (callAny (.ref C) _) _ _ _
  repeat (any_goals (first | assumption | with_reducible refine wpAny_loadPart_at hC ?_ | wp_step))
  refine ⟨rfl, ?_⟩; refine codeAny_call_builtin_at (Code.quiet_builtin _ (by decide +kernel)) entry_typeCall (wpAny_check_type_call_sub hC (kw_type F hT hC hrest hi hb ?_))
  refine codeAny_mono hq fun r s' z => ?_; rcases r with e | (v | _ | _ | _) <;> exact z
end
end VfK
end PySem

/-! # 3: errors of the program's own, held as values: made, read, asked for their class -/
namespace L2.Vf
open PySem PySem.Spec PyProof.Rows

/-- what the written part says of such a class, its __init__ at fI, its field fld -/
structure ErC (K : PySem.W.Frag) (C fI : Addr) (fld : Str) : Prop where
  ox : OexC K C
  iC : PySem.W.findIn K (.ref C) "__init__" = some (some (.ref fI))
  tI : PySem.W.typeIn K (.ref fI) = some (.type "function")
  no : PySem.W.findIn K (.ref C) fld = some none
  xc : ExcC K C

section
variable {X : Cx} {CX : CXT} {k : Nat} {pins : List (Addr × Obj)} {σ : St} {H : Hp} {s : Shared}
/-- C(..): us positional, kw by name; ws what they bind to behind self -/
theorem run_er {C fI : Addr} {fd : FuncData} {ps : List Str} {sp : Sp} {Q : VK} {us ws : List Value} {kw : List (Str × Value)} {vs : List V} (T : OexC X.K C)
    (iC : PySem.W.findIn X.K (.ref C) "__init__" = some (some (.ref fI))) (tI : PySem.W.typeIn X.K (.ref fI) = some (.type "function"))
    (F1 : FnOk X.prog X.w X.K X.mg X.base CX k fI fd ps sp) (hr : Room (k + 1) X.A) (hz : us.length ≤ 1000)
    (hb : ∀ (s : Shared) (x : Value), X.K.In s.heap → BindsTo s fd ⟨x :: us, kw⟩ (ps.zip (x :: ws))) (hx : Passes CX X E0) (I : Inv X pins σ H s) (r : Vals vs ws)
    (h : ∀ a, H a = none → sp (.ref a :: vs) (upd H a (exo a C none)) (fun v H2 => v = .non ∧ Q (.ref a) H2) E0) :
    wpAny (model X.prog X.w) X.A (call (.ref C) us kw) (EP X pins σ Q) X.xe s := by
  obtain ⟨nm, q, N, bs, bm, sn, sub, ab, col, dd, k0, k1, k2, k3, k5, hC, hbm⟩ := T.cls
  obtain ⟨hp, g, dr, tk, os⟩ := s
  have hsz : hp.objs.size ≤ hp.objs.size + 1 := Nat.le_succ _
  have hn : H (hp.objs.size + 1) = none := I.hok.fresh hsz
  have hq := h (hp.objs.size + 1) hn
  have kk : ∀ b o, hp.get? b = some o → ((hp.push (PySem.W.kdv_tup us)).push (PySem.HandSPX.excO C hp.objs.size)).get? b = some o := fun b o e => by
    exact Heap.get?_push_of_some _ (Heap.get?_push_of_some _ e)
  have hget : ((hp.push (PySem.W.kdv_tup us)).push (PySem.HandSPX.excO C hp.objs.size)).get? (hp.objs.size + 1) = some (PySem.HandSPX.excO C hp.objs.size) := by
    heap_get
  have I2 : Inv X pins σ (upd H (hp.objs.size + 1) (exo (hp.objs.size + 1) C none)) ⟨(hp.push (PySem.W.kdv_tup us)).push (PySem.HandSPX.excO C hp.objs.size), g, dr, tk, os⟩ := by
    exact I.laid (t' := tk) (a := hp.objs.size + 1) (o := exo (hp.objs.size + 1) C none) kk hsz (exo_ok hget)
  have hus : us.length ≤ sizeLine := by rw [sizeLine_eq]; omega
  refine wpAny_call (PySem.VfK.kw_call F.excBase_ValueError (fun Y => PySem.HandSPX.refsVE_contains Y bm hbm) (I.kIn _ _ hC) hus (PySem.W.looks_findIn I.kIn iC) (fun self => PySem.W.bind_fn I.kIn self tI) ?_)
  refine codeAny_mono (F1.run _ X.stack _ _ _ (Value.ref (hp.objs.size + 1) :: ws) (.ref (hp.objs.size + 1) :: vs) _ E0 (hr.make C us kw) (I2.env0.make C us kw) (hb _ _ I2.kIn) (.cons rfl r) hq) fun r s' hq' => ?_
  cases r with
  | error er => exact hx pins σ _ _ er s' I2 hq'
  | ok fl =>
    cases fl with
    | ret u =>
      obtain ⟨v, H', I3, rv, ev, q3⟩ := I2.after hq'
      subst ev
      exact ⟨rv, ⟨V.ref (hp.objs.size + 1), H', I3, rfl, q3⟩⟩
    | next => exact hq'.elim
    | brk => exact hq'.elim
    | cont => exact hq'.elim

/-- an error without __init__ -/
theorem run_er0 {C : Addr} {bmB : List Value} {B newId initId : String} {Q : VK} {us : List Value} (F : ExcBaseFacts B newId initId bmB) (q : PySem.W.excIn X.K C bmB newId = true) (hz : us.length ≤ 1000) (I : Inv X pins σ H s)
    (h : ∀ a, H a = none → Q (.ref a) (upd H a (exo a C none))) : wpAny (model X.prog X.w) X.A (call (.ref C) us) (EP X pins σ Q) X.xe s := by
  obtain ⟨bm, N, nm, qn, bs, hdct, sn, sub, ab, col, dd, k0, k1, k2, k3, k5, mN, hC, hN, hni, T⟩ := exc_obj I.kIn q
  refine wpAny_call_exc_subT F T hC hN hni (fun h' a hm => ?_) (by rw [sizeLine_eq]; omega)
  have hn : H a = none := I.hok.gone hm.new
  obtain ⟨t, ht, _, _⟩ := hm.there
  exact ⟨.ref a, upd H a (exo a C none), I.laidN hm.keeps hm.new hn (exo_ok ht), rfl, h a hn⟩

/-! ### the calls, as expressions -/
/-- C(e), C(f = e), C() -/
def tEr (C : Addr) (sp : Sp) (t : TA) : TE := fun σ H Q => t σ H fun vs H1 => vs.length ≤ 1000 ∧ ∀ a, H1 a = none → sp (.ref a :: vs) (upd H1 a (exo a C none)) (fun v H2 => v = .non ∧ Q (.ref a) H2) E0
def tErD (C : Addr) (sp : Sp) : TE := fun σ H Q => ∀ a, H a = none → sp [.ref a, .non] (upd H a (exo a C none)) (fun v H2 => v = .non ∧ Q (.ref a) H2) E0
variable {C fI : Addr} {fld x : Str} {fd : FuncData} {ps ks : List Str} {sp : Sp} {e : Expr} {es : List Expr} {kws : List Keyword} {t : TA} {p pos : Pos}
theorem pe_er (T : ErC X.K C fI fld) (F1 : FnOk X.prog X.w X.K X.mg X.base CX k fI fd ps sp) (hr : Room (k + 1) X.A) (hb : Binds X.K fd ps []) (hx : Passes CX X E0) (hg : Gl X x) (hm : X.mg x = some (.ref C)) (ha : PA X (e :: es) t)
    (hdb : (x == ("__debug__" : Str)) = false := by decide) (he : starEach (e :: es) X.env = (false, eval e X.env) :: starEach es X.env := by rfl) (hpl : (backTo pos (starEach es X.env)).any (·.1) = false := by rfl) :
    PE X (.Call (.Name x p) (e :: es) [] pos) (tEr C sp t) := by
  refine ⟨fun pins s σ H Q I h => wpAny_Call_Name_kw (ld_glob I hg hm ?_ hdb)⟩
  refine PySem.W.callWith_K (h₀ := X.base) I.ok.mod.kin T.ox.kC (thn (ha.run pos pins s σ H _ I h) fun us s1 hh => ?_) he hpl
  obtain ⟨vs, H1, I1, r, hz, q⟩ := hh
  have hl : us.length ≤ 1000 := by rw [← r.length]; exact hz
  have hn : H1 s1.heap.objs.size = none := I1.hok.fresh (Nat.le_refl _)
  have l2 := F1.len _ _ _ _ (q _ hn)
  refine ⟨I1.kIn, run_er T.ox T.iC T.tI F1 hr hl (fun s x X => ?_) hx I1 r q⟩
  have z := hb s (x :: us) X (by rw [List.append_nil, List.length_cons, ← r.length]; exact l2)
  rw [List.append_nil] at z
  exact z
theorem pe_erK (T : ErC X.K C fI fld) (F1 : FnOk X.prog X.w X.K X.mg X.base CX k fI fd ps sp) (hr : Room (k + 1) X.A) (hb : ∀ (s : Shared) (x : Value) (ws : List Value), X.K.In s.heap → (x :: ws).length = ps.length → BindsTo s fd ⟨[x], ks.zip ws⟩ (ps.zip (x :: ws)))
    (hx : Passes CX X E0) (hg : Gl X x) (hm : X.mg x = some (.ref C)) (hk : PK X kws t) (hall : (backToKw pos (keywordEach kws X.env)).all (·.1.isSome) = true := by rfl) (hks : (backToKw pos (keywordEach kws X.env)).filterMap (·.1) = ks := by rfl)
    (hdb : (x == ("__debug__" : Str)) = false := by decide) (hpl : ((backTo pos (starEach [] X.env)).any (·.1) || (backToKw pos (keywordEach kws X.env)).any (·.1.isNone)) = false := by rfl) :
    PE X (.Call (.Name x p) [] kws pos) (tEr C sp t) := by
  refine ⟨fun pins s σ H Q I h => wpAny_Call_Name_kw (ld_glob I hg hm ?_ hdb)⟩
  refine PySem.W.callWith_KW0 (h₀ := X.base) I.ok.mod.kin T.ox.kC hall ?_ hpl
  refine thn (hk.run pos pins s σ H _ I h) fun ws s1 hh => ?_
  obtain ⟨vs, H1, I1, r, hz, q⟩ := hh
  have hn : H1 s1.heap.objs.size = none := I1.hok.fresh (Nat.le_refl _)
  have l2 := F1.len _ _ _ _ (q _ hn)
  rw [hks]
  refine ⟨I1.kIn, run_er (us := []) T.ox T.iC T.tI F1 hr (by decide) (fun s x X => ?_) hx I1 r q⟩
  exact hb s x ws X (by rw [List.length_cons, ← r.length]; exact l2)
theorem pe_erD (T : ErC X.K C fI fld) (F1 : FnOk X.prog X.w X.K X.mg X.base CX k fI fd ps sp) (hr : Room (k + 1) X.A) (hb : ∀ (s : Shared) (x : Value), X.K.In s.heap → BindsTo s fd ⟨[x], []⟩ (ps.zip [x, .none]))
    (hx : Passes CX X E0) (hg : Gl X x) (hm : X.mg x = some (.ref C)) (hdb : (x == ("__debug__" : Str)) = false := by decide) : PE X (.Call (.Name x p) [] [] pos) (tErD C sp) := by
  refine ⟨fun pins s σ H Q I h => wpAny_Call_Name_kw (ld_glob I hg hm ?_ hdb)⟩
  exact PySem.W.callWith_K0 I.kIn T.ox.kC (run_er (us := []) (ws := [.none]) (vs := [.non]) T.ox T.iC T.tI F1 hr (by decide) (fun s x X => hb s x X) hx I (.cons rfl .nil) h)
theorem pe_er0 {bmB : List Value} {B newId initId : String} (F : ExcBaseFacts B newId initId bmB) (q : PySem.W.excIn X.K C bmB newId = true) (kC : PySem.W.keepIn X.K (.ref C) = true) (hg : Gl X x) (hm : X.mg x = some (.ref C))
    (hdb : (x == ("__debug__" : Str)) = false := by decide) : PE X (.Call (.Name x p) [] [] pos) (fun σ H Q => ∀ a, H a = none → Q (.ref a) (upd H a (exo a C none))) := by
  refine ⟨fun pins s σ H Q I h => wpAny_Call_Name_kw (ld_glob I hg hm ?_ hdb)⟩
  exact PySem.W.callWith_K0 I.kIn kC (run_er0 (us := []) F q (by decide) I h)

/-! ### the field -/
/-- e.f of such an error -/
def tErF (K : PySem.W.Frag) (f : Str) (te : TE) : TE := fun σ H Q => te σ H fun x H1 => ∃ (a C d : Addr) (fs : List (Str × V)) (v : V), x = .ref a ∧ H1 a = some (exo a C (some d)) ∧ H1 d = some (exd d fs) ∧ fs.lookup f = some v ∧
  ExcC K C ∧ PySem.W.findIn K (.ref C) f = some none ∧ Q v H1
theorem pe_erF {te : TE} {f : Str} (he : PE X e te) (hb : attributeBase e f X.env (eval e X.env) = eval e X.env := by rfl) : PE X (.Attribute e f pos) (tErF X.K f te) := by
  refine ⟨fun pins s σ H Q I h => attr_of hb (thn (he.run pins s σ H _ I h) fun u s1 hh => ?_)⟩
  obtain ⟨x, H1, I1, rx, a, C, d, fs, v, ex, ea, ed, l, T, no, q⟩ := hh
  subst ex
  obtain rfl : u = Value.ref a := rx
  obtain ⟨t1, ho⟩ := exo_at I1.hok ea
  obtain ⟨mA, hns, hr⟩ := exd_at I1.hok ed
  obtain ⟨od, hod, hl⟩ := lookIn_ns hns
  obtain ⟨u, hu, ru⟩ := RelO.some_of (v := v) (o := mA f) (by rw [← l]; exact hr f)
  have J : PySem.W.InstAt s1.heap a _ C (some od) := ⟨ho, rfl, rfl, hod⟩
  exact HandSPX.exc_get I1.kIn J T.hg T.hk T.hs (PySem.W.findObj_own T.hd no rfl (by rw [hl, hu])) (handed_of ru) ⟨v, H1, I1.tok _, ru, q⟩
end
end L2.Vf

/-! # 4: isinstance of errors held as values; a class's __init__ that stores its one parameter -/
namespace PySem.VfK
open PySem PySem.Spec PySem.Calls PyProof.Rows PySem.W
section
variable {prog : Program} {w : World} {A : Around} {E : Value → Shared → Prop} {s : Shared} {K : Frag} {x D : Addr} {ox : Obj} {od : Option Obj}
theorem data_any {C : Addr} {name : Str} {a g : Value} (hc : (clsIn K C).isSome = true) (ha : findIn K (.ref C) name = some (some a)) (hg : specialIn K a "__get__" = some (some g)) (ht : takesIn K a = some true) : findObj K C od name = some (.bind g a) := by
  unfold findObj; obtain ⟨cd, hc⟩ := Option.isSome_iff_exists.mp hc
  rw [hc, Option.bind_some, ha, Option.bind_some]; simp [hg, ht]
theorem cls_any {Q : Option Value → Shared → Prop} (T : L2.ExcC K D) (X : K.In s.heap) (I : InstAt s.heap x ox D od) (h : Q (some (.ref D)) { s with toks := s.toks + 1 }) : wpAny (model prog w) A (getAttr? (.ref x) "__class__") Q E s := by
  have hf : findObj K D od "__class__" = some (.bind (.builtin "getset_descriptor.__get__") (.builtin "object.__class__")) := data_any (by obtain ⟨cd, hc, _⟩ := any_some T.hd; rw [hc]; rfl) T.ha T.hn T.ht
  obtain ⟨hp, g, d, t, os⟩ := s
  have L0 := I.type (M := model prog w); have L1 := looks_findIn (M := model prog w) X T.hg; have L2 := looks_findIn (M := model prog w) X T.hk; have L3 := looks_find (M := model prog w) X I hf
  have sub : Looks (model prog w) hp (isInstance (.ref x) (.type "BaseException")) true := L0.andThen (looks_subIn X T.hs)
  have hx0 : (false && onTheHeap (Value.builtin "BaseException.__getattribute__")) = false ∧ (Value.builtin "BaseException.__getattribute__" == Value.builtin "object.__getattribute__") = false := ⟨rfl, by decide +kernel⟩
  have hx1 : (onTheHeap (Value.ref D) && Value.builtin "BaseException.__getattribute__" == Value.builtin "object.__getattribute__") = false := by rw [hx0.2]; rfl
  unfold getAttr? getAttrBy? getAttrBy; refine wpAny_bind (wpAny_mkText (wpAny_bind (wpAny_attempt (wpAny_holding (wpAny_bind (L0.at (wpAny_bind (L1.at ?_))))))))
  show wpAny _ _ (if (onTheHeap (Value.ref D) && Value.builtin "BaseException.__getattribute__" == Value.builtin "object.__getattribute__") = true then _ else _) _ _ _; rw [hx1, if_neg Bool.false_ne_true]
  unfold getAttrByItsOwn hookBefore; refine wpAny_bind ?_; rw [if_pos (show onTheHeap (Value.ref D) = true from rfl)]; refine L2.at ?_
  refine wpAny_bind (wpAny_attempt (wpAny_holding ?_)); unfold callGetattribute; rw [hx0.1, if_neg Bool.false_ne_true]; unfold boundAndCalled
  rw [PySem.F.excAttr_ValueError.ga.bind (.ref x)]; refine wpAny_bind (wpAny_pure ?_)
  show wpAny _ _ (call (.builtin "BaseException.__getattribute__") [.ref x, .str "__class__" t]) _ _ _; refine wpAny_call (codeAny_call_builtin PySem.F.excAttr_ValueError.ga.plain PySem.F.entry_bexc_ga ?_)
  refine @check_slot (model prog w) _ _ ⟨hp, g, d, t + 1, os⟩ "BaseException.__getattribute__" "BaseException" "__getattribute__" (.ref x) [.str "__class__" t] [] _ (by decide +kernel) (by decide +kernel) sub (PySem.F.args_bexc_ga (.ref x) (.str "__class__" t)) ?_ ; unfold Builtin.«object.__getattribute__»
  refine wpAny_bind (wpAny_of_eq (a := ((Value.ref x : Value), [Value.str "__class__" t])) (by first | rfl | (simp only [slotArgs]; rfl)) ?_); refine wpAny_bind (wpAny_pure (wpAny_bind (L0.at (wpAny_bind (L3.at ?_)))))
  show wpAny _ _ (holding [Value.builtin "object.__class__"] (call (.builtin "getset_descriptor.__get__") [.builtin "object.__class__", .ref x, .ref D]) >>= ret) _ _ _
  refine wpAny_bind (wpAny_holding (wpAny_call (class_get (s := ⟨hp, g, d, t + 1, os⟩) (ox := ox) (od := od) X I T.hm ?_))); refine wpAny_pure ?_
  show wpAny _ _ (handedOut (.ref D)) _ _ _; rw [handedOut_of (v := .ref D) rfl]
  first | exact wpAny_pure (wpAny_pure h) | exact wpAny_pure h | exact wpAny_pure (wpAny_bind (wpAny_pure (wpAny_pure h)))
theorem kit_any (T : L2.ExcC K D) : KitX K (.ref x) (.ref D) (fun h => InstAt h x ox D od) where
  ty := fun _ _ _ I => I.type
  it := fun _ _ X _ => by
    obtain ⟨c, hc, _⟩ := any_some T.hd; unfold clsIn at hc; split at hc
    · rename_i c' d' cd' sl' ho
      intro A' Q' E' s' k q; unfold isType loadHead; exact wpAny_bind (wpAny_loadPart (k _ _ (X _ _ ho)) (wpAny_pure q))
    · cases hc
  ne := fun h tp dd its n sl X htp => by
    obtain ⟨c, hc, _⟩ := any_some T.hd
    refine Bool.eq_false_iff.mpr fun q => ?_; have e : D = tp := Value.ref.inj (beq_iff_eq.mp q); subst e; unfold clsIn at hc; split at hc
    · rename_i c' d' cd' sl' ho
      have z := (X _ _ ho).symm.trans htp; cases z
    · cases hc
  ca := fun X I k => cls_any T X I k
end
end PySem.VfK

namespace L2.Vf
open PySem PySem.Spec PyProof.Rows
/-- isinstance(e, c), e such an error -/
def rIsX (K : PySem.W.Frag) : List V → Hp → VK → Prop := fun xs H Q => ∃ (a C : Addr) (d : Option Addr) (c : V) (cv : Value) (b : Bool), xs = [.ref a, c] ∧ H a = some (exo a C d) ∧ (∀ d0, d = some d0 → ∃ fs, H d0 = some (exd d0 fs)) ∧ ExcC K C ∧ ClsV c cv ∧
  PySem.W.kitOne K (.ref C) cv = some b ∧ Q (.bl b) H
section
variable {X : Cx} {f : Addr}
theorem call_isiX : CallR X (.builtin "isinstance") (fun xs H Q => rIsi X.K xs H Q ∨ rIsX X.K xs H Q) := by
  intro pins s σ H xs us Q I r h
  rcases h with h | ⟨a, C, d, c, cv, b, rfl, ha, hd, T, hc, e, q⟩
  · exact call_isi pins s σ H xs us Q I r h
  · obtain ⟨u1, u2, rfl, r1, r2⟩ := vals2 r
    obtain rfl : u1 = Value.ref a := r1
    have e2 := hc.eq r2
    subst e2
    obtain ⟨t1, ho⟩ := exo_at I.hok ha
    have J : ∃ od, PySem.W.InstAt s.heap a { cls := .ref C, dict := d, data := .fields #[.ref t1, .none, .none, .none, .bool false, .none] } C od := by
      cases d with
      | none => exact ⟨none, ho, rfl, rfl, trivial⟩
      | some d0 =>
        obtain ⟨fs, hq⟩ := hd d0 rfl
        obtain ⟨mA, ⟨o, es, ep, e1, _⟩, _⟩ := exd_at I.hok hq
        exact ⟨some o, ho, rfl, rfl, e1⟩
    obtain ⟨od, J⟩ := J
    exact PySem.W.kia_one (PySem.VfK.kit_any T) I.kIn J e (fun z => nomatch z) fun tk => ⟨.bl b, H, I.kept (t' := tk) fun _ _ z => z, rfl, q⟩

/-! ### def __init__(self, f=None): self.f = f -/
def iArgs (f : Str) (p1 p2 p3 : Pos) : Arguments := { posonlyargs := [], args := [⟨"self", none, p1⟩, ⟨f, none, p2⟩], vararg := none, kwonlyargs := [], kw_defaults := [], kwarg := none, defaults := [.Constant .none 0 p3] }
def iBody (f : Str) (p1 p2 p3 p4 : Pos) : List Stmt := [.Assign [.Attribute (.Name "self" p1) f p2] (.Name f p3) p4]
def iScope (f : Str) : Scope := ⟨.function, [("self", .local), (f, .local)], false, false, []⟩
/-- the new error keeps what it was given -/
def spInit (K : PySem.W.Frag) (fld : Str) : Sp := fun vs H Q _ => ∃ (a C : Addr) (v : V), vs = [.ref a, v] ∧ OexC K C ∧ PySem.W.findIn K (.ref C) fld = some none ∧ H a = some (exo a C none) ∧
  ∀ dx, H dx = none → dx ≠ a → Q .non (upd (upd H dx (exd dx [(fld, v)])) a (exo a C (some dx)))
end
section
variable {P : Program} {w : World} {K : PySem.W.Frag} {mg : Str → Option Value} {base : Heap} {f : Addr} {fd : FuncData} {qual : Str} {p1 p2 p3 p4 p5 p6 p7 : Pos}
theorem ok_initV (F : FunD K "__init__" qual (iArgs "value" p1 p2 p3) (iBody "value" p4 p5 p6 p7) (iScope "value") [.non] [] f fd) : FnOk P w K mg base CX0 1 f fd ["self", "value"] (spInit K "value") := by
  have sc : FnScope ["self", "value"] ["self", "value"] (iScope "value") := ⟨rfl, rfl, rfl, by decide +kernel, rfl, by decide +kernel, by decide +kernel⟩
  refine F.ok sc (fun vs H Q E h => ?_) fun cdv A outer s H vs Q E hr h => ?_
  · obtain ⟨a, C, v, rfl, _⟩ := h; rfl
  · obtain ⟨a, C, v, rfl, T, no, ea, q⟩ := h
    refine ⟨_, (pss_one (ps_ost (pv 0) (pv 1))).nox, ?_⟩
    exact ⟨v, rfl, _, rfl, a, C, rfl, T, no, .inl ⟨ea, fun dx n ne => q dx n ne⟩⟩
theorem ok_initN (F : FunD K "__init__" qual (iArgs "name" p1 p2 p3) (iBody "name" p4 p5 p6 p7) (iScope "name") [.non] [] f fd) : FnOk P w K mg base CX0 1 f fd ["self", "name"] (spInit K "name") := by
  have sc : FnScope ["self", "name"] ["self", "name"] (iScope "name") := ⟨rfl, rfl, rfl, by decide +kernel, rfl, by decide +kernel, by decide +kernel⟩
  refine F.ok sc (fun vs H Q E h => ?_) fun cdv A outer s H vs Q E hr h => ?_
  · obtain ⟨a, C, v, rfl, _⟩ := h; rfl
  · obtain ⟨a, C, v, rfl, T, no, ea, q⟩ := h
    refine ⟨_, (pss_one (ps_ost (pv 0) (pv 1))).nox, ?_⟩
    exact ⟨v, rfl, _, rfl, a, C, rfl, T, no, .inl ⟨ea, fun dx n ne => q dx n ne⟩⟩
/-- how its arguments bind -/
theorem init_look {fld : Str} (F : FunD K "__init__" qual (iArgs fld p1 p2 p3) (iBody fld p4 p5 p6 p7) (iScope fld) [.non] [] f fd) {s : Shared} {x y : Value} {us : List Value} {kw : List (Str × Value)} (X : K.In s.heap)
    (h : ∀ (T : Addr) (kV doc pm : Value) (an : Option Addr) (cdv ct : Value), ∃ k, bindArgs (PySem.W.fnOf "__init__" qual (iArgs fld p1 p2 p3) (iBody fld p4 p5 p6 p7) (iScope fld) (.ref T) kV doc pm an cdv ct) ⟨us, kw⟩ = seqItems? (.ref T) >>= k ∧
      k (some #[.none]) = pure ((["self", fld] : List Str).zip [x, y])) : BindsTo s fd ⟨us, kw⟩ ((["self", fld] : List Str).zip [x, y]) := by
  obtain ⟨oc, od, dV, kV, doc, pm, an, cdv, ct, osl, rfl, lk, hcd, hD, hK⟩ := F.ex
  rcases hD with ⟨e, _⟩ | ⟨_, T, o, its, m, rfl, lT, oT, rT⟩
  · cases e
  · cases rT with
    | cons r1 r2 =>
      cases r2
      cases r1
      obtain ⟨k, e1, e2⟩ := h T kV doc pm an cdv ct
      refine BindsTo.of_looks fun M => ?_
      rw [e1]
      exact looks_items X lT oT (.of_pure e2)
theorem init_b1 {fld : Str} (F : FunD K "__init__" qual (iArgs fld p1 p2 p3) (iBody fld p4 p5 p6 p7) (iScope fld) [.non] [] f fd) (hf : fld = "value" ∨ fld = "name") : Binds K fd ["self", fld] [] := by
  intro s us X hl
  rw [List.append_nil] at hl ⊢
  match us, hl with
  | [a, b], _ => exact init_look F X fun T kV doc pm an cdv ct => by rcases hf with rfl | rfl <;> exact ⟨_, rfl, rfl⟩
theorem init_bK {fld : Str} (F : FunD K "__init__" qual (iArgs fld p1 p2 p3) (iBody fld p4 p5 p6 p7) (iScope fld) [.non] [] f fd) (hf : fld = "value" ∨ fld = "name") (s : Shared) (x : Value) (ws : List Value) (X : K.In s.heap)
    (hl : (x :: ws).length = (["self", fld] : List Str).length) : BindsTo s fd ⟨[x], ([fld] : List Str).zip ws⟩ ((["self", fld] : List Str).zip (x :: ws)) := by
  match ws, hl with
  | [b], _ => exact init_look F X fun T kV doc pm an cdv ct => by rcases hf with rfl | rfl <;> exact ⟨_, rfl, rfl⟩
theorem init_bD {fld : Str} (F : FunD K "__init__" qual (iArgs fld p1 p2 p3) (iBody fld p4 p5 p6 p7) (iScope fld) [.non] [] f fd) (hf : fld = "value" ∨ fld = "name") (s : Shared) (x : Value) (X : K.In s.heap) : BindsTo s fd ⟨[x], []⟩ ((["self", fld] : List Str).zip [x, .none]) :=
  init_look F X fun T kV doc pm an cdv ct => by rcases hf with rfl | rfl <;> exact ⟨_, rfl, rfl⟩
end
end L2.Vf

/-! # 5: defs that are called where no repr runs around them, and what is known of that in their bodies -/
namespace L2.Vf
open PySem PySem.Spec PyProof.Rows
theorem guards_make (A : Around) (C : Addr) (us : List Value) (kw : List (Str × Value)) (h : A.guards = some []) : (A.under (.builtin "type.__call__" ⟨.ref C :: us, kw⟩)).guards = some [] := by
  simp [Around.under, Code.guards, Code.isGuard, pushGuards, h]
  rw [if_neg (by decide)]
/-- what FnOk says, where no guarded builtin runs -/
structure FnG (P : Program) (w : World) (K : PySem.W.Frag) (mg : Str → Option Value) (base : Heap) (CX : CXT) (k : Nat) (f : Addr) (fd : FuncData) (ps : List Str) (sp : Sp) : Prop where
  len : ∀ vs H Q E, sp vs H Q E → vs.length = ps.length
  go : ∀ (A : Around) (outer : List Env) (s : Shared) (H : Hp) (args : Args) (us : List Value) (vs : List V) (Q : VK) (E : XK), A.guards = some [] → Room k A → Env0 P w K mg base A outer s H → BindsTo s fd args (ps.zip us) → Vals vs us →
    sp vs H Q E → codeAny (model P w) A (.call (.ref f) args) (CR CX outer P w H s Q E) s
section
variable {P : Program} {w : World} {K : PySem.W.Frag} {mg : Str → Option Value} {base : Heap} {CX : CXT} {k : Nat} {f : Addr} {fd : FuncData} {ps N : List Str} {sp : Sp}
theorem FnG.of (F : FnOk P w K mg base CX k f fd ps sp) : FnG P w K mg base CX k f fd ps sp :=
  ⟨F.len, fun A outer s H args us vs Q E _ hr he hb hv hs => F.run A outer s H args us vs Q E hr he hb hv hs⟩
/-- a def of the text, its body walked -/
theorem FnG.mk' {name qual : Str} {params : Arguments} {body : List Stmt} {scope : Scope} {dV kV doc pm cdv ct oc : Value} {an od : Option Addr} {osl : Array (Option Value)}
    (lk : K.lookup f = some ⟨oc, od, .func (PySem.W.fnOf name qual params body scope dV kV doc pm an cdv ct), osl⟩) (hcd : PySem.W.codeIn K cdv qual = true) (S : FnScope N ps scope) (len : ∀ vs H Q E, sp vs H Q E → vs.length = ps.length)
    (hbody : ∀ (A : Around) (outer : List Env) (s : Shared) (H : Hp) (vs : List V) (Q : VK) (E : XK), (A.deeper (envOfC qual scope s.heap.objs.size f cdv)).guards = some [] → Room k (A.deeper (envOfC qual scope s.heap.objs.size f cdv)) → sp vs H Q E →
      ∃ t, PSs (cxOf CX P w K mg base N qual scope f cdv A outer s H E) body t ∧ t { nx := fun _ H' => Q .non H', rt := Q } (start N vs) H) :
    FnG P w K mg base CX (k + 1) f (PySem.W.fnOf name qual params body scope dV kV doc pm an cdv ct) ps sp := by
  refine ⟨len, fun A outer s H args us vs Q E hg hr e0 hb r hsp => ?_⟩
  have hl := len _ _ _ _ hsp
  have KX : K.In s.heap := e0.mod.kin.keeps fun b o e => by exact (e0.bs b o e).1
  have lim : s.heap.NoLimit := e0.mod.nolimit.keeps fun b o e => by exact (e0.bs b o e).1
  have hkind : ∀ y ∈ ps.zip us, scope.names.lookup y.1 = some .local ∨ (scope.names.lookup y.1 = some .cell ∧ ((cellsFrom (s.heap.objs.size + 1) scope.names []).lookup y.1).isSome = true) := fun y hy => by
    obtain ⟨n, v⟩ := y
    rcases S.par n (List.of_mem_zip hy).1 with q | q
    · exact Or.inl q
    · exact Or.inr ⟨q, PySem.W.cellsFrom_some _ _ _ (.inl q)⟩
  refine codeAny_call_function hr.depth (KX _ _ lk) rfl S.co S.gen rfl (PySem.W.codeRec_of KX hcd) (hb _ _ _ _ (wpAny_newFunctionEnv_cells S.kind hkind fun env he s1 x => ?_))
  subst he
  refine ⟨lim.keeps x.toInCall.keep, codeAny_func ?_⟩
  obtain ⟨t, ht, hq⟩ := hbody A outer s H vs Q E hg (hr.deeper _) hsp
  have I : Inv (cxOf CX P w K mg base N qual scope f cdv A outer s H E) [] (start N vs) H s1 := by exact inv_start S hr.hd e0 hl r x
  refine wpAny_mono (ht.run [] s1 (start N vs) H _ I hq) (fun fl s' hs => ?_) fun e s' hs => by exact hs
  cases fl with
  | ret u =>
    obtain ⟨v, σ', H', J, rv, q⟩ := hs
    exact ⟨v, H', J.os, J.bare, J.base, J.hok, rv, q⟩
  | next =>
    obtain ⟨σ', H', J, q⟩ := hs
    exact ⟨.non, H', J.os, J.bare, J.base, J.hok, rfl, q⟩
  | brk => obtain ⟨_, _, _, q⟩ := hs; exact q.elim
  | cont => obtain ⟨_, _, _, q⟩ := hs; exact q.elim
/-- from which no error leaves -/
theorem okG {x qual : Str} {st : Stmt} (F : Fun K x qual st f fd) (S : FnScope N ps (defScope st)) (len : ∀ vs H Q E, sp vs H Q E → vs.length = ps.length)
    (hbody : ∀ (cdv : Value) (A : Around) (outer : List Env) (s : Shared) (H : Hp) (vs : List V) (Q : VK) (E : XK), (A.deeper (envOfC qual (defScope st) s.heap.objs.size f cdv)).guards = some [] → Room k (A.deeper (envOfC qual (defScope st) s.heap.objs.size f cdv)) →
      sp vs H Q E → ∃ t, PSs (cxOf CX0 P w K mg base N qual (defScope st) f cdv A outer s H E).nox (defBody st) t ∧ t { nx := fun _ H' => Q .non H', rt := Q } (start N vs) H) : FnG P w K mg base CX0 (k + 1) f fd ps sp := by
  obtain ⟨oc, od, kV, doc, pm, an, cdv, ct, osl, rfl, lk, hcd⟩ := F.ex
  refine FnG.mk' lk hcd S len fun A outer s H vs Q E hg hr hsp => ?_
  obtain ⟨t, h, q⟩ := hbody cdv A outer s H vs Q E hg hr hsp
  exact ⟨t, h.nox, q⟩
end
section
variable {X : Cx} {CX : CXT} {k : Nat} {f : Addr} {fd : FuncData} {ps : List Str} {sp : Sp} {dvs : List V} {ds : List Value} {E : XK} {x : Str} {p pos : Pos} {e : Expr} {es : List Expr} {t : TA}
theorem runG {pins : List (Addr × Obj)} {σ : St} {H : Hp} {s : Shared} {Q : VK} {us : List Value} {vs : List V} (F : FnG X.prog X.w X.K X.mg X.base CX k f fd ps sp) (hg : X.A.guards = some []) (hr : Room k X.A) (hb : Binds X.K fd ps ds) (hd : Vals dvs ds)
    (hx : Passes CX X E) (I : Inv X pins σ H s) (r : Vals vs us) (h : sp (vs ++ dvs) H Q E) : wpAny (model X.prog X.w) X.A (call (.ref f) us) (EP X pins σ Q) X.xe s := by
  have r2 : Vals (vs ++ dvs) (us ++ ds) := r.append hd
  have hl : (us ++ ds).length = ps.length := by rw [← r2.length]; exact F.len _ _ _ _ h
  refine wpAny_call (codeAny_mono (F.go X.A X.stack s H ⟨us, []⟩ (us ++ ds) (vs ++ dvs) Q E hg hr I.env0 (hb s us I.kIn hl) r2 h) fun r s' hq => ?_)
  cases r with
  | error e => exact hx pins σ H s e s' I hq
  | ok fl =>
    cases fl with
    | ret u => exact I.after hq
    | next => exact hq.elim
    | brk => exact hq.elim
    | cont => exact hq.elim
theorem pe_callG (F : FnG X.prog X.w X.K X.mg X.base CX k f fd ps sp) (hG : X.A.guards = some []) (hr : Room k X.A) (hg : Gl X x) (hm : X.mg x = some (.ref f)) (hk : PySem.W.keepIn X.K (.ref f) = true) (hb : Binds X.K fd ps ds) (hd : Vals dvs ds)
    (hx : Passes CX X E) (ha : PA X (e :: es) t) (hdb : (x == ("__debug__" : Str)) = false := by decide) (he : starEach (e :: es) X.env = (false, eval e X.env) :: starEach es X.env := by rfl)
    (hpl : (backTo pos (starEach es X.env)).any (·.1) = false := by rfl) : PE X (.Call (.Name x p) (e :: es) [] pos) (tCall sp dvs E t) := by
  refine ⟨fun pins s σ H Q I h => wpAny_Call_Name_kw (ld_glob I hg hm ?_ hdb)⟩
  refine PySem.W.callWith_K (h₀ := X.base) I.ok.mod.kin hk (thn (ha.run pos pins s σ H _ I h) fun us s1 hh => ?_) he hpl
  obtain ⟨vs, H1, I1, r, q⟩ := hh
  exact ⟨I1.kIn, runG F hG hr hb hd hx I1 r q⟩
end

/-! ### the end of a law -/
/-- the call's heap without what is tracked, and the facts of the module over it -/
theorem lawG_at {P : Program} {w : World} {K : PySem.W.Frag} {mg mb : Str → Option Value} {k : Nat} {fa a : Addr} {fd : FuncData} {x : Str} {sp : Sp} {s₁ : Shared} {vs : List Value} {H : Hp}
    (KX : K.In s₁.heap) (hns : s₁.heap.Ns mainGlobals mg) (hb : s₁.heap.Ns builtinsNs mb) (hbb : ∀ x : Str, x ≠ "__name__" → mb x = bootBuiltins x) (hlim : s₁.heap.NoLimit) (hg : s₁.gens = #[])
    (ha : s₁.heap.get? a = some { cls := .type "list", data := .seq vs.toArray }) (hr : Room k callerA)
    (F : ∀ base : Heap, K.In base → base.Ns mainGlobals mg → FnG P w K mg base CX0 k fa fd [x] sp) (hbind : ∀ (s : Shared) (u : Value), BindsTo s fd ⟨[u], []⟩ [(x, u)])
    (hO : Only H) (hsp : sp [.ref a] H (fun v _ => v = .bl true) fun _ _ _ => False) (hok : HOk P w H s₁.heap) (hA : ∀ b, H b ≠ none → b = a) (hK : H a ≠ none → K.lookup a = none) :
    codeAny (model P w) callerA (.call (.ref fa) ⟨[.ref a], []⟩) (fun r s' => r = .ok (.ret (.bool true)) ∧ OldK s₁.heap s'.heap ∧ s'.os = s₁.os ∧ AllBare s'.gens) s₁ := by
  have noD : ∀ {b : Addr} {o : Obj} {es : Array DictEntry} {ep : Nat}, s₁.heap.get? b = some o → o.data = .dict es ep → H b = none := fun {b o es ep} e d => by
    cases q : H b with
    | none => rfl
    | some u =>
      have e' := hA b (by rw [q]; simp)
      subst e'
      rw [ha] at e
      cases e
      cases (show Data.seq vs.toArray _ = Data.dict es ep from d)
  have nsK : ∀ {b : Addr} {m : Str → Option Value}, s₁.heap.Ns b m → (hidT s₁.heap H).Ns b m := fun {b m} z => by
    obtain ⟨o, es, ep, e, d, r⟩ := z
    exact ⟨o, es, ep, hidT_get e (noD e d), d, r⟩
  have hKb : K.In (hidT s₁.heap H) := fun b o e => hidT_get (KX b o e) (by
    cases q : H b with
    | none => rfl
    | some u =>
      have e' := hA b (by rw [q]; simp)
      subst e'
      rw [hK (by rw [q]; simp)] at e
      cases e)
  have hM : Mod K mg (hidT s₁.heap H) := by
    obtain ⟨mc, h1, h2⟩ := hlim
    exact ⟨hKb, nsK hns, ⟨mb, nsK hb, hbb⟩, mc, nsK h1, h2⟩
  have e0 : Env0 P w K mg (hidT s₁.heap H) callerA [] s₁ H := by
    exact ⟨rfl, hM, fun b o e => of_hidT e, Nat.le_of_eq (hidT_size _ _), trivial, fun b hb => absurd (show b ∈ ([] : List Addr) from hb) (by simp), hok, .of_eq hg⟩
  refine codeAny_mono ((F _ hKb (nsK hns)).go callerA [] s₁ H ⟨[.ref a], []⟩ [.ref a] [.ref a] _ _ rfl hr e0 (hbind s₁ (.ref a)) (.cons rfl .nil) hsp) fun r s' h => ?_
  cases r with
  | error e => exact False.elim h
  | ok fl =>
    cases fl with
    | next => exact h.elim
    | brk => exact h.elim
    | cont => exact h.elim
    | ret u =>
      obtain ⟨v, H', os, bare, un, hok', r', q⟩ := h
      subst q
      obtain rfl : u = Value.bool true := r'
      refine ⟨rfl, OldK.of_keep fun b o e => ?_, os, bare⟩
      cases q : H b with
      | none => exact un.keep b o e q (by intro z; exact absurd (show b ∈ ([] : List Addr) from z) (by simp)) (by simp)
      | some u =>
        rcases hO b with z | ⟨ob, xs, z⟩
        · rw [q] at z
          cases z
        · obtain ⟨e1, _⟩ := hok b _ z
          obtain ⟨e2, _⟩ := hok' b _ (un.frzs b ob _ z)
          rw [e] at e1
          cases e1
          exact e2
theorem lawG {P : Program} {w : World} {K : PySem.W.Frag} {mg mb : Str → Option Value} {k : Nat} {fa a : Addr} {fd : FuncData} {x : Str} {sp : Sp} {s₁ : Shared} {vs : List Value} {ns : List Int}
    (KX : K.In s₁.heap) (hns : s₁.heap.Ns mainGlobals mg) (hb : s₁.heap.Ns builtinsNs mb) (hbb : ∀ x : Str, x ≠ "__name__" → mb x = bootBuiltins x) (hlim : s₁.heap.NoLimit) (hg : s₁.gens = #[])
    (ha : s₁.heap.get? a = some { cls := .type "list", data := .seq vs.toArray }) (hi : IntsAre vs ns) (hl : ns.length ≤ sizeLine) (hr : Room k callerA)
    (F : ∀ base : Heap, K.In base → base.Ns mainGlobals mg → FnG P w K mg base CX0 k fa fd [x] sp) (hbind : ∀ (s : Shared) (u : Value), BindsTo s fd ⟨[u], []⟩ [(x, u)])
    (hsp : ∀ H : Hp, Only H → SqL K H a (ns.map V.int) → sp [.ref a] H (fun v _ => v = .bl true) fun _ _ _ => False) :
    codeAny (model P w) callerA (.call (.ref fa) ⟨[.ref a], []⟩) (fun r s' => r = .ok (.ret (.bool true)) ∧ OldK s₁.heap s'.heap ∧ s'.os = s₁.os ∧ AllBare s'.gens) s₁ := by
  have rv := vals_ints hi
  have lenV := hi.length
  cases hk : K.lookup a with
  | some o =>
    have e := KX a o hk
    rw [ha] at e
    cases e
    have hO : Only (fun _ => none) := fun _ => .inl rfl
    refine lawG_at KX hns hb hbb hlim hg ha hr F hbind hO (hsp _ hO (.inr ⟨_, vs.toArray, _, hk, rfl, rfl, rfl, by rw [List.size_toArray, lenV]; exact hl, by simpa using rv⟩)) (fun b u z => by cases (show (none : Option HO) = some u from z)) (fun b z => absurd rfl z) fun z => absurd rfl z
  | none =>
    let o : Obj := { cls := .type "list", data := .seq vs.toArray }
    have at_ : ∀ {b : Addr}, b = a → (if b = a then some (HO.frz o (.lst (ns.map V.int))) else none) = some (HO.frz o (.lst (ns.map V.int))) := fun h => if_pos h
    have off : ∀ {b : Addr}, b ≠ a → (if b = a then some (HO.frz o (.lst (ns.map V.int))) else none) = none := fun h => if_neg h
    have hO : Only (fun b => if b = a then some (.frz o (.lst (ns.map V.int))) else none) := fun b => by
      by_cases hb : b = a
      · exact .inr ⟨_, _, at_ hb⟩
      · exact .inl (off hb)
    refine lawG_at KX hns hb hbb hlim hg ha hr F hbind hO (hsp _ hO (.inl (.inr ⟨o, at_ rfl⟩))) (fun b u z => ?_) (fun b z => ?_) fun _ => hk
    · by_cases hb : b = a
      · cases (at_ hb).symm.trans z
        subst hb
        exact ⟨ha, by rw [List.length_map]; exact hl, vs, _, rv, ha⟩
      · cases (off hb).symm.trans z
    · by_cases hb : b = a
      · exact hb
      · exact absurd (off hb) z
/-- the goal that the head leaves -/
theorem walkG {l : PySem.W.OpenLaw} {n k : Nat} {q : Program} {loose : List Str} {XP : (Str → Option Value) → Heap → Prop} {YP : World → Heap → Prop} {d : DefRec} {K : Params → PySem.W.Frag} {sp : PySem.W.Frag → Sp} {x : Str}
    (hn : l.most = some n) (hn2 : n ≤ sizeLine) (hdf : d.params.defaults = []) (hr : Room k callerA) (hY : ∀ (w : World) (h : Heap), YP w h → (K w.params).In h)
    (F : ∀ (w : World) (mg : Str → Option Value) (fa : Addr) (h : Heap), (K w.params).In h → h.Ns mainGlobals mg → mg d.name = some (.ref fa) → ∃ fd : FuncData, (∀ (s : Shared) (u : Value), BindsTo s fd ⟨[u], []⟩ [(x, u)]) ∧
      ∀ base : Heap, (K w.params).In base → base.Ns mainGlobals mg → FnG l.prog w (K w.params) mg base CX0 k fa fd [x] (sp (K w.params)))
    (hsp : ∀ (K : PySem.W.Frag) (H : Hp) (a : Addr) (ns : List Int), ns.length ≤ n → Only H → SqL K H a (ns.map V.int) → sp K [.ref a] H (fun v _ => v = .bl true) fun _ _ _ => False) :
    PySem.W.WalkO q loose XP YP l.row.toRowW d [] (fun f vs => PySem.call f vs) := by
  refine Att.attach_call hn hdf fun w s₀ s₁ mg mb fa o pm cd doc a vs ns G Y ho hd hcd hmg hobj hints hlen hg => ?_
  obtain ⟨fd, hb, hF⟩ := F w mg fa _ (hY w _ Y) G.T.g hmg
  exact lawG (hY w _ Y) G.T.g G.T.b G.T.builtins G.T.nolimit hg hobj hints (Nat.le_trans hlen hn2) hr hF hb fun H hO hS => hsp _ H a ns hlen hO hS
end L2.Vf

/-! # 6: new lists that are not the table of modules -/
namespace L2.Vf
open PySem PySem.Spec PyProof.Rows
section
variable {X : Cx} {e : Expr} {es : List Expr} {te : TE} {t : TA} {pos : Pos}
def tLstF (t : TA) : TE := fun σ H Q => t σ H fun xs H1 => xs.length ≤ sizeLine ∧ ∀ p, H1 p = none → p ≠ sysModules → Q (.ref p) (upd H1 p (.lst xs))
theorem pe_lstF (h : PA X es t) : PE X (.List es pos) (tLstF t) := by
  refine ⟨fun pins s σ H Q I hq => wpAny_List_spliced (thn (h.run pos pins s σ H _ I hq) fun us s1 hh => ?_)⟩
  obtain ⟨xs, H1, I1, r, z, q⟩ := hh
  refine ⟨by rw [← r.length]; exact z, .ref s1.heap.objs.size, upd H1 s1.heap.objs.size (.lst xs), I1.laid (t' := s1.toks) (fun b u e => by exact Heap.get?_push_of_some _ e) (Nat.le_refl _) ⟨z, us, 0, r, Heap.get?_push_size _ rfl⟩, rfl, q _ (I1.hok.fresh (Nat.le_refl _)) (Nat.ne_of_gt I1.big)⟩
def rCatF : R2 := fun x y H Q => ∃ l b xs zs, x = .ref l ∧ y = .ref b ∧ H l = some (.lst xs) ∧ H b = some (.lst zs) ∧ xs.length + zs.length ≤ sizeLine ∧ ∀ p, H p = none → p ≠ sysModules → Q (.ref p) (upd H p (.lst (xs ++ zs)))
theorem op_catF : OpR X (binaryOp .Add) rCatF := by
  intro pins s σ H x y v u Q I rx ry h; obtain ⟨l, b, xs, zs, rfl, rfl, hH, hB, hz, q⟩ := h; cases rx; cases ry
  obtain ⟨_, its, n, r, hl, e⟩ := I.lstM hH; obtain ⟨_, its2, n2, r2, hl2, e2⟩ := I.lstM hB
  have ea : its.toArray ++ its2.toArray = (its ++ its2).toArray := by simp only [List.append_toArray]
  refine PySem.P.add_list e e2 ?_ (by rw [List.size_toArray, List.size_toArray]; omega); rw [ea]
  exact ⟨.ref _, _, I.lnew (t' := s.toks) (r.append r2) (by rw [List.length_append]; omega), rfl, q _ I.fresh (Nat.ne_of_gt I.big)⟩
def rRepF : R2 := fun x y H Q => ∃ l k xs, x = .ref l ∧ y = .int k ∧ H l = some (.lst xs) ∧ 0 ≤ k ∧ k < 2 ^ 63 ∧ xs.length * k.toNat ≤ sizeLine ∧ ∀ p, H p = none → p ≠ sysModules → Q (.ref p) (upd H p (.lst (List.replicate k.toNat xs).flatten))
theorem op_repF : OpR X (binaryOp .Mult) rRepF := by
  intro pins s σ H x y v u Q I rx ry h; obtain ⟨l, k, xs, rfl, rfl, hH, h1, h2, hz, q⟩ := h; cases rx; obtain ⟨t, rfl⟩ := ry
  obtain ⟨_, its, n, r, hl, e⟩ := I.lstM hH
  have hlen : its.toArray.size * k.toNat ≤ sizeLine := by rw [List.size_toArray, ← hl] <;> exact hz
  have hcap : ¬ its.toArray.size * k.toNat > (2 ^ 63 - 1) / 8 := by have z : (sizeLine : Nat) ≤ (2 ^ 63 - 1) / 8 := by decide
                                                                    omega
  have hfit : ¬ (!Builtin.List.listFitsIndex k) = true := by rw [fitsIndex_both (by omega) h2] <;> exact Bool.false_ne_true
  have hlong : ¬ Builtin.List.listTooLong (its.toArray.size * k.toNat) = true := by rw [notLongL hlen] <;> exact Bool.false_ne_true
  have f0 : ∀ m : Nat, List.foldl (fun x1 x2 => x1 ++ x2) #[] (List.replicate m its.toArray) = (List.replicate m its).flatten.toArray := fun m => by
    have z := foldl_rep its m []; rw [List.nil_append] at z; exact z
  have hnew : List.foldl (fun x1 x2 => x1 ++ x2) #[] (List.replicate (if its.toArray.isEmpty = true then 0 else k.toNat) its.toArray) = (List.replicate k.toNat its).flatten.toArray := by
    rw [f0]; cases its with
    | nil => simp only [List.isEmpty_toArray, List.isEmpty_nil, if_true, List.replicate_zero, List.flatten_nil, List.flatten_replicate_nil]
    | cons a r' => rw [if_neg (by simp only [List.isEmpty_toArray, List.isEmpty_cons, Bool.false_eq_true, not_false_eq_true])]
  refine wpAny_binaryOp_repeat_ref (T := "list") (U := "int") (by decide) ⟨_, e, rfl⟩ (fun s' => typeIs_int s' k t) noFill_list_mul F.fills_int_mul F.slot_int_rmul repeat_list F.slot_int_index.lookup (call_meets F.slot_int_rmul (typeIs_int s k t) F.entry_int_rmul (F.args_int_rmul_2 _ _) (int___rmul___int_list k t l its.toArray n) ⟨e, rfl, ⟨_, e, rfl⟩, call_meets F.slot_list_mul ⟨_, e, rfl⟩ F.entry_list_mul (F.args_list_mul_2 _ _) (AutoListH.list___mul___list_int_3 l its.toArray n k t hfit hcap hlong) ⟨e, ?_⟩⟩); rw [hnew]
  exact ⟨.ref _, _, I.lnew (t' := s.toks) (r.rep k.toNat) (by rw [PyProof.Rows.lm_len_rep_flat, Nat.mul_comm]; exact hz), rfl, q _ I.fresh (Nat.ne_of_gt I.big)⟩
end
end L2.Vf

/-! # 7: powers of great ints -/
namespace L2.Vf
open PySem PySem.Spec PyProof.Rows
section
variable {X : Cx}
theorem op_powW : OpR X (binaryOp .Pow) (rI (fun i j => 0 ≤ j ∧ (Builtin.Int.intBits i : Int) * j ≤ 2 ^ 27) fun i j => .int (i ^ j.toNat)) := opI fun _ _ _ _ _ _ _ hc q => pow_int hc.1 hc.2 q
end
end L2.Vf

/-! # 8: an error that is caught and kept behind the suite -/
namespace L2.Vf
open PySem PySem.Spec PyProof.Rows
/-- at a: an error of the class cls that has flown, its own dict at d -/
def exoG (a : Addr) (cls : Value) (d : Option Addr) : HO := .ext fun h => ∃ (o : Obj) (vs : Array Value), h.get? a = some o ∧ o.cls = cls ∧ o.dict = d ∧ o.data = .fields vs
theorem exoG_ok {P : Program} {w : World} {H : Hp} {h : Heap} {a : Addr} {cls : Value} {d : Option Addr} {o : Obj} {vs : Array Value} (e : h.get? a = some o) (z : Zc cls d o) (hd : o.data = .fields vs) : ObjOk P w H h a (exoG a cls d) :=
  ⟨⟨o, vs, e, z.1, z.2, hd⟩, ⟨o, e⟩, fun h1 h2 q k => by
    obtain ⟨o, vs, q1, q2⟩ := q
    exact ⟨o, vs, k _ q1, q2⟩⟩
theorem exoG_at {P : Program} {w : World} {H : Hp} {h : Heap} {a : Addr} {cls : Value} {d : Option Addr} (hok : HOk P w H h) (e : H a = some (exoG a cls d)) : ∃ (o : Obj) (vs : Array Value), h.get? a = some o ∧ o.cls = cls ∧ o.dict = d ∧ o.data = .fields vs := by
  have x : ObjOk P w H h a (.ext fun h => ∃ (o : Obj) (vs : Array Value), h.get? a = some o ∧ o.cls = cls ∧ o.dict = d ∧ o.data = .fields vs) := hok a _ e
  exact x.1
section
variable {X : Cx} {pins : List (Addr × Obj)} {σ : St} {H : Hp} {s : Shared} {a : Addr} {o : HO}
/-- an object that was not there at the entry is tracked from here on -/
theorem Inv.track (I : Inv X pins σ H s) (hn : H a = none) (ok : ObjOk X.prog X.w (upd H a o) s.heap a o) (hL : a ≠ X.env.locals) (hc : ∀ x c, X.env.cells.lookup x = some c → c ≠ a) (hp : ∀ p ∈ X.pn ++ pins, p.1 ≠ a) (hf : ∀ ob, X.s_0.heap.get? a = some ob → X.H_0 a ≠ none) :
    Inv X pins σ (upd H a o) s := by
  have ne : ∀ {b : Addr} {u : HO}, H b = some u → b ≠ a := fun h => ne_of_none h hn
  refine ⟨I.ok, I.os, I.bare, ⟨I.base.keep, I.base.slot, fun b ob e n hx => ?_, I.base.there, fun b xs e => by rw [upd_ne (ne (I.base.tups b xs e))]; exact I.base.tups b xs e, fun b ob u e => by rw [upd_ne (ne (I.base.frzs b ob u e))]; exact I.base.frzs b ob u e, fun b ps e => ?_⟩, I.loc, I.cell, by rw [upd_ne (Ne.symm hL)]; exact I.free, fun x c e => by rw [upd_ne (hc x c e)]; exact I.freeC x c e, fun p hm => ?_, fun b u e => ?_, I.len⟩
  · have hb : b ≠ a := fun z => by subst z; exact hf ob e n
    rw [upd_ne hb]
    exact I.base.free b ob e n hx
  · obtain ⟨m, q⟩ := I.base.tbls b ps e
    exact ⟨m, by rw [upd_ne (ne q)]; exact q⟩
  · obtain ⟨e, n, r⟩ := I.pin p hm
    exact ⟨e, by rw [upd_ne (hp p hm)]; exact n, r⟩
  · by_cases hb : b = a
    · subst hb
      rw [upd_same] at e
      cases e
      exact ok
    · rw [upd_ne hb] at e
      exact (I.hok b u e).stay (fun c v _ q => q) (fun c q => by rw [upd_ne (ne q)]; exact q) fun c xs q => by rw [upd_ne (ne q)]; exact q
end
/-- what the clause wishes: the error is of the class that it names; behind the suite it is kept -/
def wHold (K : PySem.W.Frag) (c : Value) (i : Nat) (ts : Addr → Value → Option Addr → TS) (D : Ends) : WX := fun cls d σ H => PySem.W.exmOne K cls c = some true ∧
  ∀ a, H a = none → ts a cls d { nx := fun σ' H' => D.nx (σ'.set i none) (upd H' a (exoG a cls d)), rt := fun _ _ => False } (σ.set i (some (.ref a))) H
section
variable {X : Cx} {x n : Str} {c : Value} {i : Nat} {body suite : List Stmt} {b₀ : Stmt} {np pos pos' : Pos} {tb : WX → TS} {ts : Addr → Value → Option Addr → TS}
theorem ps_hold (hs : X.stack = X.env :: X.outer) (hf : X.env.frame = some X.env.locals) (hex : X.ex = []) (hN : X.N.Nodup) (hi : X.N[i]? = some n) (hln : X.env.kindOf n = some .local) (hc : Names X x c)
    (hb : ∀ (W : WX) (pn : List (Addr × Obj)) (xe : Value → Shared → Prop), Takes (X.tr pn xe) W → PassesOwn (model X.prog X.w) X.A X.env xe → PSs (X.tr pn xe) body (tb W))
    (hsu : ∀ (a : Addr) (oe : Obj) (cls : Value) (d : Option Addr) (pn : List (Addr × Obj)), Zc cls d oe → (∃ vs, oe.data = .fields vs) → PSs (X.suite a ((a, oe) :: pn)) (b₀ :: suite) (ts a cls d)) :
    PS X (.Try body [.ExceptHandler (some (.Name x np)) (some n) (b₀ :: suite) pos'] [] [] pos) (fun D σ H => tb (wHold X.K c i ts D) D σ H) := by
  refine ⟨fun pins s σ H D I h => wpAny_Try_except ?_⟩
  have ok := I.ok; have hfr : X.A.frames = some (X.env :: X.outer) := by rw [ok.frames, hs]
  refine wpAny_mono ((hb (wHold X.K c i ts D) (X.pn ++ pins) (fun e s₁ => wpAny (model X.prog X.w) X.A (noteFrame e X.env) (fun _ s₂ => wpAny (model X.prog X.w) X.A (setFlight e none) (fun _ s₃ => wpAny (model X.prog X.w) X.A (handleBy e X.env [.ExceptHandler (some (.Name x np)) (some n) (b₀ :: suite) pos']) (SP X pins D) X.xe s₃) X.xe s₂) X.xe s₁)
    (fun u s' xx => ?_) PassesOwn.looking).run [] s σ H D (I.toTry _) h) (fun f s1 hsp => ?_) (fun e s1 he => by exact he)
  · obtain ⟨a, B, sI, pins', σ', H', cls, d, rfl, J', nb, up, sky, na, os, ag, hb1, hyes⟩ := xx
    have J : Inv X pins σ' H' sI := J'.ofTry ok
    have sky' : Sky B (X.env :: X.outer) a (Zc cls d) X.env.locals s'.heap := by rw [← hs] ; exact sky
    show wpAny (model X.prog X.w) X.A (noteFrame (.ref a) X.env) _ _ _ ; refine Sky.land Zc.steady hfr hf sky' fun h3 fl3 up3 => ?_
    have J3 : Inv X pins σ' H' { s' with heap := h3 } := J.landed nb fl3.1 (up.trans up3) os ag ; obtain ⟨oe3, vs3, he3, hz3, hd3⟩ := fl3.there
    have nfr : a ∉ frs (X.env :: X.outer) := fun hm => by
      obtain ⟨_, o', e', hnf⟩ := fl3.2.2.1.mem hm
      rw [he3] at e' ; cases e' ; exact hnf _ hd3
    have nL : a ≠ X.env.locals := fun z => nfr (List.mem_filterMap.mpr ⟨X.env, List.mem_cons_self, by rw [hf, z]⟩) ; have nF : a ∉ X.fs := fun hm => by
      obtain ⟨e, he, q⟩ := List.mem_filterMap.mp hm
      exact nfr (List.mem_filterMap.mpr ⟨e, List.mem_cons_of_mem _ he, q⟩)
    have nB : B.get? a = none := fl3.2.1
    have out : ∀ {b : Addr} {ob : Obj}, sI.heap.get? b = some ob → b ∉ X.fs → b ≠ X.env.locals → b ≠ a := fun {b ob} e h1 h2 z => by
      have q := nb b ob e (by
        rw [hs]
        intro hm
        obtain ⟨e2, he2, q2⟩ := List.mem_filterMap.mp hm
        rcases List.mem_cons.mp he2 with r | r
        · rw [r, hf] at q2 ; exact h2 (Option.some.inj q2).symm
        · exact h1 (List.mem_filterMap.mpr ⟨e2, r, q2⟩))
      rw [z, nB] at q ; cases q
    have fresh : ∀ ob, X.s_0.heap.get? a = some ob → X.H_0 a ≠ none := fun ob e z => by
      have q := J.base.keep a ob e z nF (by rw [hex]; exact fun z => nomatch z)
      exact out q nF nL rfl
    have pinF : ∀ p ∈ X.pn ++ pins, p.1 ≠ a := fun p hp => by
      obtain ⟨e, _, e2, e3, _⟩ := J.pin p hp
      exact out e e3 e2
    have S3 := J3.suite he3 hd3 na nL nF ; refine wpAny_handleBy_cons (codeAny_handlers_test ?_) (by intro q; cases q)
    have LT : PySem.W.Looks (model X.prog X.w) h3 (typeOf (.ref a)) cls := fun A Q E s k q => wpAny_typeOf_ref (k _ _ he3) (by rw [hz3.1] ; exact q)
    have LM := PySem.W.exm_one (M := model X.prog X.w) (J3.kIn) LT hb1 ; have test : ∀ {Q : Value → Shared → Prop} {E : Value → Shared → Prop}, Q c { s' with heap := h3 } → wpAny (model X.prog X.w) (X.A.mark (some (.ref a))) (eval (.Name x np) X.env) Q E { s' with heap := h3 } := fun {Q E} q => by
      obtain ⟨hg, hdbg, hm | ⟨hm, hv, hnn⟩⟩ := hc
      · exact ld_glob (X := X.suite a ((a, oe3) :: (X.pn ++ pins))) S3 hg hm q hdbg
      · exact ld_blt (X := X.suite a ((a, oe3) :: (X.pn ++ pins))) S3 hg hm hv q hnn hdbg
    refine test (LM.here ?_) ; refine codeAny_handlers_suite_as ?_ ; refine HandSPX.lands_againZ fl3 fun h4 fl4 up4 => ?_
    have J4 : Inv X pins σ' H' { s' with heap := h4 } := J.landed nb fl4.1 ((up.trans up3).trans up4) os ag ; obtain ⟨oe4, vs4, he4, hz4, hd4⟩ := fl4.there
    have S4 := J4.suite he4 hd4 na nL nF ; refine store_ok (X := X.suite a ((a, oe4) :: (X.pn ++ pins))) (v := .ref a) S4 hN hi (.inl hln) rfl (fun s5 S5 => ?_) (.inr hln)
    refine wpAny_mono ((hsu a oe4 cls d (X.pn ++ pins) hz4 ⟨_, hd4⟩).run [] s5 _ H' _ S5 (hyes a na)) (fun f s6 hsp => ?_) (fun _ _ z => z.elim)
    cases f with
    | next =>
      obtain ⟨σ6, H6, S6, q6⟩ := hsp
      obtain ⟨e6, n6, _⟩ := S6.pin (a, oe4) (List.mem_append_left _ List.mem_cons_self)
      have T6 := Inv.track (o := exoG a cls d) (S6.unsuite ok) n6 (exoG_ok e6 hz4 hd4) nL (fun y c' e z => by
        obtain ⟨v, ob, h1, h2⟩ := S6.cell y c' e
        rw [z, e6] at h1 ; cases h1 ; rw [hd4] at h2 ; cases h2) pinF fresh
      exact gone_ok T6 hN hi hln fun s7 J7 => ⟨_, _, J7, q6⟩
    | brk => obtain ⟨_, _, _, q6⟩ := hsp ; exact q6.elim
    | cont => obtain ⟨_, _, _, q6⟩ := hsp ; exact q6.elim
    | ret u => obtain ⟨_, _, _, _, _, q6⟩ := hsp ; exact q6.elim
  · cases f with
    | next => obtain ⟨σ1, H1, J1, q⟩ := hsp ; exact wpAny_execs_nil ⟨σ1, H1, J1.ofTry ok, q⟩
    | brk => obtain ⟨σ1, H1, J1, q⟩ := hsp ; exact ⟨σ1, H1, J1.ofTry ok, q⟩
    | cont => obtain ⟨σ1, H1, J1, q⟩ := hsp ; exact ⟨σ1, H1, J1.ofTry ok, q⟩
    | ret u => obtain ⟨v, σ1, H1, J1, r, q⟩ := hsp ; exact ⟨v, σ1, H1, J1.ofTry ok, r, q⟩
end
end L2.Vf

/-! # 9: what is caught, read; raise of an error with one field; objects made, methods called where a try stands around -/
namespace L2.Vf
open PySem PySem.Spec PyProof.Rows
/-! ### a caught error: its class, its field -/
def rIsG (K : PySem.W.Frag) : List V → Hp → VK → Prop := fun xs H Q => ∃ (a C : Addr) (d : Addr) (fs : List (Str × V)) (c : V) (cv : Value) (b : Bool), xs = [.ref a, c] ∧ H a = some (exoG a (.ref C) (some d)) ∧ H d = some (.xd fs) ∧ ExcC K C ∧ ClsV c cv ∧
  PySem.W.kitOne K (.ref C) cv = some b ∧ Q (.bl b) H
/-- e.f of such an error -/
def tErG (K : PySem.W.Frag) (f : Str) (te : TE) : TE := fun σ H Q => te σ H fun x H1 => ∃ (a C d : Addr) (fs : List (Str × V)) (v : V), x = .ref a ∧ H1 a = some (exoG a (.ref C) (some d)) ∧ H1 d = some (.xd fs) ∧ fs.lookup f = some v ∧
  ExcC K C ∧ PySem.W.findIn K (.ref C) f = some none ∧ Q v H1
section
variable {X : Cx} {e : Expr} {pos : Pos}
theorem xd_at {P : Program} {w : World} {H : Hp} {h : Heap} {d : Addr} {fs : List (Str × V)} (hok : HOk P w H h) (e : H d = some (.xd fs)) : ∃ mA, h.Ns1 d mA ∧ ∀ f, RelO (fs.lookup f) (mA f) := by
  have x : ObjOk P w H h d (.xd fs) := hok d _ e
  exact x
theorem call_isiG : CallR X (.builtin "isinstance") (fun xs H Q => rIsi X.K xs H Q ∨ rIsG X.K xs H Q) := by
  intro pins s σ H xs us Q I r h
  rcases h with h | ⟨a, C, d, fs, c, cv, b, rfl, ha, hd, T, hc, e, q⟩
  · exact call_isi pins s σ H xs us Q I r h
  · obtain ⟨u1, u2, rfl, r1, r2⟩ := vals2 r
    obtain rfl : u1 = Value.ref a := r1
    have e2 := hc.eq r2
    subst e2
    obtain ⟨o, vs, ho, h1, h2, h3⟩ := exoG_at I.hok ha
    obtain ⟨mA, ⟨od, es, ep, e1, _⟩, _⟩ := xd_at I.hok hd
    have J : PySem.W.InstAt s.heap a o C (some od) := ⟨ho, h1, by unfold PySem.W.notCls; rw [h3], by rw [h2]; exact e1⟩
    exact PySem.W.kia_one (PySem.VfK.kit_any T) I.kIn J e (fun z => nomatch z) fun tk => ⟨.bl b, H, I.kept (t' := tk) fun _ _ z => z, rfl, q⟩
theorem pe_erG {te : TE} {f : Str} (he : PE X e te) (hb : attributeBase e f X.env (eval e X.env) = eval e X.env := by rfl) : PE X (.Attribute e f pos) (tErG X.K f te) := by
  refine ⟨fun pins s σ H Q I h => attr_of hb (thn (he.run pins s σ H _ I h) fun u s1 hh => ?_)⟩
  obtain ⟨x, H1, I1, rx, a, C, d, fs, v, ex, ea, ed, l, T, no, q⟩ := hh
  subst ex
  obtain rfl : u = Value.ref a := rx
  obtain ⟨o, vs, ho, h1, h2, h3⟩ := exoG_at I1.hok ea
  obtain ⟨mA, hns, hr⟩ := xd_at I1.hok ed
  obtain ⟨od, hod, hl⟩ := lookIn_ns hns
  obtain ⟨u, hu, ru⟩ := RelO.some_of (v := v) (o := mA f) (by rw [← l]; exact hr f)
  have J : PySem.W.InstAt s1.heap a o C (some od) := ⟨ho, h1, by unfold PySem.W.notCls; rw [h3], by rw [h2]; exact hod⟩
  exact HandSPX.exc_get I1.kIn J T.hg T.hk T.hs (PySem.W.findObj_own T.hd no rfl (by rw [hl, hu])) (handed_of ru) ⟨v, H1, I1.tok _, ru, q⟩
end
/-! ### raise X(e), X with one field -/
/-- raise X(v), v in slot i -/
def tRaiseE (C : Addr) (fld : Str) (i : Nat) (W : WX) : TS := fun _ σ H => ∃ v, σ[i]? = some (some v) ∧ ∀ d, H d = none → W (.ref C) (some d) σ (upd H d (.xd [(fld, v)]))
section
variable {X : Cx} {C fI : Addr} {fld : Str} {fd : FuncData} {e : Expr} {i : Nat} {W : WX} {x : Str} {p pos pos2 : Pos}
theorem ps_raiseE (hc : X.calm = true) (T : ErC X.K C fI fld) (F1 : FnOk X.prog X.w X.K X.mg X.base CX0 1 fI fd ["self", fld] (spInit X.K fld)) (hb : Binds X.K fd ["self", fld] []) (hr : Room 2 X.A) (tk : Takes X W) (hg : Gl X x) (hm : X.mg x = some (.ref C)) (ha : PA X [e] (tCons (tVar i) tNil))
    (hdb : (x == ("__debug__" : Str)) = false := by decide) (he : starEach [e] X.env = (false, eval e X.env) :: starEach [] X.env := by rfl) (hpl : (backTo pos (starEach [] X.env)).any (·.1) = false := by rfl) :
    PS X (.Raise (some (.Call (.Name x p) [e] [] pos)) none pos2) (tRaiseE C fld i W) := by
  have h := ps_raise (pos := pos2) hc tk (pmk_oex (pos := pos) (p := p) T.ox T.iC T.tI F1 hr hb .nil pass0 hg hm ha hdb he hpl)
  refine ⟨fun pins s σ H D I q => h.run pins s σ H D I ?_⟩
  obtain ⟨v, hv, q⟩ := q
  refine ⟨v, hv, (show 1 ≤ 1000 by decide), fun a ha => ⟨a, C, v, rfl, T.ox, T.no, upd_same, fun dx hd ne => ⟨rfl, dx, _, upd_same, by rw [upd_ne ne, upd_same], ?_, ?_⟩⟩⟩
  · rw [upd_ne ne] at hd
    exact hd
  · rw [upd_ne ne] at hd
    have := q dx hd
    have e : upd (del (upd (upd (upd H a (exo a C none)) dx (exd dx [(fld, v)])) a (exo a C (some dx))) a) dx (.xd [(fld, v)]) = upd H dx (.xd [(fld, v)]) := by
      funext b
      by_cases h1 : b = dx
      · rw [h1, upd_same, upd_same]
      · rw [upd_ne h1, upd_ne h1]
        by_cases h2 : b = a
        · subst h2
          simp [del, ha]
        · simp [del, h2, upd_ne h2, upd_ne h1]
    rw [e]
    exact this
end
end L2.Vf

/-! # 10: == and != of an own instance and another thing, either way round -/
namespace PySem.VfE
open PySem PySem.Spec PySem.Calls PyProof.Rows PySem.W PySem.SeqAt AutoSeq1 MeetsSeq
section
variable {prog : Program} {w : World} {A : Around} {E : Value → Shared → Prop} {s : Shared} {K : Frag} {x C L f : Addr} {h₀ : Heap} {m : Str → Option Value} {ox : Obj} {od : Option Obj} {b : Value}
/-- the other one is none of T: T's own == declines -/
theorem decl_list (l a : Addr) (items : Array Value) (n : Nat) (dd : Option Addr) (sl : Array (Option Value)) :
    Meets (Builtin.«list.__eq__» ⟨[.ref l, .ref a], []⟩) (fun _ R s => s.heap.get? l = some { cls := .type "list", dict := dd, data := .seq items n, slots := sl } ∧ (∀ M, Looks M s.heap (isInstance (.ref a) (.type "list")) false) ∧ R (.ok (.ret .notImplemented)) s) :=
  .of_wp fun prog w A R s h => by obtain ⟨hp, g, d, tk, os⟩ := s; obtain ⟨hl, hb, h⟩ := h; wp_walk using wpAny_loadPart' hl, (hb _).at; exact ⟨_, rfl, h⟩
theorem decl_tuple (l a : Addr) (items : Array Value) (n : Nat) (dd : Option Addr) (sl : Array (Option Value)) :
    Meets (Builtin.«tuple.__eq__» ⟨[.ref l, .ref a], []⟩) (fun _ R s => s.heap.get? l = some { cls := .type "tuple", dict := dd, data := .seq items n, slots := sl } ∧ (∀ M, Looks M s.heap (isInstance (.ref a) (.type "tuple")) false) ∧ R (.ok (.ret .notImplemented)) s) :=
  .of_wp fun prog w A R s h => by obtain ⟨hp, g, d, tk, os⟩ := s; obtain ⟨hl, hb, h⟩ := h; wp_walk using wpAny_loadPart' hl, (hb _).at; exact ⟨_, rfl, h⟩
theorem decl_dict (l a : Addr) (o : Obj) :
    Meets (Builtin.«dict.__eq__» ⟨[.ref l, .ref a], []⟩) (fun _ R s => s.heap.get? l = some o ∧ (∀ M, Looks M s.heap (isInstance (.ref a) (.type "dict")) false) ∧ R (.ok (.ret .notImplemented)) s) :=
  .of_wp fun prog w A R s h => by obtain ⟨hp, g, d, tk, os⟩ := s; obtain ⟨hl, hb, h⟩ := h; wp_walk using wpAny_loadPart' hl, (hb _).at; exact ⟨_, rfl, h⟩
theorem decl_int (i : Int) (u : Tok) (a C dx : Addr) :
    Meets (Builtin.«int.__eq__» ⟨[.int i u, .ref a], []⟩) (fun _ R s => s.heap.get? a = some (instObj C dx) ∧ R (.ok (.ret .notImplemented)) s) :=
  .of_wp fun prog w A R s h => by obtain ⟨hp, g, d, tk, os⟩ := s; obtain ⟨hl, h⟩ := h; unfold instObj at hl; wp_walk using wpAny_load hl; exact ⟨_, rfl, h⟩
theorem none_of {h : Heap} {x C : Addr} {ox : Obj} {od : Option Obj} {T : String} (X : K.In h) (I : InstAt h x ox C od) (hsub : subIn K (.ref C) (.type T) = some false) (M : Model) : Looks M h (isInstance (.ref x) (.type T)) false :=
  (I.type (M := M)).andThen (looks_subIn X hsub)
/-- y == x, x own, y of the built-in type T, whose own == declines -/
theorem rc_refl {u : Value} {T id : String} {Q : Value → Shared → Prop} (hT : s.TypeIs u T) (slot : Slot T (cmpInfo .Eq).2.1 id) (hu : A.units < cLine) (X : K.In s.heap) (I : InstAt s.heap x ox C od) (hsub : subIn K (.ref C) (.type T) = some false)
    (hs : findIn K (.ref C) "__eq__" = some (some (.ref f))) (hf : isFn K (.ref f) = true) (decl : ∀ Q' : Value → Shared → Prop, Q' .notImplemented s → wpAny (model prog w) A (call (.builtin id) [u, .ref x]) Q' E s)
    (h : wpAny (model prog w) A (call (.ref f) [.ref x, u]) (PySem.W.CmpBack Q) E s) : wpAny (model prog w) A (richCompare .Eq u (.ref x)) Q E s := by
  rcases hi : cmpInfo CmpOp.Eq with ⟨sym, f1, r1⟩
  have e2 : f1 = "__eq__" ∧ r1 = "__eq__" := by rw [cmpInfo_Eq] at hi; cases hi; exact ⟨rfl, rfl⟩
  rw [hi] at slot
  obtain ⟨rfl, rfl⟩ := e2
  simp only [richCompare, hi, hT.oneThing_none]
  refine wpAny_holding (wpAny_bind (wpAny_cRoomFor hu ?_))
  refine wpAny_bind (wpAny_typeOf hT (wpAny_bind (I.type.here ?_)))
  rw [if_pos (show (Value.type T != Value.ref C) = true by simp)]
  refine wpAny_bind ((looks_subIn X hsub).here ?_)
  simp only [Bool.false_eq_true, if_false, Bool.not_false, if_true]
  refine wpAny_bind (wpAny_tryCompare_declines hT slot (decl _ ⟨rfl, ?_⟩))
  unfold tryCompare
  refine wpAny_bind (wpAny_bind (ifBound_K X I hs hf (wpAny_mono h (fun v s' hv => ?_) fun _ _ e => e)))
  cases v <;> first | exact hv.elim | exact wpAny_pure (wpAny_pure hv)
/-- x.__ne__ of its own is object's -/
theorem ifBound_B {M : Model} {id : String} {name : Str} {args : List Value} {Q : Option Value → Shared → Prop} (X : K.In s.heap) (I : InstAt s.heap x ox C od) (S : Slot "object" name id) (hs : findIn K (.ref C) name = some (some (.builtin id)))
    (h : wpAny M A (call (.builtin id) (.ref x :: args)) (fun v => Q (some v)) E s) : wpAny M A (callSpecialIfBound? (.ref x) name args) Q E s := by
  simp only [callSpecialIfBound?, bindSpecialIfBound?]
  refine wpAny_holding (wpAny_bind (wpAny_bind (wpAny_bind (I.type.here ((looks_findIn X hs).here ?_)))))
  simp only [S.bind]
  refine wpAny_bind (wpAny_askSetting (wpAny_ite ?_))
  have fin : wpAny M A (call (.builtin id) ([.ref x] ++ args) >>= fun v => pure (some v)) Q E s := wpAny_bind (wpAny_mono h (fun v s' h' => wpAny_pure h') fun _ _ h' => h')
  split
  · exact wpAny_bind (wpAny_pure (wpAny_pure fin))
  · exact wpAny_tryCatch (wpAny_bind (wpAny_pure (wpAny_pure fin)))
/-- x != b, by x's own == -/
theorem rc_neO {tb : Value} {Q : Value → Shared → Prop} (hu : A.units + 1 < cLine) (X : K.In s.heap) (I : InstAt s.heap x ox C od) (hb : Looks (model prog w) s.heap (typeOf b) tb) (hn : notFirst K C tb = true) (hsub : subIn K (.ref C) (.type "object") = some true)
    (hs : findIn K (.ref C) "__eq__" = some (some (.ref f))) (hne : findIn K (.ref C) "__ne__" = some (some (.builtin "object.__ne__"))) (hf : isFn K (.ref f) = true)
    (h : wpAny (model prog w) A.in1 (call (.ref f) [.ref x, b]) (fun v s' => ∃ r, v = .bool r ∧ Q (.bool (!r)) s') E s) : wpAny (model prog w) A (richCompare .NotEq (.ref x) b) Q E s := by
  have one : wpAny (model prog w) A (tryCompare (.ref x) "__ne__" b) (fun r s' => ∃ v, r = some v ∧ Q v s') E s := by
    unfold tryCompare
    refine wpAny_bind (ifBound_B X I F.cmp_object.ne hne ?_)
    refine wpAny_call (codeAny_call_builtin F.cmp_object.ne.plain F.cmpEntry_ne ?_)
    refine check_slot F.cmpKind_ne F.cmpSplit_ne ((I.type (M := model prog w)).andThen (looks_subIn X hsub)) (F.cmpArgs_ne _ _) ?_
    unfold Builtin.«object.__ne__»
    refine wpAny_bind (wpAny_of_eq (a := ((Value.ref x : Value), [b])) (by first | rfl | (simp only [slotArgs]; rfl)) ?_)
    refine wpAny_bind (wpAny_cRoomFor hu ?_)
    refine wpAny_bind (ifBound_K X I hs hf (wpAny_mono h (fun v s' hv => ?_) fun _ _ e => e))
    obtain ⟨r, rfl, q⟩ := hv
    refine wpAny_bind (wpAny_truthy_bool ?_)
    exact wpAny_pure (wpAny_pure ⟨_, rfl, q⟩)
  unfold richCompare
  simp only [oneThing_ref, cmpInfo_NotEq]
  refine wpAny_holding (wpAny_bind (wpAny_cRoomFor (Nat.lt_of_succ_lt hu) ?_))
  refine wpAny_bind (I.type.here (wpAny_bind (hb.here ?_)))
  split
  · rename_i q
    have e : subIn K tb (.ref C) = some false := by
      rcases Bool.or_eq_true_iff.mp hn with e | e
      · rw [beq_iff_eq.mp e] at q; simp at q
      · exact beq_iff_eq.mp e
    refine wpAny_bind ((looks_subIn X e).here ?_)
    simp only [Bool.false_eq_true, if_false]
    refine wpAny_bind (wpAny_mono one (fun r s' z => ?_) fun _ _ e => e)
    obtain ⟨v, rfl, hq⟩ := z
    exact wpAny_pure hq
  · refine wpAny_bind (wpAny_pure ?_)
    simp only [Bool.false_eq_true, if_false]
    refine wpAny_bind (wpAny_mono one (fun r s' z => ?_) fun _ _ e => e)
    obtain ⟨v, rfl, hq⟩ := z
    exact wpAny_pure hq
end
end PySem.VfE

/-! # 11: == and != by an own __eq__, as rules; objects made and methods called where what is raised is wished for at the slots -/
namespace L2.Vf
open PySem PySem.Spec PyProof.Rows
/-- the own == answers b -/
abbrev KBl (g : Bool → V) (Q : VK) : VK := fun v H' => ∃ b : Bool, v = .bl b ∧ Q (g b) H'
/-- x == y (g = id), x != y (g = not), x own, y of any type that is no kind of x's class -/
def rEqO (K : PySem.W.Frag) (C : Addr) (sp : Sp) (g : Bool → V) : R2 := fun x y H Q => ∃ (a dx : Addr) (fs : List (Str × V)) (t : Value), x = .ref a ∧ H a = some (.ins C dx fs) ∧ TyX K H y t ∧ PySem.W.notFirst K C t = true ∧ sp [x, y] H (KBl g Q) E0
/-- y == x, x own, y None, an int, a list, a tuple or a dict of ints and texts -/
inductive Oth (K : PySem.W.Frag) (H : Hp) : V → String → Prop
  | non : Oth K H .non "NoneType"
  | int (i : Int) : Oth K H (.int i) "int"
  | lst {a : Addr} {xs : List V} : SqL K H a xs → Oth K H (.ref a) "list"
  | tup {a : Addr} {xs : List V} : SqT K H a xs → Oth K H (.ref a) "tuple"
  | dct {a : Addr} {kvs : List (Key × V)} : H a = some (.dK kvs) → Oth K H (.ref a) "dict"
def rEqR (K : PySem.W.Frag) (C : Addr) (sp : Sp) : R2 := fun x y H Q => ∃ (a dx : Addr) (fs : List (Str × V)) (T : String), y = .ref a ∧ H a = some (.ins C dx fs) ∧ Oth K H x T ∧ PySem.W.subIn K (.ref C) (.type T) = some false ∧ sp [y, x] H (KBl V.bl Q) E0
section
variable {X : Cx} {k : Nat} {C f : Addr} {fd : FuncData} {ps : List Str} {sp : Sp}
theorem run_own {A : Around} {pins : List (Addr × Obj)} {σ : St} {H : Hp} {s : Shared} {a : Addr} {y : V} {u : Value} {g : Bool → V} {Q : VK} (hA : A.frames = X.A.frames) (hr : Room k A) (F : FnOk X.prog X.w X.K X.mg X.base CX0 k f fd ps sp) (hb : Binds X.K fd ps [])
    (I : Inv X pins σ H s) (ry : RelV y u) (h : sp [.ref a, y] H (KBl g Q) E0) :
    wpAny (model X.prog X.w) A (call (.ref f) [.ref a, u]) (fun v s' => ∃ b H', v = .bool b ∧ Inv X pins σ H' s' ∧ Q (g b) H') X.xe s := by
  have e0 : Env0 X.prog X.w X.K X.mg X.base A X.stack s H := by
    have e := I.env0
    exact ⟨by rw [hA]; exact e.frames, e.mod, e.bs, e.bsz, e.funs, e.frf, e.hok, e.bare⟩
  have hl := F.len _ _ _ _ h
  have r2 : Vals [V.ref a, y] [Value.ref a, u] := .cons rfl (.cons ry .nil)
  refine wpAny_call (codeAny_mono (F.run A X.stack s H ⟨[.ref a, u], []⟩ [.ref a, u] [.ref a, y] _ E0 hr e0 (by have := hb s [.ref a, u] I.kIn (by simpa using hl); simpa using this) r2 h) fun r s' hq => ?_)
  cases r with
  | error e => exact pass0 pins σ H s e s' I hq
  | ok fl =>
    cases fl with
    | ret w =>
      obtain ⟨z, H', I', rz, b, ez, q⟩ := I.after hq
      subst ez
      cases rz
      exact ⟨b, H', rfl, I', q⟩
    | next => exact False.elim hq
    | brk => exact False.elim hq
    | cont => exact False.elim hq
theorem op_eqO (F : FnOk X.prog X.w X.K X.mg X.base CX0 k f fd ps sp) (hr : Room k X.A) (hb : Binds X.K fd ps []) (hs : PySem.W.findIn X.K (.ref C) "__eq__" = some (some (.ref f))) (hf : PySem.W.isFn X.K (.ref f) = true) : OpR X (compareOp .Eq) (rEqO X.K C sp V.bl) := by
  intro pins s σ H x y v u Q I rx ry h
  obtain ⟨a, dx, fs, t, rfl, ha, ty, hn, q⟩ := h
  cases rx
  obtain ⟨P, kit, hP, _⟩ := kit_of I ry ty
  obtain ⟨mA, J, _⟩ := ins_get I.hok ha
  obtain ⟨od, J, _⟩ := J.look
  obtain ⟨m, hF⟩ := I.fr
  refine PySem.W.cmp_K (op := .Eq) (tb := t) hr.units0 hF I.ok.mod.kin J (kit.ty _ _ I.kIn hP) hn hs hf (wpAny_mono (run_own rfl hr F hb I ry q) (fun z s' hz => ?_) fun _ _ e => e)
  obtain ⟨b, H', rfl, I', q'⟩ := hz
  exact ⟨.bl b, H', I', rfl, q'⟩
theorem op_neO (F : FnOk X.prog X.w X.K X.mg X.base CX0 k f fd ps sp) (hr : Room (k + 1) X.A) (hb : Binds X.K fd ps []) (hs : PySem.W.findIn X.K (.ref C) "__eq__" = some (some (.ref f))) (hne : PySem.W.findIn X.K (.ref C) "__ne__" = some (some (.builtin "object.__ne__")))
    (hsub : PySem.W.subIn X.K (.ref C) (.type "object") = some true) (hf : PySem.W.isFn X.K (.ref f) = true) : OpR X (compareOp .NotEq) (rEqO X.K C sp fun b => .bl (!b)) := by
  intro pins s σ H x y v u Q I rx ry h
  obtain ⟨a, dx, fs, t, rfl, ha, ty, hn, q⟩ := h
  cases rx
  obtain ⟨P, kit, hP, _⟩ := kit_of I ry ty
  obtain ⟨mA, J, _⟩ := ins_get I.hok ha
  obtain ⟨od, J, _⟩ := J.look
  refine PySem.VfE.rc_neO (tb := t) hr.in1.units0 I.kIn J (kit.ty _ _ I.kIn hP) hn hsub hs hne hf (wpAny_mono (run_own (A := X.A.in1) rfl hr.in1 F hb I ry q) (fun z s' hz => ?_) fun _ _ e => e)
  obtain ⟨b, H', rfl, I', q'⟩ := hz
  exact ⟨b, rfl, ⟨.bl (!b), H', I', rfl, q'⟩⟩
theorem op_eqR (F : FnOk X.prog X.w X.K X.mg X.base CX0 k f fd ps sp) (hr : Room k X.A) (hb : Binds X.K fd ps []) (hs : PySem.W.findIn X.K (.ref C) "__eq__" = some (some (.ref f))) (hf : PySem.W.isFn X.K (.ref f) = true) : OpR X (compareOp .Eq) (rEqR X.K C sp) := by
  intro pins s σ H x y v u Q I rx ry h
  obtain ⟨a, dx, fs, T, rfl, ha, ho, hsub, q⟩ := h
  cases ry
  obtain ⟨mA, O, _⟩ := ins_get I.hok ha
  have hob := O.obj
  obtain ⟨od, J, _⟩ := O.look
  have fin : wpAny (model X.prog X.w) X.A (call (.ref f) [.ref a, v]) (PySem.W.CmpBack (EP X pins σ Q)) X.xe s := wpAny_mono (run_own rfl hr F hb I rx q) (fun z s' hz => by
    obtain ⟨b, H', rfl, I', q'⟩ := hz
    exact ⟨.bl b, H', I', rfl, q'⟩) fun _ _ e => e
  show wpAny (model X.prog X.w) X.A (richCompare .Eq v (.ref a)) (EP X pins σ Q) X.xe s
  cases ho with
  | non =>
    cases (show v = Value.none from rx)
    exact PySem.VfE.rc_refl (T := "NoneType") rfl PySem.F.slot_NoneType_eq hr.units0 I.kIn J hsub hs hf (fun _ hq => call_gives PySem.F.slot_NoneType_eq rfl PySem.F.entry_NoneType_eq (PySem.F.args_NoneType_eq_2 _ _) (PySem.SeqAt.NoneType___eq___none_ref_0 a) hq) fin
  | int i =>
    obtain ⟨t, e⟩ := (show ∃ t, v = Value.int i t from rx)
    cases e
    exact PySem.VfE.rc_refl (T := "int") (PySem.typeIs_int s i t) PySem.F.slot_int_eq hr.units0 I.kIn J hsub hs hf (fun _ hq => call_meets PySem.F.slot_int_eq (PySem.typeIs_int s i t) PySem.F.entry_int_eq (PySem.F.args_int_eq_2 _ _) (PySem.VfE.decl_int i t a C dx) ⟨hob, hq⟩) fin
  | lst hl =>
    cases (show v = Value.ref _ from rx)
    obtain ⟨its, _, ⟨⟨cls, dd, data, sl⟩, n, e, hc, _, hd⟩, _⟩ := I.list hl
    simp only at hc hd
    subst hc hd
    have iso := PySem.VfE.none_of I.kIn J hsub
    exact PySem.VfE.rc_refl (T := "list") ⟨_, e, rfl⟩ PySem.F.slot_list_eq hr.units0 I.kIn J hsub hs hf (fun _ hq => call_meets PySem.F.slot_list_eq ⟨_, e, rfl⟩ PySem.F.entry_list_eq (PySem.F.args_list_eq_2 _ _) (PySem.VfE.decl_list _ a _ n _ _) ⟨e, iso, hq⟩) fin
  | tup hl =>
    cases (show v = Value.ref _ from rx)
    obtain ⟨its, _, ⟨⟨cls, dd, data, sl⟩, e, hc, n, hd⟩, _⟩ := I.tuple hl
    simp only at hc hd
    subst hc hd
    have iso := PySem.VfE.none_of I.kIn J hsub
    exact PySem.VfE.rc_refl (T := "tuple") ⟨_, e, rfl⟩ PySem.F.slot_tuple_eq hr.units0 I.kIn J hsub hs hf (fun _ hq => call_meets PySem.F.slot_tuple_eq ⟨_, e, rfl⟩ PySem.F.entry_tuple_eq (PySem.F.args_tuple_eq_2 _ _) (PySem.VfE.decl_tuple _ a _ n dd sl) ⟨e, iso, hq⟩) fin
  | @dct d kvs hl =>
    cases (show v = Value.ref _ from rx)
    obtain ⟨_, _, vs, _, o, es, ep, h1, h2, _⟩ := (show ObjOk X.prog X.w H s.heap d (.dK kvs) from I.hok d _ hl)
    have iso := PySem.VfE.none_of I.kIn J hsub
    exact PySem.VfE.rc_refl (T := "dict") ⟨_, h1, h2.1⟩ PySem.F.slot_dict_eq hr.units0 I.kIn J hsub hs hf (fun _ hq => call_meets PySem.F.slot_dict_eq ⟨_, h1, h2.1⟩ PySem.F.entry_dict_eq (PySem.F.args_dict_eq_2 _ _) (PySem.VfE.decl_dict _ a _) ⟨h1, iso, hq⟩) fin
end
/-! ### C(e, .., k = v, ..), o.m(e, ..) where what is raised is wished for at the slots -/
section
variable {X : Cx} {CX : CXT} {k n : Nat} {f C : Addr} {fd : FuncData} {ps ks : List Str} {sp : Sp} {E : St → XK} {x m : Str} {p pos apos : Pos} {e o : Expr} {es : List Expr} {kws : List Keyword} {t tk : TA} {ta : TE} {g : List Value → List Value → List Value} {gV : List V → List V → List V}
/-- what a call of the class wishes: the new instance and its dict, then __init__ -/
def KMake (C : Addr) (sp : Sp) (bd : V → List V) (E : XK) (Q : VK) (H : Hp) : Prop := ∀ x dx, H x = none → H dx = none → dx ≠ x → sp (bd (.ref x)) (upd (upd H dx (.own x)) x (.ins C dx [])) (fun v H3 => v = .non ∧ Q (.ref x) H3) E
def tMakeKS (C : Addr) (n m : Nat) (sp : Sp) (gV : List V → List V → List V) (E : St → XK) (t tk : TA) : TE := fun σ H Q => t σ H fun vs H1 => tk σ H1 fun zs H2 => vs.length = n ∧ zs.length = m ∧ KMake C sp (fun x => gV (x :: vs) zs) (E σ) Q H2
theorem run_makeS {pins : List (Addr × Obj)} {σ : St} {H : Hp} {s : Shared} {Q : VK} {us : List Value} {kw : List (Str × Value)} {bu : Value → List Value} {bd : V → List V} (M : Mk X.K C f) (F : FnOk X.prog X.w X.K X.mg X.base CX k f fd ps sp) (hr : Room (k + 1) X.A)
    (hb : ∀ (s : Shared) (x : Value), X.K.In s.heap → BindsTo s fd ⟨x :: us, kw⟩ (ps.zip (bu x))) (hx : PassesAt CX X σ (E σ)) (I : Inv X pins σ H s) (r : ∀ y : Addr, Vals (bd (.ref y)) (bu (.ref y))) (h : KMake C sp bd (E σ) Q H) :
    wpAny (model X.prog X.w) X.A (call (.ref C) us kw) (EP X pins σ Q) X.xe s := by
  have hq := h (s.heap.objs.size + 1) s.heap.objs.size (I.hok.fresh (Nat.le_succ _)) (I.hok.fresh (Nat.le_refl _)) (Nat.ne_of_lt (Nat.lt_succ_self _)); have I2 := Inv.made (C := C) I
  refine wpAny_call (make_map (f := f) I.kIn M.makes M.init (beq_iff_eq.mp M.fn) (codeAny_mono (F.run _ X.stack _ _ ⟨Value.ref (s.heap.objs.size + 1) :: us, kw⟩ (bu (.ref (s.heap.objs.size + 1))) _ _ (E σ) (hr.make C us kw) (I2.env0.make C us kw) (hb _ _ I2.kIn) (r _) hq) fun r s' hq' => ?_))
  cases r with
  | error e => exact hx pins _ _ e s' I2 hq'
  | ok fl =>
    cases fl with
    | ret u => obtain ⟨v, H', I3, rv, ev, q3⟩ := I2.after hq' ; subst ev ; exact ⟨rv, ⟨V.ref (s.heap.objs.size + 1), H', I3, rfl, q3⟩⟩
    | next => exact hq'.elim
    | brk => exact hq'.elim
    | cont => exact hq'.elim
theorem pe_makeKS (M : Mk X.K C f) (F : FnOk X.prog X.w X.K X.mg X.base CX k f fd ps sp) (hr : Room (k + 1) X.A) (hg : Gl X x) (hm : X.mg x = some (.ref C)) (hb : KBn X.K fd ps (n + 1) ks g gV) (hx : ∀ σ, PassesAt CX X σ (E σ)) (ha : PA X (e :: es) t) (hkw : PK X kws tk)
    (hall : (backToKw pos (keywordEach kws X.env)).all (·.1.isSome) = true := by rfl) (hks : (backToKw pos (keywordEach kws X.env)).filterMap (·.1) = ks := by rfl) (hdb : (x == ("__debug__" : Str)) = false := by decide)
    (he : starEach (e :: es) X.env = (false, eval e X.env) :: starEach es X.env := by rfl) (hpl : ((backTo pos (starEach (e :: es) X.env)).any (·.1) || (backToKw pos (keywordEach kws X.env)).any (·.1.isNone)) = false := by rfl) :
    PE X (.Call (.Name x p) (e :: es) kws pos) (tMakeKS C n ks.length sp gV E t tk) := by
  refine ⟨fun pins s σ H Q I h => wpAny_Call_Name_kw (ld_glob I hg hm (PySem.W.callWith_KW (h₀ := X.base) I.ok.mod.kin M.kp hall (thn (ha.run pos pins s σ H _ I h) fun us s1 ⟨vs, H1, I1, r, q⟩ => ?_) hpl he) hdb)⟩
  refine thn (hkw.run pos pins s1 σ H1 _ I1 q) fun ws s2 ⟨zs, H2, I2, rz, l1, l2, q2⟩ => ⟨I2.kIn, ?_⟩
  rw [hks]
  exact run_makeS (E := E) (bu := fun x => g (x :: us) ws) M F hr (fun s' y X' => hb.to s' (y :: us) ws X' (by rw [List.length_cons, ← r.length, l1]) (rz.length.symm.trans l2)) (hx σ) I2 (fun y => hb.rel (Paired.cons (show RelV (V.ref y) (Value.ref y) from rfl) r) rz) q2
/-- C(e, ..), the rest of the parameters by their defaults -/
def tMakeS (C : Addr) (sp : Sp) (dvs : List V) (E : St → XK) (t : TA) : TE := fun σ H Q => t σ H fun vs H1 => vs.length + dvs.length + 1 = ps.length ∧ KMake C sp (fun x => x :: (vs ++ dvs)) (E σ) Q H1
theorem pe_makeS {ds : List Value} {dvs : List V} (M : Mk X.K C f) (F : FnOk X.prog X.w X.K X.mg X.base CX k f fd ps sp) (hr : Room (k + 1) X.A) (hg : Gl X x) (hm : X.mg x = some (.ref C)) (hb : Binds X.K fd ps ds) (hd : Vals dvs ds) (hx : ∀ σ, PassesAt CX X σ (E σ)) (ha : PA X (e :: es) t)
    (hdb : (x == ("__debug__" : Str)) = false := by decide) (he : starEach (e :: es) X.env = (false, eval e X.env) :: starEach es X.env := by rfl) (hpl : (backTo pos (starEach es X.env)).any (·.1) = false := by rfl) :
    PE X (.Call (.Name x p) (e :: es) [] pos) (tMakeS (ps := ps) C sp dvs E t) := by
  refine ⟨fun pins s σ H Q I h => wpAny_Call_Name_kw (ld_glob I hg hm (PySem.W.callWith_K (h₀ := X.base) I.ok.mod.kin M.kp (thn (ha.run pos pins s σ H _ I h) fun us s1 ⟨vs, H1, I1, r, l, q⟩ => ⟨I1.kIn, ?_⟩) he hpl) hdb)⟩
  refine run_makeS (E := E) (us := us) (kw := []) (bu := fun x => x :: (us ++ ds)) M F hr (fun s' y X' => hb s' (y :: us) X' ?_) (hx σ) I1 (fun y => Paired.cons (show RelV (V.ref y) (Value.ref y) from rfl) (r.append hd)) q
  have l1 := r.length
  have l2 := hd.length
  simp only [List.cons_append, List.length_cons, List.length_append]
  omega
/-- o.m(e, ..) -/
def tMethSD (C : Addr) (m : Str) (sp : Sp) (E : St → XK) (ta : TE) (t : TA) : TE := fun σ H Q => ta σ H fun x H1 => ∃ (a dx : Addr) (fs : List (Str × V)), x = .ref a ∧ H1 a = some (.ins C dx fs) ∧ fs.lookup m = none ∧ t σ H1 fun vs H2 => sp (x :: vs) H2 Q (E σ)
theorem pe_methSD {pl : Sem Bool} (he : PE X o ta) (c : Cls X.K C) (hm : Meth X.K C m f) (F : FnOk X.prog X.w X.K X.mg X.base CX k f fd ps sp) (hr : Room k X.A) (hb : Binds X.K fd ps []) (hx : ∀ σ, PassesAt CX X σ (E σ)) (ha : PA X (e :: es) t)
    (hst : starEach (e :: es) X.env = (false, eval e X.env) :: starEach es X.env := by rfl) (hpl : (backTo pos (starEach es X.env)).any (·.1) = false := by rfl)
    (ht : eval (.Call (.Attribute o m apos) (e :: es) [] pos) X.env = (do
      let ov ← eval o X.env; standAt apos.atName
      let (f, first) ← holding [ov] (getMethod ov m pl); callWith pos f first (backTo pos (starEach (e :: es) X.env)) (backToKw pos (keywordEach [] X.env))) := by rfl) :
    PE X (.Call (.Attribute o m apos) (e :: es) [] pos) (tMethSD C m sp E ta t) := by
  refine ⟨fun pins s σ H Q I h => PySem.W.methodCall_KW (pl := pl) (thn (he.run pins s σ H _ I h) fun u s1 ⟨x, H1, I1, rx, a, dx, fs, ex, ea, l, q⟩ => ?_) ht⟩
  subst ex; obtain rfl : u = Value.ref a := rx
  refine getmeth_ok I1 ea c hm l (PySem.W.callWith_K (first := [.ref a]) (h₀ := X.base) I.ok.mod.kin hm.kp (thn (ha.run pos pins s1 σ H1 _ I1 q) fun us s2 ⟨vs, H2, I2, r, q2⟩ => ⟨I2.kIn, ?_⟩) hst hpl)
  exact run_fnS (E := E) (us := .ref a :: us) (vs := .ref a :: vs) F hr hb (hx σ) I2 (.cons rfl r) q2
end
end L2.Vf

/-! # 12: zip of a list and a tuple (of any two kinds of which the next item is known) -/
namespace PySem.VfZ
open PySem PySem.Spec PySem.Calls PyProof.Rows
open PySem.Sem (wp)
/-- a kind of iterator: I its state, S what it walks -/
structure ZK (I : Heap → Addr → Addr → Nat → Prop) (S : Heap → Addr → Array Value → Prop) : Prop where
  item : ∀ {prog : Program} {w : World} {A : Around} {E : Value → Shared → Prop} {s : Shared} {it l : Addr} {i : Nat} {xs : Array Value} {x : Value} {Q : Value → Shared → Prop}, I s.heap it l i → S s.heap l xs → xs[i]? = some x →
    (∀ h', I h' it l (i + 1) → Heap.SameBut it s.heap h' → Q x { s with heap := h' }) → wpAny (model prog w) A (Builtin.SmallTypes.nextOf (.ref it)) Q E s
  fin : ∀ {prog : Program} {w : World} {A : Around} {E : Value → Shared → Prop} {s : Shared} {it l : Addr} {i : Nat} {xs : Array Value} {Q : Value → Shared → Prop}, A.handled = none → I s.heap it l i → S s.heap l xs → xs[i]? = none →
    (∀ h' e, Heap.ExtBut it s.heap h' → (∃ o, h'.get? e = some o ∧ o.cls = .type "StopIteration") → E (.ref e) { s with heap := h' }) → wpAny (model prog w) A (Builtin.SmallTypes.nextOf (.ref it)) Q E s
  ie : ∀ {h h' : Heap} {a b l : Addr} {i : Nat}, I h a l i → Heap.ExtBut b h h' → a ≠ b → I h' a l i
  se : ∀ {h h' : Heap} {a b : Addr} {xs : Array Value}, S h a xs → Heap.ExtBut b h h' → a ≠ b → S h' a xs
  ia : ∀ {h h' : Heap} {a l : Addr} {i : Nat}, I h a l i → (∀ o, h.get? a = some o → h'.get? a = some o) → I h' a l i
  lt : ∀ {h : Heap} {a l : Addr} {i : Nat}, I h a l i → a < h.objs.size
theorem zk_list : ZK Heap.IsListIter Heap.IsList where
  item := fun a b c d => wpAny_nextOf_list_item a b c d
  fin := fun a b c d e => wpAny_nextOf_list_end a b c d e
  ie := fun a b c => a.extBut b c
  se := fun a b c => a.extBut b c
  ia := fun a b => a.at b
  lt := fun ⟨_, e, _⟩ => Heap.lt_size e
theorem zk_tuple : ZK Heap.IsTupleIter Heap.IsTuple where
  item := fun a b c d => RZ.nextOf_tuple_item a b c d
  fin := fun a b c d e => RZ.nextOf_tuple_end a b c d e
  ie := fun a b c => a.extBut b c
  se := fun a b c => a.extBut b c
  ia := fun a b => a.at b
  lt := fun ⟨_, e, _⟩ => Heap.lt_size e
section
variable {prog : Program} {w : World} {A : Around} {E : Value → Shared → Prop} {s : Shared} {I1 I2 : Heap → Addr → Addr → Nat → Prop} {S1 S2 : Heap → Addr → Array Value → Prop}
/-- what holds at each turn -/
structure At (I1 I2 : Heap → Addr → Addr → Nat → Prop) (h : Heap) (z TI TO i1 i2 l1 l2 : Addr) (k : Nat) (f0 a b : Value) : Prop where
  z : IsZip h z TI TO f0
  ti : IsPair h TI (.ref i1) (.ref i2)
  to : IsPair h TO a b
  i1 : I1 h i1 l1 k
  i2 : I2 h i2 l2 k
theorem z_item {z TI TO i1 i2 l1 l2 : Addr} {k : Nat} {xs ys : Array Value} {x y a b : Value} {Q : Value → Shared → Prop} (K1 : ZK I1 S1) (K2 : ZK I2 S2) (D : ZipApart z TI TO i1 i2 l1 l2) (T : At I1 I2 s.heap z TI TO i1 i2 l1 l2 k .none a b)
    (hl1 : S1 s.heap l1 xs) (hl2 : S2 s.heap l2 ys) (hx : xs[k]? = some x) (hy : ys[k]? = some y)
    (hQ : ∀ h', At I1 I2 h' z TI TO i1 i2 l1 l2 (k + 1) (rawInt s.heap.objs.size) x y → IsPair h' s.heap.objs.size x y → (∀ c o, c ≠ z → c ≠ TO → c ≠ i1 → c ≠ i2 → s.heap.get? c = some o → h'.get? c = some o) → Q (.ref s.heap.objs.size) { s with heap := h' }) :
    wpAny (model prog w) A (Builtin.«zip.__next__» ⟨[.ref z], []⟩) (fun fin s' => ∃ v, fin = .done (.ret v) ∧ Q v s') E s := by
  obtain ⟨hz, hTI, hTO, h1, h2⟩ := T
  -- the record is read
  show wpAny _ _ (field (.ref z) 2 >>= _) _ _ _ ; refine wpAny_bind (wpAny_field hz rfl (x := .bool false) rfl ?_) ; show wpAny _ _ (field (.ref z) 3 >>= _) _ _ _ ; refine wpAny_bind (wpAny_field hz rfl (x := .ref TI) rfl (wpAny_bind (wpAny_seqItems hTI rfl ?_)))
  show wpAny _ _ (Builtin.SmallTypes.ownedTupleIsFree (.ref z) >>= _) _ _ _ ; refine wpAny_bind ?_ ; unfold Builtin.SmallTypes.ownedTupleIsFree ; refine wpAny_bind (wpAny_field hz rfl (x := .none) rfl (wpAny_pure ?_)) ; simp only [if_true]
  refine wpAny_bind (wpAny_rule (wpAny_bind (wpAny_field hz rfl (x := .ref TO) rfl (wpAny_bind (wpAny_setField_rec hz (by simp) fun ha za sa => ?_))))) ; replace za : IsZip ha z TI TO .ellipsis := za ; refine wpAny_bind ?_ ; simp only [List.zipIdx_cons, List.zipIdx_nil, List.forIn_cons, List.forIn_nil]
  -- the first
  refine wpAny_bind (wpAny_bind (wpAny_onRaise ?_)) ; show wpAny _ _ (Builtin.SmallTypes.nextOf (.ref i1) >>= _) _ _ _ ; refine wpAny_bind (K1.item (K1.ie h1 sa.extBut D.i1z) (K1.se hl1 sa.extBut D.l1z) hx fun hb f1 sb => wpAny_pure ?_)
  have tb : IsPair hb TO a b := sb.extBut _ _ D.TOi1 (sa.extBut _ _ D.TOz hTO)
  refine wpAny_bind (wpAny_seqItems tb rfl (wpAny_bind (wpAny_updateSeq_pair tb fun hc tc sc => wpAny_bind (wpAny_letGo (wpAny_pure ?_))))) ; replace tc : IsPair hc TO x b := tc
  -- the second
  refine wpAny_bind (wpAny_bind (wpAny_onRaise ?_)) ; show wpAny _ _ (Builtin.SmallTypes.nextOf (.ref i2) >>= _) _ _ _
  refine wpAny_bind (K2.item (K2.ie (K2.ie (K2.ie h2 sa.extBut D.i2z) sb.extBut D.i12.symm) sc.extBut D.TOi2.symm) (K2.se (K2.se (K2.se hl2 sa.extBut D.l2z) sb.extBut D.l2i1) sc.extBut D.l2TO) hy fun hd f2 sd => wpAny_pure ?_)
  have td : IsPair hd TO x b := sd.extBut _ _ D.TOi2 tc
  refine wpAny_bind (wpAny_seqItems td rfl (wpAny_bind (wpAny_updateSeq_pair td fun he te se => wpAny_bind (wpAny_letGo (wpAny_pure (wpAny_pure ?_)))))) ; replace te : IsPair he TO x y := te
  -- the pair is handed out
  refine wpAny_bind (wpAny_seqItems te rfl (wpAny_bind (wpAny_newTuple ?_)))
  have hsz : he.objs.size = s.heap.objs.size := by rw [se.1, sd.1, sc.1, sb.1, sa.1]
  have ze : IsZip he z TI TO .ellipsis := se.extBut _ _ D.TOz.symm (sd.extBut _ _ D.i2z.symm (sc.extBut _ _ D.TOz.symm (sb.extBut _ _ D.i1z.symm za)))
  have ke : ∀ c o, c ≠ z → c ≠ TO → c ≠ i1 → c ≠ i2 → s.heap.get? c = some o → he.get? c = some o := fun c o c1 c2 c3 c4 e => se.extBut _ _ c2 (sd.extBut _ _ c4 (sc.extBut _ _ c2 (sb.extBut _ _ c3 (sa.extBut _ _ c1 e))))
  have g1 := K1.ie (K1.ie (K1.ie f1 sc.extBut D.TOi1.symm) sd.extBut D.i12) se.extBut D.TOi1.symm ; have g2 := K2.ie f2 se.extBut D.TOi2.symm
  have lz : z < he.objs.size := Heap.lt_size ze
  show wpAny _ _ (Builtin.SmallTypes.ownedTupleHandOut (.ref z) (.ref he.objs.size) >>= _) _ _ _ ; refine wpAny_bind ?_ ; unfold Builtin.SmallTypes.ownedTupleHandOut
  have zf : IsZip (he.push { cls := .type "tuple", data := .seq #[x, y] }) z TI TO .ellipsis := Heap.get?_push_of_some _ ze
  refine wpAny_bind (wpAny_setField_rec zf (by simp) fun hg zg sg => ?_) ; replace zg : IsZip hg z TI TO (rawInt he.objs.size) := zg ; refine wpAny_setField_rec zg (by simp) fun hi zi si => ?_ ; replace zi : IsZip hi z TI TO (rawInt he.objs.size) := zi
  have up : ∀ c o, c ≠ z → he.get? c = some o → hi.get? c = some o := fun c o c1 e => si.extBut _ _ c1 (sg.extBut _ _ c1 (Heap.get?_push_of_some _ e))
  have ti : IsPair hi he.objs.size x y := si.extBut _ _ (Nat.ne_of_gt lz) (sg.extBut _ _ (Nat.ne_of_gt lz) (Heap.get?_push_size _ rfl))
  rw [hsz] at zi ti
  refine wpAny_pure ⟨_, rfl, ?_⟩ ; show Q (.ref he.objs.size) _ ; rw [hsz]
  exact hQ hi ⟨zi, up _ _ D.TIz (ke _ _ D.TIz D.TITO D.TIi1 D.TIi2 hTI), up _ _ D.TOz te, K1.ia g1 fun o e => up _ o D.i1z e, K2.ia g2 fun o e => up _ o D.i2z e⟩ ti fun c o c1 c2 c3 c4 e => up c o c1 (ke c o c1 c2 c3 c4 e)
theorem z_end {z TI TO i1 i2 l1 l2 : Addr} {k : Nat} {xs ys : Array Value} {a b : Value} {Q : Fin → Shared → Prop} (hh : A.handled = none) (K1 : ZK I1 S1) (K2 : ZK I2 S2) (D : ZipApart z TI TO i1 i2 l1 l2) (T : At I1 I2 s.heap z TI TO i1 i2 l1 l2 k .none a b)
    (hl1 : S1 s.heap l1 xs) (hl2 : S2 s.heap l2 ys) (hend : xs[k]? = none ∨ ys[k]? = none)
    (hE : ∀ h' e, (∀ c o, c ≠ z → c ≠ TO → c ≠ i1 → c ≠ i2 → s.heap.get? c = some o → h'.get? c = some o) → (∃ o, h'.get? e = some o ∧ o.cls = .type "StopIteration") → E (.ref e) { s with heap := h' }) :
    wpAny (model prog w) A (Builtin.«zip.__next__» ⟨[.ref z], []⟩) Q E s := by
  obtain ⟨hz, hTI, hTO, h1, h2⟩ := T
  show wpAny _ _ (field (.ref z) 2 >>= _) _ _ _ ; refine wpAny_bind (wpAny_field hz rfl (x := .bool false) rfl ?_) ; show wpAny _ _ (field (.ref z) 3 >>= _) _ _ _ ; refine wpAny_bind (wpAny_field hz rfl (x := .ref TI) rfl (wpAny_bind (wpAny_seqItems hTI rfl ?_)))
  show wpAny _ _ (Builtin.SmallTypes.ownedTupleIsFree (.ref z) >>= _) _ _ _ ; refine wpAny_bind ?_ ; unfold Builtin.SmallTypes.ownedTupleIsFree ; refine wpAny_bind (wpAny_field hz rfl (x := .none) rfl (wpAny_pure ?_)) ; simp only [if_true]
  refine wpAny_bind (wpAny_rule (wpAny_bind (wpAny_field hz rfl (x := .ref TO) rfl (wpAny_bind (wpAny_setField_rec hz (by simp) fun ha za sa => ?_))))) ; replace za : IsZip ha z TI TO .ellipsis := za ; refine wpAny_bind ?_ ; simp only [List.zipIdx_cons, List.zipIdx_nil, List.forIn_cons, List.forIn_nil]
  refine wpAny_bind (wpAny_bind (wpAny_onRaise ?_)) ; show wpAny _ _ (Builtin.SmallTypes.nextOf (.ref i1) >>= _) _ _ _
  have a1 := K1.ie h1 sa.extBut D.i1z ; have a2 := K1.se hl1 sa.extBut D.l1z
  cases hx : xs[k]? with
  | none =>
    refine wpAny_bind (K1.fin hh a1 a2 hx fun hb e sb he => ?_) ; obtain ⟨oe, hoe, hce⟩ := he
    have zb : IsZip hb z TI TO .ellipsis := sb _ _ D.i1z.symm za ; have ez : e ≠ z := fun x => by subst x; rw [zb] at hoe; cases hoe; simp at hce
    exact wpAny_setField_rec zb (by simp) fun hc _ sc => hE hc e (fun c o c1 _ c3 _ x => sc.extBut _ _ c1 (sb _ _ c3 (sa.extBut _ _ c1 x))) ⟨oe, sc.extBut _ _ ez hoe, hce⟩
  | some x =>
    have hy : ys[k]? = none := by rcases hend with h | h; rw [hx] at h; cases h; exact h
    refine wpAny_bind (K1.item a1 a2 hx fun hb f1 sb => wpAny_pure ?_) ; have tb : IsPair hb TO a b := sb.extBut _ _ D.TOi1 (sa.extBut _ _ D.TOz hTO)
    refine wpAny_bind (wpAny_seqItems tb rfl (wpAny_bind (wpAny_updateSeq_pair tb fun hc tc sc => wpAny_bind (wpAny_letGo (wpAny_pure (wpAny_bind (wpAny_bind (wpAny_onRaise ?_)))))))) ; show wpAny _ _ (Builtin.SmallTypes.nextOf (.ref i2) >>= _) _ _ _
    refine wpAny_bind (K2.fin hh (K2.ie (K2.ie (K2.ie h2 sa.extBut D.i2z) sb.extBut D.i12.symm) sc.extBut D.TOi2.symm) (K2.se (K2.se (K2.se hl2 sa.extBut D.l2z) sb.extBut D.l2i1) sc.extBut D.l2TO) hy fun hd e sd he => ?_) ; obtain ⟨oe, hoe, hce⟩ := he
    have zd : IsZip hd z TI TO .ellipsis := sd _ _ D.i2z.symm (sc.extBut _ _ D.TOz.symm (sb.extBut _ _ D.i1z.symm za)) ; have ez : e ≠ z := fun x => by subst x; rw [zd] at hoe; cases hoe; simp at hce
    exact wpAny_setField_rec zd (by simp) fun hf _ sf => hE hf e (fun c o c1 c2 c3 c4 x => sf.extBut _ _ c1 (sd _ _ c4 (sc.extBut _ _ c2 (sb.extBut _ _ c3 (sa.extBut _ _ c1 x))))) ⟨oe, sf.extBut _ _ ez hoe, hce⟩
/-- the next pair, and no more -/
theorem next_item {z TI TO i1 i2 l1 l2 : Addr} {k : Nat} {xs ys : Array Value} {x y a b : Value} {Q : Option Value → Shared → Prop} (K1 : ZK I1 S1) (K2 : ZK I2 S2) (D : ZipApart z TI TO i1 i2 l1 l2) (T : At I1 I2 s.heap z TI TO i1 i2 l1 l2 k .none a b)
    (hl1 : S1 s.heap l1 xs) (hl2 : S2 s.heap l2 ys) (hx : xs[k]? = some x) (hy : ys[k]? = some y)
    (hQ : ∀ h', At I1 I2 h' z TI TO i1 i2 l1 l2 (k + 1) (rawInt s.heap.objs.size) x y → IsPair h' s.heap.objs.size x y → (∀ c o, c ≠ z → c ≠ TO → c ≠ i1 → c ≠ i2 → s.heap.get? c = some o → h'.get? c = some o) → Q (some (.ref s.heap.objs.size)) { s with heap := h' }) :
    wpAny (model prog w) A (pyNext (.ref z)) Q E s := by
  have hT : s.TypeIs (.ref z) "zip" := ⟨_, T.z, rfl⟩ ; unfold pyNext
  refine wpAny_bind (wpAny_attempt (wpAny_callSpecial?_slot (name := Str.ofString "__next__") hT F.slot_zip_next (wpAny_call_entry F.slot_zip_next hT F.entry_zip_next ?_ (F.args_zip_next_1 _))))
  exact z_item K1 K2 D T hl1 hl2 hx hy fun h' a1 a2 a3 => wpAny_pure (hQ h' a1 a2 a3)
theorem next_end {z TI TO i1 i2 l1 l2 : Addr} {k : Nat} {xs ys : Array Value} {a b : Value} {Q : Option Value → Shared → Prop} (hh : A.handled = none) (K1 : ZK I1 S1) (K2 : ZK I2 S2) (D : ZipApart z TI TO i1 i2 l1 l2) (T : At I1 I2 s.heap z TI TO i1 i2 l1 l2 k .none a b)
    (hl1 : S1 s.heap l1 xs) (hl2 : S2 s.heap l2 ys) (hend : xs[k]? = none ∨ ys[k]? = none)
    (hQ : ∀ h', (∀ c o, c ≠ z → c ≠ TO → c ≠ i1 → c ≠ i2 → s.heap.get? c = some o → h'.get? c = some o) → Q none { s with heap := h' }) : wpAny (model prog w) A (pyNext (.ref z)) Q E s := by
  have hT : s.TypeIs (.ref z) "zip" := ⟨_, T.z, rfl⟩ ; unfold pyNext
  refine wpAny_bind (wpAny_attempt (wpAny_callSpecial?_slot (name := Str.ofString "__next__") hT F.slot_zip_next (wpAny_call_entry F.slot_zip_next hT F.entry_zip_next ?_ (F.args_zip_next_1 _))))
  refine z_end hh K1 K2 D T hl1 hl2 hend fun h' e hk he => ?_ ; obtain ⟨o, ho, hc⟩ := he
  exact wpAny_bind (wpAny_isInstance (T := "StopIteration") (b := true) ⟨o, ho, hc⟩ isSubtype_stop (wpAny_pure (hQ _ hk)))
end
/-! ### zip(list, tuple), made -/
abbrev hI (h : Heap) (n : String) (l : Addr) : Heap := h.push { cls := .type n, data := .fields #[.ref l, .int 0 0] }
abbrev hP (h : Heap) (a b : Value) : Heap := h.push { cls := .type "tuple", data := .seq #[a, b] }
abbrev hA (h : Heap) (l1 l2 : Addr) : Heap := hI (hI h "list_iterator" l1) "tuple_iterator" l2
abbrev hB (h : Heap) (l1 l2 : Addr) : Heap := hP (hA h l1 l2) (.ref h.objs.size) (.ref (hI h "list_iterator" l1).objs.size)
abbrev hC (h : Heap) (l1 l2 : Addr) : Heap := hP (hB h l1 l2) .none .none
abbrev hD (h : Heap) (l1 l2 : Addr) : Heap := (hC h l1 l2).push { cls := .type "zip", data := .fields #[.none, .bool false, .bool false, .ref (hA h l1 l2).objs.size, .ref (hB h l1 l2).objs.size] }
theorem meets_new (l1 l2 : Addr) (xs ys : Array Value) : Meets (Builtin.«zip.__new__» ⟨[.type "zip", .ref l1, .ref l2], []⟩) (fun _ R s => s.heap.IsList l1 xs ∧ s.heap.IsTuple l2 ys ∧ R (.ok (.ret (.ref (hC s.heap l1 l2).objs.size))) { s with heap := hD s.heap l1 l2 }) :=
  .of_wp fun prog w A R s h => by
    obtain ⟨hp, g, d, tk, os⟩ := s; obtain ⟨a, b, h⟩ := h; have sz := sub_zip
    have a' : Heap.IsList (Shared.heap ⟨hp, g, d, tk, os⟩) l1 xs := a; have b' : Heap.IsTuple (Shared.heap ⟨hI hp "list_iterator" l1, g, d, tk, os⟩) l2 ys := Heap.IsTuple.push b _
    wp_walk using wpAny_pyIter_list a', wpAny_pyIter_tuple b'; exact ⟨_, rfl, h⟩
section
variable {prog : Program} {w : World} {A : Around} {E : Value → Shared → Prop} {s : Shared}
theorem call_zipM {l1 l2 : Addr} {xs ys : Array Value} {Q : Value → Shared → Prop} (hl1 : s.heap.IsList l1 xs) (hl2 : s.heap.IsTuple l2 ys)
    (h : ∀ h', At Heap.IsListIter Heap.IsTupleIter h' (s.heap.objs.size + 4) (s.heap.objs.size + 2) (s.heap.objs.size + 3) s.heap.objs.size (s.heap.objs.size + 1) l1 l2 0 .none .none .none → (∀ c o, s.heap.get? c = some o → h'.get? c = some o) → Q (.ref (s.heap.objs.size + 4)) { s with heap := h' }) :
    wpAny (model prog w) A (call (.type "zip") [.ref l1, .ref l2]) Q E s := by
  refine callType_new F.called_zip (by decide) (F.typeCall_zip_2 _ _) (F.newCall_zip_2 _ _) (fun obj => F.args_object_init_3 obj _ _) F.entry_zip_new (meets_new l1 l2 xs ys) ⟨hl1, hl2, ?_⟩
  have n1 : (hI s.heap "list_iterator" l1).objs.size = s.heap.objs.size + 1 := Heap.size_push ..
  have n2 : (hA s.heap l1 l2).objs.size = s.heap.objs.size + 2 := by rw [Heap.size_push, n1]
  have n3 : (hB s.heap l1 l2).objs.size = s.heap.objs.size + 3 := by rw [Heap.size_push, n2]
  have n4 : (hC s.heap l1 l2).objs.size = s.heap.objs.size + 4 := by rw [Heap.size_push, n3]
  have e5 : (hD s.heap l1 l2).get? (hC s.heap l1 l2).objs.size = some _ := Heap.get?_push_size _ rfl
  have e4 : (hD s.heap l1 l2).get? (hB s.heap l1 l2).objs.size = some _ := Heap.get?_push_of_some _ (Heap.get?_push_size _ rfl)
  have e3 : (hD s.heap l1 l2).get? (hA s.heap l1 l2).objs.size = some _ := Heap.get?_push_of_some _ (Heap.get?_push_of_some _ (Heap.get?_push_size _ rfl))
  have e2 : (hD s.heap l1 l2).get? (hI s.heap "list_iterator" l1).objs.size = some _ := Heap.get?_push_of_some _ (Heap.get?_push_of_some _ (Heap.get?_push_of_some _ (Heap.get?_push_size _ rfl)))
  have e1 : (hD s.heap l1 l2).get? s.heap.objs.size = some _ := Heap.get?_push_of_some _ (Heap.get?_push_of_some _ (Heap.get?_push_of_some _ (Heap.get?_push_of_some _ (Heap.get?_push_size _ rfl))))
  show _ ∧ _ ; rw [n2, n3, n4] at e5 ; rw [n1, n2] at e3 ; rw [n3] at e4 ; rw [n1] at e2 ; rw [n4]
  exact ⟨⟨_, e5, rfl⟩, h _ ⟨e5, e3, e4, ⟨_, e1, rfl, rfl⟩, ⟨_, e2, rfl, rfl⟩⟩ fun c o x => Heap.get?_push_of_some _ (Heap.get?_push_of_some _ (Heap.get?_push_of_some _ (Heap.get?_push_of_some _ (Heap.get?_push_of_some _ x))))⟩
end
end PySem.VfZ

/-! # 13: for a, b in zip(list, tuple): the walk -/
namespace L2.Vf
open PySem PySem.Spec PyProof.Rows PySem.VfZ
/-- the list at a and the tuple at b as they stand at each turn, the items in new pairs -/
def ItzM (K : PySem.W.Frag) (a b : Addr) : It :=
  ⟨fun i H => ∃ (xs ys : List V) (x y : V), SqL K H a xs ∧ SqT K H b ys ∧ xs[i]? = some x ∧ ys[i]? = some y,
    fun i H v H' => ∃ T x y, v = .ref T ∧ H T = none ∧ H' = upd H T (.tup [x, y]) ∧ (∀ xs, SqL K H a xs → xs[i]? = some x) ∧ ∀ ys, SqT K H b ys → ys[i]? = some y,
    fun i H => ∃ xs ys : List V, SqL K H a xs ∧ SqT K H b ys ∧ (xs.length ≤ i ∨ ys.length ≤ i)⟩
theorem list_inj {X : Cx} {pins : List (Addr × Obj)} {σ : St} {H : Hp} {s : Shared} {a : Addr} {xs ys : List V} (I : Inv X pins σ H s) (h : SqL X.K H a xs) (h' : SqL X.K H a ys) : ∀ {i : Nat} {y : V}, ys[i]? = some y → xs[i]? = some y := by
  exact fun e => by rw [I.list_inj h h']; exact e
abbrev TnM (z TI TO i1 i2 a b : Addr) : Nat → Heap → Prop := fun i h => ∃ x y, At Heap.IsListIter Heap.IsTupleIter h z TI TO i1 i2 a b i .none x y
theorem five {P : Addr → Prop} {z TI TO i1 i2 : Addr} (h1 : P z) (h2 : P TI) (h3 : P TO) (h4 : P i1) (h5 : P i2) : ∀ c ∈ [z, TI, TO, i1, i2], P c := fun c hc => by
  rcases (by simpa using hc : c = z ∨ c = TI ∨ c = TO ∨ c = i1 ∨ c = i2) with rfl | rfl | rfl | rfl | rfl
  · exact h1
  · exact h2
  · exact h3
  · exact h4
  · exact h5
theorem turn_zipM {P : Program} {w : World} {K : PySem.W.Frag} {elts : List Expr} {kk : Nat} {tpos : Pos} {a b z TI TO i1 i2 : Addr} (D : ZipApart z TI TO i1 i2 a b) : Turn P w K (.Tuple elts kk tpos) (ItzM K a b) [z, TI, TO, i1, i2] z (TnM z TI TO i1 i2 a b) where
  mem := by simp
  obj := fun i h st => by
    obtain ⟨x, y, hz, hTI, hTO, ⟨o1, e1, _, d1⟩, ⟨o2, e2, _, d2⟩⟩ := st
    exact five ⟨_, hz, fun v q => nomatch q⟩ ⟨_, hTI, fun v q => nomatch q⟩ ⟨_, hTO, fun v q => nomatch q⟩ ⟨o1, e1, fun v q => by rw [d1] at q; cases q⟩ ⟨o2, e2, fun v q => by rw [d2] at q; cases q⟩
  keep := fun i h h' st k => by
    obtain ⟨x, y, hz, hTI, hTO, h1, h2⟩ := st
    exact ⟨x, y, k z (by simp) _ hz, k TI (by simp) _ hTI, k TO (by simp) _ hTO, h1.at fun o q => k i1 (by simp) o q, h2.at fun o q => k i2 (by simp) o q⟩
  item := by
    intro X hP hw hK hc i pins s σ H E I hf st hg
    subst hP hw hK
    obtain ⟨x0, y0, T⟩ := st
    obtain ⟨xs, ys, x, y, hqx, hqy, hx, hy⟩ := hg
    obtain ⟨its, rv, p, _⟩ := I.list hqx
    obtain ⟨its2, rv2, p2, _⟩ := I.tuple hqy
    obtain ⟨u, hu, ru⟩ := rv.get hx
    obtain ⟨u2, hu2, ru2⟩ := rv2.get hy
    have lz : z < s.heap.objs.size := Heap.lt_size T.z
    refine next_item zk_list zk_tuple D T p.isList p2 (x := u) (y := u2) (by simpa using hu) (by simpa using hu2) fun h' T' hT hk => ⟨_, rfl, wpAny_letOwnedTupleGo_zip (s := { s with heap := h' }) T'.z fun h2 z2 sb => ?_⟩
    have hT2 : h2.get? s.heap.objs.size = some { cls := .type "tuple", data := .seq #[u, u2] } := (sb.2 _ (Nat.ne_of_gt lz)).trans hT
    have new : ObjOk X.prog X.w (upd H s.heap.objs.size (.tup [x, y])) h2 s.heap.objs.size (.tup [x, y]) := ⟨by show 2 ≤ sizeLine; decide, [u, u2], .cons ru (.cons ru2 .nil), ⟨_, hT2, rfl, _, rfl⟩⟩
    have I1 : Inv X pins σ (upd H s.heap.objs.size (.tup [x, y])) { s with heap := h2 } :=
      I.turnedNew (t' := s.toks) (ch := [z, TI, TO, i1, i2]) (fun c o hb q => (sb.2 c (fun e => hb (by simp [e]))).trans (hk c o (fun e => hb (by simp [e])) (fun e => hb (by simp [e])) (fun e => hb (by simp [e])) (fun e => hb (by simp [e])) q)) hf (Nat.le_refl _) new
    refine ⟨.ref s.heap.objs.size, _, I1, rfl, ⟨_, x, y, rfl, I.hok.fresh (Nat.le_refl _), rfl, fun l hl => list_inj I hl hqx hx, fun l hl => by rw [I.tuple_inj hl hqy]; exact hy⟩, ⟨u, u2, z2, (sb.2 _ D.TIz).trans T'.ti, (sb.2 _ D.TOz).trans T'.to, T'.i1.at fun o q => (sb.2 _ D.i1z).trans q, T'.i2.at fun o q => (sb.2 _ D.i2z).trans q⟩, ?_⟩
    have low : ∀ c, c < s.heap.objs.size → H c = none → upd H s.heap.objs.size (.tup [x, y]) c = none := fun c l n => by rw [upd_ne (Nat.ne_of_lt l)]; exact n
    exact five (low _ lz (hf z (by simp)).1) (low _ (Heap.lt_size T.ti) (hf TI (by simp)).1) (low _ (Heap.lt_size T.to) (hf TO (by simp)).1) (low _ (zk_list.lt T.i1) (hf i1 (by simp)).1) (low _ (zk_tuple.lt T.i2) (hf i2 (by simp)).1)
  done := by
    intro X hP hw hK hc i pins s σ H E I hf st hg
    subst hP hw hK
    obtain ⟨x0, y0, T⟩ := st
    obtain ⟨xs, ys, hqx, hqy, hend⟩ := hg
    obtain ⟨its, rv, p, _⟩ := I.list hqx
    obtain ⟨its2, rv2, p2, _⟩ := I.tuple hqy
    have l1 := rv.length
    have l2 := rv2.length
    have he : its.toArray[i]? = none ∨ its2.toArray[i]? = none := hend.elim (fun q => .inl (by simp; omega)) fun q => .inr (by simp; omega)
    exact next_end (I.ok.hd hc) zk_list zk_tuple D T p.isList p2 he fun h' hk => ⟨rfl, I.turnedL (t' := s.toks) (ch := [z, TI, TO, i1, i2]) (fun c o hb q => hk c o (fun e => hb (by simp [e])) (fun e => hb (by simp [e])) (fun e => hb (by simp [e])) (fun e => hb (by simp [e])) q) hf⟩
  self := fun A i s Q E st h => by
    obtain ⟨x, y, T⟩ := st
    exact wpAny_pyIter_zip T.z h
def iZipM (K : PySem.W.Frag) (ta : TA) : TI := fun σ H R => ta σ H fun vs H1 => ∃ a b xs ys, vs = [.ref a, .ref b] ∧ SqL K H1 a xs ∧ SqT K H1 b ys ∧ R (ItzM K a b) H1
theorem pi_zipM {X : Cx} {e e2 : Expr} {ta : TA} {p pos tpos : Pos} {elts : List Expr} {kk : Nat} (hg : Gl X "zip") (hm : X.mg "zip" = none) (ha : PA X [e, e2] ta)
    (hs : starEach [e, e2] X.env = (false, eval e X.env) :: starEach [e2] X.env := by rfl) (hpl : (backTo pos (starEach [e2] X.env)).any (·.1) = false := by rfl) :
    PI X (.Tuple elts kk tpos) (.Call (.Name "zip" p) [e, e2] [] pos) (iZipM X.K ta) := by
  refine ⟨fun pins s σ H R I h => Call_ (ld_blt I hg hm PyProof.Rows.boot_zip (PyProof.Rows.callWith_type1 (thn (ha.run pos pins s σ H _ I h) fun us s1 ⟨vs, H1, I1, r1, q1⟩ => ?_) hs hpl))⟩
  obtain ⟨a, b, xs, ys, ex, hqx, hqy, q⟩ := q1
  subst ex
  obtain ⟨u1, u2, rfl, r, r'⟩ := vals2 r1
  cases r
  cases r'
  obtain ⟨its, rv, p1, _⟩ := I1.list hqx
  obtain ⟨its2, rv2, p2, _⟩ := I1.tuple hqy
  obtain ⟨o2, ho2, _⟩ := id p2
  have fr : ∀ c, s1.heap.objs.size ≤ c → FpOk X pins H1 c := fun c hle => I1.fpOk hle (I1.hok.fresh hle)
  refine call_zipM p1.isList p2 fun h' T hk => wpAny_pyIter_zip T.z ⟨s1.heap.objs.size + 4, [s1.heap.objs.size + 4, s1.heap.objs.size + 2, s1.heap.objs.size + 3, s1.heap.objs.size, s1.heap.objs.size + 1], _, _, H1, rfl, I1.kept (t' := s1.toks) hk, turn_zipM (PySem.W.ktu_apart s1.heap.objs.size a b p1.lt (Heap.lt_size ho2)), ⟨_, _, T⟩, ?_, q⟩
  exact five (fr _ (Nat.le_add_right _ _)) (fr _ (Nat.le_add_right _ _)) (fr _ (Nat.le_add_right _ _)) (fr _ (Nat.le_refl _)) (fr _ (Nat.le_add_right _ _))
theorem walk_zipM {K : PySem.W.Frag} {a b : Addr} {xs ys : List V} {n : Nat} (hn : n = min xs.length ys.length) : Walk (ItzM K a b) n (fun H => SqL K H a xs ∧ SqT K H b ys) (YPair (fun i => xs[i]?) (fun i => ys[i]?)) := by
  subst hn
  refine ⟨fun i _ hi q => ⟨xs, ys, xs[i]'(by omega), ys[i]'(by omega), q.1, q.2, List.getElem?_eq_getElem (by omega), List.getElem?_eq_getElem (by omega)⟩, fun _ q => ⟨xs, ys, q.1, q.2, by omega⟩, fun i H v H' _ q y => ?_⟩
  obtain ⟨T, x, z, h1, h2, h3, h4, h5⟩ := y
  exact ⟨T, x, z, h1, h2, h3, h4 xs q.1, h5 ys q.2⟩
end L2.Vf

/-! # 14: a tuple times 1 is the tuple itself -/
namespace L2.Vf
open PySem PySem.Spec PyProof.Rows
theorem tuple_mul1 (l : Addr) (items : Array Value) (n : Nat) (dd : Option Addr) (sl : Array (Option Value)) (u : Tok) :
    Meets (Builtin.«tuple.__mul__» ⟨[.ref l, .int 1 u], []⟩) (fun _ R s => s.heap.get? l = some { cls := .type "tuple", dict := dd, data := .seq items n, slots := sl } ∧ R (.ok (.ret (Value.ref l))) s) :=
  .of_wp fun prog w A R s h => by
    obtain ⟨hp, g, d, tk, os⟩ := s; obtain ⟨hl, h⟩ := h; have f1 := AutoSeq1.idx_int
    wp_walk using wpAny_loadPart' hl
    repeat (first
      | (refine wpAny_ite_true (by simp) ?_; wp_walk using wpAny_loadPart' hl)
      | (refine wpAny_ite_false (by decide) ?_; wp_walk using wpAny_loadPart' hl))
    exact ⟨_, rfl, h⟩
/-- t * 1 -/
def rRepT1 (K : PySem.W.Frag) : R2 := fun x y H Q => ∃ l xs, x = .ref l ∧ y = .int 1 ∧ SqT K H l xs ∧ Q (.ref l) H
section
variable {X : Cx}
theorem op_repT1 : OpR X (binaryOp .Mult) (rRepT1 X.K) := by
  intro pins s σ H x y v u Q I rx ry h
  obtain ⟨l, xs, rfl, rfl, hT, q⟩ := h
  cases rx
  obtain ⟨t, rfl⟩ := ry
  obtain ⟨its, r, ⟨⟨cls, dd, data, sl⟩, ho, hc, n, hd⟩, _⟩ := I.tuple hT
  simp only at hc hd
  subst hc hd
  refine wpAny_binaryOp_repeat_ref (T := "tuple") (U := "int") (by decide) ⟨_, ho, rfl⟩ (fun s' => typeIs_int s' 1 t) noFill_tuple_mul F.fills_int_mul F.slot_int_rmul repeat_tuple F.slot_int_index.lookup ?_
  refine call_meets F.slot_int_rmul (typeIs_int s 1 t) F.entry_int_rmul (F.args_int_rmul_2 _ _) (int_rmul_tuple 1 t l its.toArray n dd sl) ⟨ho, rfl, ⟨_, ho, rfl⟩, ?_⟩
  exact call_meets F.slot_tuple_mul ⟨_, ho, rfl⟩ F.entry_tuple_mul (F.args_tuple_mul_2 _ _) (tuple_mul1 l its.toArray n dd sl t) ⟨ho, ⟨.ref l, H, I, rfl, q⟩⟩
/-- t * k, k from 1 to 1000 -/
def rRepTA (K : PySem.W.Frag) : R2 := fun x y H Q => ∃ l k xs, x = .ref l ∧ y = .int k ∧ SqT K H l xs ∧ xs ≠ [] ∧ 1 ≤ k ∧ k ≤ 1000 ∧ xs.length ≤ 1000 ∧ (k = 1 → Q (.ref l) H) ∧ (2 ≤ k → ∀ p, H p = none → Q (.ref p) (upd H p (.tup (List.replicate k.toNat xs).flatten)))
theorem op_repTA : OpR X (binaryOp .Mult) (rRepTA X.K) := by
  intro pins s σ H x y v u Q I rx ry h
  obtain ⟨l, k, xs, rfl, rfl, hT, hne, h1, h2, hz, q1, q2⟩ := h
  by_cases e : k = 1
  · subst e
    exact op_repT1 pins s σ H _ _ v u Q I rx ry ⟨l, xs, rfl, rfl, hT, q1 rfl⟩
  · exact op_repT pins s σ H _ _ v u Q I rx ry ⟨l, k, xs, rfl, rfl, hT, hne, by omega, h2, hz, q2 (by omega)⟩
end
end L2.Vf

/-! # dicts whose keys are tuples of tuples, 1: the kind of such keys -/
namespace PySem
open Sem (wp)
section
variable {prog : Program} {w : World} {K : Type} [DecidableEq K] {knd : KeyKind prog w K} {A : Around} {E : Value → Shared → Prop} {s : Shared}
/-- the items are tuples of keys -/
inductive NestItems (knd : KeyKind prog w K) (h : Heap) : List (List K) → List Value → Prop
  | nil : NestItems knd h [] []
  | cons {k : List K} {b : Addr} {ks : List (List K)} {vs : List Value} : IsTupleKey knd h k b → NestItems knd h ks vs → NestItems knd h (k :: ks) (.ref b :: vs)
def IsNest (knd : KeyKind prog w K) (h : Heap) (ks : List (List K)) (a : Addr) : Prop := ∃ o items n, h.get? a = some o ∧ o.cls = .type "tuple" ∧ o.data = .seq items n ∧ NestItems knd h ks items.toList
theorem NestItems.inj {h : Heap} {x y : List (List K)} {vs : List Value} (hx : NestItems knd h x vs) (hy : NestItems knd h y vs) : x = y := by
  induction hx generalizing y with
  | nil => cases hy; rfl
  | cons h1 _ ih =>
    cases hy with
    | cons h2 t2 => rw [h1.inj h2, ih t2]
theorem NestItems.keeps {h h' : Heap} {d : Addr} {o : Obj} {es ep} {x : List (List K)} {vs : List Value} (hx : NestItems knd h x vs) (ho : h.get? d = some o) (hd : o.data = .dict es ep) (hs : Heap.SameBut d h h') : NestItems knd h' x vs := by
  induction hx with
  | nil => exact .nil
  | cons h1 _ ih => exact .cons (h1.keeps ho hd hs) ih
theorem IsNest.typeIs {ks : List (List K)} {a : Addr} (x : IsNest knd s.heap ks a) : s.TypeIs (.ref a) "tuple" := let ⟨o, _, _, ho, hc, _⟩ := x; ⟨o, ho, hc⟩
theorem IsNest.inj {h : Heap} {a : Addr} {x y : List (List K)} (hx : IsNest knd h x a) (hy : IsNest knd h y a) : x = y := by
  obtain ⟨o, items, n, ho, _, hd, hi⟩ := hx
  obtain ⟨o', items', n', ho', _, hd', hi'⟩ := hy
  obtain rfl : o = o' := Option.some.inj (ho.symm.trans ho')
  rw [hd] at hd'
  injection hd' with h1 _
  subst h1
  exact hi.inj hi'
theorem IsNest.keeps {h h' : Heap} {ks : List (List K)} {a d : Addr} {o : Obj} {es ep} (x : IsNest knd h ks a) (ho : h.get? d = some o) (hd : o.data = .dict es ep) (hs : Heap.SameBut d h h') : IsNest knd h' ks a := by
  obtain ⟨o', items, n, ho', hc, hd', hi⟩ := x
  have hne : a ≠ d := by
    rintro rfl
    obtain rfl : o' = o := Option.some.inj (ho'.symm.trans ho)
    rw [hd] at hd'; exact nomatch hd'
  exact ⟨o', items, n, (hs.2 a hne).trans ho', hc, hd', hi.keeps ho hd hs⟩
def nestHash (knd : KeyKind prog w K) (ks : List (List K)) : Int := reduceHash (Builtin.Tuple.tupleHashOf (ks.map (tupleKeyHash knd)))
def nestDraws (ks : List (List K)) : Nat := (ks.map fun k => k.length + 1).sum + 1
theorem wpAny_pyHash_nest {ks : List (List K)} {a : Addr} {Q : Int → Shared → Prop} (hu : A.units + 1 < cLine) (hk : IsNest knd s.heap ks a) (h : Q (nestHash knd ks) { s with toks := s.toks + nestDraws ks }) :
    wpAny (model prog w) A (pyHash (.ref a)) Q E s := by
  have hT := hk.typeIs
  obtain ⟨o, items, n, ho, _, hd, hi⟩ := hk
  unfold pyHash
  first | unfold pyHashByItsType | skip
  first | refine wpAny_bind (wpAny_cRoomFor_or (.inr (by omega)) ?_) | skip
  refine wpAny_bind (wpAny_specialOf hT F.slot_tuple_hash.lookup ?_)
  show wpAny _ _ (if (some (Value.builtin "tuple.__hash__") == some Value.none) = true then _ else _) Q E s
  rw [if_neg (by rw [beq_builtin_none]; exact Bool.false_ne_true)]
  refine wpAny_bind (wpAny_specialOf hT F.slot_tuple_hash.lookup ?_)
  show wpAny _ _ (callSpecialIfBoundUnlessNone? (.ref a) "__hash__" _ >>= _) Q E s
  refine wpAny_bind (wpAny_callSpecialIfBoundUnlessNone?_slot hT F.slot_tuple_hash (wpAny_call_entry F.slot_tuple_hash hT F.entry_tuple_hash ?_ (F.args_tuple_hash_1 _)))
  show wpAny _ _ (Builtin.Tuple.tupleItemsOf (.ref a) >>= _) _ _ s
  refine wpAny_bind (wpAny_tupleItemsOf ho hd ?_)
  refine wpAny_bind ?_
  rw [← Array.forIn_toList]
  refine wpAny_forIn_list _
    (fun rest (b : Array Int) s' => ∃ done left, ks = done ++ left ∧ NestItems knd s.heap left rest ∧ b.toList = done.map (tupleKeyHash knd) ∧ s' = { s with toks := s.toks + (done.map fun k => k.length + 1).sum })
    _ ?_ ?_ _ _ ⟨[], ks, rfl, hi, rfl, rfl⟩
  · rintro x rest b s' ⟨done, left, rfl, hl, hb, rfl⟩
    cases hl with
    | @cons k _ ks' _ h1 hl' =>
      refine wpAny_bind (wpAny_pyHash_tuple (by show A.units + 1 < cLine; exact hu) h1 ?_)
      first
        | exact wpAny_pure ⟨done ++ [k], ks', by simp, hl', by simp [hb], by simp [Nat.add_assoc]⟩
        | exact wpAny_bind (wpAny_pure (wpAny_pure ⟨done ++ [k], ks', by simp, hl', by simp [hb], by simp [Nat.add_assoc]⟩))
  · rintro b s' ⟨done, left, rfl, hl, hb, rfl⟩
    cases hl
    rw [List.append_nil] at h
    show wpAny _ _ (retInt (Builtin.Tuple.tupleHashOf b.toList)) _ _ _
    rw [hb]
    refine wpAny_ret_mkInt ?_
    show wpAny _ _ (if (decide (-(2 : Int) ^ 63 ≤ Builtin.Tuple.tupleHashOf (done.map (tupleKeyHash knd))) && decide (Builtin.Tuple.tupleHashOf (done.map (tupleKeyHash knd)) < 2 ^ 63)) = true then _ else _) Q E _
    unfold nestHash reduceHash at h
    by_cases hr : (decide (-(2 : Int) ^ 63 ≤ Builtin.Tuple.tupleHashOf (done.map (tupleKeyHash knd))) && decide (Builtin.Tuple.tupleHashOf (done.map (tupleKeyHash knd)) < 2 ^ 63)) = true
    · rw [if_pos hr]
      rw [if_pos hr] at h
      exact wpAny_pure (by simpa [nestDraws, Nat.add_assoc] using h)
    · rw [if_neg hr]
      rw [if_neg hr] at h
      exact wpAny_bind (wpAny_rule (wpAny_pure (by simpa [nestDraws, Nat.add_assoc] using h)))
theorem nest_eq_tree {x y : List (List K)} {a b : Addr} {P : Fin → Shared → Prop} (hu : A.units < cLine) (hx : IsNest knd s.heap x a) (hy : IsNest knd s.heap y b) (h : P (.done (.ret (.bool (decide (x = y))))) s) :
    wpAny (model prog w) A (Builtin.«tuple.__eq__» ⟨[.ref a, .ref b], []⟩) P E s := by
  have hTb := hy.typeIs
  obtain ⟨oa, xs, na, hoa, _, hda, hia⟩ := hx
  obtain ⟨ob, ys, nb, hob, _, hdb, hib⟩ := hy
  show wpAny _ _ (isInstance (.ref b) (.type "tuple") >>= _) _ _ s
  refine wpAny_bind (wpAny_isInstance hTb isSubtype_tuple_tuple ?_)
  simp only [Bool.not_true, Bool.false_eq_true, if_false]
  refine wpAny_bind (wpAny_tupleItemsOf hoa hda ?_)
  refine wpAny_bind (wpAny_tupleItemsOf hob hdb ?_)
  refine wpAny_bind ?_
  refine wpAny_forIn_list _
    (fun rest r s' => r.1 = none ∧ s' = s ∧ ∃ x' y' xs' ys', rest = List.zip xs' ys' ∧ NestItems knd s.heap x' xs' ∧ NestItems knd s.heap y' ys' ∧ decide (x' = y') = decide (x = y) ∧ (xs'.length == ys'.length) = (xs.size == ys.size))
    _ ?_ ?_ _ _ ⟨rfl, rfl, x, y, xs.toList, ys.toList, rfl, hia, hib, rfl, by simp⟩
  · rintro ⟨u, v⟩ rest r s' ⟨hr, rfl, x', y', xs', ys', hz, hx', hy', hdec, hlen⟩
    cases hx' with
    | nil => simp at hz
    | @cons k1 u' x'' xs'' h1 hx'' =>
      cases hy' with
      | nil => simp at hz
      | @cons k2 v' y'' ys'' h2 hy'' =>
        simp only [List.zip_cons_cons, List.cons.injEq, Prod.mk.injEq] at hz
        obtain ⟨⟨rfl, rfl⟩, rfl⟩ := hz
        refine wpAny_bind (wpAny_eqBool_tuple hu h1 h2 ?_)
        by_cases hk : k1 = k2
        · subst hk
          rw [decide_eq_true rfl]
          simp only [Bool.not_true, Bool.false_eq_true, if_false]
          refine wpAny_pure ⟨rfl, rfl, x'', y'', xs'', ys'', rfl, hx'', hy'', ?_, by simpa using hlen⟩
          rw [← hdec]
          by_cases hxy : x'' = y''
          · simp [hxy]
          · simp [hxy]
        · rw [decide_eq_false hk]
          simp only [Bool.not_false, if_true]
          have hf : decide (x = y) = false := by rw [← hdec]; simp [hk]
          rw [hf] at h
          exact wpAny_bind (wpAny_pure (wpAny_pure (wpAny_pure h)))
  · rintro ⟨r1, r2⟩ s' ⟨hr, rfl, x', y', xs', ys', hz, hx', hy', hdec, hlen⟩
    simp only at hr
    subst hr
    refine wpAny_pure ?_
    have hfin : (xs.size == ys.size) = decide (x = y) := by
      rw [← hdec, ← hlen]
      cases hx' with
      | nil =>
        cases hy' with
        | nil => simp
        | cons _ _ => simp
      | cons _ _ =>
        cases hy' with
        | nil => simp
        | cons _ _ => simp at hz
    show P (.done (.ret (.bool (xs.size == ys.size)))) s'
    rw [hfin]; exact h
theorem wpAny_eqBool_nest {x y : List (List K)} {a b : Addr} {Q : Bool → Shared → Prop} (hu : A.units + 1 < cLine) (hx : IsNest knd s.heap x a) (hy : IsNest knd s.heap y b) (h : Q (decide (x = y)) s) :
    wpAny (model prog w) A (eqBool (.ref a) (.ref b)) Q E s := by
  unfold eqBool
  try with_reducible refine wpAny_holding ?_
  show wpAny _ _ (if (Value.ref a == Value.ref b) = true then _ else _) Q E s
  by_cases hab : (Value.ref a == Value.ref b) = true
  · rw [if_pos hab]
    have e : a = b := by have := eq_of_beq hab; injection this
    subst e
    obtain rfl := hx.inj hy
    exact wpAny_bind (wpAny_rule (wpAny_pure (by simpa using h)))
  · rw [if_neg hab]
    exact wpAny_bind (wpAny_richCompare_same_room (op := .Eq) hx.typeIs hy.typeIs F.slot_tuple_eq
      (wpAny_call_entry F.slot_tuple_eq hx.typeIs F.entry_tuple_eq (nest_eq_tree (by show A.units + 1 < cLine; exact hu) hx hy ⟨_, rfl, (fun e => nomatch e), wpAny_truthy_bool h⟩) (F.args_tuple_eq_2 _ _)) (by omega))
theorem quiet_tupleN (n : Nat) {ks : List K} {a : Addr} {Q : Bool → Shared → Prop} (hk : IsTupleKey knd s.heap ks a) (h : Q true s) : wpAny (model prog w) A (eqIsQuiet (n + 1) (.ref a)) Q E s := by
  have hT := hk.typeIs
  obtain ⟨o, items, m, ho, _, hd, hi⟩ := hk
  unfold eqIsQuiet
  refine wpAny_bind (wpAny_specialOf hT F.slot_tuple_eq.lookup ?_)
  show wpAny _ _ (isInstance (.ref a) (.type "tuple") >>= _) _ _ s
  refine wpAny_bind (wpAny_isInstance hT isSubtype_tuple_tuple ?_)
  simp only [Bool.not_true, Bool.false_eq_true, if_false]
  refine wpAny_bind (wpAny_seqItems ho hd ?_)
  refine wpAny_bind ?_
  show wpAny _ _ (forIn items _ _) _ _ s
  rw [← Array.forIn_toList]
  refine wpAny_forIn_list _ (fun rest r s' => r.1 = none ∧ s' = s ∧ ∀ v ∈ rest, carriedByValue v = true) _ ?_ ?_ _ _ ⟨rfl, rfl, hi.byValue⟩
  · rintro v rest r s' ⟨hr, rfl, hall⟩
    rw [eqIsQuiet_byValue _ (hall v List.mem_cons_self)]
    refine wpAny_bind (wpAny_pure ?_)
    simp only [Bool.not_true, Bool.false_eq_true, if_false]
    exact wpAny_pure ⟨rfl, rfl, fun u hu' => hall u (List.mem_cons_of_mem _ hu')⟩
  · rintro ⟨r1, r2⟩ s' ⟨hr, rfl, _⟩
    simp only at hr
    subst hr
    exact wpAny_pure h
theorem wpAny_eqIsQuiet_nest {ks : List (List K)} {a : Addr} {Q : Bool → Shared → Prop} (hk : IsNest knd s.heap ks a) (h : Q true s) : wpAny (model prog w) A (eqIsQuiet 8 (.ref a)) Q E s := by
  have hT := hk.typeIs
  obtain ⟨o, items, n, ho, _, hd, hi⟩ := hk
  unfold eqIsQuiet
  refine wpAny_bind (wpAny_specialOf hT F.slot_tuple_eq.lookup ?_)
  show wpAny _ _ (isInstance (.ref a) (.type "tuple") >>= _) _ _ s
  refine wpAny_bind (wpAny_isInstance hT isSubtype_tuple_tuple ?_)
  simp only [Bool.not_true, Bool.false_eq_true, if_false]
  refine wpAny_bind (wpAny_seqItems ho hd ?_)
  refine wpAny_bind ?_
  show wpAny _ _ (forIn items _ _) _ _ s
  rw [← Array.forIn_toList]
  refine wpAny_forIn_list _ (fun rest r s' => r.1 = none ∧ s' = s ∧ ∃ ks', NestItems knd s.heap ks' rest) _ ?_ ?_ _ _ ⟨rfl, rfl, ks, hi⟩
  · rintro v rest r s' ⟨hr, rfl, ks', hall⟩
    cases hall with
    | cons h1 t =>
      refine wpAny_bind (quiet_tupleN 6 h1 ?_)
      simp only [Bool.not_true, Bool.false_eq_true, if_false]
      exact wpAny_pure ⟨rfl, rfl, _, t⟩
  · rintro ⟨r1, r2⟩ s' ⟨hr, rfl, _⟩
    simp only at hr
    subst hr
    exact wpAny_pure h
end
def nestKind {prog : Program} {w : World} {K : Type} [DecidableEq K] (knd : KeyKind prog w K) : HeapKind prog w (List (List K)) where
  is := IsNest knd
  hash := nestHash knd
  draws := nestDraws
  room := fun A => A.units + 1 < cLine
  inj := fun hx hy => hx.inj hy
  keeps := fun x ho hd hs => x.keeps ho hd hs
  pyHash := fun hu hk h => wpAny_pyHash_nest hu hk h
  eqBool := fun hu hx hy h => wpAny_eqBool_nest hu hx hy h
  quiet := fun hk h => wpAny_eqIsQuiet_nest hk h
end PySem

/-! # dicts whose keys are tuples of tuples of ints, 2: rules -/
namespace L2.Nk
open PySem PySem.Spec PyProof.Rows
abbrev Wd := List (List Int)
/-- the key's words in order, the key's own tuple, the value -/
abbrev Ent := Wd × Addr × V
abbrev knd (P : Program) (w : World) : HeapKind P w Wd := nestKind (intKind P w)
abbrev KN : List Ent → List (Wd × Addr × Value) → Prop := Paired fun p q => p.1 = q.1 ∧ p.2.1 = q.2.1 ∧ RelV p.2.2 q.2.2
/-- at d: a dict of such keys -/
def NtO (P : Program) (w : World) (d : Addr) (xs : List Ent) : HO := .ext fun h => xs.length ≤ sizeLine ∧ (d == sysModules) = false ∧ ∃ us, KN xs us ∧
  ∃ o es ep, h.get? d = some o ∧ o.ExactDict ∧ o.data = .dict es ep ∧ es.toList = us.map (entryOfKey (knd P w)) ∧ (us.map (·.1)).Nodup
/-- at b: the tuple of the tuples k -/
def NKey (K : PySem.W.Frag) (H : Hp) (k : Wd) (b : Addr) : Prop := ∃ bs : List Addr, SqT K H b (bs.map .ref) ∧ Paired (fun c l => SqT K H c (l.map V.int)) bs k
def NKeys (K : PySem.W.Frag) (H : Hp) (xs : List Ent) : Prop := ∀ x ∈ xs, NKey K H x.1 x.2.1
def valN (xs : List Ent) (k : Wd) : Option V := (xs.find? fun x => decide (x.1 = k)).map (·.2.2)
def putN (xs : List Ent) (k : Wd) (b : Addr) (v : V) : List Ent := if (xs.any fun x => decide (x.1 = k)) = true then xs.map (fun x => if x.1 = k then (x.1, x.2.1, v) else x) else xs ++ [(k, b, v)]
theorem valN_nil {k : Wd} : valN [] k = none := rfl
theorem valN_pos {p : Ent} {r : List Ent} {k : Wd} (e : p.1 = k) : valN (p :: r) k = some p.2.2 := by simp [valN, List.find?_cons, e]
theorem valN_neg {p : Ent} {r : List Ent} {k : Wd} (e : ¬ p.1 = k) : valN (p :: r) k = valN r k := by simp [valN, List.find?_cons, e]
theorem valN_any (k : Wd) : ∀ xs : List Ent, (xs.any fun x => decide (x.1 = k)) = (valN xs k).isSome
  | [] => rfl
  | p :: r => by
    by_cases e : p.1 = k
    · rw [valN_pos e]; simp [e]
    · rw [valN_neg e, ← valN_any k r]; simp [e]
theorem length_putN (xs : List Ent) (k : Wd) (b : Addr) (v : V) : (putN xs k b v).length ≤ xs.length + 1 := by
  unfold putN
  split <;> simp
theorem KN.val {xs : List Ent} {us : List (Wd × Addr × Value)} (r : KN xs us) (k : Wd) : RelO (valN xs k) ((atKey us k).map (·.2)) := by
  induction r with
  | nil => exact True.intro
  | @cons p q ps qs h t ih =>
    obtain ⟨h1, _, h2⟩ := h
    by_cases e : p.1 = k
    · have e' : q.1 = k := h1.symm.trans e
      have b : atKey (q :: qs) k = some q.2 := by simp [atKey, List.find?_cons, e']
      rw [valN_pos e, b]; exact h2
    · have e' : ¬ q.1 = k := fun z => e (h1.trans z)
      have b : atKey (q :: qs) k = atKey qs k := by simp [atKey, List.find?_cons, e']
      rw [valN_neg e, b]; exact ih
theorem KN.repl {xs : List Ent} {us : List (Wd × Addr × Value)} (r : KN xs us) (k : Wd) {y : V} {u : Value} (ry : RelV y u) : KN (xs.map fun x => if x.1 = k then (x.1, x.2.1, y) else x) (us.map (putAt k u)) := by
  induction r with
  | nil => exact .nil
  | @cons p q ps qs h t ih =>
    rw [List.map_cons, List.map_cons]
    refine .cons ?_ ih
    obtain ⟨h1, h2, h3⟩ := h
    unfold putAt
    by_cases e : p.1 = k
    · rw [if_pos e, if_pos (h1.symm.trans e)]; exact ⟨h1, h2, ry⟩
    · rw [if_neg e, if_neg (fun z => e (h1.trans z))]; exact ⟨h1, h2, h3⟩
theorem KN.put {xs : List Ent} {us : List (Wd × Addr × Value)} (r : KN xs us) (k : Wd) {b : Addr} {y : V} {u : Value} (ry : RelV y u) : KN (putN xs k b y) (storedH us k b u) := by
  have e : (xs.any fun x => decide (x.1 = k)) = (atKey us k).isSome := by
    rw [valN_any, (r.val k).isSome_eq, Option.isSome_map]
  unfold putN storedH
  rw [e]
  by_cases q : (atKey us k).isSome = true
  · rw [if_pos q, if_pos q]; exact r.repl k ry
  · rw [if_neg q, if_neg q]; exact Paired.snoc r ⟨rfl, rfl, ry⟩
theorem NKey.mono {K : PySem.W.Frag} {H H' : Hp} {k : Wd} {b : Addr} (h : NKey K H k b) (f : ∀ c xs, SqT K H c xs → SqT K H' c xs) : NKey K H' k b := by
  obtain ⟨bs, h1, h2⟩ := h
  exact ⟨bs, f _ _ h1, Paired.mapP h2 fun _ _ e => f _ _ e⟩
/-- tuples stay where another object is written -/
theorem sqT_upd {K : PySem.W.Frag} {H : Hp} {d c : Addr} {o o' : HO} {xs : List V} (e : H d = some o) (mu : Mut (some o)) (h : SqT K H c xs) : SqT K (upd H d o') c xs := by
  rcases h with (h | ⟨ob, h⟩) | h
  · exact .inl (.inl (by rw [upd_ne (fun z => by rw [z, e] at h; cases h; exact mu)]; exact h))
  · exact .inl (.inr ⟨ob, by rw [upd_ne (fun z => by rw [z, e] at h; cases h; exact mu)]; exact h⟩)
  · exact .inr h
theorem ints_items {P : Program} {w : World} : ∀ {l : List Int} {us : List Value}, Vals (l.map V.int) us → ItemsAre (intKind P w) l us
  | [], _, h => by cases h; exact .nil
  | i :: l, _, h => by
    cases h with
    | cons h1 h2 =>
      obtain ⟨t, rfl⟩ := h1
      exact .cons (by show Value.isInt i (.int i t) = true; simp [Value.isInt]) (ints_items h2)
section
variable {X : Cx} {pins : List (Addr × Obj)} {σ : St} {H : Hp} {s : Shared}
theorem nkey_at (I : Inv X pins σ H s) {k : Wd} {b : Addr} (h : NKey X.K H k b) : (knd X.prog X.w).is s.heap k b := by
  obtain ⟨bs, h1, h2⟩ := h
  obtain ⟨its, r, ⟨o, e, hc, n, hd⟩, hz⟩ := I.tuple h1
  refine ⟨o, its.toArray, n, e, hc, hd, ?_⟩
  have : its.toArray.toList = its := by simp
  rw [this]
  clear hd e hc h1 this hz
  induction h2 generalizing its with
  | nil => cases r; exact .nil
  | cons ha _ ih =>
    cases r with
    | cons r1 r2 =>
      cases r1
      obtain ⟨us, ru, ⟨o1, e1, c1, n1, d1⟩, _⟩ := I.tuple ha
      exact .cons ⟨o1, us.toArray, n1, e1, c1, d1, by simpa using ints_items ru⟩ (ih _ r2)
theorem nt_ok {P : Program} {w : World} {h : Heap} {d : Addr} {xs : List Ent} {H : Hp} (x : ObjOk P w H h d (NtO P w d xs)) : xs.length ≤ sizeLine ∧ (d == sysModules) = false ∧ ∃ us, KN xs us ∧
    ∃ o es ep, h.get? d = some o ∧ o.ExactDict ∧ o.data = .dict es ep ∧ es.toList = us.map (entryOfKey (knd P w)) ∧ (us.map (·.1)).Nodup := by
  have y : ObjOk P w H h d (.ext _) := x
  exact y.1
theorem nt_mk {P : Program} {w : World} {h : Heap} {d : Addr} {xs : List Ent} {us : List (Wd × Addr × Value)} {H : Hp} {o : Obj} {es : Array DictEntry} {ep : Nat} (z : xs.length ≤ sizeLine) (hd : (d == sysModules) = false) (r : KN xs us) (e : h.get? d = some o) (x : o.ExactDict) (dt : o.data = .dict es ep) (en : es.toList = us.map (entryOfKey (knd P w))) (nd : (us.map (·.1)).Nodup) :
    ObjOk P w H h d (NtO P w d xs) := by
  refine ⟨⟨z, hd, us, r, o, es, ep, e, x, dt, en, nd⟩, ⟨o, e⟩, fun h1 h2 q k => ?_⟩
  obtain ⟨z, hd, us, r, o, es, ep, e, x, dt, en, nd⟩ := q
  exact ⟨z, hd, us, r, o, es, ep, k _ e, x, dt, en, nd⟩
theorem nd_rd (I : Inv X pins σ H s) {d : Addr} {xs : List Ent} (e : Rd H d (NtO X.prog X.w d xs)) (hk : NKeys X.K H xs) : xs.length ≤ sizeLine ∧ (d == sysModules) = false ∧ ∃ us, KN xs us ∧ s.heap.DictOfH (knd X.prog X.w) d us := by
  obtain ⟨z, hd, us, r, o, es, ep, h1, h2, h3, h4, h5⟩ := nt_ok (e.ok I.hok)
  refine ⟨z, hd, us, r, o, es, ep, h1, h2, h3, h4, ?_, h5⟩
  clear h4 h5 z e
  induction r with
  | nil => intro x hx; exact nomatch hx
  | @cons p q ps qs hq t ih =>
    intro x hx
    rcases List.mem_cons.mp hx with e | hx
    · subst e
      have := nkey_at I (hk p List.mem_cons_self)
      rw [hq.1, hq.2.1] at this
      exact this
    · exact ih (fun y hy => hk y (List.mem_cons_of_mem _ hy)) x hx
end
/-- what the dict at a holds at the key y -/
def NGet (P : Program) (w : World) (K : PySem.W.Frag) (H : Hp) (a : Addr) (y : V) (r : Option V) : Prop := ∃ xs k b, Rd H a (NtO P w a xs) ∧ NKeys K H xs ∧ y = .ref b ∧ NKey K H k b ∧ r = valN xs k
/-- the heap behind a[y] = v -/
def NPut (P : Program) (w : World) (K : PySem.W.Frag) (H : Hp) (a : Addr) (y v : V) (H' : Hp) : Prop := ∃ xs k b, H a = some (NtO P w a xs) ∧ NKeys K H xs ∧ y = .ref b ∧ NKey K H k b ∧ xs.length < sizeLine ∧ H' = upd H a (NtO P w a (putN xs k b v))
section
variable {X : Cx} {pins : List (Addr × Obj)} {σ : St} {H : Hp} {s : Shared} {a : Addr} {y v d : V} {u r : Value} {o : Option V} {A : Around} {E : Value → Shared → Prop}
theorem n_getItem {Q : Value → Shared → Prop} (hu : A.units + 2 < cLine) (I : Inv X pins σ H s) (g : NGet X.prog X.w X.K H a y (some v)) (ry : RelV y u) (h : ∀ w' s', Inv X pins σ H s' → RelV v w' → Q w' s') :
    wpAny (model X.prog X.w) A (getItem (.ref a) u) Q E s := by
  obtain ⟨xs, k, b, e, hk, ey, eb, l⟩ := g
  subst ey
  cases (show u = Value.ref b from ry)
  obtain ⟨z, hd, us, rel, dd⟩ := nd_rd I e hk
  obtain ⟨w', hw, rw'⟩ := RelO.some_of (v := v) (o := (atKey us k).map (·.2)) (by rw [l]; exact rel.val k)
  obtain ⟨p, hp, hp2⟩ := Option.map_eq_some_iff.mp hw
  refine wpAny_getItem_heap (by show A.units + 1 + 1 < cLine; exact hu) (nkey_at I eb) dd hp ?_
  rw [hp2]
  exact h w' _ (I.tok _) rw'
theorem n_in {Q : Value → Shared → Prop} (hu : A.units + 2 < cLine) (I : Inv X pins σ H s) (g : NGet X.prog X.w X.K H a y o) (ry : RelV y u) (h : ∀ s', Inv X pins σ H s' → Q (.bool o.isSome) s') :
    wpAny (model X.prog X.w) A (compareOp .In u (.ref a)) Q E s := by
  obtain ⟨xs, k, b, e, hk, ey, eb, l⟩ := g
  subst ey
  cases (show u = Value.ref b from ry)
  obtain ⟨z, hd, us, rel, dd⟩ := nd_rd I e hk
  refine wpAny_in_heap (by show A.units + 1 + 1 < cLine; exact hu) (nkey_at I eb) hd dd ?_
  have q := (rel.val k).isSome_eq
  rw [Option.isSome_map] at q
  rw [← q, ← l]
  exact h _ (I.tok _)
theorem n_notIn {Q : Value → Shared → Prop} (hu : A.units + 2 < cLine) (I : Inv X pins σ H s) (g : NGet X.prog X.w X.K H a y o) (ry : RelV y u) (h : ∀ s', Inv X pins σ H s' → Q (.bool (!o.isSome)) s') :
    wpAny (model X.prog X.w) A (compareOp .NotIn u (.ref a)) Q E s := by
  obtain ⟨xs, k, b, e, hk, ey, eb, l⟩ := g
  subst ey
  cases (show u = Value.ref b from ry)
  obtain ⟨z, hd, us, rel, dd⟩ := nd_rd I e hk
  refine wpAny_notIn_heap (by show A.units + 1 + 1 < cLine; exact hu) (nkey_at I eb) hd dd ?_
  have q := (rel.val k).isSome_eq
  rw [Option.isSome_map] at q
  rw [← q, ← l]
  exact h _ (I.tok _)
theorem n_setItem {H' : Hp} {Q : Unit → Shared → Prop} (hu : A.units + 2 < cLine) (I : Inv X pins σ H s) (g : NPut X.prog X.w X.K H a y v H') (ry : RelV y u) (rv : RelV v r) (h : ∀ s', Inv X pins σ H' s' → Q () s') :
    wpAny (model X.prog X.w) A (setItem (.ref a) u r) Q E s := by
  obtain ⟨xs, k, b, e, hk, ey, eb, l, eH⟩ := g
  subst ey eH
  cases (show u = Value.ref b from ry)
  obtain ⟨z, hd, us, rel, dd⟩ := nd_rd I (.inl e) hk
  have hz : us.length ≤ sizeLine := by rw [← Paired.length rel]; exact z
  have hl : (putN xs k b v).length ≤ sizeLine := by have := length_putN xs k b v; omega
  refine wpAny_setItem_heap (hsz := hz) (by show A.units + 1 + 1 < cLine; exact hu) (nkey_at I eb) dd fun h' dd' hs => h _ ?_
  obtain ⟨q, es, ep, hq, h2, h3, h4, _, h5⟩ := dd'
  exact d_write I (by rw [e]; exact True.intro) hs ⟨q, hq⟩ (nt_mk hl hd (rel.put k rv) hq h2 h3 h4 h5)
theorem n_get2 {Q : Value → Shared → Prop} (hu : A.units + 2 < cLine) (I : Inv X pins σ H s) (g : NGet X.prog X.w X.K H a y o) (ry : RelV y u) (rd : RelV d r) (h : ∀ w' s', Inv X pins σ H s' → RelV (o.getD d) w' → Q w' s') :
    wpAny (model X.prog X.w) A (call (.builtin "dict.get") [.ref a, u, r]) Q E s := by
  obtain ⟨xs, k, b, e, hk, ey, eb, l⟩ := g
  subst ey
  cases (show u = Value.ref b from ry)
  obtain ⟨z, hd, us, rel, dd⟩ := nd_rd I e hk
  refine call_meetsIn PySem.F.slot_dict_get dd.typeIs PySem.F.entry_dict_get (PySem.F.args_dict_get_3 _ _ _) (meetsH_dict_get_default (knd X.prog X.w) a b hd r) ⟨by show A.units + 1 + 1 < cLine; exact hu, k, us, nkey_at I eb, dd, h _ _ (I.tok _) ?_⟩
  rw [l]
  exact (rel.val k).getD rd
theorem nd_type (I : Inv X pins σ H s) {xs : List Ent} (e : Rd H a (NtO X.prog X.w a xs)) : s.TypeIs (.ref a) "dict" ∧ (∀ b, Value.ref a = .ref b → ∃ ob, s.heap.get? b = some ob ∧ ob.dict = none) := by
  obtain ⟨z, hd, us, r, o, es, ep, h1, h2, h3, h4, h5⟩ := nt_ok (e.ok I.hok)
  exact ⟨⟨o, h1, h2.1⟩, fun b q => by cases q; exact ⟨o, h1, h2.2.1⟩⟩
end
/-! ### as rules -/
def tNGet (P : Program) (w : World) (K : PySem.W.Frag) (td ty : TE) : TE := fun σ H Q => td σ H fun x H1 => ty σ H1 fun y H2 => ∃ a v, x = .ref a ∧ NGet P w K H2 a y (some v) ∧ Q v H2
def tNIn (P : Program) (w : World) (K : PySem.W.Frag) (ty td : TE) : TE := fun σ H Q => ty σ H fun y H1 => td σ H1 fun x H2 => ∃ a o, x = .ref a ∧ NGet P w K H2 a y o ∧ Q (.bl o.isSome) H2
def tNNotIn (P : Program) (w : World) (K : PySem.W.Frag) (ty td : TE) : TE := fun σ H Q => ty σ H fun y H1 => td σ H1 fun x H2 => ∃ a o, x = .ref a ∧ NGet P w K H2 a y o ∧ Q (.bl (!o.isSome)) H2
def sNPut (P : Program) (w : World) (K : PySem.W.Frag) (td ty tv : TE) : TS := fun D σ H => tv σ H fun v H1 => td σ H1 fun x H2 => ty σ H2 fun y H3 => ∃ a H4, x = .ref a ∧ NPut P w K H3 a y v H4 ∧ D.nx σ H4
def tNGet2 (P : Program) (w : World) (K : PySem.W.Frag) (td ty tx : TE) : TE := fun σ H Q => td σ H fun x H1 => ∃ a, x = .ref a ∧ (∃ xs, Rd H1 a (NtO P w a xs)) ∧ ty σ H1 fun y H2 => tx σ H2 fun z H3 => ∃ o, NGet P w K H3 a y o ∧ Q (o.getD z) H3
def tNNew (P : Program) (w : World) : TE := fun _ H Q => ∀ p, H p = none → Q (.ref p) (upd H p (NtO P w p []))
section
variable {X : Cx} {o i e f value : Expr} {pos pos' tpos apos cpos : Pos} {td ty tv tx : TE}
theorem pe_nnew : PE X (.Dict [] [] pos) (tNNew X.prog X.w) := ⟨fun pins s σ H Q I h =>
  wpAny_Dict_empty ⟨.ref s.heap.objs.size, _, I.laid (a := s.heap.objs.size) (o := NtO X.prog X.w s.heap.objs.size []) (t' := s.toks) (fun _ _ q => Heap.get?_push_of_some _ q) (Nat.le_refl _)
    (nt_mk (us := []) (es := #[]) (ep := 0) (Nat.zero_le _) (beq_eq_false_iff_ne.mpr (Ne.symm (Nat.ne_of_lt I.big))) .nil (Heap.get?_push_size _ rfl) ⟨rfl, rfl, rfl⟩ rfl rfl List.nodup_nil), rfl, h _ (I.hok.fresh (Nat.le_refl _))⟩⟩
theorem pe_nget (hu : X.A.units + 2 < cLine) (ho : PE X o td) (hi : PE X i ty) (hs : NoSl i) : PE X (.Subscript o i pos) (tNGet X.prog X.w X.K td ty) := by
  refine ⟨fun pins s σ H Q I h => ?_⟩
  refine subD_of PySem.F.slot_dict_getitem.lookup hs (thn (ho.run pins s σ H _ I h) fun u s1 ⟨x, H1, I1, rx, q1⟩ => thn (hi.run pins s1 σ H1 _ I1 q1) fun iv s2 ⟨y, H2, I2, ry, a, v, ex, g, q2⟩ => ?_)
  subst ex
  obtain rfl : u = Value.ref a := rx
  obtain ⟨xs, _, _, e, _⟩ := id g
  exact ⟨(nd_type I2 e).1, n_getItem hu I2 g ry fun w' s3 I3 rw' => ⟨v, H2, I3, rw', q2⟩⟩
theorem pc_nin (hu : X.A.units + 2 < cLine) (hi : PE X i ty) (ho : PE X o td) : PC X .In i o (tNIn X.prog X.w X.K ty td) := by
  refine ⟨fun pins s σ H Q I h => ?_⟩
  refine thn (hi.run pins s σ H _ I h) fun iv s1 ⟨y, H1, I1, ry, q1⟩ => thn (ho.run pins s1 σ H1 _ I1 q1) fun u s2 ⟨x, H2, I2, rx, a, ov, ex, g, q2⟩ => ?_
  subst ex
  obtain rfl : u = Value.ref a := rx
  exact n_in hu I2 g ry fun s3 I3 => ⟨.bl ov.isSome, H2, I3, rfl, q2⟩
theorem pc_nnotin (hu : X.A.units + 2 < cLine) (hi : PE X i ty) (ho : PE X o td) : PC X .NotIn i o (tNNotIn X.prog X.w X.K ty td) := by
  refine ⟨fun pins s σ H Q I h => ?_⟩
  refine thn (hi.run pins s σ H _ I h) fun iv s1 ⟨y, H1, I1, ry, q1⟩ => thn (ho.run pins s1 σ H1 _ I1 q1) fun u s2 ⟨x, H2, I2, rx, a, ov, ex, g, q2⟩ => ?_
  subst ex
  obtain rfl : u = Value.ref a := rx
  exact n_notIn hu I2 g ry fun s3 I3 => ⟨.bl (!ov.isSome), H2, I3, rfl, q2⟩
theorem ps_nput (hu : X.A.units + 2 < cLine) (ho : PE X o td) (hi : PE X i ty) (hv : PE X value tv) (hs : swapsWith value (some (.Subscript o i pos')) pos.line X.env = pure false) :
    PS X (.Assign [.Subscript o i pos'] value pos) (sNPut X.prog X.w X.K td ty tv) := by
  refine ⟨fun pins s σ H D I h => ?_⟩
  refine wpAny_Assign_Subscript (thn (hv.run pins s σ H _ I h) fun r s1 ⟨v, H1, I1, rv, q1⟩ => thn (ho.run pins s1 σ H1 _ I1 q1) fun u s2 ⟨x, H2, I2, rx, q2⟩ => thn (hi.run pins s2 σ H2 _ I2 q2) fun iv s3 ⟨y, H3, I3, ry, a, H4, ex, g, q3⟩ => ?_) hs
  subst ex
  obtain rfl : u = Value.ref a := rx
  exact n_setItem hu I3 g ry rv fun s4 I4 => ⟨σ, H4, I4, q3⟩
theorem pe_nget2 (hu : X.A.units + 2 < cLine) (ho : PE X o td) (he : PE X e ty) (hf : PE X f tx) (m : M2 X o "get" apos e f cpos) : PE X (.Call (.Attribute o "get" apos) [e, f] [] cpos) (tNGet2 X.prog X.w X.K td ty tx) := by
  refine ⟨fun pins s σ H Q I h => ?_⟩
  refine wpAny_Call_method m.base m.few m.line PySem.F.plainAttrs_dict PySem.F.slot_dict_get PySem.F.type_dict_get (thn (ho.run pins s σ H _ I h) fun u s1 ⟨x, H1, I1, rx, a, ex, ⟨xs, d⟩, q1⟩ => ?_)
  subst ex
  obtain rfl : u = Value.ref a := rx
  obtain ⟨t1, t2⟩ := nd_type I1 d
  refine ⟨t1, t2, ?_⟩
  rw [m.trees]
  refine Calls.callWith_builtin rfl (Calls.evalArgs_plain (Calls.spliced_cons (thn (he.run pins s1 σ H1 _ I1 q1) fun iv s2 ⟨y, H2, I2, ry, q2⟩ =>
    Calls.spliced_cons (thn (hf.run pins s2 σ H2 _ I2 q2) fun fv s3 ⟨z, H3, I3, rz, ov, g, q3⟩ => Calls.spliced_nil ?_))))
  exact n_get2 hu I3 g ry rz fun w' s4 I4 rw' => ⟨_, H3, I4, rw', q3⟩
end
end L2.Nk

/-! # dicts whose keys are tuples of tuples of ints, 3: their keys walked -/
namespace L2.Nk
open PySem PySem.Spec PyProof.Rows
/-- the keys of the locked dict at d, each its own tuple -/
def Itkn (P : Program) (w : World) (d : Addr) (o : Obj) (xs : List Ent) : It :=
  ⟨fun i H => H d = some (.frz o (NtO P w d xs)) ∧ i < xs.length, fun i H x H' => H' = H ∧ ∃ e, xs[i]? = some e ∧ x = .ref e.2.1, fun i H => H d = some (.frz o (NtO P w d xs)) ∧ xs.length ≤ i⟩
section
variable {X : Cx} {pins : List (Addr × Obj)} {σ : St} {H : Hp} {s : Shared} {d : Addr} {o : Obj}
theorem kn_get {xs : List Ent} {us : List (Wd × Addr × Value)} (r : KN xs us) : ∀ {i : Nat} {e : Ent}, xs[i]? = some e → ∃ q, us[i]? = some q ∧ q.2.1 = e.2.1 := by
  induction r with
  | nil => intro i e h; simp at h
  | cons h _ ih =>
    intro i e he
    cases i with
    | zero => simp at he; subst he; exact ⟨_, rfl, h.2.1.symm⟩
    | succ j => simpa using ih (by simpa using he)
theorem frzN {xs : List Ent} (I : Inv X pins σ H s) (h : H d = some (.frz o (NtO X.prog X.w d xs))) : (d == sysModules) = false ∧ s.heap.get? d = some o ∧ o.ExactDict ∧ ∃ (es : Array DictEntry) (ep : Nat), o.data = .dict es ep ∧ es.size = xs.length ∧
    ∀ (i : Nat) (e : Ent), xs[i]? = some e → ∃ en : DictEntry, es[i]? = some en ∧ en.key = .ref e.2.1 := by
  obtain ⟨hd, y⟩ := (show ObjOk X.prog X.w H s.heap d (.frz o (NtO X.prog X.w d xs)) from I.hok d _ h)
  obtain ⟨z, hs, us, rel, o', es, ep, ho, hx, hdt, he, _⟩ := nt_ok y
  rw [hd] at ho
  cases ho
  refine ⟨hs, hd, hx, es, ep, hdt, ?_, fun i e q => ?_⟩
  · have l2 : xs.length = us.length := Paired.length rel
    have l1 : es.toList.length = us.length := by rw [he, List.length_map]
    rw [Array.length_toList] at l1
    omega
  · obtain ⟨q', h1, h2⟩ := kn_get rel q
    have : es.toList[i]? = some (entryOfKey (knd X.prog X.w) q') := by rw [he, List.getElem?_map, h1]; rfl
    rw [Array.getElem?_toList] at this
    exact ⟨_, this, by show Value.ref q'.2.1 = _; rw [h2]⟩
end
section
variable {P : Program} {w : World} {K : PySem.W.Frag} {tg : Expr} {d : Addr} {o : Obj} {es : Array DictEntry} {ep : Nat}
theorem turn_keysN {xs : List Ent} (it : Addr) (hod : o.data = .dict es ep) : Turn P w K tg (Itkn P w d o xs) [it] it (fun i h => h.IsKeyIter it d i xs.length ep) where
  mem := by simp
  obj := fun i h st b hb => by
    have e : b = it := by simpa using hb
    subst e
    obtain ⟨oi, e, c, dd⟩ := st
    exact ⟨oi, e, fun v z => by rw [dd] at z; cases z⟩
  keep := fun i h h' st k => st.at fun oi e => k it (by simp) oi e
  item := by
    intro X hP hw hK hc i pins s σ H E I hf st hg
    subst hP hw hK
    obtain ⟨hd, hi⟩ := hg
    obtain ⟨f0, f1, f2, f3, f4, f5⟩ := hf it (by simp)
    obtain ⟨hs, hgd, hx, es', ep', hdt, hsz, ent⟩ := frzN I hd
    obtain ⟨rfl, rfl⟩ := dict_ep hod hdt
    obtain ⟨e, he⟩ : ∃ p, xs[i]? = some p := ⟨xs[i], List.getElem?_eq_getElem hi⟩
    obtain ⟨en, hen, hkey⟩ := ent i e he
    refine next_key_item st hgd hdt hsz hen fun h' st' sb => ?_
    have I1 : Inv X pins σ H { s with heap := h' } := I.turned (t' := s.toks) (fun b ob hb e => (sb.2 b hb).trans e) f0 f1 f3 f4 f5
    obtain ⟨oi, e1, c, dd⟩ := id st'
    exact ⟨en.key, rfl, go_of (s := { s with heap := h' }) e1 c dd (by decide) ⟨.ref e.2.1, H, I1, hkey, ⟨rfl, e, he, rfl⟩, st', fun b hb => (hf b hb).1⟩⟩
  done := by
    intro X hP hw hK hc i pins s σ H E I hf st hg
    subst hP hw hK
    obtain ⟨hd, hi⟩ := hg
    obtain ⟨f0, f1, f2, f3, f4, f5⟩ := hf it (by simp)
    obtain ⟨hs, hgd, hx, es', ep', hdt, hsz, ent⟩ := frzN I hd
    obtain ⟨rfl, rfl⟩ := dict_ep hod hdt
    exact next_key_end (I.ok.hd hc) st hgd hdt hsz hi fun h' eb => ⟨rfl, I.turned (t' := s.toks) (fun b ob hb e => eb b ob hb e) f0 f1 f3 f4 f5⟩
  self := fun A i s Q E st h => by
    refine wpAny_pyIter_slot st.typeIs F.slot_dict_keyiterator_iter (wpAny_call_entry F.slot_dict_keyiterator_iter st.typeIs F.entry_dict_keyiterator_iter ?_ (F.args_dict_keyiterator_iter_1 _))
    show wpAny _ _ (ret (.ref it)) _ _ s
    exact wpAny_pure ⟨_, rfl, "dict_keyiterator", _, st.typeIs, F.slot_dict_keyiterator_next.lookup, h⟩
theorem walk_keysN {xs : List Ent} : Walk (Itkn P w d o xs) xs.length (fun H => H d = some (.frz o (NtO P w d xs))) (fun i H x H' => H' = H ∧ ∃ e, xs[i]? = some e ∧ x = .ref e.2.1) :=
  ⟨fun _ _ hi q => ⟨q, hi⟩, fun _ q => ⟨q, Nat.le_refl _⟩, fun _ _ _ _ _ _ y => y⟩
end
def iKeysN (P : Program) (w : World) (td : TE) : TI := fun σ H R => td σ H fun x H1 => ∃ d o xs, x = .ref d ∧ H1 d = some (.frz o (NtO P w d xs)) ∧ R (Itkn P w d o xs) H1
section
variable {X : Cx} {tg e : Expr} {td : TE}
theorem pi_keysN (he : PE X e td) : PI X tg e (iKeysN X.prog X.w td) := by
  refine ⟨fun pins s σ H R I h => ?_⟩
  refine thn (he.run pins s σ H _ I h) fun u s1 ⟨x, H1, I1, rx, d, o, xs, ex, hd, q⟩ => ?_
  subst ex
  obtain rfl : u = Value.ref d := rx
  obtain ⟨hs, hgd, hx, es, ep, hdt, hsz, ent⟩ := frzN I1 hd
  refine iter_keys hs hgd hx hdt (pi_one (tk := s1.toks) I1 _ (turn_keysN _ hdt) ⟨_, Heap.get?_push_size _ rfl, rfl, ?_⟩ q)
  rw [hsz] <;> rfl
end
end L2.Nk

/-! # sorted(xs, key=lambda t: (len(t[1]), t[1])): the key -/
namespace L2.Nk
open PySem PySem.Spec PyProof.Rows
/-- the key's data -/
def dLine (l : List Int) : PyData := .tuple (l.map .int)
def dWord (k : Wd) : PyData := .tuple (k.map dLine)
def dKey (k : Wd) : PyData := .tuple [.int k.length, dWord k]
abbrev kArgs (y : Str) (p1 : Pos) : Arguments := { posonlyargs := [], args := [{ arg := y, annotation := none, pos := p1 : PySem.Arg }], vararg := none, kwonlyargs := [], kw_defaults := [], kwarg := none, defaults := [] }
abbrev kBody (y : Str) (p2 p3 p4 p5 p6 p7 p8 p9 p10 : Pos) : Expr :=
  .Tuple [.Call (.Name "len" p2) [.Subscript (.Name y p3) (.Constant (.int 1) 0 p4) p5] [] p6, .Subscript (.Name y p7) (.Constant (.int 1) 0 p8) p9] 0 p10
section
variable {prog : Program} {w : World} {A : Around} {E : Value → Shared → Prop} {s : Shared} {env : Env} {m mg mb : Str → Option Value} {y : Str} {t b : Addr} {c : Value} {items : Array Value} {Q : Value → Shared → Prop}
theorem k_item {p q r : Pos} (hk : env.scope.kind = .function) (hl : env.kindOf y = some .local) (hn : s.heap.Ns env.locals m) (hv : m y = some (.ref t)) (ht : IsTup s.heap t #[c, .ref b]) (hd : (y == ("__debug__" : Str)) = false)
    (h : Q (.ref b) { s with toks := s.toks + 1 }) : wpAny (model prog w) A (eval (.Subscript (.Name y p) (.Constant (.int 1) 0 q) r) env) Q E s := by
  refine Subscript_ (wpAny_Name (wpAny_loadName_local hk hl hn hv (wpAny_Constant_int ?_)) hd)
  exact subscriptTail_builtinR (x := .ref b) (s := { s with toks := s.toks + 1 }) ht.typeIs slot_tuple_getitem.lookup
    (getItem_tuple (s := { s with toks := s.toks + 1 }) (j := 1) (items := #[c, .ref b]) ht (by decide) (by decide) rfl rfl ⟨rfl, h⟩)
theorem k_body {p2 p3 p4 p5 p6 p7 p8 p9 p10 : Pos} (hk : env.scope.kind = .function) (hl : env.kindOf y = some .local) (hg : env.kindOf ("len" : Str) = some .globalImplicit) (hn : s.heap.Ns env.locals m) (hv : m y = some (.ref t))
    (ng : s.heap.Ns env.globals mg) (hm : mg ("len" : Str) = none) (nb : s.heap.Ns env.builtins mb) (hb : mb ("len" : Str) = some (.builtin "len"))
    (ht : IsTup s.heap t #[c, .ref b]) (hw : IsTup s.heap b items) (hz : items.size ≤ sizeLine) (hd : (y == ("__debug__" : Str)) = false)
    (h : ∀ (n tk : Nat), Q (.ref s.heap.objs.size) { s with heap := s.heap.push { cls := .type "tuple", data := .seq #[.int items.size n, .ref b] }, toks := tk }) :
    wpAny (model prog w) A (eval (kBody y p2 p3 p4 p5 p6 p7 p8 p9 p10) env) Q E s := by
  have hs := sizeLine_eq
  refine wpAny_Tuple_spliced ?_
  show wpAny _ _ (spliced ((false, eval (.Call (.Name "len" p2) [.Subscript (.Name y p3) (.Constant (.int 1) 0 p4) p5] [] p6) env) :: backTo p10 (starEach [.Subscript (.Name y p7) (.Constant (.int 1) 0 p8) p9] env))) _ _ s
  refine Calls.spliced_cons (wpAny_Call_Name_kw (Calls.Name_function_global hk hg (Calls.loadGlobal_builtin ng hm nb hb ?_)))
  refine PyProof.Rows.callWith_builtin1 ?_ (by rfl) (by rfl)
  show wpAny _ _ (spliced ((false, eval (.Subscript (.Name y p3) (.Constant (.int 1) 0 p4) p5) env) :: backTo p6 (starEach [] env))) _ _ s
  refine Calls.spliced_cons (k_item hk hl hn hv ht hd (Calls.spliced_nil ?_))
  refine len_tuple (s := { s with toks := s.toks + 1 }) hw (by omega) ?_
  show wpAny _ _ (spliced ((false, eval (.Subscript (.Name y p7) (.Constant (.int 1) 0 p8) p9) env) :: backTo p10 (starEach [] env))) _ _ _
  refine Calls.spliced_cons (k_item (s := { s with toks := s.toks + 1 + 1 + 1 }) hk hl hn hv ht hd (Calls.spliced_nil ⟨by show 2 ≤ _; omega, h _ _⟩))
/-- the lambda called with one item: the key, all that was there is kept -/
theorem k_turn {p1 p2 p3 p4 p5 p6 p7 p8 p9 p10 : Pos} {f c' : Addr} {qual : Str} {scope : Scope} {cl : List (Str × Addr)} {pm ctv : Value} {k : Wd}
    (room : A.depth < recursionLimit) (hf : s.heap.get? f = some (PySem.W.kla_obj "<lambda>" qual (kArgs y p1) (kBody y p2 p3 p4 p5 p6 p7 p8 p9 p10) scope cl pm c' ctv)) (hcd : s.heap.CodeRec (.ref c') qual) (lim : s.heap.NoLimit)
    (hbind : bindArgs (PySem.W.kla_fn "<lambda>" qual (kArgs y p1) (kBody y p2 p3 p4 p5 p6 p7 p8 p9 p10) scope cl pm (.ref c') ctv) ⟨[.ref t], []⟩ = pure [(y, .ref t)])
    (hk : scope.kind = .function) (hco : scope.isCoroutine = false) (hgen : scope.isGenerator = false) (hnc : ∀ x ∈ scope.names, x.2 ≠ .cell) (hl : scope.names.lookup y = some .local) (hg : scope.names.lookup ("len" : Str) = some .globalImplicit)
    (ng : s.heap.Ns mainGlobals mg) (hm : mg ("len" : Str) = none) (nb : s.heap.Ns builtinsNs mb) (hb : mb ("len" : Str) = some (.builtin "len"))
    (ht : IsTup s.heap t #[c, .ref b]) (hw : IsTup s.heap b items) (hz : items.size ≤ sizeLine) (hlen : items.size = k.length) (rd : Reads s.heap (.ref b) (dWord k) []) (hd : (y == ("__debug__" : Str)) = false) :
    wpAny (model prog w) A (call (.ref f) [.ref t]) (PySem.W.KeyPure (dKey k) s) (fun _ _ => False) s := by
  refine wpAny_call (PySem.W.kla_callFunE room hf rfl hco hgen rfl hcd ?_)
  rw [hbind]
  refine wpAny_pure (wpAny_newFunctionEnv hnc (fun x hx => by rw [List.mem_singleton.mp hx]; exact hl) (fun h₁ hns hsb => ⟨lim.fresh _ hsb, ?_⟩) hk)
  have kp : ∀ b o, s.heap.get? b = some o → h₁.get? b = some o := fun b o e => hsb.extBut b o (Nat.ne_of_lt (Heap.lt_size e)) (Heap.get?_push_of_some _ e)
  refine PySem.W.kla_codeExpr ?_
  refine k_body (s := { s with heap := h₁, toks := s.toks + 1 }) (m := fun x => [(y, Value.ref t)].reverse.lookup x) (mg := mg) (mb := mb) (t := t) (b := b) (c := c) (items := items) hk hl hg hns (by simp) (ng.keeps kp) hm (nb.keeps kp) hb (ht.keeps kp) (hw.keeps kp) hz hd fun n tk => ?_
  refine ⟨_, tk, rfl, fun b o e => Heap.get?_push_of_some _ (kp b o e), ?_⟩
  refine .tuple (Heap.get?_push_size _ rfl) rfl rfl ?_
  show ReadsAll _ [.int items.size n, .ref b] [.int k.length, dWord k] []
  rw [hlen]
  exact .cons (.int _ _) (.cons (PyProof.Rows.Reads.keeps (fun b o e => Heap.get?_push_of_some _ (kp b o e)) rd) .nil)
end
end L2.Nk

/-! # sorted(xs, key=lambda t: (len(t[1]), t[1])): the keys as data -/
namespace L2.Nk
open PySem PySem.Spec PyProof.Rows
theorem rd_ints {h : Heap} : ∀ {l : List Int} {us : List Value}, Vals (l.map V.int) us → ReadsAll h us (l.map PyData.int) []
  | [], _, e => by cases e; exact .nil
  | i :: l, _, e => by
    cases e with
    | cons h1 h2 =>
      obtain ⟨t, rfl⟩ := h1
      exact .cons (.int i t) (rd_ints h2)
theorem alike_ints : ∀ (l l' : List Int), PySem.W.alikeAll (l.map PyData.int) (l'.map PyData.int) = true
  | [], _ => by simp [PySem.W.alikeAll]
  | _ :: _, [] => by simp [PySem.W.alikeAll]
  | a :: l, b :: l' => by simp [PySem.W.alikeAll, PySem.W.alike, alike_ints l l']
theorem alike_lines : ∀ (k k' : Wd), PySem.W.alikeAll (k.map dLine) (k'.map dLine) = true
  | [], _ => by simp [PySem.W.alikeAll]
  | _ :: _, [] => by simp [PySem.W.alikeAll]
  | a :: l, b :: l' => by simp [PySem.W.alikeAll, dLine, PySem.W.alike, alike_ints a b, alike_lines l l']
theorem alike_keys (k k' : Wd) : PySem.W.alike (dKey k) (dKey k') = true := by
  simp [dKey, dWord, PySem.W.alike, PySem.W.alikeAll, alike_lines k k']
theorem deep_ints : ∀ l : List Int, PyData.depthAll (l.map PyData.int) ≤ 1
  | [] => by simp [PyData.depthAll]
  | a :: l => by have := deep_ints l; simp [PyData.depthAll, PyData.depth] <;> omega
theorem deep_lines : ∀ k : Wd, PyData.depthAll (k.map dLine) ≤ 3
  | [] => by simp [PyData.depthAll]
  | a :: l => by
    have h1 := deep_lines l
    have h2 := deep_ints a
    simp only [List.map_cons, PyData.depthAll, dLine, PyData.depth]
    omega
theorem deep_key (k : Wd) : (dKey k).depth ≤ 8 := by
  have h1 := deep_lines k
  simp only [dKey, dWord, PyData.depth, PyData.depthAll]
  omega
section
variable {X : Cx} {pins : List (Addr × Obj)} {σ : St} {H H' : Hp} {s : Shared}
theorem rd_line (I : Inv X pins σ H s) {c : Addr} {l : List Int} (h : SqT X.K H c (l.map V.int)) : Reads s.heap (.ref c) (dLine l) [] := by
  obtain ⟨us, r, ⟨o, e, hc, n, hd⟩, _⟩ := I.tuple h
  exact .tuple e hc hd (by simpa using rd_ints r)
theorem rd_lines (I : Inv X pins σ H s) {bs : List Addr} {k : Wd} (h : Paired (fun c l => SqT X.K H c (l.map V.int)) bs k) : ∀ {its : List Value}, Vals (bs.map V.ref) its → ReadsAll s.heap its (k.map dLine) [] := by
  induction h with
  | nil => intro its r; cases r; exact .nil
  | cons h1 _ ih =>
    intro its r
    cases r with
    | cons r1 r2 =>
      cases r1
      exact .cons (rd_line I h1) (ih r2)
theorem rd_word (I : Inv X pins σ H s) {k : Wd} {b : Addr} (h : NKey X.K H k b) : ∃ items : Array Value, IsTup s.heap b items ∧ items.size = k.length ∧ items.size ≤ sizeLine ∧ Reads s.heap (.ref b) (dWord k) [] := by
  obtain ⟨bs, h1, h2⟩ := h
  obtain ⟨its, r, it, hz⟩ := I.tuple h1
  have l1 : bs.length = k.length := Paired.length h2
  have l2 : (bs.map V.ref).length = its.length := Vals.length r
  rw [List.length_map] at l2
  rw [List.length_map] at hz
  refine ⟨its.toArray, it, by simp; omega, by simp; omega, ?_⟩
  obtain ⟨o, e, hc, n, hd⟩ := it
  exact .tuple e hc hd (by simpa using rd_lines I h2 r)
end
/-! what stays where only tables of code are written -/
theorem rd_ext {H H' : Hp} {a : Addr} {u : HO} (e : LamX.ExtN H H') (n : ∀ ps, u ≠ .tbl ps) (h : Rd H a u) : Rd H' a u := by
  rcases h with h | ⟨o, h⟩
  · exact .inl (e _ _ h n)
  · exact .inr ⟨o, e _ _ h (fun ps z => by cases z)⟩
theorem sqT_ext {K : PySem.W.Frag} {H H' : Hp} {a : Addr} {xs : List V} (e : LamX.ExtN H H') (h : SqT K H a xs) : SqT K H' a xs := by
  rcases h with h | h
  · exact .inl (rd_ext e (fun ps z => by cases z) h)
  · exact .inr h
theorem sqL_ext {K : PySem.W.Frag} {H H' : Hp} {a : Addr} {xs : List V} (e : LamX.ExtN H H') (h : SqL K H a xs) : SqL K H' a xs := by
  rcases h with h | h
  · exact .inl (rd_ext e (fun ps z => by cases z) h)
  · exact .inr h
theorem nKey_ext {K : PySem.W.Frag} {H H' : Hp} {k : Wd} {b : Addr} (e : LamX.ExtN H H') (h : NKey K H k b) : NKey K H' k b := h.mono fun _ _ => sqT_ext e
/-- at p: a term, its word k -/
def TermAt (K : PySem.W.Frag) (H : Hp) (p : Addr × Wd) : Prop := ∃ (c : V) (b : Addr), SqT K H p.1 [c, .ref b] ∧ NKey K H p.2 b
theorem TermAt.ext {K : PySem.W.Frag} {H H' : Hp} {p : Addr × Wd} (e : LamX.ExtN H H') (h : TermAt K H p) : TermAt K H' p := by
  obtain ⟨c, b, h1, h2⟩ := h
  exact ⟨c, b, sqT_ext e h1, nKey_ext e h2⟩
/-- the terms in order -/
def sortW (bs : List (Addr × Wd)) : List (Addr × Wd) := bs.mergeSort (PySem.W.dataLe false fun p => dKey p.2)
end L2.Nk

/-! # sorted(xs, key=lambda t: (len(t[1]), t[1])): the rule -/
namespace L2.Nk
open PySem PySem.Spec PyProof.Rows PySem.W
def tSortW (K : PySem.W.Frag) (T : List (Addr × Str)) (ta : TE) : TE := fun σ H Q => ta σ H fun x H1 => LamX.Tabs T H1 ∧ ∃ a bs, x = .ref a ∧ SqL K H1 a (bs.map fun p : Addr × Wd => V.ref p.1) ∧ (∀ p ∈ bs, TermAt K H1 p) ∧
  ∀ H2, LamX.ExtN H1 H2 → LamX.Tabs T H2 → ∀ q, H2 q = none → Q (.ref q) (upd H2 q (.lst ((sortW bs).map fun p => V.ref p.1)))
theorem vals_refs {bs : List (Addr × Wd)} : ∀ {us : List Value}, Vals (bs.map fun p => V.ref p.1) us → us = bs.map fun p => Value.ref p.1 := by
  induction bs with
  | nil => intro us r; cases r; rfl
  | cons p bs ih =>
    intro us r
    cases r with
    | cons r1 r2 =>
      cases r1
      rw [ih r2]; rfl
theorem each_refs : ∀ bs : List (Addr × Wd), EachIs (fun (v : Value) (p : Addr × Wd) => v = .ref p.1) (bs.map fun p => Value.ref p.1) bs
  | [] => .nil
  | _ :: bs => .cons rfl (each_refs bs)
theorem refs_each : ∀ {out : List Value} {bs : List (Addr × Wd)}, EachIs (fun (v : Value) (p : Addr × Wd) => v = .ref p.1) out bs → Vals (bs.map fun p => V.ref p.1) out
  | _, _, .nil => .nil
  | _, _, .cons h t => .cons h (refs_each t)
/-- the lambda's names: its parameter y, the global len -/
structure KeyS (y : Str) (scope : Scope) : Prop where
  kind : scope.kind = .function
  co : scope.isCoroutine = false
  gen : scope.isGenerator = false
  own : ∀ x ∈ scope.names, x.2 ≠ .cell ∧ x.2 ≠ .free
  loc : scope.names.lookup y = some .local
  len : scope.names.lookup ("len" : Str) = some .globalImplicit
  db : (y == ("__debug__" : Str)) = false
section
variable {X : Cx} {xs : Expr} {ta : TE} {T : List (Addr × Str)} {c P : Addr} {y : Str} {scope : Scope} {kn : Nat}
theorem pe_sortW {p p0 p1 p2 p3 p4 p5 p6 p7 p8 p9 p10 p11 pos : Pos} (hg : Gl X "sorted") (hm : X.mg "sorted" = none) (hmL : X.mg "len" = none) (ha : PE X xs ta) (hr : Room (kn + 2) X.A)
    (TB : LamX.TabB X.base X.mg c P) (hcode : X.env.code = .ref c) (hmT : (P, X.env.qual ++ "<lambda>") ∈ T) (hu : ∀ p ∈ T, p.1 = P → p.2 = X.env.qual ++ "<lambda>") (L : KeyS y scope)
    (hbind : ∀ (q : Str) (cl : List (Str × Addr)) (pm cv ctv : Value) (t : Addr), bindArgs (PySem.W.kla_fn "<lambda>" q (kArgs y p1) (kBody y p2 p3 p4 p5 p6 p7 p8 p9 p10) scope cl pm cv ctv) ⟨[.ref t], []⟩ = pure [(y, .ref t)])
    (hs : starEach [xs] X.env = (false, eval xs X.env) :: starEach [] X.env := by rfl) (hbt : bootBuiltins "sorted" = some (.builtin "sorted")) :
    PE X (.Call (.Name "sorted" p) [xs] [⟨some "key", .Lambda (kArgs y p1) (kBody y p2 p3 p4 p5 p6 p7 p8 p9 p10) scope p11, p0⟩] pos) (tSortW X.K T ta) := by
  refine ⟨fun pins s σ H Q I h => ?_⟩
  refine wpAny_Call_Name_kw (ld_blt I hg hm hbt ?_)
  refine PyProof.Rows.callWith_kw ?_ (by rw [hs]; rfl) (by rw [hs]; rfl) (by rfl) (by rfl)
  rw [hs]
  show wpAny _ _ (spliced ((false, eval xs X.env) :: backTo pos (starEach [] X.env))) _ _ s
  refine Calls.spliced_cons (thn (ha.run pins s σ H _ I h) fun v s1 ⟨x, H1, I1, r1, hT, a, bs, ex, hl, hb, q⟩ => Calls.spliced_nil ?_)
  subst ex
  obtain rfl : v = Value.ref a := r1
  refine PyProof.Rows.kws_cons (LamX.lam_make2 I1 TB hcode hmT hu hT (by rfl) (fun z hz e => absurd e (L.own z hz).2) fun f c' pm ctv H2 s2 I2 eN T2 hf hfn hfr hco => PyProof.Rows.kws_nil ?_)
  show wpAny _ _ (call (.builtin "sorted") [.ref a] [(Str.ofString "key", .ref f)]) _ _ s2
  obtain ⟨us, ru, pl, hz⟩ := I2.list (sqL_ext eN hl)
  rw [vals_refs ru] at pl
  rw [List.length_map] at hz
  obtain ⟨⟨oc, vs, t, hoc, hdc, hvc⟩, _, _⟩ := I2.hok c' _ hco
  obtain ⟨mb, n1, n2⟩ := I2.mod.blt
  have hr2 : Room kn X.A.in1.in1 := hr.in1.in1
  have hun := hr.un
  refine PySem.W.sorted_key_data (b := false) (bs := bs) (k := fun p : Addr × Wd => dKey p.2) (f := .ref f) pl.isList (each_refs bs) ?_ ?_ hz (fun p _ => by have := deep_key p.2; omega) (ksk_s1 _ _) (fun _ => ksk_l1 _ _) (fun _ => ksk_t1 _ _) ?_ ?_
  · intro d hd d' hd'
    obtain ⟨p1, _, rfl⟩ := List.mem_map.mp hd
    obtain ⟨p2, _, rfl⟩ := List.mem_map.mp hd'
    exact alike_keys _ _
  · refine .inl fun d hd => ?_
    obtain ⟨p1, _, rfl⟩ := List.mem_map.mp hd
    exact ⟨_, _, rfl⟩
  · rintro v ⟨ta', k⟩ rfl hx h3 tk kp
    obtain ⟨cv, b, e1, e2⟩ := (hb _ hx).ext eN
    obtain ⟨us1, ru1, it1, _⟩ := I2.tuple e1
    obtain ⟨items, it2, hsz, hz2, rdw⟩ := rd_word I2 e2
    cases ru1 with
    | cons ra rb =>
      cases rb with
      | cons rb rn =>
        cases rn
        cases rb
        exact k_turn (s := { s2 with heap := h3, toks := tk }) (mg := X.mg) (mb := mb) hr2.depth (kp _ _ hf) ⟨c', oc, vs, t, rfl, kp _ _ hoc, hdc, hvc⟩ (I2.nolimit.keeps kp) (hbind _ _ _ _ _ _) L.kind L.co L.gen (fun z hz => (L.own z hz).1) L.loc L.len
          ((I2.mod.glob.keeps I2.bk).keeps kp) hmL ((n1.keeps I2.bk).keeps kp) ((n2 _ (by decide)).trans boot_len) (it1.keeps kp) (it2.keeps kp) hz2 hsz (PyProof.Rows.Reads.keeps kp rdw) L.db
  · intro out cc h3 tk kp hfree hat hlen hout
    have hln : out.length ≤ sizeLine := by rw [hlen]; exact hz
    have rv : Vals ((sortW bs).map fun p => V.ref p.1) out := refs_each hout
    have I3 : Inv X pins σ (upd H2 (s2.heap.objs.size + 1) (.lst ((sortW bs).map fun p => V.ref p.1))) { s2 with heap := h3, toks := tk } :=
      I2.laid (t' := tk) kp (Nat.le_succ _) ⟨by rw [rv.length]; exact hln, out, cc, rv, hat⟩
    exact ⟨.ref _, _, I3, rfl, q H2 eN T2 _ (I2.hok.fresh (Nat.le_succ _))⟩
end
end L2.Nk

/-! # sorted of pairs (len(word), word) -/
namespace L2.Nk
open PySem PySem.Spec PyProof.Rows PySem.W
/-- at p: the pair of a word's length and the word -/
def PairAt (K : PySem.W.Frag) (H : Hp) (p : Addr × Wd) : Prop := ∃ b, SqT K H p.1 [.int p.2.length, .ref b] ∧ NKey K H p.2 b
def rSortP (K : PySem.W.Frag) (vs : List V) (H : Hp) (Q : VK) : Prop := ∃ a bs, vs = [.ref a] ∧ SqL K H a (bs.map fun p : Addr × Wd => V.ref p.1) ∧ (∀ p ∈ bs, PairAt K H p) ∧
  ∀ q, H q = none → Q (.ref q) (upd H q (.lst ((sortW bs).map fun p => V.ref p.1)))
section
variable {X : Cx} {pins : List (Addr × Obj)} {σ : St} {H : Hp} {s : Shared}
theorem rd_pair (I : Inv X pins σ H s) {p : Addr × Wd} (h : PairAt X.K H p) : ∃ as, Reads s.heap (.ref p.1) (dKey p.2) as := by
  obtain ⟨b, h1, h2⟩ := h
  obtain ⟨us, ru, ⟨o, e, hc, n, hd⟩, _⟩ := I.tuple h1
  obtain ⟨_, _, _, _, rdw⟩ := rd_word I h2
  refine ⟨[], .tuple e hc hd ?_⟩
  cases ru with
  | cons ra rb =>
    cases rb with
    | cons rb rn =>
      cases rn
      obtain ⟨t, rfl⟩ := ra
      cases rb
      exact .cons (.int _ t) (.cons rdw .nil)
theorem each_pairs (I : Inv X pins σ H s) : ∀ bs : List (Addr × Wd), (∀ p ∈ bs, PairAt X.K H p) → EachIs (fun (v : Value) (p : Addr × Wd) => ∃ as, Reads s.heap v (dKey p.2) as) (bs.map fun p => Value.ref p.1) bs
  | [], _ => .nil
  | p :: bs, h => .cons (rd_pair I (h p (.head _))) (each_pairs I bs fun q hq => h q (.tail _ hq))
theorem cr_sortedP (hun : X.A.units + 64 < cLine) : CallR X (.builtin "sorted") (rSortP X.K) := by
  intro pins s σ H vs us Q I r h
  obtain ⟨a, bs, rfl, hl, hb, q⟩ := h
  cases r with
  | cons r1 r2 =>
    cases r2
    cases r1
    obtain ⟨us, ru, pl, hz⟩ := I.list hl
    rw [vals_refs ru] at pl
    rw [List.length_map] at hz
    refine sorted_data (bs := bs) (enc := fun p : Addr × Wd => dKey p.2) pl.isList (each_refs bs) (each_pairs I bs hb) ?_ ?_ hz (fun p _ => by have := deep_key p.2; omega) fun out hlen hout => ?_
    · intro d hd d' hd'
      obtain ⟨p1, _, rfl⟩ := List.mem_map.mp hd
      obtain ⟨p2, _, rfl⟩ := List.mem_map.mp hd'
      exact alike_keys _ _
    · refine .inl fun d hd => ?_
      obtain ⟨p1, _, rfl⟩ := List.mem_map.mp hd
      exact ⟨_, _, rfl⟩
    · have rv : Vals ((sortW bs).map fun p => V.ref p.1) out := refs_each hout
      obtain ⟨ep, he'⟩ := PyProof.Rows.sortedAll_at s.heap (bs.map fun p => Value.ref p.1) (List.toArray out)
      exact ⟨.ref _, upd H (s.heap.objs.size + 1) (.lst ((sortW bs).map fun p => V.ref p.1)), I.laid (t' := s.toks) (fun _ _ => PyProof.Rows.sortedAll_old) (Nat.le_succ _) ⟨by rw [rv.length, hlen]; exact hz, out, ep, rv, he'⟩, rfl, q _ (I.hok.fresh (Nat.le_succ _))⟩
end
end L2.Nk

/-! # what is drawn from the script: numbers, cells, rows -/
namespace L2.Dw
open PySem PySem.Spec PyProof.Rows L2.Vf
def top (i : Nat) : Stmt := PySem.Challenge.pw_latesums_k12_forms_added_and_multiplied.main.body.getD i (.Pass ⟨0, 0, 0, 0⟩)
/-- the place of the first of these defs -/
abbrev d0 : Nat := 28
abbrev sMi : Stmt := top (d0 + 0)
abbrev sPu : Stmt := top (d0 + 1)
abbrev sDr : Stmt := top (d0 + 2)
abbrev sSi : Stmt := top (d0 + 3)
abbrev sCe : Stmt := top (d0 + 4)
abbrev sRo : Stmt := top (d0 + 5)
/-- names that stay the built-in ones -/
structure Nm (mg : Str → Option Value) : Prop where
  isi : mg "isinstance" = none
  int : mg "int" = none
  bool : mg "bool" = none
  lst : mg "list" = none
  tup : mg "tuple" = none
  rng : mg "range" = none
  len : mg "len" = none
  sum : mg "sum" = none
  max : mg "max" = none
  zip : mg "zip" = none
  rep : mg "repr" = none
theorem same_new {H : Hp} {p : Addr} {o : HO} (h : H p = none) : Same H (upd H p o) := fun b u e => by
  rw [upd_ne (ne_of_none e h)]
  exact e
theorem upd_self {H : Hp} {g : Addr} {o : HO} (h : H g = some o) : upd H g o = H := by
  funext b
  by_cases e : b = g
  · rw [e, upd_same, h]
  · rw [upd_ne e]
/-- all but g stays -/
def Keep (g : Addr) (H H' : Hp) : Prop := ∀ b o, b ≠ g → H b = some o → H' b = some o
theorem Keep.refl {g : Addr} {H : Hp} : Keep g H H := fun _ _ _ e => e
theorem Keep.trans {g : Addr} {H H1 H2 : Hp} (a : Keep g H H1) (b : Keep g H1 H2) : Keep g H H2 := fun c o n e => b c o n (a c o n e)
theorem Keep.of {g : Addr} {H H' : Hp} (s : Same H H') : Keep g H H' := fun b o _ e => s b o e
theorem keep_upd {g : Addr} {H : Hp} {o : HO} : Keep g H (upd H g o) := fun b u n e => by
  rw [upd_ne n]
  exact e
theorem Keep.new {g p : Addr} {H H' : Hp} {o : HO} (k : Keep g H H') (h : H' p = none) : Keep g H (upd H' p o) := k.trans (.of (same_new h))
/-- the purse: what is left of the digits, the number, how often it was mixed (at most c times) -/
def Pu (H : Hp) (g : Addr) (c : Nat) : Prop := ∃ x y z : Int, H g = some (.lst [.int x, .int y, .int z]) ∧ 0 ≤ y ∧ y < 2147483648 ∧ 0 ≤ z ∧ z ≤ c
theorem Pu.mono {H H' : Hp} {g : Addr} {c : Nat} (h : Pu H g c) (s : Same H H') : Pu H' g c := by
  obtain ⟨x, y, z, h1, h2⟩ := h
  exact ⟨x, y, z, s _ _ h1, h2⟩
theorem Pu.le {H : Hp} {g : Addr} {c d : Nat} (h : Pu H g c) (l : c ≤ d) : Pu H g d := by
  obtain ⟨x, y, z, h1, h2, h3, h4, h5⟩ := h
  exact ⟨x, y, z, h1, h2, h3, h4, by omega⟩
theorem Pu.lst {H : Hp} {g : Addr} {c : Nat} (h : Pu H g c) : ∃ xs, H g = some (.lst xs) := by
  obtain ⟨x, y, z, h1, _⟩ := h
  exact ⟨_, h1⟩
theorem Pu.keep {H H' : Hp} {g b : Addr} {c : Nat} (h : Pu H g c) (k : Keep b H H') (n : g ≠ b) : Pu H' g c := by
  obtain ⟨x, y, z, h1, h2⟩ := h
  exact ⟨x, y, z, k _ _ n h1, h2⟩
theorem Pu.ne {H : Hp} {g p : Addr} {c : Nat} (h : Pu H g c) (hp : H p = none) : g ≠ p := by
  obtain ⟨x, y, z, h1, _⟩ := h
  exact ne_of_none h1 hp
def spMi : Sp := fun vs H Q _ => ∃ s i : Int, vs = [.int s, .int i] ∧ 0 ≤ s ∧ s < 2147483648 ∧ 0 ≤ i ∧ i < 1000000000 ∧ ∀ n : Int, Q (.int n) H
def spPu (K : PySem.W.Frag) : Sp := fun vs H Q _ => ∃ (a : Addr) (ns : List Int) (i : Nat), vs = [.ref a, .int (i : Nat)] ∧ SqL K H a (ns.map V.int) ∧ i ≤ 1000 ∧ ∀ (p : Addr) (H' : Hp), H p = none → Same H H' → Pu H' p (1000 * i) → Q (.ref p) H'
def spDr : Sp := fun vs H Q _ => ∃ (g : Addr) (n : Int) (c : Nat), vs = [.ref g, .int n] ∧ 0 < n ∧ n < 2 ^ 70 ∧ Pu H g c ∧ c ≤ 100000000 ∧ ∀ (r : Int) (H' : Hp), 0 ≤ r → r < n → Keep g H H' → Pu H' g (c + 3) → Q (.int r) H'
def spSi : Sp := fun vs H Q _ => ∃ (g : Addr) (m : Int) (c : Nat), vs = [.ref g, .int m] ∧ 0 ≤ m ∧ m < 2 ^ 67 ∧ Pu H g c ∧ c ≤ 100000000 ∧ ∀ (r : Int) (H' : Hp), -m ≤ r → r ≤ m → Keep g H H' → Pu H' g (c + 3) → Q (.int r) H'
section
variable {P : Program} {w : World} {K : PySem.W.Frag} {mg : Str → Option Value} {base : Heap}
theorem scMi : FnScope ["_law_cell_here", "_law_k", "_law_number"] ["_law_cell_here", "_law_k"] (defScope sMi) := ⟨rfl, rfl, rfl, by decide +kernel, rfl, by decide +kernel, by decide +kernel⟩
theorem ok_mi {f : Addr} {fd : FuncData} (F : Fun K "_law_mixed" "_law_mixed" sMi f fd) : FnOk P w K mg base CX0 1 f fd ["_law_cell_here", "_law_k"] spMi := by
  refine F.ok scMi (fun vs H Q E h => ?_) fun cdv A outer s H vs Q E hr h => ?_
  · obtain ⟨a, ns, rfl, _⟩ := h
    rfl
  · obtain ⟨s0, i, rfl, h1, h2, h3, h4, q⟩ := h
    refine ⟨_, pss_cons (ps_set (i := 2) scMi.nd rfl (.inl rfl) (pe_op op_mod (pe_op op_add (pe_op op_add (pe_op op_add (pe_op op_mul (pv 0) pe_int) (pe_op op_mul (pe_op op_mul pe_int (pv 1)) (pv 1))) (pv 1)) pe_int) pe_int))
      (pss_cons (ps_set (i := 2) scMi.nd rfl (.inl rfl) (pe_op op_mod (pe_op op_add (pe_op op_mul (pv 2) (pv 2)) pe_int) pe_int))
      (pss_one (ps_ret (pe_op op_mod (pe_op op_mul (pv 2) pe_int) pe_int)))), ?_⟩
    refine ⟨_, rfl, _, _, rfl, rfl, .inl ⟨by omega, by omega⟩, _, rfl, _, _, rfl, rfl, .inl ⟨by decide, by decide⟩, _, rfl, _, _, rfl, rfl, .inr ⟨by omega, by omega⟩, _, _, rfl, rfl, _, rfl, _, _, rfl, rfl, _, _, rfl, rfl, _, _, rfl, rfl, (by show (0 : Int) < 2147483647; decide), ?_⟩
    have b1 := Int.emod_nonneg (s0 * 1103515245 + 7919 * i * i + i + 1) (show (2147483647 : Int) ≠ 0 by decide)
    have b2 := Int.emod_lt_of_pos (s0 * 1103515245 + 7919 * i * i + i + 1) (show (0 : Int) < 2147483647 by decide)
    generalize (s0 * 1103515245 + 7919 * i * i + i + 1) % 2147483647 = m at b1 b2
    refine ⟨_, rfl, _, rfl, _, _, rfl, rfl, .inl ⟨by omega, by omega⟩, _, _, rfl, rfl, _, _, rfl, rfl, (by show (0 : Int) < 2147483629; decide), ?_⟩
    exact ⟨_, rfl, _, _, rfl, rfl, .inr ⟨by decide, by decide⟩, _, _, rfl, rfl, (by show (0 : Int) < 2147483587; decide), q _⟩
theorem scPu : FnScope ["_law_script", "_law_at", "_law_cell_here"] ["_law_script", "_law_at"] (defScope sPu) := ⟨rfl, rfl, rfl, by decide +kernel, rfl, by decide +kernel, by decide +kernel⟩
theorem cut_ints (ns : List Int) (lo hi : Option Int) : ∃ ms : List Int, cutV (ns.map V.int) lo hi = ms.map V.int := ⟨_, by unfold cutV; rw [← List.map_drop, ← List.map_take]⟩
theorem boot_max : bootBuiltins "max" = some (.builtin "max") := by decide +kernel
theorem boot_sum : bootBuiltins "sum" = some (.builtin "sum") := by decide +kernel
theorem ok_pu {f : Addr} {fd : FuncData} (F : Fun K "_law_purse" "_law_purse" sPu f fd) (N : Nm mg) : FnOk P w K mg base CX0 1 f fd ["_law_script", "_law_at"] (spPu K) := by
  refine F.ok scPu (fun vs H Q E h => ?_) fun cdv A outer s H vs Q E hr h => ?_
  · obtain ⟨a, ns, i, rfl, _⟩ := h
    rfl
  · obtain ⟨a, ns, i, rfl, hS, hi, q⟩ := h
    refine ⟨_, pss_cons (ps_set (i := 2) scPu.nd rfl (.inl rfl) (pe_callB (cr_sum rfl) (by rfl) N.sum boot_sum (pa_cons (pe_slice sl_list (pv 0) (po_some (pv 1)) (po_some (pe_op op_add (pv 1) pe_int))) pa_nil)))
      (pss_one (ps_ret (pe_lst (pa_cons (pe_op op_mod (pe_callB (call_max2 rfl) (by rfl) N.max boot_max (pa_cons (pe_op op_sub (pv 2) (pe_op op_powW pe_int pe_int)) (pa_cons pe_int pa_nil))) (pe_op op_powW (pe_op op_powW pe_int pe_int) pe_int))
        (pa_cons (pe_op op_mod (pv 2) pe_int) (pa_cons (pe_op op_mul pe_int (pv 1)) pa_nil)))))), ?_⟩
    obtain ⟨ms, hm⟩ := cut_ints ns (some (i : Int)) (some ((i : Int) + 1))
    refine ⟨_, rfl, _, rfl, _, rfl, _, rfl, _, _, rfl, rfl, _, rfl, a, _, rfl, hS, fun l hl => ⟨l, ms, rfl, SqL.of (by rw [upd_same, hm]), ?_⟩⟩
    generalize ms.sum = n
    refine ⟨_, rfl, _, _, rfl, rfl, ⟨by decide, by decide +kernel⟩, _, _, rfl, rfl, _, _, rfl, _, _, rfl, rfl, ⟨by decide, by decide +kernel⟩, _, _, rfl, rfl, ⟨by decide, by decide +kernel⟩, _, _, rfl, rfl, ?_, ?_⟩
    · show (0 : Int) < (10 ^ Int.toNat 60) ^ Int.toNat 10
      decide +kernel
    · refine ⟨_, rfl, _, _, rfl, rfl, (by show (0 : Int) < 2147483647; decide), _, rfl, _, _, rfl, rfl, .inl ⟨by decide, by decide⟩, (by show 3 ≤ sizeLine; decide), fun p hp => ?_⟩
      have s1 := same_new (o := .lst (cutV (ns.map V.int) (some (i : Int)) (some ((i : Int) + 1)))) hl
      refine q p _ (s1.free hp) (s1.trans (same_new hp)) ⟨_, _, _, upd_same, Int.emod_nonneg _ (by decide), Int.lt_of_lt_of_le (Int.emod_lt_of_pos n (show (0 : Int) < 2147483647 by decide)) (by decide), by omega, by omega⟩
theorem scDr : FnScope ["_law_purse_here", "_law_out_of", "_law_drawn", "_law_number", "_law_k"] ["_law_purse_here", "_law_out_of"] (defScope sDr) := ⟨rfl, rfl, rfl, by decide +kernel, rfl, by decide +kernel, by decide +kernel⟩
theorem bits70 {n : Int} (h0 : 0 < n) (h : n < 2 ^ 70) : Builtin.Int.intBits n ≤ 70 := by
  unfold Builtin.Int.intBits
  split
  · omega
  · have : n.natAbs < 2 ^ 70 := by omega
    have := PySem.Flt.log2_lt_of (show 0 < 70 by decide) this
    omega
theorem ok_dr {f fM : Addr} {fd dM : FuncData} (F : Fun K "_law_draw" "_law_draw" sDr f fd) (N : Nm mg) (GM : FnOk P w K mg base CX0 1 fM dM ["_law_cell_here", "_law_k"] spMi) (mM : mg "_law_mixed" = some (.ref fM)) (kM : PySem.W.keepIn K (.ref fM) = true) (bM : Binds K dM ["_law_cell_here", "_law_k"] []) :
    FnOk P w K mg base CX0 2 f fd ["_law_purse_here", "_law_out_of"] spDr := by
  refine F.ok scDr (fun vs H Q E h => ?_) fun cdv A outer s H vs Q E hr h => ?_
  · obtain ⟨g, x, y, rfl, _⟩ := h
    rfl
  · obtain ⟨g, n, c, rfl, hn, hn2, ⟨x, y, z, hg, h1, h2, h3, h4⟩, hc, q⟩ := h
    refine ⟨_, pss_cons (ps_if (pt_cmpR op_gt (pe_ix ix_list (pv 0) pe_int (fun _ _ => rfl)) pe_int (nomark _))
        (pss_cons (ps_set (i := 2) scDr.nd rfl (.inl rfl) (pe_op op_mod (pe_ix ix_list (pv 0) pe_int (fun _ _ => rfl)) (pv 1)))
        (pss_cons (ps_asg (pe_op op_fdivW (pe_ix ix_list (pv 0) pe_int (fun _ _ => rfl)) (pv 1)) (pg_sub (pv 0) pe_int set_list))
        (pss_one (ps_ret (pv 2))))) pss_nil)
      (pss_cons (ps_set (i := 3) scDr.nd rfl (.inl rfl) pe_int)
      (pss_cons (ps_for PassesOwn.never rfl (pi_range1 (by rfl) N.rng (pa_cons (pe_op op_add pe_int (pe_op op_fdiv (pe_bits (pv 1)) pe_int)) pa_nil)) (pg_name (i := 4) scDr.nd rfl (Or.inl rfl))
        (pss_cons (ps_asg (pe_op op_add (pe_ix ix_list (pv 0) pe_int (fun _ _ => rfl)) pe_int) (pg_sub (pv 0) pe_int set_list))
        (pss_one (ps_set (i := 3) scDr.nd rfl (.inl rfl) (pe_op op_add (pe_op op_mul (pv 3) pe_int) (pe_call GM hr rfl mM kM bM .nil pass0 (pa_cons (pe_ix ix_list (pv 0) pe_int (fun _ _ => rfl)) (pa_cons (pe_ix ix_list (pv 0) pe_int (fun _ _ => rfl)) pa_nil))))))))
      (pss_one (ps_ret (pe_op op_mod (pv 3) (pv 1)))))), ?_⟩
    refine ⟨_, rfl, g, _, 0, .int x, rfl, rfl, SqL.of hg, rfl, _, _, rfl, rfl, _, rfl, ?_⟩
    refine ite2 (fun _ => ?_) fun _ => ?_
    · refine ⟨_, rfl, g, _, 0, .int x, rfl, rfl, SqL.of hg, rfl, _, rfl, _, _, rfl, rfl, hn, ?_⟩
      refine ⟨_, rfl, g, _, 0, .int x, rfl, rfl, SqL.of hg, rfl, _, rfl, _, _, rfl, rfl, wide_div hn (show n.natAbs < 2 ^ 70 by omega) (by decide) (by decide), ?_⟩
      refine ⟨_, rfl, g, _, 0, 0, rfl, rfl, hg, rfl, ?_⟩
      exact ⟨_, rfl, q _ _ (Int.emod_nonneg x (by omega)) (Int.emod_lt_of_pos x hn) keep_upd ⟨_, _, _, upd_same, h1, h2, h3, by omega⟩⟩
    · have hb := bits70 hn hn2
      generalize hm : Builtin.Int.intBits n = m at hb
      refine ⟨_, rfl, _, rfl, _, _, rfl, rfl, ⟨by decide, by decide⟩, _, _, rfl, rfl, _, rfl, ?_⟩
      rw [hm]
      have hk : ∃ k : Nat, 1 + (m : Int) / 30 = (k : Int) ∧ k ≤ 3 := ⟨1 + m / 30, by omega, by omega⟩
      obtain ⟨k, hk, hk3⟩ := hk
      rw [hk]
      refine ⟨by omega, by omega, ?_⟩
      refine for_range (lo := 0) (n := k) (fun i σ H' => ∃ (d : Int) (t : Option V), σ = [some (.ref g), some (.int n), none, some (.int d), t] ∧ H' = upd H g (.lst [.int x, .int y, .int (z + (i : Nat))])) ⟨0, none, rfl, ?_⟩ (fun i σ H' hi hP => ?_) fun σ H' hP => ?_
      · rw [show z + ((0 : Nat) : Int) = z by simp]
        exact (upd_self hg).symm
      · obtain ⟨d, t, rfl, rfl⟩ := hP
        refine ⟨_, rfl, g, _, 2, _, rfl, rfl, SqL.of upd_same, rfl, _, _, rfl, rfl, _, rfl, g, _, 2, 2, rfl, rfl, upd_same, rfl, ?_⟩
        refine ⟨_, rfl, _, _, rfl, rfl, .inr ⟨by decide, by decide⟩, _, rfl, g, _, 1, .int y, rfl, rfl, SqL.of upd_same, rfl, _, rfl, g, _, 2, _, rfl, rfl, SqL.of upd_same, rfl, y, z + (i : Int) + 1, rfl, h1, h2, by omega, by omega, fun r => ?_⟩
        refine ⟨_, _, rfl, rfl, _, _, rfl, ?_⟩
        rw [upd_upd, show z + ((i + 1 : Nat) : Int) = z + (i : Int) + 1 by omega]
        rfl
      · obtain ⟨d, t, rfl, rfl⟩ := hP
        exact ⟨_, rfl, _, rfl, _, _, rfl, rfl, hn, q _ _ (Int.emod_nonneg d (by omega)) (Int.emod_lt_of_pos d hn) keep_upd ⟨_, _, _, upd_same, h1, h2, by omega, by omega⟩⟩
theorem scSi : FnScope ["_law_purse_here", "_law_most"] ["_law_purse_here", "_law_most"] (defScope sSi) := ⟨rfl, rfl, rfl, by decide +kernel, rfl, by decide +kernel, by decide +kernel⟩
theorem ok_si {f fD : Addr} {fd dD : FuncData} (F : Fun K "_law_signed" "_law_signed" sSi f fd) (GD : FnOk P w K mg base CX0 2 fD dD ["_law_purse_here", "_law_out_of"] spDr) (mD : mg "_law_draw" = some (.ref fD)) (kD : PySem.W.keepIn K (.ref fD) = true) (bD : Binds K dD ["_law_purse_here", "_law_out_of"] []) :
    FnOk P w K mg base CX0 3 f fd ["_law_purse_here", "_law_most"] spSi := by
  refine F.ok scSi (fun vs H Q E h => ?_) fun cdv A outer s H vs Q E hr h => ?_
  · obtain ⟨g, x, y, rfl, _⟩ := h
    rfl
  · obtain ⟨g, m, c, rfl, hm, hm2, hp, hc, q⟩ := h
    refine ⟨_, pss_one (ps_ret (pe_op op_sub (pe_call GD hr rfl mD kD bD .nil pass0 (pa_cons (pv 0) (pa_cons (pe_op op_add (pe_op op_mul pe_int (pv 1)) pe_int) pa_nil))) (pv 1))), ?_⟩
    refine ⟨_, rfl, _, rfl, _, _, rfl, rfl, .inl ⟨by decide, by decide⟩, _, _, rfl, rfl, g, 2 * m + 1, c, rfl, by omega, by omega, hp, hc, fun r H' h1 h2 k p' => ?_⟩
    exact ⟨_, rfl, _, _, rfl, rfl, q _ _ (by omega) (by omega) k p'⟩
end
end L2.Dw

/-! # what counts as a whole number, a line, a matrix, a cell, a row: asked of any data -/
namespace L2.Ch
open PySem PySem.Spec PyProof.Rows L2.Vf L2.Dw
abbrev sWh : Stmt := top 2
abbrev sAr : Stmt := top 3
abbrev sWi : Stmt := top 4
abbrev sFc : Stmt := top 5
abbrev sFr : Stmt := top 6
def tyD : PyData → String
  | .none => "NoneType"
  | .bool _ => "bool"
  | .int _ => "int"
  | .str _ => "str"
  | .list _ => "list"
  | .tuple _ => "tuple"
  | .dict _ => "dict"
def isI : PyData → Bool
  | .int _ => true
  | _ => false
def lineD (n : Nat) : PyData → Bool
  | .list ds => ds.length == n && ds.all isI
  | _ => false
def matD : PyData → Bool
  | .list ds => decide (1 ≤ ds.length) && decide (ds.length ≤ 2) && ds.all (lineD ds.length)
  | _ => false
def cellD (n : Nat) : PyData → Bool
  | .tuple ds => ds.length == n && ds.all isI
  | _ => false
def rowD (n : Nat) : PyData → Bool
  | .list ds => ds.all (cellD n)
  | _ => false
section
variable {K : PySem.W.Frag} {H : Hp}
theorem sh_ty {v : V} {d : PyData} {as : List Addr} (h : Sh K H v d as) : TyX K H v (.type (tyD d)) := by
  cases h with
  | non => exact .base .non
  | bl b => exact .base (.bl b)
  | int i => exact .base (.int i)
  | str x => exact .base (.str x)
  | lst h _ =>
    rcases h with (h | ⟨o, h⟩) | ⟨o, its, n, hk, hc, _⟩
    · exact .base (.lst h)
    · exact .base (.frz h)
    · exact .kList hk hc
  | tup h _ =>
    rcases h with (h | ⟨o, h⟩) | ⟨o, its, n, hk, hc, _⟩
    · exact .base (.tup h)
    · exact .fTuple h
    · exact .kTuple hk hc
  | dK h _ =>
    rcases h with h | ⟨o, h⟩
    · exact .base (.dK h)
    · exact .fDict h
theorem kit_int (d : PyData) : kitB (tyD d) "int" = some (isI d || tyD d == "bool") := by cases d <;> kernel_rfl
theorem kit_bool (d : PyData) : kitB (tyD d) "bool" = some (tyD d == "bool") := by cases d <;> kernel_rfl
theorem kit_list (d : PyData) : kitB (tyD d) "list" = some (tyD d == "list") := by cases d <;> kernel_rfl
theorem kit_tuple (d : PyData) : kitB (tyD d) "tuple" = some (tyD d == "tuple") := by cases d <;> kernel_rfl
/-- isinstance(slot i, T) -/
abbrev tIsT (K : PySem.W.Frag) (i : Nat) (n : String) : TE := tCB (rIsi K) (tCons (tVar i) (tCons (tC (.ty n)) tNil))
/-- len of slot i -/
abbrev tLenS (K : PySem.W.Frag) (i : Nat) : TE := tCB (fun xs H Q => ∃ p ys, xs = [.ref p] ∧ (SqL K H p ys ∨ SqT K H p ys) ∧ Q (.int ys.length) H) (tCons (tVar i) tNil)
theorem isT_run {σ : St} {i : Nat} {v : V} {d : PyData} {as : List Addr} {n : String} {b : Bool} {Q : VK} (hσ : σ[i]? = some (some v)) (h : Sh K H v d as) (e : kitB (tyD d) n = some b) (q : Q (.bl b) H) : tIsT K i n σ H Q :=
  ⟨_, hσ, _, _, _, _, b, rfl, .ty n, sh_ty h, kit_ty e, q⟩
end
/-! ### a list or tuple in a slot, walked until one item does not fit -/
def iSeq (K : PySem.W.Frag) (i : Nat) : TI := fun σ H R => ∃ a, σ[i]? = some (some (.ref a)) ∧ (((∃ xs, SqL K H a xs) ∧ R (Itl K a) H) ∨ ((∃ xs, SqT K H a xs) ∧ R (Itt K a) H))
section
variable {X : Cx} {tg e : Expr} {i : Nat}
theorem pi_seq (h1 : PI X tg e (iList X.K (tVar i))) (h2 : PI X tg e (iTup X.K (tVar i))) : PI X tg e (iSeq X.K i) := by
  refine ⟨fun pins s σ H R I h => ?_⟩
  obtain ⟨a, e, ⟨x, q⟩ | ⟨x, q⟩⟩ := h
  · exact h1.run pins s σ H R I ⟨_, e, a, rfl, x, q⟩
  · exact h2.run pins s σ H R I ⟨_, e, a, rfl, x, q⟩
end
/-- one turn: if not f(x): return False -/
def tTurn (te : TE) : TS := tIfS (tNot (tB te)) (tRet (tC (.bl false))) tNext
section
theorem Shs.get {K : PySem.W.Frag} {H : Hp} : ∀ {xs : List V} {ds : List PyData} {as : List Addr} {i : Nat} {x : V}, Shs K H xs ds as → xs[i]? = some x → ∃ d bs, ds[i]? = some d ∧ Sh K H x d bs
  | _, _, _, _, _, .nil, e => by simp at e
  | _, _, _, 0, _, .cons h _, e => by simp at e; subst e; exact ⟨_, _, rfl, h⟩
  | _, _, _, i + 1, _, .cons _ t, e => by
    obtain ⟨d, bs, h1, h2⟩ := Shs.get (i := i) t (by simpa using e)
    exact ⟨d, bs, by simpa using h1, h2⟩
variable {K : PySem.W.Frag} {H : Hp} {σ0 : St} {i0 : Nat} {te : TE} {D : Ends} {xs : List V} {a : Addr} {f : PyData → Bool} {ds : List PyData} {as : List Addr}
theorem all_list (hi : i0 < σ0.length) (hx : SqL K H a xs) (hs : Shs K H xs ds as) (ht : ∀ x d bs (o : Option V) (Q : VK), Sh K H x d bs → Q (.bl (f d)) H → te ((σ0.set i0 o).set i0 (some x)) H Q)
    (hf : ds.all f = false → D.rt (.bl false) H) (hd : ds.all f = true → ∀ o, D.nx (σ0.set i0 o) H) (o0 : Option V) :
    ∃ W : Nat → Nat → St → Hp → Prop, (∃ m, W 0 m (σ0.set i0 o0) H) ∧ ∀ i m σ H, W i m σ H →
      ((Itl K a).stop i H ∧ D.nx σ H) ∨ ((Itl K a).go i H ∧ ∃ N : St → Hp → Prop, (∀ σ' H', N σ' H' → ∃ m', m' < m ∧ W (i + 1) m' σ' H') ∧ ∀ x H', (Itl K a).yld i H x H' → gName i0 x σ H' fun σ2 H2 => tTurn te { D with nx := N, ct := N, bk := D.nx } σ2 H2) := by
  refine for_list (xs := xs) (fun i σ H' => H' = H ∧ (∃ o, σ = σ0.set i0 o) ∧ ∀ j d, j < i → ds[j]? = some d → f d = true) ⟨rfl, ⟨o0, rfl⟩, fun j x h => absurd h (by omega)⟩ (fun i σ H' _ hP => ?_) (fun i x σ H' hx' hP => ?_) fun σ H' hP => ?_
  · rw [hP.1]; exact hx
  · obtain ⟨rfl, ⟨o, rfl⟩, h⟩ := hP
    obtain ⟨d, bs, hd', hsh⟩ := Shs.get hs hx'
    refine ht x d bs o _ hsh ⟨f d, rfl, ?_⟩
    cases e : f d with
    | false =>
      refine iteT (hf ?_)
      rw [List.all_eq_false]
      exact ⟨d, List.mem_of_getElem? hd', by rw [e]; simp⟩
    | true =>
      refine iteF ⟨rfl, ⟨some x, by rw [List.set_set]⟩, fun j y hj hy => ?_⟩
      by_cases q : j < i
      · exact h j y q hy
      · have : j = i := by omega
        subst this
        rw [hd'] at hy
        cases hy
        exact e
  · obtain ⟨rfl, ⟨o, rfl⟩, h⟩ := hP
    refine hd ?_ o
    rw [List.all_eq_true]
    intro x hx'
    obtain ⟨j, hj⟩ := List.getElem?_of_mem hx'
    exact h j x (by rw [hs.length]; exact (List.getElem?_eq_some_iff.mp hj).1) hj
theorem all_tup (hi : i0 < σ0.length) (hx : SqT K H a xs) (hs : Shs K H xs ds as) (ht : ∀ x d bs (o : Option V) (Q : VK), Sh K H x d bs → Q (.bl (f d)) H → te ((σ0.set i0 o).set i0 (some x)) H Q)
    (hf : ds.all f = false → D.rt (.bl false) H) (hd : ds.all f = true → ∀ o, D.nx (σ0.set i0 o) H) (o0 : Option V) :
    ∃ W : Nat → Nat → St → Hp → Prop, (∃ m, W 0 m (σ0.set i0 o0) H) ∧ ∀ i m σ H, W i m σ H →
      ((Itt K a).stop i H ∧ D.nx σ H) ∨ ((Itt K a).go i H ∧ ∃ N : St → Hp → Prop, (∀ σ' H', N σ' H' → ∃ m', m' < m ∧ W (i + 1) m' σ' H') ∧ ∀ x H', (Itt K a).yld i H x H' → gName i0 x σ H' fun σ2 H2 => tTurn te { D with nx := N, ct := N, bk := D.nx } σ2 H2) := by
  refine for_tup (xs := xs) (fun i σ H' => H' = H ∧ (∃ o, σ = σ0.set i0 o) ∧ ∀ j d, j < i → ds[j]? = some d → f d = true) ⟨rfl, ⟨o0, rfl⟩, fun j x h => absurd h (by omega)⟩ (fun i σ H' _ hP => ?_) (fun i x σ H' hx' hP => ?_) fun σ H' hP => ?_
  · rw [hP.1]; exact hx
  · obtain ⟨rfl, ⟨o, rfl⟩, h⟩ := hP
    obtain ⟨d, bs, hd', hsh⟩ := Shs.get hs hx'
    refine ht x d bs o _ hsh ⟨f d, rfl, ?_⟩
    cases e : f d with
    | false =>
      refine iteT (hf ?_)
      rw [List.all_eq_false]
      exact ⟨d, List.mem_of_getElem? hd', by rw [e]; simp⟩
    | true =>
      refine iteF ⟨rfl, ⟨some x, by rw [List.set_set]⟩, fun j y hj hy => ?_⟩
      by_cases q : j < i
      · exact h j y q hy
      · have : j = i := by omega
        subst this
        rw [hd'] at hy
        cases hy
        exact e
  · obtain ⟨rfl, ⟨o, rfl⟩, h⟩ := hP
    refine hd ?_ o
    rw [List.all_eq_true]
    intro x hx'
    obtain ⟨j, hj⟩ := List.getElem?_of_mem hx'
    exact h j x (by rw [hs.length]; exact (List.getElem?_eq_some_iff.mp hj).1) hj
end
/-- a def that answers whether data fits, and changes nothing -/
def spAsk (K : PySem.W.Frag) (p : PyData → Bool) : Sp := fun vs H Q _ => ∃ v d as, vs = [v] ∧ Sh K H v d as ∧ Q (.bl (p d)) H
def spAsk2 (K : PySem.W.Frag) (p : Nat → PyData → Bool) : Sp := fun vs H Q _ => ∃ v d as, ∃ n : Nat, vs = [v, .int (n : Nat)] ∧ Sh K H v d as ∧ Q (.bl (p n d)) H
/-- are_whole: of a list or tuple -/
def spAr (K : PySem.W.Frag) : Sp := fun vs H Q _ => ∃ v d as ds, vs = [v] ∧ Sh K H v d as ∧ (d = .list ds ∨ d = .tuple ds) ∧ Q (.bl (ds.all isI)) H
section
variable {P : Program} {w : World} {K : PySem.W.Frag} {mg : Str → Option Value} {base : Heap}
theorem scWh : FnScope ["value"] ["value"] (defScope sWh) := ⟨rfl, rfl, rfl, by decide +kernel, rfl, by decide +kernel, by decide +kernel⟩
theorem boot_isi : bootBuiltins "isinstance" = some (.builtin "isinstance") := by decide +kernel
theorem ok_wh {f : Addr} {fd : FuncData} (F : Fun K "is_whole" "is_whole" sWh f fd) (N : Nm mg) : FnOk P w K mg base CX0 1 f fd ["value"] (spAsk K isI) := by
  refine F.ok scWh (fun vs H Q E h => ?_) fun cdv A outer s H vs Q E hr h => ?_
  · obtain ⟨v, d, as, rfl, _⟩ := h
    rfl
  · obtain ⟨v, d, as, rfl, hs, q⟩ := h
    refine ⟨tRet (tAndV (tIsT K 0 "int") (tNotV (tIsT K 0 "bool"))), pss_one (ps_ret (pe_and (pe_callB call_isi (by rfl) N.isi boot_isi (pa_cons (pv 0) (pa_cons (pe_bltn (by rfl) N.int PyProof.Rows.boot_int (by rfl)) pa_nil)))
      (pe_one (pe_not (pe_callB call_isi (by rfl) N.isi boot_isi (pa_cons (pv 0) (pa_cons (pe_bltn (by rfl) N.bool PyProof.Rows.Boot.«bool» (by rfl)) pa_nil))))))), ?_⟩
    refine isT_run rfl hs (kit_int d) ⟨_, rfl, ?_⟩
    cases d <;> first | exact iteF q | exact iteT (isT_run rfl hs (kit_bool _) ⟨_, rfl, q⟩)
theorem scAr : FnScope ["values", "value"] ["values"] (defScope sAr) := ⟨rfl, rfl, rfl, by decide +kernel, rfl, by decide +kernel, by decide +kernel⟩
theorem ok_ar {f fW : Addr} {fd dW : FuncData} (F : Fun K "are_whole" "are_whole" sAr f fd) (GW : FnOk P w K mg base CX0 1 fW dW ["value"] (spAsk K isI)) (mW : mg "is_whole" = some (.ref fW)) (kW : PySem.W.keepIn K (.ref fW) = true) (bW : Binds K dW ["value"] []) : FnOk P w K mg base CX0 2 f fd ["values"] (spAr K) := by
  refine F.ok scAr (fun vs H Q E h => ?_) fun cdv A outer s H vs Q E hr h => ?_
  · obtain ⟨v, d, as, ds, rfl, _⟩ := h
    rfl
  · obtain ⟨v, d, as, ds, rfl, hs, hd, q⟩ := h
    refine ⟨tSeq (tFor (iSeq K 0) (gName 1) (tTurn (tCall (spAsk K isI) [] E0 (tCons (tVar 1) tNil)))) (tRet (tC (.bl true))), pss_cons (ps_for PassesOwn.never rfl (pi_seq (pi_list (pv 0)) (pi_tup (pv 0))) (pg_name (i := 1) scAr.nd rfl (Or.inl rfl))
      (pss_one (ps_if (pt_not (pt_val (pe_call GW hr rfl mW kW bW .nil pass0 (pa_cons (pv 1) pa_nil)))) (pss_one (ps_ret pe_bl)) pss_nil))) (pss_one (ps_ret pe_bl)), ?_⟩
    have turn : ∀ (x : V) (d : PyData) (bs : List Addr) (o : Option V) (Q : VK), Sh K H x d bs → Q (.bl (isI d)) H → (tCall (spAsk K isI) [] E0 (tCons (tVar 1) tNil)) (((start ["values", "value"] [v]).set 1 o).set 1 (some x)) H Q := fun x d bs o Q h q => ⟨_, rfl, x, d, bs, rfl, h, q⟩
    rcases hd with rfl | rfl
    · cases hs with
      | @lst a xs _ _ h1 h2 => exact ⟨a, rfl, .inl ⟨⟨_, h1⟩, all_list (σ0 := start ["values", "value"] [.ref a]) (i0 := 1) (show 1 < 2 by decide) h1 h2 turn (fun e => by rw [e] at q; exact q) (fun e o => by rw [e] at q; exact q) none⟩⟩
    · cases hs with
      | @tup a xs _ _ h1 h2 => exact ⟨a, rfl, .inr ⟨⟨_, h1⟩, all_tup (σ0 := start ["values", "value"] [.ref a]) (i0 := 1) (show 1 < 2 by decide) h1 h2 turn (fun e => by rw [e] at q; exact q) (fun e o => by rw [e] at q; exact q) none⟩⟩
theorem scFc : FnScope ["value", "width"] ["value", "width"] (defScope sFc) := ⟨rfl, rfl, rfl, by decide +kernel, rfl, by decide +kernel, by decide +kernel⟩
theorem len_eq (n m : Nat) : (decide (((n : Nat) : Int) = ((m : Nat) : Int))) = (n == m) := by
  by_cases h : n = m
  · subst h; simp
  · rw [decide_eq_false (by omega)]; simp [h]
theorem ok_fc {f fA : Addr} {fd dA : FuncData} (F : Fun K "fits_cell" "fits_cell" sFc f fd) (N : Nm mg) (GA : FnOk P w K mg base CX0 2 fA dA ["values"] (spAr K)) (mA : mg "are_whole" = some (.ref fA)) (kA : PySem.W.keepIn K (.ref fA) = true) (bA : Binds K dA ["values"] []) : FnOk P w K mg base CX0 3 f fd ["value", "width"] (spAsk2 K cellD) := by
  refine F.ok scFc (fun vs H Q E h => ?_) fun cdv A outer s H vs Q E hr h => ?_
  · obtain ⟨v, d, as, n, rfl, _⟩ := h
    rfl
  · obtain ⟨v, d, as, n, rfl, hs, q⟩ := h
    refine ⟨_, pss_one (ps_ret (pe_and (pe_callB call_isi (by rfl) N.isi boot_isi (pa_cons (pv 0) (pa_cons (pe_bltn (v := V.ty "tuple") (by rfl) N.tup PyProof.Rows.boot_tuple (by rfl)) pa_nil)))
      (pe_and (pe_cmp (pc_eqI (pe_callB call_len_seq (by rfl) N.len PySem.boot_len (pa_cons (pv 0) pa_nil)) (pv 1)) rfl) (pe_one (pe_call GA hr rfl mA kA bA .nil pass0 (pa_cons (pv 0) pa_nil)))))), ?_⟩
    refine isT_run (σ := start ["value", "width"] [v, .int n]) rfl hs (kit_tuple d) ⟨_, rfl, ?_⟩
    cases d with
    | tuple ds =>
      refine iteT ?_
      have hs' := hs
      cases hs' with
      | @tup a xs _ _ h1 h2 =>
        refine ⟨_, rfl, a, _, rfl, .inr h1, _, rfl, _, _, rfl, rfl, _, rfl, ?_⟩
        rw [Shs.length h2, show (fun i j : Int => decide (i = j)) (ds.length : Int) (n : Int) = (ds.length == n) from len_eq _ _]
        cases e : (ds.length == n) with
        | false =>
          refine iteF ?_
          have : cellD n (.tuple ds) = false := by show (ds.length == n && ds.all isI) = false; rw [e]; rfl
          rw [this] at q
          exact q
        | true =>
          refine iteT ⟨_, rfl, _, _, _, ds, rfl, hs, .inr rfl, ?_⟩
          have : cellD n (.tuple ds) = ds.all isI := by show (ds.length == n && ds.all isI) = _; rw [e]; rfl
          rw [this] at q
          exact q
    | _ => exact iteF q
theorem scFr : FnScope ["value", "width", "cell"] ["value", "width"] (defScope sFr) := ⟨rfl, rfl, rfl, by decide +kernel, rfl, by decide +kernel, by decide +kernel⟩
theorem ok_fr {f fC : Addr} {fd dC : FuncData} (F : Fun K "fits_row" "fits_row" sFr f fd) (N : Nm mg) (GC : FnOk P w K mg base CX0 3 fC dC ["value", "width"] (spAsk2 K cellD)) (mC : mg "fits_cell" = some (.ref fC)) (kC : PySem.W.keepIn K (.ref fC) = true) (bC : Binds K dC ["value", "width"] []) : FnOk P w K mg base CX0 4 f fd ["value", "width"] (spAsk2 K rowD) := by
  refine F.ok scFr (fun vs H Q E h => ?_) fun cdv A outer s H vs Q E hr h => ?_
  · obtain ⟨v, d, as, n, rfl, _⟩ := h
    rfl
  · obtain ⟨v, d, as, n, rfl, hs, q⟩ := h
    refine ⟨tSeq (tIfS (tNot (tB (tIsT K 0 "list"))) (tRet (tC (.bl false))) tNext) (tSeq (tFor (iList K (tVar 0)) (gName 2) (tTurn (tCall (spAsk2 K cellD) [] E0 (tCons (tVar 2) (tCons (tVar 1) tNil))))) (tRet (tC (.bl true)))),
      pss_cons (ps_if (pt_not (pt_val (pe_callB call_isi (by rfl) N.isi boot_isi (pa_cons (pv 0) (pa_cons (pe_bltn (v := V.ty "list") (by rfl) N.lst PyProof.Rows.boot_list (by rfl)) pa_nil))))) (pss_one (ps_ret pe_bl)) pss_nil)
      (pss_cons (ps_for PassesOwn.never rfl (pi_list (pv 0)) (pg_name (i := 2) scFr.nd rfl (Or.inl rfl))
      (pss_one (ps_if (pt_not (pt_val (pe_call GC hr rfl mC kC bC .nil pass0 (pa_cons (pv 2) (pa_cons (pv 1) pa_nil))))) (pss_one (ps_ret pe_bl)) pss_nil))) (pss_one (ps_ret pe_bl))), ?_⟩
    refine isT_run (σ := start ["value", "width", "cell"] [v, .int n]) rfl hs (kit_list d) ⟨_, rfl, ?_⟩
    cases d with
    | list ds =>
      refine iteF ?_
      cases hs with
      | @lst a xs _ _ h1 h2 =>
        refine ⟨_, rfl, a, rfl, ⟨_, h1⟩, all_list (f := cellD n) (te := tCall (spAsk2 K cellD) [] E0 (tCons (tVar 2) (tCons (tVar 1) tNil))) (σ0 := start ["value", "width", "cell"] [.ref a, .int n]) (i0 := 2) (show 2 < 3 by decide) h1 h2 (fun x d bs o Q h q => ⟨_, rfl, _, rfl, x, d, bs, n, rfl, h, q⟩) (fun e => ?_) (fun e o => ?_) none⟩
        · have : rowD n (.list ds) = false := e
          rw [this] at q; exact q
        · have : rowD n (.list ds) = true := e
          rw [this] at q; exact q
    | _ => exact iteT q
end
end L2.Ch

/-! # what counts as a width, a letter, a term: asked of any data -/
namespace L2.Ch
open PySem PySem.Spec PyProof.Rows L2.Vf L2.Dw
abbrev sLe : Stmt := top 17
abbrev sTe : Stmt := top 18
def widD : PyData → Bool
  | .int i => decide (1 ≤ i) && decide (i ≤ 2)
  | _ => false
def nonD : PyData → Bool
  | .int i => decide (0 ≤ i)
  | _ => false
def letD (n : Nat) : PyData → Bool
  | .tuple ds => (ds.length == n && ds.all isI) && ds.all nonD
  | _ => false
def termD (n : Nat) : PyData → Bool
  | .tuple [c, .tuple ls] => isI c && ls.all (letD n)
  | _ => false
section
variable {K : PySem.W.Frag} {H : Hp} {σ0 : St} {i0 : Nat} {tt : TT} {D : Ends} {xs : List V} {a : Addr} {f : PyData → Bool} {ds : List PyData} {as : List Addr}
/-- a tuple walked until a test says so -/
theorem any_tup (hi : i0 < σ0.length) (hx : SqT K H a xs) (hs : Shs K H xs ds as) (ht : ∀ x d bs (o : Option V) (Q : Bool → Hp → Prop), d ∈ ds → Sh K H x d bs → Q (!f d) H → tt ((σ0.set i0 o).set i0 (some x)) H Q)
    (hf : ds.all f = false → D.rt (.bl false) H) (hd : ds.all f = true → ∀ o, D.nx (σ0.set i0 o) H) (o0 : Option V) :
    ∃ W : Nat → Nat → St → Hp → Prop, (∃ m, W 0 m (σ0.set i0 o0) H) ∧ ∀ i m σ H, W i m σ H →
      ((Itt K a).stop i H ∧ D.nx σ H) ∨ ((Itt K a).go i H ∧ ∃ N : St → Hp → Prop, (∀ σ' H', N σ' H' → ∃ m', m' < m ∧ W (i + 1) m' σ' H') ∧ ∀ x H', (Itt K a).yld i H x H' → gName i0 x σ H' fun σ2 H2 => tIfS tt (tRet (tC (.bl false))) tNext { D with nx := N, ct := N, bk := D.nx } σ2 H2) := by
  refine for_tup (xs := xs) (fun i σ H' => H' = H ∧ (∃ o, σ = σ0.set i0 o) ∧ ∀ j d, j < i → ds[j]? = some d → f d = true) ⟨rfl, ⟨o0, rfl⟩, fun j x h => absurd h (by omega)⟩ (fun i σ H' _ hP => ?_) (fun i x σ H' hx' hP => ?_) fun σ H' hP => ?_
  · rw [hP.1]; exact hx
  · obtain ⟨rfl, ⟨o, rfl⟩, h⟩ := hP
    obtain ⟨d, bs, hd', hsh⟩ := Shs.get hs hx'
    refine ht x d bs o _ (List.mem_of_getElem? hd') hsh ?_
    cases e : f d with
    | false =>
      refine iteT (hf ?_)
      rw [List.all_eq_false]
      exact ⟨d, List.mem_of_getElem? hd', by rw [e]; simp⟩
    | true =>
      refine iteF ⟨rfl, ⟨some x, by rw [List.set_set]⟩, fun j y hj hy => ?_⟩
      by_cases q : j < i
      · exact h j y q hy
      · have : j = i := by omega
        subst this
        rw [hd'] at hy
        cases hy
        exact e
  · obtain ⟨rfl, ⟨o, rfl⟩, h⟩ := hP
    refine hd ?_ o
    rw [List.all_eq_true]
    intro x hx'
    obtain ⟨j, hj⟩ := List.getElem?_of_mem hx'
    exact h j x (by rw [hs.length]; exact (List.getElem?_eq_some_iff.mp hj).1) hj
end
section
variable {P : Program} {w : World} {K : PySem.W.Frag} {mg : Str → Option Value} {base : Heap}
theorem scWi : FnScope ["value"] ["value"] (defScope sWi) := ⟨rfl, rfl, rfl, by decide +kernel, rfl, by decide +kernel, by decide +kernel⟩
theorem ok_wi {f fW : Addr} {fd dW : FuncData} (F : Fun K "is_width" "is_width" sWi f fd) (GW : FnOk P w K mg base CX0 1 fW dW ["value"] (spAsk K isI)) (mW : mg "is_whole" = some (.ref fW)) (kW : PySem.W.keepIn K (.ref fW) = true) (bW : Binds K dW ["value"] []) : FnOk P w K mg base CX0 2 f fd ["value"] (spAsk K widD) := by
  refine F.ok scWi (fun vs H Q E h => ?_) fun cdv A outer s H vs Q E hr h => ?_
  · obtain ⟨v, d, as, rfl, _⟩ := h
    rfl
  · obtain ⟨v, d, as, rfl, hs, q⟩ := h
    refine ⟨_, pss_one (ps_ret (pe_and (pe_call GW hr rfl mW kW bW .nil pass0 (pa_cons (pv 0) pa_nil)) (pe_one (pe_chain op_le op_le pe_int (pv 0) pe_int)))), ?_⟩
    refine ⟨_, rfl, v, d, as, rfl, hs, _, rfl, ?_⟩
    cases d with
    | int i =>
      cases hs
      refine iteT ⟨_, rfl, _, i, rfl, rfl, _, rfl, ?_⟩
      by_cases c1 : 1 ≤ i
      · rw [decide_eq_true c1]
        refine iteT ⟨i, 2, rfl, rfl, ?_⟩
        have : widD (.int i) = decide (i ≤ 2) := by show (decide (1 ≤ i) && decide (i ≤ 2)) = _; rw [decide_eq_true c1]; rfl
        rw [this] at q
        exact q
      · rw [decide_eq_false c1]
        have : widD (.int i) = false := by show (decide (1 ≤ i) && decide (i ≤ 2)) = _; rw [decide_eq_false c1]; rfl
        rw [this] at q
        exact iteF q
    | _ => exact iteF q
theorem scLe : FnScope ["value", "width", "exponent"] ["value", "width"] (defScope sLe) := ⟨rfl, rfl, rfl, by decide +kernel, rfl, by decide +kernel, by decide +kernel⟩
theorem ok_le {f fC : Addr} {fd dC : FuncData} (F : Fun K "is_letter" "is_letter" sLe f fd) (GC : FnOk P w K mg base CX0 3 fC dC ["value", "width"] (spAsk2 K cellD)) (mC : mg "fits_cell" = some (.ref fC)) (kC : PySem.W.keepIn K (.ref fC) = true) (bC : Binds K dC ["value", "width"] []) : FnOk P w K mg base CX0 4 f fd ["value", "width"] (spAsk2 K letD) := by
  refine F.ok scLe (fun vs H Q E h => ?_) fun cdv A outer s H vs Q E hr h => ?_
  · obtain ⟨v, d, as, n, rfl, _⟩ := h
    rfl
  · obtain ⟨v, d, as, n, rfl, hs, q⟩ := h
    refine ⟨tSeq (tIfS (tNot (tB (tCall (spAsk2 K cellD) [] E0 (tCons (tVar 0) (tCons (tVar 1) tNil))))) (tRet (tC (.bl false))) tNext) (tSeq (tFor (iTup K (tVar 0)) (gName 2) (tIfS (tB (tLt (tVar 2) (tC (.int 0)))) (tRet (tC (.bl false))) tNext)) (tRet (tC (.bl true)))),
      pss_cons (ps_if (pt_not (pt_val (pe_call GC hr rfl mC kC bC .nil pass0 (pa_cons (pv 0) (pa_cons (pv 1) pa_nil))))) (pss_one (ps_ret pe_bl)) pss_nil)
      (pss_cons (ps_for PassesOwn.never rfl (pi_tup (pv 0)) (pg_name (i := 2) scLe.nd rfl (Or.inl rfl))
      (pss_one (ps_if (pt_cmp (pc_lt (pv 2) pe_int)) (pss_one (ps_ret pe_bl)) pss_nil))) (pss_one (ps_ret pe_bl))), ?_⟩
    refine ⟨_, rfl, _, rfl, v, d, as, n, rfl, hs, _, rfl, ?_⟩
    cases e : cellD n d with
    | false =>
      have : letD n d = false := by
        cases d with
        | tuple ds => show ((ds.length == n && ds.all isI) && ds.all nonD) = false; rw [show (ds.length == n && ds.all isI) = false from e]; rfl
        | _ => rfl
      rw [this] at q
      exact iteT q
    | true =>
      refine iteF ?_
      cases d with
      | tuple ds =>
        have e1 : (ds.length == n && ds.all isI) = true := e
        have e2 : ds.all isI = true := by rw [Bool.and_eq_true] at e1; exact e1.2
        have e3 : letD n (.tuple ds) = ds.all nonD := by show ((ds.length == n && ds.all isI) && ds.all nonD) = _; rw [e1]; rfl
        rw [e3] at q
        cases hs with
        | @tup a xs _ _ h1 h2 =>
          refine ⟨_, rfl, a, rfl, ⟨_, h1⟩, any_tup (f := nonD) (σ0 := start ["value", "width", "exponent"] [.ref a, .int n]) (i0 := 2) (show 2 < 3 by decide) h1 h2 (fun x d bs o Q hm h qq => ?_) (fun e => ?_) (fun e o => ?_) none⟩
          · have hi := List.all_eq_true.mp e2 d hm
            cases d with
            | int i =>
              cases h
              refine ⟨_, rfl, i, 0, rfl, rfl, _, rfl, ?_⟩
              have : (!nonD (.int i)) = decide (i < 0) := by
                show (!decide (0 ≤ i)) = _
                by_cases z : 0 ≤ i
                · rw [decide_eq_true z, decide_eq_false (by omega)]; rfl
                · rw [decide_eq_false z, decide_eq_true (by omega)]; rfl
              rw [this] at qq
              exact qq
            | _ => exact absurd hi (by simp [isI])
          · rw [e] at q; exact q
          · rw [e] at q; exact q
      | _ => exact absurd e (by simp [cellD])
end
end L2.Ch

/-! # what counts as a term: asked of any data -/
namespace L2.Ch
open PySem PySem.Spec PyProof.Rows L2.Vf L2.Dw
section
variable {P : Program} {w : World} {K : PySem.W.Frag} {mg : Str → Option Value} {base : Heap}
abbrev nTe : List Str := ["value", "width", "coefficient", "letters", "letter"]
theorem scTe : FnScope nTe ["value", "width"] (defScope sTe) := ⟨rfl, rfl, rfl, by decide +kernel, rfl, by decide +kernel, by decide +kernel⟩
theorem termD_len {n : Nat} {ds : List PyData} (h : ds.length ≠ 2) : termD n (.tuple ds) = false := by
  match ds, h with
  | [], _ => rfl
  | [c], _ => rfl
  | [c, x], h => exact absurd rfl h
  | c :: x :: y :: r, _ => cases x <;> rfl
theorem Shs.two {H : Hp} {xs : List V} {c x : PyData} {as : List Addr} (h : Shs K H xs [c, x] as) : ∃ vc vx ac ax, xs = [vc, vx] ∧ Sh K H vc c ac ∧ Sh K H vx x ax := by
  have l := Shs.length h
  match xs, h, l with
  | [vc, vx], h, _ =>
    obtain ⟨d, bs, e, h1⟩ := Shs.get (i := 0) h rfl
    obtain ⟨d', bs', e', h2⟩ := Shs.get (i := 1) h rfl
    cases e
    cases e'
    exact ⟨vc, vx, _, _, rfl, h1, h2⟩
theorem termD_not {n : Nat} {c x : PyData} (h : tyD x ≠ "tuple") : termD n (.tuple [c, x]) = false := by
  cases x <;> first | rfl | exact absurd rfl h
theorem ok_te {f fW fL : Addr} {fd dW dL : FuncData} (F : Fun K "is_term" "is_term" sTe f fd) (N : Nm mg) (GW : FnOk P w K mg base CX0 1 fW dW ["value"] (spAsk K isI)) (mW : mg "is_whole" = some (.ref fW)) (kW : PySem.W.keepIn K (.ref fW) = true) (bW : Binds K dW ["value"] [])
    (GL : FnOk P w K mg base CX0 4 fL dL ["value", "width"] (spAsk2 K letD)) (mL : mg "is_letter" = some (.ref fL)) (kL : PySem.W.keepIn K (.ref fL) = true) (bL : Binds K dL ["value", "width"] []) : FnOk P w K mg base CX0 5 f fd ["value", "width"] (spAsk2 K termD) := by
  refine F.ok scTe (fun vs H Q E h => ?_) fun cdv A outer s H vs Q E hr h => ?_
  · obtain ⟨v, d, as, n, rfl, _⟩ := h
    rfl
  · obtain ⟨v, d, as, n, rfl, hs, q⟩ := h
    refine ⟨tSeq (tIfS (tOr (tNot (tB (tIsT K 0 "tuple"))) (tB (tNeI (tLenS K 0) (tC (.int 2))))) (tRet (tC (.bl false))) tNext)
        (tSeq (tAsg (tVar 0) (gTup K 2 (gCons (gName 2) (gCons (gName 3) gNil))))
        (tSeq (tIfS (tOr (tNot (tB (tCall (spAsk K isI) [] E0 (tCons (tVar 2) tNil)))) (tNot (tB (tIsT K 3 "tuple")))) (tRet (tC (.bl false))) tNext)
        (tSeq (tFor (iTup K (tVar 3)) (gName 4) (tTurn (tCall (spAsk2 K letD) [] E0 (tCons (tVar 4) (tCons (tVar 1) tNil))))) (tRet (tC (.bl true)))))),
      pss_cons (ps_if (PW.pt (pw_or (pt_not (pt_val (pe_callB call_isi (by rfl) N.isi boot_isi (pa_cons (pv 0) (pa_cons (pe_bltn (v := V.ty "tuple") (by rfl) N.tup PyProof.Rows.boot_tuple (by rfl)) pa_nil))))) (pw_or1 (pt_cmp (pc_neI (pe_callB call_len_seq (by rfl) N.len PySem.boot_len (pa_cons (pv 0) pa_nil)) pe_int))))) (pss_one (ps_ret pe_bl)) pss_nil)
      (pss_cons (ps_asg (pv 0) (pg_tup rfl (pgs_cons (pg_name (i := 2) scTe.nd rfl (Or.inl rfl)) (pgs_cons (pg_name (i := 3) scTe.nd rfl (Or.inl rfl)) pgs_nil))))
      (pss_cons (ps_if (PW.pt (pw_or (pt_not (pt_val (pe_call GW (hr.mono (by decide)) rfl mW kW bW .nil pass0 (pa_cons (pv 2) pa_nil)))) (pw_or1 (pt_not (pt_val (pe_callB call_isi (by rfl) N.isi boot_isi (pa_cons (pv 3) (pa_cons (pe_bltn (v := V.ty "tuple") (by rfl) N.tup PyProof.Rows.boot_tuple (by rfl)) pa_nil)))))))) (pss_one (ps_ret pe_bl)) pss_nil)
      (pss_cons (ps_for PassesOwn.never rfl (pi_tup (pv 3)) (pg_name (i := 4) scTe.nd rfl (Or.inl rfl))
      (pss_one (ps_if (pt_not (pt_val (pe_call GL hr rfl mL kL bL .nil pass0 (pa_cons (pv 4) (pa_cons (pv 1) pa_nil))))) (pss_one (ps_ret pe_bl)) pss_nil))) (pss_one (ps_ret pe_bl))))), ?_⟩
    refine isT_run (σ := start nTe [v, .int n]) rfl hs (kit_tuple d) ⟨_, rfl, ?_⟩
    cases d with
    | tuple ds =>
      refine iteF ?_
      cases hs with
      | @tup a xs _ _ h1 h2 =>
        refine ⟨_, rfl, a, _, rfl, .inr h1, _, _, rfl, rfl, _, rfl, ?_⟩
        rw [Shs.length h2]
        by_cases c : ds.length = 2
        · rw [c]
          refine iteF ?_
          match ds, h2, c with
          | [c, x], h2, _ =>
            obtain ⟨vc, vx, ac, ax, rfl, hc, hx⟩ := Shs.two h2
            refine ⟨_, rfl, a, _, rfl, h1, rfl, _, _, rfl, _, _, rfl, rfl, ?_⟩
            refine ⟨_, rfl, vc, c, _, rfl, hc, _, rfl, ?_⟩
            cases e : isI c with
            | false =>
              have : termD n (.tuple [c, x]) = false := by
                cases x <;> first | rfl | (show (isI c && _) = false; rw [e]; rfl)
              rw [this] at q
              exact iteT (iteT q)
            | true =>
              refine iteF ?_
              refine isT_run (σ := ((start nTe [.ref a, .int n]).set 2 (some vc)).set 3 (some vx)) rfl hx (kit_tuple x) ⟨_, rfl, ?_⟩
              cases x with
              | tuple ls =>
                refine iteF ?_
                have e3 : termD n (.tuple [c, .tuple ls]) = ls.all (letD n) := by show (isI c && ls.all (letD n)) = _; rw [e]; rfl
                rw [e3] at q
                cases hx with
                | @tup b ys _ _ g1 g2 =>
                  refine ⟨_, rfl, b, rfl, ⟨_, g1⟩, all_tup (f := letD n) (te := tCall (spAsk2 K letD) [] E0 (tCons (tVar 4) (tCons (tVar 1) tNil))) (σ0 := ((start nTe [.ref a, .int n]).set 2 (some vc)).set 3 (some (.ref b))) (i0 := 4) (show 4 < 5 by decide) g1 g2 (fun x d bs o Q h q => ⟨_, rfl, _, rfl, x, d, bs, n, rfl, h, q⟩) (fun e => ?_) (fun e o => ?_) none⟩
                  · rw [e] at q; exact q
                  · rw [e] at q; exact q
              | _ => exact iteT q
        · have c' : ¬ ((ds.length : Int) = 2) := by omega
          rw [termD_len c] at q
          show (if (!decide ((ds.length : Int) = 2)) = true then _ else _)
          rw [decide_eq_false c']
          exact iteT q
    | _ => exact iteT (iteT q)
end
end L2.Ch

/-! # terms put together, as data -/
namespace L2.Nk
open PySem PySem.Spec PyProof.Rows PySem.W
/-- a term: its own tuple, the coefficient, the word -/
abbrev Trm := Addr × Int × Wd
abbrev Sm := List (Wd × Int)
def getS (ys : Sm) (k : Wd) : Int := ((ys.find? fun p => decide (p.1 = k)).map (·.2)).getD 0
def addS (ys : Sm) (c : Int) (k : Wd) : Sm := if (ys.any fun p => decide (p.1 = k)) = true then ys.map (fun p => if p.1 = k then (p.1, getS ys k + c) else p) else ys ++ [(k, getS ys k + c)]
def sumsOf (ts : List (Int × Wd)) : Sm := ts.foldl (fun ys t => addS ys t.1 t.2) []
def someOf (ys : Sm) : List (Int × Wd) := (ys.filter fun p => !decide (p.2 = 0)).map fun p => (p.2, p.1)
/-- the terms put together -/
def together (ts : List (Int × Wd)) : List (Int × Wd) := (someOf (sumsOf ts)).mergeSort (dataLe false fun t => dKey t.2)
theorem sums_snoc (ts : List (Int × Wd)) (t : Int × Wd) : sumsOf (ts ++ [t]) = addS (sumsOf ts) t.1 t.2 := by simp [sumsOf, List.foldl_append]
theorem addS_len (ys : Sm) (c : Int) (k : Wd) : (addS ys c k).length ≤ ys.length + 1 := by unfold addS; split <;> simp
theorem addS_keys (ys : Sm) (c : Int) (k : Wd) : (addS ys c k).map (·.1) = if (ys.any fun p => decide (p.1 = k)) = true then ys.map (·.1) else ys.map (·.1) ++ [k] := by
  unfold addS
  split
  · rw [List.map_map]
    refine List.map_congr_left fun p _ => ?_
    show (if p.1 = k then (p.1, getS ys k + c) else p).1 = p.1
    split <;> rfl
  · simp
theorem addS_nodup {ys : Sm} (h : (ys.map (·.1)).Nodup) (c : Int) (k : Wd) : ((addS ys c k).map (·.1)).Nodup := by
  rw [addS_keys]
  split
  · exact h
  · rename_i q
    rw [List.nodup_append]
    refine ⟨h, by simp, fun a ha b hb => ?_⟩
    rw [List.mem_singleton] at hb
    subst hb
    rintro rfl
    obtain ⟨p, hp, e⟩ := List.mem_map.mp ha
    refine q ?_
    rw [List.any_eq_true]
    exact ⟨p, hp, by simp [e]⟩
theorem foldl_inv {α β : Type} (P : α → Prop) (f : α → β → α) : ∀ (l : List β) (a : α), P a → (∀ a b, P a → P (f a b)) → P (l.foldl f a)
  | [], _, h, _ => h
  | b :: l, a, h, k => foldl_inv P f l (f a b) (k a b h) k
theorem sums_nodup (ts : List (Int × Wd)) : ((sumsOf ts).map (·.1)).Nodup := foldl_inv (fun ys : Sm => (ys.map (·.1)).Nodup) _ ts [] List.nodup_nil fun ys t h => addS_nodup h t.1 t.2
theorem foldl_len : ∀ (ts : List (Int × Wd)) (ys : Sm), (ts.foldl (fun ys t => addS ys t.1 t.2) ys).length ≤ ys.length + ts.length
  | [], ys => by simp
  | t :: ts, ys => by
    have h1 := foldl_len ts (addS ys t.1 t.2)
    have h2 := addS_len ys t.1 t.2
    simp only [List.foldl_cons, List.length_cons]
    omega
theorem sums_len (ts : List (Int × Wd)) : (sumsOf ts).length ≤ ts.length := by have := foldl_len ts []; simpa [sumsOf] using this
theorem getS_mem {ys : Sm} (h : (ys.map (·.1)).Nodup) {p : Wd × Int} (hp : p ∈ ys) : getS ys p.1 = p.2 := by
  induction ys with
  | nil => cases hp
  | cons q ys ih =>
    rw [List.map_cons, List.nodup_cons] at h
    rcases List.mem_cons.mp hp with rfl | hp
    · simp [getS]
    · have ne : ¬ q.1 = p.1 := fun e => h.1 (by rw [e]; exact List.mem_map.mpr ⟨p, hp, rfl⟩)
      have := ih h.2 hp
      simpa [getS, List.find?_cons, ne] using this
/-- entries that hold the sums ys -/
abbrev AsS : List Ent → Sm → Prop := Paired fun e p => e.1 = p.1 ∧ e.2.2 = .int p.2
theorem AsS.val {xs : List Ent} {ys : Sm} (h : AsS xs ys) (k : Wd) : valN xs k = (ys.find? fun p => decide (p.1 = k)).map fun p => V.int p.2 := by
  induction h with
  | nil => rfl
  | @cons e p es ps h _ ih =>
    by_cases z : p.1 = k
    · rw [valN_pos (h.1.trans z), List.find?_cons, decide_eq_true z]; simp [h.2]
    · rw [valN_neg (fun q => z (h.1.symm.trans q)), List.find?_cons, decide_eq_false z]; exact ih
theorem AsS.get {xs : List Ent} {ys : Sm} (h : AsS xs ys) (k : Wd) : (valN xs k).getD (.int 0) = .int (getS ys k) := by
  rw [h.val k]
  unfold getS
  cases ys.find? fun p => decide (p.1 = k) <;> rfl
theorem AsS.any {xs : List Ent} {ys : Sm} (h : AsS xs ys) (k : Wd) : (xs.any fun x => decide (x.1 = k)) = ys.any fun p => decide (p.1 = k) := by
  induction h with
  | nil => rfl
  | cons h _ ih => rw [List.any_cons, List.any_cons, ih, h.1]
theorem AsS.maps {xs : List Ent} {ys : Sm} (h : AsS xs ys) (k : Wd) (n : Int) : AsS (xs.map fun x => if x.1 = k then (x.1, x.2.1, V.int n) else x) (ys.map fun p => if p.1 = k then (p.1, n) else p) := by
  induction h with
  | nil => exact .nil
  | @cons e p es ps h _ ih =>
    rw [List.map_cons, List.map_cons]
    refine .cons ?_ ih
    by_cases z : p.1 = k
    · rw [if_pos (h.1.trans z), if_pos z]; exact ⟨h.1, rfl⟩
    · rw [if_neg (fun q => z (h.1.symm.trans q)), if_neg z]; exact h
theorem AsS.put {xs : List Ent} {ys : Sm} (h : AsS xs ys) (c : Int) (k : Wd) (b : Addr) : AsS (putN xs k b (.int (getS ys k + c))) (addS ys c k) := by
  unfold putN addS
  rw [h.any k]
  by_cases q : (ys.any fun p => decide (p.1 = k)) = true
  · rw [if_pos q, if_pos q]; exact h.maps k _
  · rw [if_neg q, if_neg q]; exact Paired.snoc h ⟨rfl, rfl⟩
theorem AsS.at {xs : List Ent} {ys : Sm} (h : AsS xs ys) : ∀ {i : Nat} {e : Ent}, xs[i]? = some e → ∃ p, ys[i]? = some p ∧ e.1 = p.1 ∧ e.2.2 = .int p.2 := by
  induction h with
  | nil => intro i e q; simp at q
  | cons h _ ih =>
    intro i e q
    cases i with
    | zero => simp at q; subst q; exact ⟨_, rfl, h⟩
    | succ j => simpa using ih (by simpa using q)
theorem NKeys.put {K : Frag} {H : Hp} {xs : List Ent} {k : Wd} {b : Addr} {v : V} (h : NKeys K H xs) (hk : NKey K H k b) : NKeys K H (putN xs k b v) := by
  intro x hx
  unfold putN at hx
  split at hx
  · obtain ⟨y, hy, rfl⟩ := List.mem_map.mp hx
    have q := h y hy
    split <;> exact q
  · rcases List.mem_append.mp hx with hx | hx
    · exact h x hx
    · rw [List.mem_singleton.mp hx]; exact hk
theorem NKeys.ext {K : Frag} {H H' : Hp} {xs : List Ent} (h : NKeys K H xs) (e : LamX.ExtN H H') : NKeys K H' xs := fun x hx => nKey_ext e (h x hx)
/-- at p: a term with its coefficient -/
def TmAt (K : Frag) (H : Hp) (p : Trm) : Prop := ∃ b, SqT K H p.1 [.int p.2.1, .ref b] ∧ NKey K H p.2.2 b
theorem TmAt.ext {K : Frag} {H H' : Hp} {p : Trm} (e : LamX.ExtN H H') (h : TmAt K H p) : TmAt K H' p := by
  obtain ⟨b, h1, h2⟩ := h
  exact ⟨b, sqT_ext e h1, nKey_ext e h2⟩
def sortT (rs : List Trm) : List Trm := rs.mergeSort (dataLe false fun r => dKey r.2.2)
theorem sortW_of (rs : List Trm) : sortW (rs.map fun r => (r.1, r.2.2)) = (sortT rs).map fun r => (r.1, r.2.2) := (sort_maps (fun r : Trm => (r.1, r.2.2)) fun a _ b _ => rfl).symm
theorem sortT_told {rs : List Trm} {ts : List (Int × Wd)} (h : rs.map (·.2) = someOf (sumsOf ts)) : (sortT rs).map (·.2) = together ts := by
  unfold together sortT
  rw [← h]
  exact sort_maps (fun r : Trm => r.2) fun a _ b _ => rfl
theorem mem_sortT {rs : List Trm} {r : Trm} (h : r ∈ sortT rs) : r ∈ rs := by
  unfold sortT at h
  exact List.mem_mergeSort.mp h
theorem some_take {ys : Sm} {i : Nat} {p : Wd × Int} (h : ys[i]? = some p) : someOf (ys.take (i + 1)) = someOf (ys.take i) ++ (if p.2 = 0 then [] else [(p.2, p.1)]) := by
  unfold someOf
  rw [List.take_add_one, h]
  by_cases z : p.2 = 0
  · simp [List.filter_append, z]
  · simp [List.filter_append, z]
end L2.Nk

/-! # put_together -/
namespace L2.Fo
open PySem PySem.Spec PyProof.Rows L2.Vf L2.Dw L2.Ch L2.Nk
abbrev sPt : Stmt := top 19
abbrev nPt : List Str := ["terms", "sums", "coefficient", "letters", "found"]
def lamPt : Str := ("put_together" : Str) ++ ".<locals>." ++ "<lambda>"
section
variable {P : Program} {w : World} {K : PySem.W.Frag} {mg : Str → Option Value} {base : Heap}
/-- as Fun.ok, its code object known -/
theorem okC {x qual : Str} {st : Stmt} {f c : Addr} {fd : FuncData} {N ps : List Str} {k : Nat} {sp : Sp} (F : Fun K x qual st f fd) (hc : fd.code = .ref c) (S : FnScope N ps (defScope st)) (len : ∀ vs H Q E, sp vs H Q E → vs.length = ps.length)
    (hbody : ∀ (A : Around) (outer : List Env) (s : Shared) (H : Hp) (vs : List V) (Q : VK) (E : XK), Room k (A.deeper (envOfC qual (defScope st) s.heap.objs.size f (.ref c))) → sp vs H Q E →
      ∃ t, PSs (cxOf CX0 P w K mg base N qual (defScope st) f (.ref c) A outer s H E).nox (defBody st) t ∧ t { nx := fun _ H' => Q .non H', rt := Q } (start N vs) H) : FnOk P w K mg base CX0 (k + 1) f fd ps sp := by
  obtain ⟨oc, od, kV, doc, pm, an, cdv, ct, osl, rfl, lk, hcd⟩ := F.ex
  obtain rfl : cdv = .ref c := hc
  refine fn_of lk hcd S len fun A outer s H vs Q E hr hsp => ?_
  obtain ⟨t, h, q⟩ := hbody A outer s H vs Q E hr hsp
  exact ⟨t, h.nox, q⟩
theorem scPt : FnScope nPt ["terms"] (defScope sPt) := ⟨rfl, rfl, rfl, by decide +kernel, rfl, by decide +kernel, by decide +kernel⟩
/-- the term of put_together -/
def tPt (P : Program) (w : World) (K : PySem.W.Frag) (T : List (Addr × Str)) : TS :=
  tSeq (tAsg (tNNew P w) (gName 1))
  (tSeq (tFor (iList K (tVar 0)) (gTup K 2 (gCons (gName 2) (gCons (gName 3) gNil))) (sNPut P w K (tVar 1) (tVar 3) (tAdd (tNGet2 P w K (tVar 1) (tVar 3) (tC (.int 0))) (tVar 2))))
  (tSeq (tLock (tAsg (tLc (iKeysN P w (tVar 1)) (gName 3) (tB (tNeI (tNGet P w K (tVar 1) (tVar 3)) (tC (.int 0)))) (tTup (tCons (tNGet P w K (tVar 1) (tVar 3)) (tCons (tVar 3) tNil))) [3]) (gName 4)))
  (tRet (tSortW K T (tVar 4)))))
theorem der_pt {f c Pt : Addr} {T : List (Addr × Str)} {A : Around} {outer : List Env} {s : Shared} {H : Hp} {E : XK} (N : Nm mg) (mS : mg "sorted" = none) (TB : LamX.TabB base mg c Pt) (hmT : (Pt, lamPt) ∈ T) (hu : ∀ p ∈ T, p.1 = Pt → p.2 = lamPt)
    (hr : Room 2 (A.deeper (envOfC "put_together" (defScope sPt) s.heap.objs.size f (.ref c)))) :
    PSs (cxOf CX0 P w K mg base nPt "put_together" (defScope sPt) f (.ref c) A outer s H E).nox (defBody sPt) (tPt P w K T) := by
  have h2 : (A.deeper (envOfC "put_together" (defScope sPt) s.heap.objs.size f (.ref c))).units + 2 < cLine := by have := hr.units; omega
  refine pss_cons (ps_asg pe_nnew (pg_name (i := 1) scPt.nd rfl (Or.inr rfl))) ?_
  refine pss_cons (ps_for PassesOwn.never rfl (pi_list (pv 0)) (pg_tup rfl (pgs_cons (pg_name (i := 2) scPt.nd rfl (Or.inl rfl)) (pgs_cons (pg_name (i := 3) scPt.nd rfl (Or.inl rfl)) pgs_nil)))
    (pss_one (ps_nput h2 (pv 1) (pv 3) (pe_add (pe_nget2 h2 (pv 1) (pv 3) pe_int ⟨by rfl, by rfl, by rfl, by rfl⟩) (pv 2)) (by rfl)))) ?_
  refine pss_cons ?_ ?_
  · exact ps_lock (ps_setLc (i := 4) (own := [("letters", 3)]) (g := gName 3) (tt := tB (tNeI (tNGet P w K (tVar 1) (tVar 3)) (tC (.int 0)))) (te := tTup (tCons (tNGet P w K (tVar 1) (tVar 3)) (tCons (tVar 3) tNil))) rfl scPt.nd rfl rfl (sw_true rfl rfl rfl (by decide +kernel)) (pi_keysN (pv 1)) (blkOk_by (N := nPt) (sc := defScope sPt) (by decide +kernel))
      (fun _ _ _ _ _ => pg_name (i := 3) scPt.nd rfl (Or.inl rfl)) (fun _ _ _ _ _ => pts_one (pt_cmp (pc_neI (pe_nget h2 (pv 1) (pv 3) (fun _ _ => rfl)) pe_int))) (fun _ _ _ _ _ => pe_tup (pa_cons (pe_nget h2 (pv 1) (pv 3) (fun _ _ => rfl)) (pa_cons (pv 3) pa_nil))))
  · exact pss_one (ps_ret (pe_sortW (y := "term") (kn := 0) (by rfl) mS N.len (pv 4) hr TB rfl hmT hu ⟨rfl, rfl, rfl, by decide +kernel, rfl, rfl, rfl⟩ (fun _ _ _ _ _ _ => rfl) (by rfl) (by decide +kernel)))
end
end L2.Fo

/-! # put_together, its reading -/
namespace L2.Fo
open PySem PySem.Spec PyProof.Rows L2.Vf L2.Dw L2.Ch L2.Nk
theorem upd_two {H : Hp} {d : Addr} {o o' : HO} : upd (upd H d o) d o' = upd H d o' := by
  funext b
  by_cases e : b = d
  · rw [e, upd_same, upd_same]
  · rw [upd_ne e, upd_ne e, upd_ne e]
theorem sqT_thaw {K : PySem.W.Frag} {P : Program} {w : World} {H : Hp} {d d' c : Addr} {od : Obj} {es : List Ent} {o' : HO} {xs : List V} (e : H d = some (.frz od (NtO P w d' es))) (h : SqT K H c xs) : SqT K (upd H d o') c xs := by
  have ne : (H c = some (.tup xs) ∨ ∃ o, H c = some (.frz o (.tup xs))) → c ≠ d := fun h z => by
    rw [z, e] at h
    unfold NtO at h
    rcases h with h | ⟨o, h⟩ <;> cases h
  rcases h with h | h
  · exact .inl (by unfold Rd; rw [upd_ne (ne h)]; exact h)
  · exact .inr h
theorem nKey_thaw {K : PySem.W.Frag} {P : Program} {w : World} {H : Hp} {d d' b : Addr} {od : Obj} {es : List Ent} {o' : HO} {k : Wd} (e : H d = some (.frz od (NtO P w d' es))) (h : NKey K H k b) : NKey K (upd H d o') k b := h.mono fun _ _ => sqT_thaw e
/-- nothing but a table may have been there -/
def NewN (H : Hp) (D : Addr) : Prop := ∀ o, H D = some o → ∃ ps, o = .tbl ps
theorem newN_of {H H' : Hp} {D : Addr} (e : LamX.ExtN H H') (h : H' D = none) : NewN H D := fun o ho => by
  cases o with
  | tbl ps => exact ⟨ps, rfl⟩
  | _ => rw [e _ _ ho (fun ps z => by cases z)] at h; cases h
section
variable {P : Program} {w : World} {K : PySem.W.Frag}
theorem rd_pt2 {H : Hp} {a D0 : Addr} {T : List (Addr × Str)} {Q : VK} {xs : List Ent} {ys : Sm} {o2 o3 : Option V} (h0 : H D0 = none) (hT : LamX.Tabs T H) (hs : AsS xs ys) (nd : (ys.map (·.1)).Nodup) (hk : NKeys K H xs) (hz : xs.length < sizeLine)
    (q : ∀ (D : Addr) (rs : List Trm) (H' : Hp), LamX.ExtN H H' → LamX.Tabs T H' → NewN H D → H' D = some (.lst (rs.map fun r => V.ref r.1)) → (∀ r ∈ rs, TmAt K H' r ∧ H r.1 = none) → (∃ rs0 : List Trm, rs = sortT rs0 ∧ rs0.map (·.2) = someOf ys) → Q (.ref D) H') :
    tSeq (tLock (tAsg (tLc (iKeysN P w (tVar 1)) (gName 3) (tB (tNeI (tNGet P w K (tVar 1) (tVar 3)) (tC (.int 0)))) (tTup (tCons (tNGet P w K (tVar 1) (tVar 3)) (tCons (tVar 3) tNil))) [3]) (gName 4)))
      (tRet (tSortW K T (tVar 4))) { nx := fun _ H' => Q .non H', rt := Q } [some (.ref a), some (.ref D0), o2, o3, none] (upd H D0 (NtO P w D0 xs)) := by
  refine ⟨D0, NtO P w D0 xs, upd_same, True.intro, fun od => ?_⟩
  rw [upd_two]
  have sf : Same H (upd H D0 (.frz od (NtO P w D0 xs))) := same_new h0
  refine ⟨_, rfl, D0, od, xs, rfl, upd_same, fun D hD => ?_⟩
  have nDD : D0 ≠ D := fun e => by rw [← e, upd_same] at hD; cases hD
  refine lc_it walk_keysN (fun i H' => ∃ rs : List Trm, Same (upd H D0 (.frz od (NtO P w D0 xs))) H' ∧ H' D = some (.lst (rs.map fun r => V.ref r.1)) ∧ (∀ r ∈ rs, TmAt K H' r ∧ H r.1 = none) ∧ rs.map (·.2) = someOf (ys.take i) ∧ rs.length ≤ i) ?_ ?_ ?_ ?_
  · exact ⟨[], same_new hD, upd_same, fun r hr => absurd hr (by simp), by simp [someOf], Nat.le_refl _⟩
  · rintro i H' _ ⟨rs, s1, _⟩
    exact s1 _ _ upd_same
  · rintro i x H' H'' hi ⟨rs, s1, e1, r1, m1, l1⟩ ⟨rfl, e, he, rfl⟩
    obtain ⟨p, hp, ek, ev⟩ := hs.at he
    have eD0 : H'' D0 = some (.frz od (NtO P w D0 xs)) := s1 _ _ upd_same
    have s0 : Same H H'' := sf.trans s1
    have hk1 : NKeys K H'' xs := hk.ext (.of s0)
    have hke : NKey K H'' e.1 e.2.1 := hk1 e (List.mem_of_getElem? he)
    have hget : NGet P w K H'' D0 (.ref e.2.1) (some (.int p.2)) := by
      refine ⟨xs, e.1, e.2.1, .inr ⟨od, eD0⟩, hk1, rfl, hke, ?_⟩
      have hm := List.mem_of_getElem? hp
      have g := getS_mem nd hm
      rw [hs.val e.1, ek]
      unfold getS at g
      cases z : ys.find? (fun q => decide (q.1 = p.1)) with
      | none => exact absurd (List.find?_eq_none.mp z p hm) (by simp)
      | some r => rw [z] at g; simp at g; simp [g]
    refine ⟨rfl, ?_⟩
    refine ⟨_, rfl, _, rfl, D0, _, rfl, hget, p.2, 0, rfl, rfl, _, rfl, ?_⟩
    show (if (!decide (p.2 = 0)) = true then _ else _)
    by_cases z : p.2 = 0
    · rw [decide_eq_true z]
      refine iteF ⟨rs, s1, e1, r1, ?_, by omega⟩
      rw [some_take hp, if_pos z, m1, List.append_nil]
    · rw [decide_eq_false z]
      refine iteT ?_
      refine ⟨_, rfl, _, rfl, D0, _, rfl, hget, _, rfl, by show 2 ≤ _; rw [sizeLine_eq]; omega, fun t hq => ?_⟩
      have nt : D ≠ t := ne_of_none e1 hq
      have s2 : Same H'' (upd H'' t (.tup [.int p.2, .ref e.2.1])) := same_new hq
      have e2 : (upd H'' t (.tup [.int p.2, .ref e.2.1])) D = some (.lst (rs.map fun r => V.ref r.1)) := s2 _ _ e1
      have keepD : ∀ {c : Addr} {us : List V}, SqT K (upd H'' t (.tup [.int p.2, .ref e.2.1])) c us → SqT K (upd (upd H'' t (.tup [.int p.2, .ref e.2.1])) D (.lst ((rs.map fun r => V.ref r.1) ++ [.ref t]))) c us := fun h => sqT_upd e2 True.intro h
      have keepT : ∀ {r : Trm}, TmAt K (upd H'' t (.tup [.int p.2, .ref e.2.1])) r → TmAt K (upd (upd H'' t (.tup [.int p.2, .ref e.2.1])) D (.lst ((rs.map fun r => V.ref r.1) ++ [.ref t]))) r := fun ⟨b, h1, h2⟩ => ⟨b, keepD h1, h2.mono fun _ _ h => keepD h⟩
      refine ⟨_, e2, by rw [List.length_map]; omega, rs ++ [(t, p.2, e.1)], fun b o hb => ?_, ?_, fun r hr => ?_, ?_, by simp; omega⟩
      · have nb : b ≠ D := ne_of_none hb hD
        rw [upd_ne nb]
        exact s2 _ _ (s1 _ _ hb)
      · rw [upd_same, List.map_append]
        rfl
      · rcases List.mem_append.mp hr with hr | hr
        · exact ⟨keepT ((r1 r hr).1.ext (.of s2)), (r1 r hr).2⟩
        · rw [List.mem_singleton.mp hr]
          refine ⟨keepT ⟨e.2.1, SqT.of upd_same, nKey_ext (.of s2) hke⟩, s0.free hq⟩
      · rw [List.map_append, m1, some_take hp, if_neg z, ek]
        rfl
  · rintro H' ⟨rs, s1, e1, r1, m1, l1⟩
    have eD0 : H' D0 = some (.frz od (NtO P w D0 xs)) := s1 _ _ upd_same
    refine ⟨eD0, ?_⟩
    have s0 : Same H (upd H' D0 (NtO P w D0 xs)) := fun b o hb => by
      rw [upd_ne (ne_of_none hb h0)]
      exact s1 _ _ (sf _ _ hb)
    have tm : ∀ r ∈ rs, TmAt K (upd H' D0 (NtO P w D0 xs)) r := fun r hr => by
      obtain ⟨b, h1, h2⟩ := (r1 r hr).1
      exact ⟨b, sqT_thaw eD0 h1, nKey_thaw eD0 h2⟩
    have eD : (upd H' D0 (NtO P w D0 xs)) D = some (.lst (rs.map fun r => V.ref r.1)) := by rw [upd_ne nDD.symm]; exact e1
    refine ⟨_, rfl, hT.ext s0, D, rs.map (fun r => (r.1, r.2.2)), rfl, SqL.of (by rw [eD, List.map_map]; rfl), fun p hp => ?_, fun H2 eN T2 t ht => ?_⟩
    · obtain ⟨r, hr, rfl⟩ := List.mem_map.mp hp
      obtain ⟨b, h1, h2⟩ := tm r hr
      exact ⟨_, b, h1, h2⟩
    · have eN0 : LamX.ExtN H H2 := (LamX.ExtN.of s0).trans eN
      have s3 : Same H2 (upd H2 t (.lst ((sortW (rs.map fun r => (r.1, r.2.2))).map fun p => V.ref p.1))) := same_new ht
      refine q t (sortT rs) _ (eN0.trans (.of s3)) (T2.ext s3) (newN_of eN0 ht) ?_ (fun r hr => ?_) ⟨rs, rfl, ?_⟩
      · rw [upd_same, sortW_of, List.map_map]
        rfl
      · have hr' := mem_sortT hr
        exact ⟨((tm r hr').ext eN).ext (.of s3), (r1 r hr').2⟩
      · have : ys.take xs.length = ys := by rw [Paired.length hs]; exact List.take_length
        rw [m1, this]
end
end L2.Fo

/-! # put_together: what it promises -/
namespace L2.Fo
open PySem PySem.Spec PyProof.Rows L2.Vf L2.Dw L2.Ch L2.Nk
/-- put_together of a list of terms: a new list of new terms -/
def spPt (K : PySem.W.Frag) (T : List (Addr × Str)) : Sp := fun vs H Q _ => ∃ (a : Addr) (ts : List Trm), vs = [.ref a] ∧ SqL K H a (ts.map fun t => V.ref t.1) ∧ (∀ t ∈ ts, TmAt K H t) ∧ ts.length < sizeLine ∧ LamX.Tabs T H ∧
  ∀ (D : Addr) (rs : List Trm) (H' : Hp), LamX.ExtN H H' → LamX.Tabs T H' → NewN H D → H' D = some (.lst (rs.map fun r => V.ref r.1)) → (∀ r ∈ rs, TmAt K H' r ∧ H r.1 = none) → rs.map (·.2) = together (ts.map (·.2)) → Q (.ref D) H'
section
variable {P : Program} {w : World} {K : PySem.W.Frag} {mg : Str → Option Value} {base : Heap}
theorem rd_pt {H : Hp} {a : Addr} {ts : List Trm} {T : List (Addr × Str)} {Q : VK} (hl : SqL K H a (ts.map fun t => V.ref t.1)) (ht : ∀ t ∈ ts, TmAt K H t) (hz : ts.length < sizeLine) (hT : LamX.Tabs T H)
    (q : ∀ (D : Addr) (rs : List Trm) (H' : Hp), LamX.ExtN H H' → LamX.Tabs T H' → NewN H D → H' D = some (.lst (rs.map fun r => V.ref r.1)) → (∀ r ∈ rs, TmAt K H' r ∧ H r.1 = none) → rs.map (·.2) = together (ts.map (·.2)) → Q (.ref D) H') :
    tPt P w K T { nx := fun _ H' => Q .non H', rt := Q } (start nPt [.ref a]) H := by
  intro D0 h0
  have sl : ∀ {o : HO}, Same H (upd H D0 o) := same_new h0
  refine ⟨_, rfl, a, rfl, ⟨_, sqL_ext (.of sl) hl⟩, ?_⟩
  refine for_it (walk_list (xs := ts.map fun t => V.ref t.1)) (fun j σ H' => ∃ xs, H' = upd H D0 (NtO P w D0 xs) ∧ AsS xs (sumsOf ((ts.take j).map (·.2))) ∧ NKeys K H xs ∧ ∃ o2 o3, σ = [some (.ref a), some (.ref D0), o2, o3, none]) ?_ ?_ ?_ ?_
  · exact ⟨[], rfl, .nil, fun x hx => absurd hx (by simp), none, none, rfl⟩
  · rintro i σ H' _ ⟨xs, rfl, _⟩
    exact sqL_ext (.of sl) hl
  · rintro i x σ H1 H1' hi ⟨xs, rfl, hs, hk, o2, o3, rfl⟩ ⟨rfl, hx⟩
    rw [List.getElem?_map] at hx
    obtain ⟨t, hti, rfl⟩ := Option.map_eq_some_iff.mp hx
    obtain ⟨b, h1, h2⟩ := ht t (List.mem_of_getElem? hti)
    have h1' : SqT K (upd H D0 (NtO P w D0 xs)) t.1 [.int t.2.1, .ref b] := sqT_ext (.of sl) h1
    have h2' : NKey K (upd H D0 (NtO P w D0 xs)) t.2.2 b := nKey_ext (.of sl) h2
    have hk' : NKeys K (upd H D0 (NtO P w D0 xs)) xs := hk.ext (.of sl)
    have hln : xs.length < sizeLine := by
      have l1 := Paired.length hs
      have l2 := sums_len ((ts.take i).map (·.2))
      rw [List.length_map, List.length_take] at l2
      omega
    refine ⟨t.1, _, rfl, h1', rfl, _, _, rfl, _, _, rfl, rfl, ?_⟩
    refine ⟨_, rfl, D0, rfl, ⟨xs, .inl upd_same⟩, _, rfl, _, ⟨xs, t.2.2, b, .inl upd_same, hk', rfl, h2', rfl⟩, _, rfl, _, _, hs.get _, rfl, ?_⟩
    refine ⟨_, rfl, _, rfl, D0, _, rfl, ⟨xs, t.2.2, b, upd_same, hk', rfl, h2', hln, rfl⟩, ?_⟩
    refine ⟨_, upd_two, ?_, hk.put h2, _, _, rfl⟩
    have e : (ts.take (i + 1)).map (·.2) = (ts.take i).map (·.2) ++ [t.2] := by rw [List.take_add_one, hti]; simp
    rw [e, sums_snoc]
    exact hs.put _ _ _
  · rintro σ H' ⟨xs, rfl, hs, hk, o2, o3, rfl⟩
    have e : (ts.take (ts.map fun t => V.ref t.1).length).map (·.2) = ts.map (·.2) := by rw [List.length_map, List.take_length]
    rw [e] at hs
    have hln : xs.length < sizeLine := by
      have l1 := Paired.length hs
      have l2 := sums_len (ts.map (·.2))
      rw [List.length_map] at l2
      omega
    refine rd_pt2 h0 hT hs (sums_nodup _) hk hln fun D rs H' e1 e2 e3 e4 e5 ⟨rs0, e6, e7⟩ => q D rs H' e1 e2 e3 e4 e5 ?_
    rw [e6]
    exact sortT_told e7
theorem ok_pt {f c Pt : Addr} {fd : FuncData} {T : List (Addr × Str)} (F : Fun K "put_together" "put_together" sPt f fd) (hc : fd.code = .ref c) (N : Nm mg) (mS : mg "sorted" = none) (TB : LamX.TabB base mg c Pt) (hmT : (Pt, lamPt) ∈ T) (hu : ∀ p ∈ T, p.1 = Pt → p.2 = lamPt) :
    FnOk P w K mg base CX0 3 f fd ["terms"] (spPt K T) := by
  refine okC F hc scPt (fun vs H Q E h => ?_) fun A outer s H vs Q E hr h => ?_
  · obtain ⟨a, ts, rfl, _⟩ := h
    rfl
  · obtain ⟨a, ts, rfl, hl, ht, hz, hT, q⟩ := h
    exact ⟨_, der_pt N mS TB hmT hu hr, rd_pt hl ht hz hT q⟩
end
end L2.Fo

/-! # data that are terms -/
namespace L2.Fo
open PySem PySem.Spec PyProof.Rows L2.Vf L2.Dw L2.Ch L2.Nk
def dTrm (t : Int × Wd) : PyData := .tuple [.int t.1, dWord t.2]
theorem isI_all : ∀ {ds : List PyData}, ds.all isI = true → ∃ l : List Int, ds = l.map PyData.int
  | [], _ => ⟨[], rfl⟩
  | d :: ds, h => by
    rw [List.all_cons, Bool.and_eq_true] at h
    obtain ⟨l, rfl⟩ := isI_all h.2
    cases d with
    | int i => exact ⟨i :: l, rfl⟩
    | _ => exact absurd h.1 (by simp [isI])
theorem letD_is {n : Nat} {d : PyData} (h : letD n d = true) : ∃ l : List Int, d = dLine l := by
  cases d with
  | tuple ds =>
    have h' : ((ds.length == n && ds.all isI) && ds.all nonD) = true := h
    rw [Bool.and_eq_true, Bool.and_eq_true] at h'
    obtain ⟨l, rfl⟩ := isI_all h'.1.2
    exact ⟨l, rfl⟩
  | _ => exact absurd h (by simp [letD])
theorem letD_all {n : Nat} : ∀ {ds : List PyData}, ds.all (letD n) = true → ∃ k : Wd, ds = k.map dLine
  | [], _ => ⟨[], rfl⟩
  | d :: ds, h => by
    rw [List.all_cons, Bool.and_eq_true] at h
    obtain ⟨k, rfl⟩ := letD_all h.2
    obtain ⟨l, rfl⟩ := letD_is h.1
    exact ⟨l :: k, rfl⟩
theorem termD_is {n : Nat} {d : PyData} (h : termD n d = true) : ∃ t : Int × Wd, d = dTrm t := by
  unfold termD at h
  split at h
  · rename_i c ls
    rw [Bool.and_eq_true] at h
    obtain ⟨k, rfl⟩ := letD_all h.2
    cases c with
    | int i => exact ⟨(i, k), rfl⟩
    | _ => exact absurd h.1 (by simp [isI])
  · cases h
theorem termD_all {n : Nat} : ∀ {ds : List PyData}, ds.all (termD n) = true → ∃ ts : List (Int × Wd), ds = ts.map dTrm
  | [], _ => ⟨[], rfl⟩
  | d :: ds, h => by
    rw [List.all_cons, Bool.and_eq_true] at h
    obtain ⟨ts, rfl⟩ := termD_all h.2
    obtain ⟨t, rfl⟩ := termD_is h.1
    exact ⟨t :: ts, rfl⟩
section
variable {K : PySem.W.Frag} {H : Hp}
theorem shs_intsF : ∀ {l : List Int} {xs : List V} {as : List Addr}, Shs K H xs (l.map .int) as → xs = l.map V.int
  | [], _, _, h => by cases h; rfl
  | i :: l, _, _, h => by
    cases h with
    | cons h1 h2 =>
      cases h1
      rw [shs_intsF h2]
      rfl
theorem sh_lineT {l : List Int} {v : V} {as : List Addr} (h : Sh K H v (dLine l) as) : ∃ q, v = .ref q ∧ SqT K H q (l.map V.int) := by
  cases h with
  | tup h1 h2 =>
    rw [shs_intsF h2] at h1
    exact ⟨_, rfl, h1⟩
theorem shs_word : ∀ {k : Wd} {xs : List V} {as : List Addr}, Shs K H xs (k.map dLine) as → ∃ bs : List Addr, xs = bs.map .ref ∧ Paired (fun c l => SqT K H c (l.map V.int)) bs k
  | [], _, _, h => by cases h; exact ⟨[], rfl, .nil⟩
  | l :: k, _, _, h => by
    cases h with
    | cons h1 h2 =>
      obtain ⟨q, rfl, e⟩ := sh_lineT h1
      obtain ⟨bs, rfl, r⟩ := shs_word h2
      exact ⟨q :: bs, rfl, .cons e r⟩
theorem sh_word {k : Wd} {v : V} {as : List Addr} (h : Sh K H v (dWord k) as) : ∃ b, v = .ref b ∧ NKey K H k b := by
  cases h with
  | tup h1 h2 =>
    obtain ⟨bs, rfl, r⟩ := shs_word h2
    exact ⟨_, rfl, bs, h1, r⟩
theorem sh_trm {t : Int × Wd} {v : V} {as : List Addr} (h : Sh K H v (dTrm t) as) : ∃ a, v = .ref a ∧ TmAt K H (a, t) := by
  cases h with
  | tup h1 h2 =>
    obtain ⟨vc, vx, ac, ax, rfl, hc, hx⟩ := Shs.two h2
    cases hc
    obtain ⟨b, rfl, hk⟩ := sh_word hx
    exact ⟨_, rfl, b, h1, hk⟩
theorem shs_trms : ∀ {ts : List (Int × Wd)} {xs : List V} {as : List Addr}, Shs K H xs (ts.map dTrm) as → ∃ rs : List Trm, xs = rs.map (fun r => V.ref r.1) ∧ (∀ r ∈ rs, TmAt K H r) ∧ rs.map (·.2) = ts
  | [], _, _, h => by cases h; exact ⟨[], rfl, fun r hr => absurd hr (by simp), rfl⟩
  | t :: ts, _, _, h => by
    cases h with
    | cons h1 h2 =>
      obtain ⟨a, rfl, e⟩ := sh_trm h1
      obtain ⟨rs, rfl, r1, r2⟩ := shs_trms h2
      refine ⟨(a, t) :: rs, rfl, fun r hr => ?_, by rw [List.map_cons, r2]⟩
      rcases List.mem_cons.mp hr with rfl | hr
      · exact e
      · exact r1 r hr
/-- an instance's fields are written: what else is there stays -/
theorem sqT_ins {a p : Addr} {xs : List V} {C dx : Addr} {fs : List (Str × V)} {o : HO} (hp : H p = some (.ins C dx fs)) (h : SqT K H a xs) : SqT K (upd H p o) a xs := sqT_upd hp True.intro h
theorem nKey_ins {p b : Addr} {k : Wd} {C dx : Addr} {fs : List (Str × V)} {o : HO} (hp : H p = some (.ins C dx fs)) (h : NKey K H k b) : NKey K (upd H p o) k b := h.mono fun _ _ => sqT_ins hp
theorem tmAt_ins {p : Addr} {r : Trm} {C dx : Addr} {fs : List (Str × V)} {o : HO} (hp : H p = some (.ins C dx fs)) (h : TmAt K H r) : TmAt K (upd H p o) r := by
  obtain ⟨b, h1, h2⟩ := h
  exact ⟨b, sqT_ins hp h1, nKey_ins hp h2⟩
theorem sqL_ins {a p : Addr} {xs : List V} {C dx : Addr} {fs : List (Str × V)} {o : HO} (hp : H p = some (.ins C dx fs)) (h : SqL K H a xs) : SqL K (upd H p o) a xs := by
  rcases h with (h | ⟨od, h⟩) | h
  · exact .inl (.inl (by rw [upd_ne (fun z => by rw [z, hp] at h; cases h)]; exact h))
  · exact .inl (.inr ⟨od, by rw [upd_ne (fun z => by rw [z, hp] at h; cases h)]; exact h⟩)
  · exact .inr h
theorem tabs_ins {p : Addr} {T : List (Addr × Str)} {C dx : Addr} {fs : List (Str × V)} {o : HO} (hp : H p = some (.ins C dx fs)) (h : LamX.Tabs T H) : LamX.Tabs T (upd H p o) := fun x hx => by
  obtain ⟨ps, h1, h2, h3⟩ := h x hx
  refine ⟨ps, by rw [upd_ne (fun z => by rw [z, hp] at h1; cases h1)]; exact h1, h2, fun pos cv hc => ?_⟩
  obtain ⟨c, e1, e2⟩ := h3 pos cv hc
  exact ⟨c, e1, by rw [upd_ne (fun z => by unfold LamX.CodeO at e2; rw [z, hp] at e2; cases e2)]; exact e2⟩
end
end L2.Fo

/-! # a form made, or refused -/
namespace L2.Fo
open PySem PySem.Spec PyProof.Rows L2.Vf L2.Dw L2.Ch L2.Nk
abbrev sFo : Stmt := top 15
abbrev sFi : Stmt := inClass sFo 0
/-- at p: a form of the width n and the terms us put together, its list at D -/
def FoAt (K : PySem.W.Frag) (C : Addr) (H : Hp) (p : Addr) (n : Nat) (us : List (Int × Wd)) (D : Addr) : Prop := ∃ (dx : Addr) (rs : List Trm), H p = some (.ins C dx [("width", .int (n : Nat)), ("_terms", .ref D)]) ∧ H D = some (.lst (rs.map fun r => V.ref r.1)) ∧ (∀ r ∈ rs, TmAt K H r) ∧ rs.map (·.2) = us
/-- all but p and tables of code stays -/
def KeepN (p : Addr) (H H' : Hp) : Prop := ∀ b o, b ≠ p → (∀ ps, o ≠ .tbl ps) → H b = some o → H' b = some o
/-- what making a form ends in -/
def FiRest (K : PySem.W.Frag) (T : List (Addr × Str)) (C CN CL CT p : Addr) (vn vt : V) (dn dt : PyData) (H : Hp) (Q : VK) (E : XK) : Prop :=
  (widD dn = false ∧ ∀ d, H d = none → E (.ref CN) (some d) (upd H d (.xd [("value", vn)]))) ∨
  ∃ n : Nat, dn = .int (n : Nat) ∧ widD dn = true ∧ (((tyD dt == "list") = false ∧ ∀ d, H d = none → E (.ref CL) (some d) (upd H d (.xd [("value", vt)]))) ∨
    ∃ ds, dt = .list ds ∧ ((∃ i : Nat, (∀ j, j < i → ∀ d, ds[j]? = some d → termD n d = true) ∧ (∃ d, ds[i]? = some d ∧ termD n d = false) ∧ ∃ a xs as v, vt = .ref a ∧ SqL K H a xs ∧ Shs K H xs ds as ∧ xs[i]? = some v ∧ ∀ d, H d = none → E (.ref CT) (some d) (upd H d (.xd [("value", v)]))) ∨
      (∃ ts, ds = ts.map dTrm ∧ ds.all (termD n) = true ∧ ds.length < sizeLine ∧ ∀ H' D, KeepN p H H' → LamX.Tabs T H' → NewN H D → FoAt K C H' p n (together ts) D → Q .non H')))
def spFi (K : PySem.W.Frag) (T : List (Addr × Str)) (C CN CL CT : Addr) : Sp := fun vs H Q E => ∃ (p dx : Addr) (vn vt : V) (dn dt : PyData) (s1 s2 : List Addr), vs = [.ref p, vn, vt] ∧ H p = some (.ins C dx []) ∧ Sh K H vn dn s1 ∧ Sh K H vt dt s2 ∧ LamX.Tabs T H ∧
  FiRest K T C CN CL CT p vn vt dn dt H Q E
/-- what the written part says of an error's class and its making -/
structure ErT (P : Program) (w : World) (K : PySem.W.Frag) (mg : Str → Option Value) (base : Heap) (x : Str) (C fI : Addr) (fd : FuncData) : Prop where
  cl : ErC K C fI "value"
  fi : FnOk P w K mg base CX0 1 fI fd ["self", "value"] (spInit K "value")
  b1 : Binds K fd ["self", "value"] []
  mg_ : mg x = some (.ref C)
/-- what it says of the class Form -/
structure FoT (K : PySem.W.Frag) (mg : Str → Option Value) (C : Addr) : Prop where
  cl : Cls K C
  nW : NoAttr K C "width"
  nT : NoAttr K C "_terms"
  mg_ : mg "Form" = some (.ref C)
abbrev nFi : List Str := ["self", "width", "terms", "term"]
theorem scFi : FnScope nFi ["self", "width", "terms"] (defScope sFi) := ⟨rfl, rfl, rfl, by decide +kernel, rfl, by decide +kernel, by decide +kernel⟩
section
variable {P : Program} {w : World} {K : PySem.W.Frag} {mg : Str → Option Value} {base : Heap}
theorem ok_fi {C CN CL CT iN iL iT f fW fT fP : Addr} {T : List (Addr × Str)} {fd dW dT dP dIN dIL dIT : FuncData} (F : Fun K "__init__" "Form.__init__" sFi f fd) (N : Nm mg) (FT : FoT K mg C)
    (EN : ErT P w K mg base "InvalidNumber" CN iN dIN) (EL : ErT P w K mg base "InvalidList" CL iL dIL) (ET : ErT P w K mg base "InvalidTerm" CT iT dIT)
    (GW : FnOk P w K mg base CX0 2 fW dW ["value"] (spAsk K widD)) (mW : mg "is_width" = some (.ref fW)) (kW : PySem.W.keepIn K (.ref fW) = true) (bW : Binds K dW ["value"] [])
    (GT : FnOk P w K mg base CX0 5 fT dT ["value", "width"] (spAsk2 K termD)) (mT : mg "is_term" = some (.ref fT)) (kT : PySem.W.keepIn K (.ref fT) = true) (bT : Binds K dT ["value", "width"] [])
    (GP : FnOk P w K mg base CX0 3 fP dP ["terms"] (spPt K T)) (mP : mg "put_together" = some (.ref fP)) (kP : PySem.W.keepIn K (.ref fP) = true) (bP : Binds K dP ["terms"] []) :
    FnOk P w K mg base (L2.CX P w) 6 f fd ["self", "width", "terms"] (spFi K T C CN CL CT) := by
  refine F.okX scFi (fun vs H Q E h => ?_) fun cdv A outer s H vs Q E hr h => ?_
  · obtain ⟨p, dx, vn, vt, dn, dt, s1, s2, rfl, _⟩ := h
    rfl
  · obtain ⟨p, dx, vn, vt, dn, dt, s1, s2, rfl, hp, h1, h2, hT, q⟩ := h
    have hr2 := hr.mono (show 2 ≤ 5 by decide)
    refine ⟨_, pss_cons (ps_if (pt_not (pt_val (pe_call GW hr2 rfl mW kW bW .nil pass0 (pa_cons (pv 1) pa_nil)))) (pss_one (ps_raiseE rfl EN.cl EN.fi EN.b1 hr2 (takes_of rfl rfl rfl rfl) (by rfl) EN.mg_ (pa_cons (pv 1) pa_nil))) pss_nil)
      (pss_cons (ps_if (pt_not (pt_val (pe_callB call_isi (by rfl) N.isi boot_isi (pa_cons (pv 2) (pa_cons (pe_bltn (v := V.ty "list") (by rfl) N.lst PyProof.Rows.boot_list (by rfl)) pa_nil))))) (pss_one (ps_raiseE rfl EL.cl EL.fi EL.b1 hr2 (takes_of rfl rfl rfl rfl) (by rfl) EL.mg_ (pa_cons (pv 2) pa_nil))) pss_nil)
      (pss_cons (ps_for (passes_of rfl) rfl (pi_list (pv 2)) (pg_name (i := 3) scFi.nd rfl (Or.inl rfl))
        (pss_one (ps_if (pt_not (pt_val (pe_call GT hr rfl mT kT bT .nil pass0 (pa_cons (pv 3) (pa_cons (pv 1) pa_nil))))) (pss_one (ps_raiseE rfl ET.cl ET.fi ET.b1 hr2 (takes_of rfl rfl rfl rfl) (by rfl) ET.mg_ (pa_cons (pv 3) pa_nil))) pss_nil)))
      (pss_cons (ps_fld (pv 0) (pv 1) rfl)
      (pss_one (ps_fld (pv 0) (pe_call GP (hr.mono (by decide)) rfl mP kP bP .nil pass0 (pa_cons (pv 2) pa_nil)) rfl))))), ?_⟩
    refine ⟨_, rfl, vn, dn, s1, rfl, h1, ⟨_, rfl, ?_⟩⟩
    rcases q with ⟨e1, q⟩ | ⟨n, rfl, e1, q⟩
    · rw [e1]
      exact iteT ⟨vn, rfl, q⟩
    · rw [e1]
      cases h1
      refine iteF (isT_run (i := 2) rfl h2 (kit_list dt) ⟨_, rfl, ?_⟩)
      rcases q with ⟨e2, q⟩ | ⟨ds, rfl, q⟩
      · rw [e2]
        exact iteT ⟨vt, rfl, q⟩
      · refine iteF ?_
        obtain ⟨a, xs, as, rfl, g1, g2, q⟩ : ∃ a xs as, vt = .ref a ∧ SqL K H a xs ∧ Shs K H xs ds as ∧ ((∃ i : Nat, (∀ j, j < i → ∀ d, ds[j]? = some d → termD n d = true) ∧ (∃ d, ds[i]? = some d ∧ termD n d = false) ∧ ∃ v, xs[i]? = some v ∧ ∀ d, H d = none → E (.ref CT) (some d) (upd H d (.xd [("value", v)]))) ∨
            (∃ ts, ds = ts.map dTrm ∧ ds.all (termD n) = true ∧ ds.length < sizeLine ∧ ∀ H' D, KeepN p H H' → LamX.Tabs T H' → NewN H D → FoAt K C H' p n (together ts) D → Q .non H')) := by
          rcases q with ⟨i, q1, q2, a, xs, as, v, ev, g1, g2, hx, q⟩ | q
          · exact ⟨a, xs, as, ev, g1, g2, .inl ⟨i, q1, q2, v, hx, q⟩⟩
          · cases h2 with
            | lst g1 g2 => exact ⟨_, _, _, rfl, g1, g2, .inr q⟩
        refine ⟨_, rfl, a, rfl, ⟨_, g1⟩, ?_⟩
        refine for_it (walk_list (xs := xs)) (fun j σ H' => H' = H ∧ (∃ o, σ = [some (.ref p), some (.int n), some (.ref a), o]) ∧ ∀ i, i < j → ∀ d, ds[i]? = some d → termD n d = true) ⟨rfl, ⟨none, rfl⟩, fun i h => absurd h (by omega)⟩ ?_ ?_ ?_
        · rintro i σ H' _ ⟨rfl, _⟩
          exact g1
        · rintro i x σ H1 H1' hi ⟨rfl, ⟨o, rfl⟩, hb⟩ ⟨rfl, hx⟩
          obtain ⟨d, bs, hd, hsh⟩ := Shs.get g2 hx
          refine ⟨_, rfl, _, rfl, x, d, bs, n, rfl, hsh, ⟨_, rfl, ?_⟩⟩
          cases e : termD n d with
          | true =>
            refine iteF ⟨rfl, ⟨_, rfl⟩, fun j hj d' hd' => ?_⟩
            by_cases z : j < i
            · exact hb j z d' hd'
            · have : j = i := by omega
              subst this
              rw [hd] at hd'
              cases hd'
              exact e
          | false =>
            refine iteT ⟨x, rfl, ?_⟩
            rcases q with ⟨i', q1, ⟨d', q2, q3⟩, v, hv, q⟩ | ⟨ts, rfl, q1, _⟩
            · have : i' = i := by
                rcases Nat.lt_trichotomy i' i with z | z | z
                · rw [hb i' z d' q2] at q3; cases q3
                · exact z
                · rw [q1 i z d hd] at e; cases e
              subst this
              rw [hx] at hv
              cases hv
              exact q
            · rw [List.all_eq_true.mp q1 d (List.mem_of_getElem? hd)] at e
              cases e
        · rintro σ H' ⟨rfl, ⟨o, rfl⟩, hb⟩
          rcases q with ⟨i', q1, ⟨d', q2, q3⟩, _⟩ | ⟨ts, rfl, q1, q2, q⟩
          · rw [hb i' (by rw [Shs.length g2]; exact (List.getElem?_eq_some_iff.mp q2).1) d' q2] at q3
            cases q3
          · obtain ⟨rs, rfl, r1, r2⟩ := shs_trms g2
            refine ⟨_, rfl, _, rfl, p, C, dx, _, rfl, hp, FT.cl, FT.nW, by decide, ?_⟩
            have hlr : rs.length = ts.length := by rw [← r2, List.length_map]
            rw [List.length_map] at q2
            refine ⟨_, rfl, a, rs, rfl, sqL_ins hp g1, fun t ht => tmAt_ins hp (r1 t ht), by omega, tabs_ins hp hT, fun D rs' H2 e2 T2 nD eD tm et => ?_⟩
            have hp2 := e2 p _ upd_same (fun ps z => by cases z)
            refine ⟨_, rfl, p, C, dx, _, rfl, hp2, FT.cl, FT.nT, (by show 1 < 1000; decide), ?_⟩
            have pD : D ≠ p := fun z => by rw [z, hp2] at eD; cases eD
            refine q _ D (fun b o hb ho hH => ?_) (tabs_ins hp2 T2) (fun o ho => ?_) ⟨dx, rs', upd_same, ?_, fun r hr => tmAt_ins hp2 (tm r hr).1, ?_⟩
            · rw [upd_ne hb]
              exact e2 b o (by rw [upd_ne hb]; exact hH) ho
            · exact nD o (by rw [upd_ne pD]; exact ho)
            · rw [upd_ne pD]; exact eD
            · rw [et, r2]
end
end L2.Fo

/-! # terms() and == of a form -/
namespace L2.Fo
open PySem PySem.Spec PyProof.Rows L2.Vf L2.Dw L2.Ch L2.Nk
abbrev sTs : Stmt := inClass sFo 1
abbrev sEq : Stmt := inClass sFo 6
def dTrms (us : List (Int × Wd)) : PyData := .list (us.map dTrm)
theorem eqv_intsF : ∀ (a b : List Int), PyData.eqvAll (a.map PyData.int) (b.map PyData.int) = decide (a = b)
  | [], [] => by simp [PyData.eqvAll]
  | [], _ :: _ => by simp [PyData.eqvAll]
  | _ :: _, [] => by simp [PyData.eqvAll]
  | x :: a, y :: b => by
    simp only [List.map_cons, PyData.eqvAll, PyData.eqv, eqv_intsF a b]
    by_cases h : x = y
    · subst h; simp
    · simp [h]
theorem eqv_lineF (a b : List Int) : PyData.eqv (dLine a) (dLine b) = decide (a = b) := by
  show PyData.eqv (.tuple _) (.tuple _) = _
  rw [PyData.eqv, eqv_intsF]
theorem eqv_linesF : ∀ (a b : Wd), PyData.eqvAll (a.map dLine) (b.map dLine) = decide (a = b)
  | [], [] => by simp [PyData.eqvAll]
  | [], _ :: _ => by simp [PyData.eqvAll]
  | _ :: _, [] => by simp [PyData.eqvAll]
  | x :: a, y :: b => by
    simp only [List.map_cons, PyData.eqvAll, eqv_lineF, eqv_linesF a b]
    by_cases h : x = y
    · subst h; simp
    · simp [h]
theorem eqv_word (a b : Wd) : PyData.eqv (dWord a) (dWord b) = decide (a = b) := by
  show PyData.eqv (.tuple _) (.tuple _) = _
  rw [PyData.eqv, eqv_linesF]
theorem eqv_trm (a b : Int × Wd) : PyData.eqv (dTrm a) (dTrm b) = decide (a = b) := by
  show PyData.eqv (.tuple _) (.tuple _) = _
  rw [PyData.eqv]
  simp only [PyData.eqvAll, PyData.eqv, eqv_word]
  obtain ⟨a1, a2⟩ := a
  obtain ⟨b1, b2⟩ := b
  by_cases h : a1 = b1
  · subst h; by_cases h : a2 = b2 <;> simp [h]
  · simp [h]
theorem eqv_trmsA : ∀ (a b : List (Int × Wd)), PyData.eqvAll (a.map dTrm) (b.map dTrm) = decide (a = b)
  | [], [] => by simp [PyData.eqvAll]
  | [], _ :: _ => by simp [PyData.eqvAll]
  | _ :: _, [] => by simp [PyData.eqvAll]
  | x :: a, y :: b => by
    simp only [List.map_cons, PyData.eqvAll, eqv_trm, eqv_trmsA a b]
    by_cases h : x = y
    · subst h; simp
    · simp [h]
theorem eqv_trms (a b : List (Int × Wd)) : PyData.eqv (dTrms a) (dTrms b) = decide (a = b) := by
  show PyData.eqv (.list _) (.list _) = _
  rw [PyData.eqv, eqv_trmsA]
theorem lay_intsF : ∀ (a : List Int), PyData.canLayAll0 (a.map PyData.int) = true
  | [] => by simp [PyData.canLayAll0]
  | x :: a => by simp only [List.map_cons, PyData.canLayAll0, PyData.canLay0, lay_intsF a, Bool.and_self]
theorem lay_linesF : ∀ (m : Wd), PyData.canLayAll0 (m.map dLine) = true
  | [] => by simp [PyData.canLayAll0]
  | x :: m => by
    have : PyData.canLay0 (dLine x) = true := by unfold dLine; simp [PyData.canLay0, lay_intsF]
    simp only [List.map_cons, PyData.canLayAll0, this, lay_linesF m, Bool.and_self]
theorem lay_trms : ∀ (us : List (Int × Wd)), PyData.canLayAll0 (us.map dTrm) = true
  | [] => by simp [PyData.canLayAll0]
  | t :: us => by
    have : PyData.canLay0 (dTrm t) = true := by unfold dTrm dWord; simp [PyData.canLay0, PyData.canLayAll0, lay_linesF]
    simp only [List.map_cons, PyData.canLayAll0, this, lay_trms us, Bool.and_self]
theorem deep_trm (t : Int × Wd) : (dTrm t).depth ≤ 8 := by
  have h1 := deep_lines t.2
  simp only [dTrm, dWord, PyData.depth, PyData.depthAll]
  omega
theorem deep_trms : ∀ us : List (Int × Wd), PyData.depthAll (us.map dTrm) ≤ 8
  | [] => by simp [PyData.depthAll]
  | t :: us => by
    have h1 := deep_trms us
    have h2 := deep_trm t
    simp only [List.map_cons, PyData.depthAll]
    omega
theorem shaped_trms (us : List (Int × Wd)) : SeqAt.shaped (dTrms us) = true := by
  unfold SeqAt.shaped dTrms
  have := deep_trms us
  simp [PyData.canLay0, PyData.depth, lay_trms]
  omega
section
variable {K : PySem.W.Frag} {H : Hp}
theorem ints_shF : ∀ (l : List Int), Shs K H (l.map V.int) (l.map .int) []
  | [] => .nil
  | n :: l => .cons (as := []) (bs := []) (.int n) (ints_shF l)
theorem word_shs : ∀ {bs : List Addr} {k : Wd}, Paired (fun c l => SqT K H c (l.map V.int)) bs k → Shs K H (bs.map .ref) (k.map dLine) []
  | _, _, .nil => .nil
  | _, _, .cons h t => .cons (as := []) (bs := []) (.tup h (ints_shF _)) (word_shs t)
theorem word_sh {b : Addr} {k : Wd} (h : NKey K H k b) : Sh K H (.ref b) (dWord k) [] := by
  obtain ⟨bs, h1, h2⟩ := h
  exact .tup h1 (word_shs h2)
theorem trm_sh {r : Trm} (h : TmAt K H r) : Sh K H (.ref r.1) (dTrm r.2) [] := by
  obtain ⟨b, h1, h2⟩ := h
  exact .tup h1 (.cons (as := []) (bs := []) (.int _) (.cons (as := []) (bs := []) (word_sh h2) .nil))
theorem trms_shs : ∀ {rs : List Trm}, (∀ r ∈ rs, TmAt K H r) → Shs K H (rs.map fun r => V.ref r.1) ((rs.map (·.2)).map dTrm) []
  | [], _ => .nil
  | r :: rs, h => .cons (as := []) (bs := []) (trm_sh (h r List.mem_cons_self)) (trms_shs fun q hq => h q (List.mem_cons_of_mem _ hq))
theorem trms_sh {rs : List Trm} {D : Addr} {us : List (Int × Wd)} (hD : SqL K H D (rs.map fun r => V.ref r.1)) (h : ∀ r ∈ rs, TmAt K H r) (e : rs.map (·.2) = us) : Sh K H (.ref D) (dTrms us) [D] := by
  subst e
  exact .lst hD (trms_shs h)
end
/-- the list of the terms, new -/
def spTs (K : PySem.W.Frag) (C : Addr) : Sp := fun vs H Q _ => ∃ (p : Addr) (n : Nat) (us : List (Int × Wd)) (D : Addr), vs = [.ref p] ∧ FoAt K C H p n us D ∧
  ∀ (l : Addr) (rs : List Trm) (H' : Hp), H l = none → Same H H' → H' l = some (.lst (rs.map fun r => V.ref r.1)) → (∀ r ∈ rs, TmAt K H' r) → rs.map (·.2) = us → Q (.ref l) H'
/-- the other thing: no form, or one -/
def spEqF (K : PySem.W.Frag) (C : Addr) : Sp := fun vs H Q _ => ∃ (p : Addr) (n : Nat) (us : List (Int × Wd)) (D : Addr) (y : V), vs = [.ref p, y] ∧ FoAt K C H p n us D ∧
  ((∃ u, TyX K H y u ∧ PySem.W.kitOne K u (.ref C) = some false ∧ Q (.bl false) H) ∨ (∃ p2 n2 us2 D2, y = .ref p2 ∧ FoAt K C H p2 n2 us2 D2 ∧ Q (.bl (decide (n = n2 ∧ us = us2))) H))
/-- isinstance of own instances -/
structure IsT (K : PySem.W.Frag) (C : Addr) : Prop where
  ha : PySem.W.findIn K (.ref C) "__class__" = some (some (.builtin "object.__class__"))
  hn : PySem.W.specialIn K (.builtin "object.__class__") "__get__" = some (some (.builtin "getset_descriptor.__get__"))
  ht : PySem.W.takesIn K (.builtin "object.__class__") = some true
  hm : PySem.W.mroIn K C (.type "object") = some true
  me : PySem.W.kitOne K (.ref C) (.ref C) = some true
theorem and2 {a b : Prop} [Decidable a] [Decidable b] : decide (a ∧ b) = (decide a && decide b) := by
  by_cases h1 : a <;> by_cases h2 : b <;> simp [h1, h2]
section
variable {P : Program} {w : World} {K : PySem.W.Frag} {mg : Str → Option Value} {base : Heap}
theorem scTs : FnScope ["self"] ["self"] (defScope sTs) := ⟨rfl, rfl, rfl, by decide +kernel, rfl, by decide +kernel, by decide +kernel⟩
theorem ok_ts {C f : Addr} {fd : FuncData} (F : Fun K "terms" "Form.terms" sTs f fd) (N : Nm mg) (T : FoT K mg C) : FnOk P w K mg base CX0 1 f fd ["self"] (spTs K C) := by
  refine F.ok scTs (fun vs H Q E h => ?_) fun cdv A outer s H vs Q E hr h => ?_
  · obtain ⟨p, n, us, D, rfl, _⟩ := h
    rfl
  · obtain ⟨p, n, us, D, rfl, ⟨dx, rs, hp, hD, tm, e⟩, q⟩ := h
    refine ⟨_, pss_one (ps_ret (pe_callTy call_list_of (by rfl) N.lst PyProof.Rows.boot_list (pa_cons (pe_fld (pv 0) rfl) pa_nil))), ?_⟩
    exact ⟨_, rfl, p, C, dx, _, .ref D, rfl, hp, T.cl, T.nT, rfl, D, _, rfl, .inl (SqL.of hD), fun l hl => q l rs _ hl (same_new hl) upd_same (fun r hr => (tm r hr).ext (.of (same_new hl))) e⟩
theorem scEq : FnScope ["self", "other"] ["self", "other"] (defScope sEq) := ⟨rfl, rfl, rfl, by decide +kernel, rfl, by decide +kernel, by decide +kernel⟩
theorem ok_eq {C f : Addr} {fd : FuncData} (F : Fun K "__eq__" "Form.__eq__" sEq f fd) (N : Nm mg) (T : FoT K mg C) (I : IsT K C) : FnOk P w K mg base CX0 1 f fd ["self", "other"] (spEqF K C) := by
  refine F.ok scEq (fun vs H Q E h => ?_) fun cdv A outer s H vs Q E hr h => ?_
  · obtain ⟨p, n, us, D, y, rfl, _⟩ := h
    rfl
  · obtain ⟨p, n, us, D, y, rfl, ⟨dx, rs, hp, hD, tm, e⟩, h⟩ := h
    refine ⟨_, pss_one (ps_ret (pe_and (pe_callB call_isi (by rfl) N.isi boot_isi (pa_cons (pv 1) (pa_cons (pe_glob (v := V.ref C) (by rfl) T.mg_ (by rfl)) pa_nil))) (pe_and (pe_cmpR op_eq (pe_fld (pv 0) rfl) (pe_fld (pv 1) rfl) (nomark _)) (pe_one (pe_cmpR (Vf.op_eqD hr.units) (pe_fld (pv 0) rfl) (pe_fld (pv 1) rfl) (nomark _)))))), ?_⟩
    rcases h with ⟨u, ty, kit, q⟩ | ⟨p2, n2, us2, D2, rfl, ⟨dx2, rs2, hp2, hD2, tm2, e2⟩, q⟩
    · exact ⟨_, rfl, y, .ref C, u, .ref C, false, rfl, .own C, ty, kit, false, rfl, iteF q⟩
    · refine ⟨_, rfl, .ref p2, .ref C, .ref C, .ref C, true, rfl, .own C, .base (.ins hp2 T.cl I.ha I.hn I.ht I.hm), I.me, true, rfl, iteT ?_⟩
      refine ⟨_, rfl, p, C, dx, _, .int n, rfl, hp, T.cl, T.nW, rfl, _, rfl, p2, C, dx2, _, .int n2, rfl, hp2, T.cl, T.nW, rfl, rfl, _, rfl, ?_⟩
      have e9 : decide (V.int (n : Nat) = V.int (n2 : Nat)) = decide (n = n2) := by
        by_cases h3 : n = n2
        · simp [h3]
        · rw [decide_eq_false h3]
          refine decide_eq_false fun z => h3 ?_
          injection z with z
          omega
      rw [and2] at q
      rw [e9]
      by_cases h1 : n = n2
      · rw [decide_eq_true h1] at q ⊢
        refine iteT ⟨_, rfl, p, C, dx, _, .ref D, rfl, hp, T.cl, T.nT, rfl, _, rfl, p2, C, dx2, _, .ref D2, rfl, hp2, T.cl, T.nT, rfl, dTrms us, dTrms us2, _, _, trms_sh (SqL.of hD) tm e, trms_sh (SqL.of hD2) tm2 e2, shaped_trms us, shaped_trms us2, ?_⟩
        rw [(if_neg Bool.false_ne_true).trans (eqv_trms us us2)]
        exact q
      · rw [decide_eq_false h1] at q ⊢
        exact iteF q
end
end L2.Fo

/-! # written things: what a display of constants, lists, tuples and empty dicts makes -/
namespace L2.Lt
open PySem PySem.Spec PyProof.Rows L2.Vf L2.Dw L2.Ch
mutual
def litD : Expr → Option PyData
  | .Constant .none _ _ => some .none
  | .Constant (.bool b) _ _ => some (.bool b)
  | .Constant (.int i) _ _ => some (.int i)
  | .Constant (.str x) _ _ => some (.str x)
  | .UnaryOp .USub (.Constant (.int i) _ _) _ => some (.int (-i))
  | .List es _ => (litsD es).map .list
  | .Tuple es _ _ => (litsD es).map .tuple
  | .Dict [] [] _ => some (.dict [])
  | _ => none
def litsD : List Expr → Option (List PyData)
  | [] => some []
  | e :: es => match litD e, litsD es with
    | some d, some ds => if ds.length < 1000 then some (d :: ds) else none
    | _, _ => none
end
mutual
/-- data stands where its own lists stand, and all that is no list -/
theorem sh_stay {K : PySem.W.Frag} {H H' : Hp} : ∀ {v : V} {d : PyData} {as : List Addr}, Sh K H v d as → (∀ b u, H b = some u → ((∃ xs, u = .lst xs) → b ∈ as) → H' b = some u) → Sh K H' v d as
  | _, _, _, .non, _ => .non
  | _, _, _, .bl b, _ => .bl b
  | _, _, _, .int i, _ => .int i
  | _, _, _, .str x, _ => .str x
  | _, _, _, .lst h t, k => .lst (by
      rcases h with (h | ⟨o, h⟩) | h
      · exact .inl (.inl (k _ _ h fun _ => List.mem_cons_self))
      · exact .inl (.inr ⟨o, k _ _ h fun ⟨_, z⟩ => by cases z⟩)
      · exact .inr h) (shs_stay t fun b u e m => k b u e fun z => List.mem_cons_of_mem _ (m z))
  | _, _, _, .tup h t, k => .tup (by
      rcases h with (h | ⟨o, h⟩) | h
      · exact .inl (.inl (k _ _ h fun ⟨_, z⟩ => by cases z))
      · exact .inl (.inr ⟨o, k _ _ h fun ⟨_, z⟩ => by cases z⟩)
      · exact .inr h) (shs_stay t k)
  | _, _, _, .dK h t, k => .dK (by
      rcases h with h | ⟨o, h⟩
      · exact .inl (k _ _ h fun ⟨_, z⟩ => by cases z)
      · exact .inr ⟨o, k _ _ h fun ⟨_, z⟩ => by cases z⟩) (shs_stay t k)
theorem shs_stay {K : PySem.W.Frag} {H H' : Hp} : ∀ {xs : List V} {ds : List PyData} {as : List Addr}, Shs K H xs ds as → (∀ b u, H b = some u → ((∃ xs, u = .lst xs) → b ∈ as) → H' b = some u) → Shs K H' xs ds as
  | _, _, _, .nil, _ => .nil
  | _, _, _, .cons h t, k => .cons (sh_stay h fun b u e m => k b u e fun z => List.mem_append_left _ (m z)) (shs_stay t fun b u e m => k b u e fun z => List.mem_append_right _ (m z))
end
theorem sh_mono {K : PySem.W.Frag} {H H' : Hp} {v : V} {d : PyData} {as : List Addr} (h : Sh K H v d as) (s : Same H H') : Sh K H' v d as := sh_stay h fun b u e _ => s b u e
/-- a thing, what it is, the lists in it -/
structure Itm where
  v : V
  d : PyData
  as : List Addr
/-- what stands: data, its lists such as can be lengthened -/
structure Ok (K : PySem.W.Frag) (H : Hp) (i : Itm) : Prop where
  sh : Sh K H i.v i.d i.as
  live : ∀ a ∈ i.as, ∃ xs, H a = some (.lst xs) ∧ xs.length ≤ 1000
  top : ∀ ds, i.d = .list ds → ∃ (a : Addr) (xs : List V) (as : List Addr), i.v = .ref a ∧ i.as = a :: as ∧ H a = some (.lst xs) ∧ xs.length ≤ 1000 ∧ Shs K H xs ds as
  nd : i.as.Nodup
def Fresh (H : Hp) (i : Itm) : Prop := ∀ a ∈ i.as, H a = none ∧ a ≠ sysModules
def Apart (i j : Itm) : Prop := ∀ a ∈ i.as, a ∉ j.as
theorem Ok.mono {K : PySem.W.Frag} {H H' : Hp} {i : Itm} (h : Ok K H i) (s : Same H H') : Ok K H' i := ⟨sh_mono h.sh s, fun a m => by
  obtain ⟨xs, e, l⟩ := h.live a m
  exact ⟨xs, s _ _ e, l⟩, fun ds e => by
  obtain ⟨a, xs, as, e1, e2, e3, e4, e5⟩ := h.top ds e
  exact ⟨a, xs, as, e1, e2, s _ _ e3, e4, shs_stay e5 fun b u e _ => s b u e⟩, h.nd⟩
/-- another's list is changed -/
theorem Ok.keep {K : PySem.W.Frag} {H H' : Hp} {i : Itm} {g : Addr} (h : Ok K H i) (k : Keep g H H') (hg : ∃ xs, H g = some (.lst xs)) (n : g ∉ i.as) : Ok K H' i := by
  obtain ⟨ys, hg⟩ := hg
  have st : ∀ b u, H b = some u → ((∃ xs, u = .lst xs) → b ∈ i.as) → H' b = some u := fun b u e m => k b u (fun z => by
    rw [z, hg] at e
    cases e
    exact n (z ▸ m ⟨ys, rfl⟩)) e
  refine ⟨sh_stay h.sh fun b u e m => k b u (fun z => ?_) e, fun a m => ?_, fun ds e => ?_, h.nd⟩
  · rw [z, hg] at e
    cases e
    exact n (z ▸ m ⟨ys, rfl⟩)
  · obtain ⟨xs, e, l⟩ := h.live a m
    exact ⟨xs, k _ _ (fun z => n (z ▸ m)) e, l⟩
  · obtain ⟨a, xs, as, e1, e2, e3, e4, e5⟩ := h.top ds e
    refine ⟨a, xs, as, e1, e2, st _ _ e3 fun _ => by rw [e2]; exact List.mem_cons_self, e4, shs_stay e5 fun b u e m => st b u e fun z => by rw [e2]; exact List.mem_cons_of_mem _ (m z)⟩
/-- the things of ds, made new -/
structure Made (K : PySem.W.Frag) (H H' : Hp) (l : List Itm) (ds : List PyData) : Prop where
  same : Same H H'
  ok : ∀ i ∈ l, Ok K H' i
  new : ∀ i ∈ l, Fresh H i
  apart : l.Pairwise Apart
  ds : l.map (·.d) = ds
theorem Made.nd {K : PySem.W.Frag} {H H' : Hp} {l : List Itm} {ds : List PyData} (m : Made K H H' l ds) : (l.flatMap (·.as)).Nodup := by
  have go : ∀ {l : List Itm}, (∀ i ∈ l, i.as.Nodup) → l.Pairwise Apart → (l.flatMap (·.as)).Nodup := by
    intro l
    induction l with
    | nil => exact fun _ _ => List.nodup_nil
    | cons i l ih =>
      intro h1 h2
      rw [List.flatMap_cons, List.nodup_append]
      cases h2 with
      | cons h3 h4 =>
        refine ⟨h1 i List.mem_cons_self, ih (fun j hj => h1 j (List.mem_cons_of_mem _ hj)) h4, fun a ha b hb => ?_⟩
        rintro rfl
        obtain ⟨j, hj, ha'⟩ := List.mem_flatMap.mp hb
        exact h3 j hj a ha ha'
  exact go (fun i hi => (m.ok i hi).nd) m.apart
def tLit (K : PySem.W.Frag) (d : PyData) : TE := fun σ H Q => ∀ i H', Same H H' → Ok K H' i → Fresh H i → i.d = d → Q i.v H'
def tLits (K : PySem.W.Frag) (ds : List PyData) : TA := fun σ H Q => ∀ l H', Made K H H' l ds → Q (l.map (·.v)) H'
theorem Made.shs {K : PySem.W.Frag} {H : Hp} : ∀ {l : List Itm}, (∀ i ∈ l, Ok K H i) → Shs K H (l.map (·.v)) (l.map (·.d)) (l.flatMap (·.as))
  | [], _ => .nil
  | i :: l, h => by
    rw [List.flatMap_cons]
    exact .cons (h i List.mem_cons_self).sh (Made.shs fun j hj => h j (List.mem_cons_of_mem _ hj))
section
variable {X : Cx}
theorem lit_star {e : Expr} {d : PyData} {es : List Expr} (h : litD e = some d) : starEach (e :: es) X.env = (false, eval e X.env) :: starEach es X.env := by
  cases e <;> first | rfl | cases h
theorem one_lit {d : PyData} {v : V} {H : Hp} {Q : VK} {K : PySem.W.Frag} (q : ∀ i H', Same H H' → Ok K H' i → Fresh H i → i.d = d → Q i.v H') (hs : Sh K H v d []) (hd : ∀ ds, d ≠ .list ds) : Q v H :=
  q ⟨v, d, []⟩ H (Same.refl H) ⟨hs, fun a m => (by cases m), fun ds e => absurd e (hd ds), List.nodup_nil⟩ (fun a m => (by cases m)) rfl
mutual
theorem lit_pe : ∀ {e : Expr} {d : PyData}, litD e = some d → PE X e (tLit X.K d)
  | .Constant .none _ _, d, h => by cases h; exact ⟨fun pins s σ H Q I q => pe_non.run pins s σ H Q I (one_lit q .non fun ds z => by cases z)⟩
  | .Constant (.bool b) _ _, d, h => by cases h; exact ⟨fun pins s σ H Q I q => pe_bl.run pins s σ H Q I (one_lit q (.bl b) fun ds z => by cases z)⟩
  | .Constant (.int i) _ _, d, h => by cases h; exact ⟨fun pins s σ H Q I q => pe_int.run pins s σ H Q I (one_lit q (.int i) fun ds z => by cases z)⟩
  | .Constant (.str x) _ _, d, h => by cases h; exact ⟨fun pins s σ H Q I q => pe_str.run pins s σ H Q I (one_lit q (.str x) fun ds z => by cases z)⟩
  | .UnaryOp .USub (.Constant (.int i) _ _) _, d, h => by cases h; exact ⟨fun pins s σ H Q I q => (pe_un un_neg pe_int).run pins s σ H Q I ⟨i, rfl, one_lit q (.int (-i)) fun ds z => by cases z⟩⟩
  | .List es _, d, h => by
    simp only [litD, Option.map_eq_some_iff] at h
    obtain ⟨ds, hd, rfl⟩ := h
    refine ⟨fun pins s σ H Q I q => (pe_lstF (lits_pa hd)).run pins s σ H Q I fun l H' m => ?_⟩
    have hl := lits_len hd
    have ll : l.length = ds.length := by rw [← m.ds, List.length_map]
    refine ⟨by rw [List.length_map, sizeLine_eq]; omega, fun p hp np => ?_⟩
    have sp := same_new (o := .lst (l.map (·.v))) hp
    refine q ⟨.ref p, .list ds, p :: l.flatMap (·.as)⟩ _ (m.same.trans sp) ⟨.lst (SqL.of upd_same) ?_, fun a ha => ?_, fun ds' z => ?_, ?_⟩ (fun a ha => ?_) rfl
    · have := Made.shs (K := X.K) fun i hi => (m.ok i hi).mono sp
      rw [m.ds] at this
      exact this
    · rcases List.mem_cons.mp ha with rfl | ha
      · exact ⟨_, upd_same, by rw [List.length_map]; omega⟩
      · obtain ⟨i, hi, ha⟩ := List.mem_flatMap.mp ha
        obtain ⟨xs, e, le⟩ := (m.ok i hi).live a ha
        exact ⟨xs, sp _ _ e, le⟩
    · cases z
      have := Made.shs (K := X.K) fun i hi => (m.ok i hi).mono sp
      rw [m.ds] at this
      exact ⟨p, _, _, rfl, rfl, upd_same, by rw [List.length_map]; omega, this⟩
    · refine List.nodup_cons.mpr ⟨fun z => ?_, m.nd⟩
      obtain ⟨i, hi, ha⟩ := List.mem_flatMap.mp z
      obtain ⟨xs, e, _⟩ := (m.ok i hi).live p ha
      rw [hp] at e
      cases e
    · rcases List.mem_cons.mp ha with rfl | ha
      · exact ⟨m.same.free hp, np⟩
      · obtain ⟨i, hi, ha⟩ := List.mem_flatMap.mp ha
        exact m.new i hi a ha
  | .Tuple es _ _, d, h => by
    simp only [litD, Option.map_eq_some_iff] at h
    obtain ⟨ds, hd, rfl⟩ := h
    refine ⟨fun pins s σ H Q I q => (pe_tup (lits_pa hd)).run pins s σ H Q I fun l H' m => ?_⟩
    have hl := lits_len hd
    have ll : l.length = ds.length := by rw [← m.ds, List.length_map]
    refine ⟨by rw [List.length_map, sizeLine_eq]; omega, fun p hp => ?_⟩
    have sp := same_new (o := .tup (l.map (·.v))) hp
    refine q ⟨.ref p, .tuple ds, l.flatMap (·.as)⟩ _ (m.same.trans sp) ⟨.tup (SqT.of upd_same) ?_, fun a ha => ?_, (fun ds' z => by cases z), m.nd⟩ (fun a ha => ?_) rfl
    · have := Made.shs (K := X.K) fun i hi => (m.ok i hi).mono sp
      rw [m.ds] at this
      exact this
    · obtain ⟨i, hi, ha⟩ := List.mem_flatMap.mp ha
      obtain ⟨xs, e, le⟩ := (m.ok i hi).live a ha
      exact ⟨xs, sp _ _ e, le⟩
    · obtain ⟨i, hi, ha⟩ := List.mem_flatMap.mp ha
      exact m.new i hi a ha
  | .Dict [] [] _, d, h => by
    cases h
    refine ⟨fun pins s σ H Q I q => pe_dnewK.run pins s σ H Q I fun p hp => ?_⟩
    exact q ⟨.ref p, .dict [], []⟩ _ (same_new hp) ⟨.dK (kvs := []) (.inl upd_same) .nil, fun a m => (by cases m), fun ds z => (by cases z), List.nodup_nil⟩ (fun a m => (by cases m)) rfl
theorem lits_pa : ∀ {es : List Expr} {ds : List PyData}, litsD es = some ds → PA X es (tLits X.K ds)
  | [], ds, h => by
    cases h
    exact ⟨fun pos pins s σ H Q I q => pa_nil.run pos pins s σ H Q I (q [] H ⟨Same.refl H, fun i m => (by cases m), fun i m => (by cases m), .nil, rfl⟩)⟩
  | e :: es, ds, h => by
    simp only [litsD] at h
    split at h
    · rename_i d r he hes
      split at h
      · cases h
        refine ⟨fun pos pins s σ H Q I q => (pa_cons (lit_pe he) (lits_pa hes) (lit_star he)).run pos pins s σ H Q I fun i H1 s1 ok1 f1 e1 l H2 m => ?_⟩
        refine q (i :: l) H2 ⟨s1.trans m.same, fun j hj => ?_, fun j hj a ha => ?_, .cons (fun j hj a ha ha' => ?_) m.apart, by rw [List.map_cons, e1, m.ds]⟩
        · rcases List.mem_cons.mp hj with rfl | hj
          · exact ok1.mono m.same
          · exact m.ok j hj
        · rcases List.mem_cons.mp hj with rfl | hj
          · exact f1 a ha
          · exact ⟨s1.free (m.new j hj a ha).1, (m.new j hj a ha).2⟩
        · obtain ⟨xs, e, _⟩ := ok1.live a ha
          rw [(m.new j hj a ha').1] at e
          cases e
      · cases h
    · cases h
theorem lits_len : ∀ {es : List Expr} {ds : List PyData}, litsD es = some ds → ds.length ≤ 1000
  | [], ds, h => by cases h; exact Nat.zero_le _
  | e :: es, ds, h => by
    simp only [litsD] at h
    split at h
    · split at h
      · cases h
        simpa using (by omega : _ + 1 ≤ 1000)
      · cases h
    · cases h
end
end
end L2.Lt

/-! # made things further: what an expression yields; flat lists put together -/
namespace L2.Lt
open PySem PySem.Spec PyProof.Rows L2.Vf L2.Dw L2.Ch
/-- te makes a new thing that is d -/
def Yl (K : PySem.W.Frag) (σ : St) (te : TE) (d : PyData) : Prop := ∀ (H : Hp) (Q : VK), (∀ i H', Same H H' → Ok K H' i → Fresh H i → i.d = d → Q i.v H') → te σ H Q
def YlA (K : PySem.W.Frag) (σ : St) (ta : TA) (ds : List PyData) : Prop := ∀ (H : Hp) (Q : List V → Hp → Prop), (∀ l H', Made K H H' l ds → Q (l.map (·.v)) H') → ta σ H Q
/-- scalars -/
inductive Sc : V → PyData → Prop
  | non : Sc .non .none
  | bl (b : Bool) : Sc (.bl b) (.bool b)
  | int (i : Int) : Sc (.int i) (.int i)
  | str (x : Str) : Sc (.str x) (.str x)
/-- te makes a new list of scalars -/
def YlF (σ : St) (te : TE) (vs : List V) : Prop := ∀ (H : Hp) (Q : VK), (∀ p H', H p = none → p ≠ sysModules → Same H H' → H' p = some (.lst vs) → Q (.ref p) H') → te σ H Q
/-- te tells a value -/
def Tl (σ : St) (te : TE) (v : V) : Prop := ∀ (H : Hp) (Q : VK), Q v H → te σ H Q
section
variable {K : PySem.W.Frag} {σ : St} {te t1 t2 : TE} {ta : TA} {d : PyData} {ds : List PyData} {vs ws : List V}
theorem Sc.sh {H : Hp} {v : V} (h : Sc v d) : Sh K H v d [] := by
  cases h with
  | non => exact .non
  | bl b => exact .bl b
  | int i => exact .int i
  | str x => exact .str x
theorem scs_sh {H : Hp} : ∀ {vs : List V} {ds : List PyData}, Paired Sc vs ds → Shs K H vs ds []
  | _, _, .nil => .nil
  | _, _, .cons h t => .cons (as := []) (bs := []) h.sh (scs_sh t)
theorem Yl.lit : Yl K σ (tLit K d) d := fun H Q h => h
theorem YlA.lits : YlA K σ (tLits K ds) ds := fun H Q h => h
theorem YlA.nil : YlA K σ tNil [] := fun H Q h => h [] H ⟨Same.refl H, fun i m => (by cases m), fun i m => (by cases m), .nil, rfl⟩
theorem YlA.cons (h : Yl K σ te d) (t : YlA K σ ta ds) : YlA K σ (tCons te ta) (d :: ds) := fun H Q q =>
  h H _ fun i H1 s1 ok1 f1 e1 => t H1 _ fun l H2 m => q (i :: l) H2 ⟨s1.trans m.same, fun j hj => by
      rcases List.mem_cons.mp hj with rfl | hj
      · exact ok1.mono m.same
      · exact m.ok j hj, fun j hj a ha => by
      rcases List.mem_cons.mp hj with rfl | hj
      · exact f1 a ha
      · exact ⟨s1.free (m.new j hj a ha).1, (m.new j hj a ha).2⟩, .cons (fun j hj a ha ha' => by
      obtain ⟨xs, e, _⟩ := ok1.live a ha
      rw [(m.new j hj a ha').1] at e
      cases e) m.apart, by rw [List.map_cons, e1, m.ds]⟩
/-- things, and more things made later -/
theorem Made.app {H H1 H2 H3 : Hp} {l1 l2 : List Itm} {d1 d2 : List PyData} (m1 : Made K H H1 l1 d1) (s : Same H1 H2) (m2 : Made K H2 H3 l2 d2) : Made K H H3 (l1 ++ l2) (d1 ++ d2) := by
  refine ⟨m1.same.trans (s.trans m2.same), fun i hi => ?_, fun i hi a ha => ?_, ?_, by rw [List.map_append, m1.ds, m2.ds]⟩
  · rcases List.mem_append.mp hi with hi | hi
    · exact (m1.ok i hi).mono (s.trans m2.same)
    · exact m2.ok i hi
  · rcases List.mem_append.mp hi with hi | hi
    · exact m1.new i hi a ha
    · exact ⟨(m1.same.trans s).free (m2.new i hi a ha).1, (m2.new i hi a ha).2⟩
  · rw [List.pairwise_append]
    refine ⟨m1.apart, m2.apart, fun i hi j hj a ha ha' => ?_⟩
    obtain ⟨xs, e, _⟩ := (m1.ok i hi).live a ha
    have := s _ _ e
    rw [(m2.new j hj a ha').1] at this
    cases this
theorem YlF.one {t : TE} {v : V} (h : Tl σ t v) : YlF σ (tLstF (tCons t tNil)) [v] := fun H Q q => h H _ ⟨by show 1 ≤ sizeLine; decide, fun p hp np => q p _ hp np (same_new hp) upd_same⟩
theorem YlF.rep {k : Nat} (h : YlF σ t1 vs) (hk : Tl σ t2 (.int (k : Nat))) (h1 : k ≤ 1000) (h2 : vs.length ≤ 1000) : YlF σ (tOp rRepF t1 t2) (List.replicate k vs).flatten := fun H Q q =>
  h H _ fun p H1 hp np s e => hk H1 _ ⟨p, k, vs, rfl, rfl, e, by omega, by omega, by
      rw [sizeLine_eq]
      have a1 : vs.length * k ≤ 1000 * 1000 := Nat.mul_le_mul h2 h1
      show vs.length * k ≤ _
      omega, fun p2 hp2 np2 => q p2 _ (s.free hp2) np2 (s.trans (same_new hp2)) upd_same⟩
theorem YlF.cat (h : YlF σ t1 vs) (t : YlF σ t2 ws) (h1 : vs.length ≤ 1000) (h2 : ws.length ≤ 1000) : YlF σ (tOp rCatF t1 t2) (vs ++ ws) := fun H Q q =>
  h H _ fun p H1 hp np s e => t H1 _ fun p2 H2 hp2 np2 s2 e2 => ⟨p, p2, vs, ws, rfl, rfl, s2 _ _ e, e2, by rw [sizeLine_eq]; omega, fun p3 hp3 np3 => q p3 _ ((s.trans s2).free hp3) np3 ((s.trans s2).trans (same_new hp3)) upd_same⟩
theorem YlF.yl (h : YlF σ te vs) (hv : Paired Sc vs ds) (h1 : vs.length ≤ 1000) : Yl K σ te (.list ds) := fun H Q q =>
  h H _ fun p H1 hp np s e => q ⟨.ref p, .list ds, [p]⟩ H1 s ⟨.lst (SqL.of e) (scs_sh hv), fun a ha => by
      rcases List.mem_singleton.mp ha with rfl
      exact ⟨vs, e, h1⟩, fun ds' z => by cases z; exact ⟨p, vs, [], rfl, rfl, e, h1, scs_sh hv⟩, by simp⟩ (fun a ha => by
      rcases List.mem_singleton.mp ha with rfl
      exact ⟨hp, np⟩) rfl
theorem rep_sc {v : V} (hv : Sc v d) : ∀ k : Nat, Paired Sc (List.replicate k v) (List.replicate k d)
  | 0 => .nil
  | k + 1 => by
    rw [List.replicate_succ, List.replicate_succ]
    exact .cons hv (rep_sc hv k)
theorem rep_one {α : Type} (x : α) : ∀ k : Nat, (List.replicate k [x]).flatten = List.replicate k x
  | 0 => rfl
  | k + 1 => by rw [List.replicate_succ, List.flatten_cons, rep_one x k]; rfl
/-- (x,) * k -/
theorem Yl.tup {t : TE} {v : V} {k : Nat} (h : Tl σ t v) (hv : Sc v d) (hk : Tl σ t2 (.int (k : Nat))) (h0 : 1 ≤ k) (h1 : k ≤ 1000) : Yl K σ (tOp (rRepTA K) (tTup (tCons t tNil)) t2) (.tuple (List.replicate k d)) := by
  intro H Q q
  refine h H _ ⟨by show 1 ≤ sizeLine; decide, fun p hp => hk _ _ ⟨p, k, [v], rfl, rfl, SqT.of upd_same, by simp, by omega, by omega, by simp, fun e => ?_, fun e p2 hp2 => ?_⟩⟩
  · have ek : k = 1 := by omega
    subst ek
    exact q ⟨.ref p, .tuple [d], []⟩ _ (same_new hp) ⟨.tup (SqT.of upd_same) (scs_sh (rep_sc hv 1)), fun a ha => (by cases ha), fun ds' z => (by cases z), List.nodup_nil⟩ (fun a ha => (by cases ha)) rfl
  · have sp := same_new (o := .tup [v]) hp
    refine q ⟨.ref p2, .tuple (List.replicate k d), []⟩ _ (sp.trans (same_new hp2)) ⟨.tup (SqT.of upd_same) ?_, fun a ha => (by cases ha), fun ds' z => (by cases z), List.nodup_nil⟩ (fun a ha => (by cases ha)) rfl
    rw [show ((k : Int)).toNat = k from rfl, rep_one]
    exact scs_sh (rep_sc hv k)
end
end L2.Lt

/-! # letters drawn -/
namespace L2.Fo
open PySem PySem.Spec PyProof.Rows L2.Vf L2.Dw L2.Ch L2.Nk L2.Lt
abbrev sLr : Stmt := top 34
abbrev nLr : List Str := ["_law_purse_here", "_law_width", "_law_kinds"]
/-- a letter of n exponents up to 3 -/
def Ltr (n : Nat) (l : List Int) : Prop := l.length = n ∧ ∀ x ∈ l, 0 ≤ x ∧ x ≤ 3
def spLr (K : PySem.W.Frag) : Sp := fun vs H Q _ => ∃ (g : Addr) (n : Nat) (c : Nat), vs = [.ref g, .int (n : Nat)] ∧ 1 ≤ n ∧ n ≤ 2 ∧ Pu H g c ∧ c ≤ 1000000 ∧
  ∀ (a : Addr) (l : List Int) (H' : Hp), Ltr n l → SqT K H' a (l.map V.int) → Keep g H H' → Pu H' g (c + 3) → Q (.ref a) H'
def k1 : List (List Int) := [[0], [1], [1], [2], [3]]
def k2 : List (List Int) := [[0, 0], [1, 0], [0, 1], [1, 1], [2, 0], [0, 2], [1, 2]]
theorem ltr_k1 : ∀ l ∈ k1, Ltr 1 l := by unfold Ltr; decide
theorem ltr_k2 : ∀ l ∈ k2, Ltr 2 l := by unfold Ltr; decide
section
variable {P : Program} {w : World} {K : PySem.W.Frag} {mg : Str → Option Value} {base : Heap}
theorem scLr : FnScope nLr ["_law_purse_here", "_law_width"] (defScope sLr) := ⟨rfl, rfl, rfl, by decide +kernel, rfl, by decide +kernel, by decide +kernel⟩
/-- the last statement -/
def tLrE (K : PySem.W.Frag) : TS := tRet (tOp (rIx K) (tVar 2) (tCall spDr [] E0 (tCons (tVar 0) (tCons (tLenS K 2) tNil))))
theorem rd_lrE {D : Ends} {H0 H : Hp} {g : Addr} {n c : Nat} {i : Itm} {ks : List (List Int)} {σ : St} (h0 : σ[0]? = some (some (.ref g))) (h2 : σ[2]? = some (some i.v)) (hp : Pu H0 g c) (hc : c ≤ 1000000) (s : Same H0 H) (ok : Ok K H i) (fr : Fresh H0 i) (e : i.d = .list (ks.map dLine)) (hk : ∀ l ∈ ks, Ltr n l) (h1 : 1 ≤ ks.length) (h9 : ks.length ≤ 10)
    (q : ∀ (a : Addr) (l : List Int) (H' : Hp), Ltr n l → SqT K H' a (l.map V.int) → Keep g H0 H' → Pu H' g (c + 3) → D.rt (.ref a) H') : tLrE K D σ H := by
  obtain ⟨iv, id, ia⟩ := i
  obtain rfl : id = .list (ks.map dLine) := e
  have hs : Sh K H iv (.list (ks.map dLine)) ia := ok.sh
  have hga : g ∉ ia := fun z => by
    obtain ⟨xs, q⟩ := hp.lst
    rw [(fr g z).1] at q
    cases q
  cases hs with
  | @lst a xs _ as g1 g2 =>
    have hl : xs.length = ks.length := by rw [Shs.length g2, List.length_map]
    refine ⟨_, h2, _, h0, _, h2, a, xs, rfl, .inl g1, g, _, c, rfl, by omega, by omega, hp.mono s, by omega, fun r H1 b1 b2 k p1 => ?_⟩
    have ok2 : Ok K H1 ⟨.ref a, .list (ks.map dLine), a :: as⟩ := ok.keep k (hp.mono s).lst hga
    have hs2 : Sh K H1 (.ref a) (.list (ks.map dLine)) (a :: as) := ok2.sh
    cases hs2 with
    | @lst _ ys _ _ f1 f2 =>
      have hl2 : ys.length = ks.length := by rw [Shs.length f2, List.length_map]
      obtain ⟨j, rfl⟩ : ∃ j : Nat, r = (j : Int) := ⟨r.toNat, by omega⟩
      have hj : j < ys.length := by omega
      have hy : ys[j]? = some ys[j] := List.getElem?_eq_getElem hj
      obtain ⟨d, bs, hd, hsh⟩ := Shs.get f2 hy
      rw [List.getElem?_map] at hd
      obtain ⟨l, hlj, rfl⟩ := Option.map_eq_some_iff.mp hd
      obtain ⟨b, eb, hb⟩ := sh_lineT hsh
      refine .inl ⟨a, ys, (j : Nat), ys[j], rfl, rfl, f1, ?_, ?_⟩
      · exact atI_nat hy
      · rw [eb]
        exact q b l H1 (hk l (List.mem_of_getElem? hlj)) hb ((Keep.of s).trans k) p1
theorem ok_lr {f fD : Addr} {fd dD : FuncData} (F : Fun K "_law_letter" "_law_letter" sLr f fd) (N : Nm mg) (GD : FnOk P w K mg base CX0 2 fD dD ["_law_purse_here", "_law_out_of"] spDr) (mD : mg "_law_draw" = some (.ref fD)) (kD : PySem.W.keepIn K (.ref fD) = true) (bD : Binds K dD ["_law_purse_here", "_law_out_of"] []) : FnOk P w K mg base CX0 3 f fd ["_law_purse_here", "_law_width"] (spLr K) := by
  refine F.ok scLr (fun vs H Q E h => ?_) fun cdv A outer s H vs Q E hr h => ?_
  · obtain ⟨g, n, c, rfl, _⟩ := h
    rfl
  · obtain ⟨g, n, c, rfl, n1, n2, hp, hc, q⟩ := h
    refine ⟨tSeq (tAsg (tLit K (.list (k1.map dLine))) (gName 2)) (tSeq (tIfS (tB (tEqI (tVar 1) (tC (.int 2)))) (tAsg (tLit K (.list (k2.map dLine))) (gName 2)) tNext) (tLrE K)),
      pss_cons (ps_set (i := 2) scLr.nd rfl (.inl rfl) (lit_pe rfl))
      (pss_cons (ps_if (pt_cmp (pc_eqI (pv 1) pe_int)) (pss_one (ps_set (i := 2) scLr.nd rfl (.inl rfl) (lit_pe rfl))) pss_nil)
      (pss_one (ps_ret (pe_ix ix_seq (pv 2) (pe_call GD hr rfl mD kD bD .nil pass0 (pa_cons (pv 0) (pa_cons (pe_callB call_len_seq (by rfl) N.len PySem.boot_len (pa_cons (pv 2) pa_nil)) pa_nil))) fun _ _ => rfl)))), ?_⟩
    intro i1 H1 s1 ok1 f1 e1
    refine ⟨_, rfl, _, _, rfl, rfl, _, rfl, ?_⟩
    by_cases z : n = 2
    · subst z
      refine iteT ?_
      intro i2 H2 s2 ok2 f2 e2
      refine rd_lrE (K := K) (n := 2) (H0 := H) (i := i2) (ks := k2) rfl rfl hp hc (s1.trans s2) ok2 (fun a ha => ⟨s1.free (f2 a ha).1, (f2 a ha).2⟩) e2 ltr_k2 (by decide) (by decide) fun a l H' h1 h2 h3 h4 => q a l H' h1 h2 h3 h4
    · obtain rfl : n = 1 := by omega
      refine iteF ?_
      exact rd_lrE (K := K) (n := 1) (H0 := H) (i := i1) (ks := k1) rfl rfl hp hc s1 ok1 f1 e1 ltr_k1 (by decide) (by decide) fun a l H' h1 h2 h3 h4 => q a l H' h1 h2 h3 h4
end
end L2.Fo

/-! # what is drawn, b: lists of drawn numbers, cells, rows -/
namespace L2.Dw
open PySem PySem.Spec PyProof.Rows L2.Vf
/-- whole numbers within m -/
def In (m : Int) (cs : List Int) : Prop := ∀ c ∈ cs, -m ≤ c ∧ c ≤ m
/-- what is told of a value by the object that it names alone -/
def Flat (R : V → Hp → Prop) : Prop := ∀ v H H', R v H → (∀ a o, v = .ref a → H a = some o → H' a = some o) → R v H'
/-- v is no object of H -/
def New (v : V) (H : Hp) : Prop := ∀ a, v = .ref a → H a = none
/-- [drawn(purse) for x in range(n)]: a list of things that R tells, each drawn at the cost of k -/
theorem drawn_run {R : V → Hp → Prop} {te : TE} {σ : St} {vs : List Nat} {g : Addr} {H : Hp} {n k c i0 : Nat} {Q : Addr → Hp → Prop} (hR : Flat R) (hn : n ≤ 1000) (hp : Pu H g c)
    (hte : ∀ (x : V) (j : Nat) (H1 : Hp) (Qe : VK), j < n → Keep g H H1 → Pu H1 g (c + k * j) → (∀ v H2, New v H1 → Keep g H1 H2 → Pu H2 g (c + k * (j + 1)) → R v H2 → Qe v H2) → te ((wipe σ vs).set i0 (some x)) H1 Qe)
    (hw : ∀ x, wipe ((wipe σ vs).set i0 (some x)) vs = wipe σ vs)
    (h : ∀ D xs H', H D = none → Keep g H H' → Pu H' g (c + k * n) → xs.length = n → (∀ v ∈ xs, R v H' ∧ New v H ∧ v ≠ .ref D ∧ v ≠ .ref g) → H' D = some (.lst xs) → Q D H') :
    ∀ D, H D = none → ∃ W : Nat → Nat → Hp → Prop, (∃ m, W 0 m (upd H D (.lst []))) ∧ ∀ i m H, W i m H → ((Itr 0 n).stop i H ∧ Q D H) ∨ ((Itr 0 n).go i H ∧ ∃ Nx : Hp → Prop, (∀ H', Nx H' → ∃ m', m' < m ∧ W (i + 1) m' H') ∧ ∀ x H', (Itr 0 n).yld i H x H' →
      gName i0 x (wipe σ vs) H' fun σ2 H2 => wipe σ2 vs = wipe σ vs ∧ tYes σ2 H2 fun b H3 => if b = true then te σ2 H3 fun y H4 => ∃ acc, H4 D = some (.lst acc) ∧ acc.length < sizeLine ∧ Nx (upd H4 D (.lst (acc ++ [y]))) else Nx H3) := by
  intro D hD
  have hgD : g ≠ D := hp.ne hD
  refine lc_range (lo := 0) (n := n) (fun j H' => Keep g H H' ∧ Pu H' g (c + k * j) ∧ ∃ xs : List V, xs.length = j ∧ (∀ v ∈ xs, R v H' ∧ New v H ∧ v ≠ .ref D ∧ v ≠ .ref g) ∧ H' D = some (.lst xs)) ?_ (fun j H1 hj hP => ?_) fun H1 hP => ?_
  · exact ⟨.new .refl hD, (hp.mono (same_new hD)).le (Nat.le_add_right _ _), [], rfl, fun v hv => absurd hv (by simp), upd_same⟩
  · obtain ⟨k1, p1, xs, l1, r1, e1⟩ := hP
    refine ⟨hw _, hte _ j H1 _ hj k1 p1 fun v H2 n2 k2 p2 r2 => ?_⟩
    refine ⟨xs, k2 _ _ hgD.symm e1, by rw [l1, sizeLine_eq]; omega, ?_, ?_, xs ++ [v], by simp [l1], ?_, upd_same⟩
    · intro b o hb e
      have hbD : b ≠ D := ne_of_none e hD
      rw [upd_ne hbD]
      exact k2 _ _ hb (k1 _ _ hb e)
    · obtain ⟨x, y, z, q1, q2⟩ := p2
      exact ⟨x, y, z, by rw [upd_ne hgD]; exact q1, q2⟩
    · have nD : v ≠ .ref D := fun e => by rw [n2 D e] at e1; cases e1
      have ng : v ≠ .ref g := fun e => by
        obtain ⟨ys, q⟩ := p1.lst
        rw [n2 g e] at q
        cases q
      intro u hu
      rcases List.mem_append.mp hu with hu | hu
      · obtain ⟨a1, a2, a3, a4⟩ := r1 u hu
        refine ⟨hR _ _ _ a1 fun a o e ea => ?_, a2, a3, a4⟩
        have h1 : a ≠ D := fun z => a3 (by rw [e, z])
        have h2 : a ≠ g := fun z => a4 (by rw [e, z])
        rw [upd_ne h1]
        exact k2 _ _ h2 ea
      · rw [List.mem_singleton.mp hu]
        refine ⟨hR _ _ _ r2 fun a o e ea => ?_, fun a e => ?_, nD, ng⟩
        · rw [upd_ne (fun z => nD (by rw [e, z]))]
          exact ea
        · by_cases q : H a = none
          · exact q
          · obtain ⟨o, ho⟩ := Option.ne_none_iff_exists'.mp q
            have := k1 a o (fun z => ng (by rw [e, z])) ho
            rw [n2 a e] at this
            cases this
  · obtain ⟨k1, p1, xs, l1, r1, e1⟩ := hP
    exact h D xs H1 hD k1 p1 l1 r1 e1
/-- a number within m -/
def RInt (m : Int) : V → Hp → Prop := fun v _ => ∃ i : Int, v = .int i ∧ -m ≤ i ∧ i ≤ m
theorem flat_int {m : Int} : Flat (RInt m) := fun _ _ _ h _ => h
theorem ints_of {m : Int} {H : Hp} {P : V → Prop} : ∀ {xs : List V}, (∀ v ∈ xs, RInt m v H ∧ P v) → ∃ cs : List Int, xs = cs.map V.int ∧ In m cs
  | [], _ => ⟨[], rfl, fun c h => absurd h (by simp)⟩
  | v :: xs, h => by
    obtain ⟨⟨i, rfl, b⟩, _⟩ := h v List.mem_cons_self
    obtain ⟨cs, rfl, q⟩ := ints_of (m := m) (H := H) (P := P) fun u hu => h u (List.mem_cons_of_mem _ hu)
    refine ⟨i :: cs, rfl, fun c hc => ?_⟩
    rcases List.mem_cons.mp hc with rfl | hc
    · exact b
    · exact q c hc
/-- a cell of n numbers within m; a list of such numbers -/
def RCell (n : Nat) (m : Int) : V → Hp → Prop := fun v H => ∃ (a : Addr) (cs : List Int), v = .ref a ∧ cs.length = n ∧ In m cs ∧ H a = some (.tup (cs.map V.int))
def RLine (n : Nat) (m : Int) : V → Hp → Prop := fun v H => ∃ (a : Addr) (cs : List Int), v = .ref a ∧ cs.length = n ∧ In m cs ∧ H a = some (.lst (cs.map V.int))
theorem flat_cell {n : Nat} {m : Int} : Flat (RCell n m) := fun v H H' ⟨a, cs, e, l, b, h⟩ k => ⟨a, cs, e, l, b, k a _ e h⟩
theorem flat_line {n : Nat} {m : Int} : Flat (RLine n m) := fun v H H' ⟨a, cs, e, l, b, h⟩ k => ⟨a, cs, e, l, b, k a _ e h⟩
def spCe : Sp := fun vs H Q _ => ∃ (g : Addr) (n : Nat) (m : Int) (c : Nat), vs = [.ref g, .int (n : Nat), .int m] ∧ 1 ≤ n ∧ n ≤ 2 ∧ 0 ≤ m ∧ m < 2 ^ 67 ∧ Pu H g c ∧ c ≤ 1000000 ∧ ∀ (v : V) (H' : Hp), New v H → Keep g H H' → Pu H' g (c + 6) → RCell n m v H' → Q v H'
def spRo : Sp := fun vs H Q _ => ∃ (g : Addr) (n k : Nat) (m : Int) (c : Nat), vs = [.ref g, .int (n : Nat), .int (k : Nat), .int m] ∧ 1 ≤ n ∧ n ≤ 2 ∧ k ≤ 100 ∧ 0 ≤ m ∧ m < 2 ^ 67 ∧ Pu H g c ∧ c ≤ 100000 ∧
  ∀ (D : Addr) (xs : List V) (H' : Hp), H D = none → Keep g H H' → Pu H' g (c + 3 + 6 * k) → xs.length ≤ k → (∀ v ∈ xs, RCell n m v H' ∧ New v H ∧ v ≠ .ref D ∧ v ≠ .ref g) → H' D = some (.lst xs) → Q (.ref D) H'
section
variable {P : Program} {w : World} {K : PySem.W.Frag} {mg : Str → Option Value} {base : Heap}
theorem scCe : FnScope ["_law_purse_here", "_law_width", "_law_most", "_law_part"] ["_law_purse_here", "_law_width", "_law_most"] (defScope sCe) := ⟨rfl, rfl, rfl, by decide +kernel, rfl, by decide +kernel, by decide +kernel⟩
theorem ok_ce {f fS : Addr} {fd dS : FuncData} (F : Fun K "_law_cell" "_law_cell" sCe f fd) (N : Nm mg) (GS : FnOk P w K mg base CX0 3 fS dS ["_law_purse_here", "_law_most"] spSi) (mS : mg "_law_signed" = some (.ref fS)) (kS : PySem.W.keepIn K (.ref fS) = true) (bS : Binds K dS ["_law_purse_here", "_law_most"] []) :
    FnOk P w K mg base CX0 4 f fd ["_law_purse_here", "_law_width", "_law_most"] spCe := by
  refine F.ok scCe (fun vs H Q E h => ?_) fun cdv A outer s H vs Q E hr h => ?_
  · obtain ⟨g, n, m, c, rfl, _⟩ := h
    rfl
  · obtain ⟨g, n, m, c, rfl, hn1, hn2, hm, hm2, hp, hc, q⟩ := h
    refine ⟨_, pss_one (ps_ret (pe_callTy call_tuple_of (by rfl) N.tup PyProof.Rows.boot_tuple (pa_cons
      (pe_lc (own := [("_law_part", 3)]) (g := gName 3) (tt := tYes) (te := tCall spSi [] E0 (tCons (tVar 0) (tCons (tVar 2) tNil))) rfl scCe.nd (pi_range1 (by rfl) N.rng (pa_cons (pv 1) pa_nil)) (blkOk_by (N := ["_law_purse_here", "_law_width", "_law_most", "_law_part"]) (sc := defScope sCe) (by decide +kernel))
        (fun _ _ _ _ _ => pg_name (i := 3) scCe.nd rfl (Or.inl rfl)) (fun _ _ _ _ _ => pts_nil) (fun _ _ _ _ _ => pe_call GS hr rfl mS kS bS .nil pass0 (pa_cons (pv 0) (pa_cons (pv 2) pa_nil)))) pa_nil))), ?_⟩
    refine ⟨_, rfl, n, rfl, by omega, by omega, ?_⟩
    refine drawn_run (R := RInt m) (σ := start ["_law_purse_here", "_law_width", "_law_most", "_law_part"] [.ref g, .int n, .int m]) (g := g) (c := c) (k := 3) flat_int (by omega) hp (fun x j H1 Qe hj k1 p1 qe => ?_) (fun x => rfl) fun D xs H1 hD k1 p1 l1 r1 e1 => ?_
    · exact ⟨_, rfl, _, rfl, g, m, _, rfl, hm, hm2, p1, by omega, fun r H2 b1 b2 k2 p2 => qe _ _ (fun a e => nomatch e) k2 p2 ⟨r, rfl, b1, b2⟩⟩
    · obtain ⟨cs, rfl, hcs⟩ := ints_of r1
      rw [List.length_map] at l1
      refine ⟨D, _, rfl, .inl ⟨SqL.of e1, fun l hl => ?_⟩⟩
      have hgl : g ≠ l := p1.ne hl
      refine q _ _ (fun a e => ?_) (k1.new hl) ((p1.mono (same_new hl)).le (by omega)) ⟨l, cs, rfl, l1, hcs, upd_same⟩
      cases e
      by_cases z : H l = none
      · exact z
      · obtain ⟨o, ho⟩ := Option.ne_none_iff_exists'.mp z
        rw [k1 _ _ hgl.symm ho] at hl
        cases hl
theorem scRo : FnScope ["_law_purse_here", "_law_width", "_law_cells_to", "_law_most", "_law_turn"] ["_law_purse_here", "_law_width", "_law_cells_to", "_law_most"] (defScope sRo) := ⟨rfl, rfl, rfl, by decide +kernel, rfl, by decide +kernel, by decide +kernel⟩
theorem ok_ro {f fC fD : Addr} {fd dC dD : FuncData} (F : Fun K "_law_row" "_law_row" sRo f fd) (N : Nm mg) (GC : FnOk P w K mg base CX0 4 fC dC ["_law_purse_here", "_law_width", "_law_most"] spCe) (mC : mg "_law_cell" = some (.ref fC)) (kC : PySem.W.keepIn K (.ref fC) = true) (bC : Binds K dC ["_law_purse_here", "_law_width", "_law_most"] [])
    (GD : FnOk P w K mg base CX0 2 fD dD ["_law_purse_here", "_law_out_of"] spDr) (mD : mg "_law_draw" = some (.ref fD)) (kD : PySem.W.keepIn K (.ref fD) = true) (bD : Binds K dD ["_law_purse_here", "_law_out_of"] []) :
    FnOk P w K mg base CX0 5 f fd ["_law_purse_here", "_law_width", "_law_cells_to", "_law_most"] spRo := by
  refine F.ok scRo (fun vs H Q E h => ?_) fun cdv A outer s H vs Q E hr h => ?_
  · obtain ⟨g, n, k, m, c, rfl, _⟩ := h
    rfl
  · obtain ⟨g, n, k, m, c, rfl, hn1, hn2, hk, hm, hm2, hp, hc, q⟩ := h
    refine ⟨_, pss_one (ps_ret
      (pe_lc (own := [("_law_turn", 4)]) (g := gName 4) (tt := tYes) (te := tCall spCe [] E0 (tCons (tVar 0) (tCons (tVar 1) (tCons (tVar 3) tNil)))) rfl scRo.nd (pi_range1 (by rfl) N.rng (pa_cons (pe_call GD (hr.mono (by decide)) rfl mD kD bD .nil pass0 (pa_cons (pv 0) (pa_cons (pe_op op_add (pv 2) pe_int) pa_nil))) pa_nil)) (blkOk_by (N := ["_law_purse_here", "_law_width", "_law_cells_to", "_law_most", "_law_turn"]) (sc := defScope sRo) (by decide +kernel))
        (fun _ _ _ _ _ => pg_name (i := 4) scRo.nd rfl (Or.inl rfl)) (fun _ _ _ _ _ => pts_nil) (fun _ _ _ _ _ => pe_call GC hr rfl mC kC bC .nil pass0 (pa_cons (pv 0) (pa_cons (pv 1) (pa_cons (pv 3) pa_nil)))))), ?_⟩
    refine ⟨_, rfl, _, rfl, _, _, rfl, rfl, g, (k : Int) + 1, c, rfl, by omega, by omega, hp, by omega, fun r H1 b1 b2 k1 p1 => ?_⟩
    obtain ⟨j, rfl⟩ : ∃ j : Nat, r = (j : Int) := ⟨r.toNat, by omega⟩
    refine ⟨j, rfl, by omega, by omega, ?_⟩
    refine drawn_run (R := RCell n m) (σ := start ["_law_purse_here", "_law_width", "_law_cells_to", "_law_most", "_law_turn"] [.ref g, .int n, .int k, .int m]) (g := g) (c := c + 3) (k := 6) flat_cell (by omega) p1 (fun x i H2 Qe hi k2 p2 qe => ?_) (fun x => rfl) fun D xs H2 hD k2 p2 l2 r2 e2 => ?_
    · exact ⟨_, rfl, _, rfl, _, rfl, g, n, m, _, rfl, hn1, hn2, hm, hm2, p2, by omega, fun v H3 n3 k3 p3 c3 => qe _ _ n3 k3 p3 c3⟩
    · have back : ∀ a : Addr, a ≠ g → H1 a = none → H a = none := fun a na h1 => by
        by_cases z : H a = none
        · exact z
        · obtain ⟨o, ho⟩ := Option.ne_none_iff_exists'.mp z
          rw [k1 _ _ na ho] at h1
          cases h1
      refine q D xs H2 (back D (p1.ne hD).symm hD) (k1.trans k2) (p2.le (by omega)) (by omega) (fun v hv => ?_) e2
      obtain ⟨a1, a2, a3, a4⟩ := r2 v hv
      exact ⟨a1, fun a e => back a (fun z => a4 (by rw [e, z])) (a2 a e), a3, a4⟩
end
end L2.Dw

/-! # terms drawn -/
namespace L2.Fo
open PySem PySem.Spec PyProof.Rows L2.Vf L2.Dw L2.Ch L2.Nk L2.Lt
theorem sqT_keep {K : PySem.W.Frag} {H H' : Hp} {a q : Addr} {xs ys : List V} (h : SqT K H a xs) (hq : H q = some (.lst ys)) (k : Keep q H H') : SqT K H' a xs := by
  rcases h with (h | ⟨o, h⟩) | h
  · exact .inl (.inl (k _ _ (fun z => by rw [z, hq] at h; cases h) h))
  · exact .inl (.inr ⟨o, k _ _ (fun z => by rw [z, hq] at h; cases h) h⟩)
  · exact .inr h
theorem pu_upd {H : Hp} {g D : Addr} {c : Nat} {o : HO} (h : Pu H g c) (n : g ≠ D) : Pu (upd H D o) g c := by
  obtain ⟨x, y, z, q1, q2⟩ := h
  exact ⟨x, y, z, by rw [upd_ne n]; exact q1, q2⟩
/-- a letter at its own tuple -/
def LtAt (K : PySem.W.Frag) (H : Hp) (n : Nat) (p : Addr × List Int) : Prop := Ltr n p.2 ∧ SqT K H p.1 (p.2.map V.int)
theorem lets_run {K : PySem.W.Frag} {σ : St} {g : Addr} {n c k : Nat} {H : Hp} {Q : Addr → Hp → Prop} (hw : ∀ x, wipe ((wipe σ [7]).set 7 (some x)) [7] = wipe σ [7]) (h0 : ∀ x, ((wipe σ [7]).set 7 (some x))[0]? = some (some (.ref g))) (h1 : ∀ x, ((wipe σ [7]).set 7 (some x))[1]? = some (some (.int (n : Nat)))) (n1 : 1 ≤ n) (n2 : n ≤ 2) (hp : Pu H g c) (hc : c + 3 * k ≤ 1000000) (hk : k ≤ 1000)
    (h : ∀ (D : Addr) (ls : List (Addr × List Int)) (H' : Hp), H D = none → Keep g H H' → Pu H' g (c + 3 * k) → ls.length = k → (∀ p ∈ ls, LtAt K H' n p) → H' D = some (.lst (ls.map fun p => V.ref p.1)) → Q D H') :
    ∀ D, H D = none → ∃ W : Nat → Nat → Hp → Prop, (∃ m, W 0 m (upd H D (.lst []))) ∧ ∀ i m H, W i m H → ((Itr 0 k).stop i H ∧ Q D H) ∨ ((Itr 0 k).go i H ∧ ∃ Nx : Hp → Prop, (∀ H', Nx H' → ∃ m', m' < m ∧ W (i + 1) m' H') ∧ ∀ x H', (Itr 0 k).yld i H x H' →
      gName 7 x (wipe σ [7]) H' fun σ2 H2 => wipe σ2 [7] = wipe σ [7] ∧ tYes σ2 H2 fun b H3 => if b = true then (tCall (spLr K) [] E0 (tCons (tVar 0) (tCons (tVar 1) tNil))) σ2 H3 fun y H4 => ∃ acc, H4 D = some (.lst acc) ∧ acc.length < sizeLine ∧ Nx (upd H4 D (.lst (acc ++ [y]))) else Nx H3) := by
  intro D hD
  have hgD : g ≠ D := hp.ne hD
  refine lc_range (lo := 0) (n := k) (fun j H' => Keep g H H' ∧ Pu H' g (c + 3 * j) ∧ ∃ ls : List (Addr × List Int), ls.length = j ∧ (∀ p ∈ ls, LtAt K H' n p) ∧ H' D = some (.lst (ls.map fun p => V.ref p.1))) ?_ (fun j H1 hj hP => ?_) fun H1 hP => ?_
  · exact ⟨.new .refl hD, (hp.mono (same_new hD)).le (Nat.le_add_right _ _), [], rfl, fun v hv => absurd hv (by simp), upd_same⟩
  · obtain ⟨k1, p1, ls, l1, r1, e1⟩ := hP
    refine ⟨hw _, _, h0 _, _, h1 _, g, n, _, rfl, n1, n2, p1, by omega, fun a l H2 hl hs k2 p2 => ?_⟩
    have e2 := k2 _ _ hgD.symm e1
    refine ⟨_, e2, by rw [List.length_map, l1, sizeLine_eq]; omega, fun b o hb e => ?_, pu_upd (p2.le (by omega)) hgD, ls ++ [(a, l)], by simp [l1], fun p hp' => ?_, by rw [upd_same, List.map_append]; rfl⟩
    · rw [upd_ne (ne_of_none e hD)]
      exact k2 _ _ hb (k1 _ _ hb e)
    · rcases List.mem_append.mp hp' with hp' | hp'
      · obtain ⟨a1, a2⟩ := r1 p hp'
        obtain ⟨ys, ey⟩ := p1.lst
        exact ⟨a1, sqT_upd e2 True.intro (sqT_keep a2 ey k2)⟩
      · rw [List.mem_singleton.mp hp']
        exact ⟨hl, sqT_upd e2 True.intro hs⟩
  · obtain ⟨k1, p1, ls, l1, r1, e1⟩ := hP
    exact h D ls H1 hD k1 p1 l1 r1 e1
theorem lets_paired {K : PySem.W.Frag} {H : Hp} {n : Nat} : ∀ {ls : List (Addr × List Int)}, (∀ p ∈ ls, LtAt K H n p) → Paired (fun c l => SqT K H c (l.map V.int)) (ls.map (·.1)) (ls.map (·.2))
  | [], _ => .nil
  | p :: ls, h => .cons (h p List.mem_cons_self).2 (lets_paired fun q hq => h q (List.mem_cons_of_mem _ hq))
end L2.Fo

/-! # terms drawn, 2 -/
namespace L2.Fo
open PySem PySem.Spec PyProof.Rows L2.Vf L2.Dw L2.Ch L2.Nk L2.Lt
abbrev sTr : Stmt := top 35
abbrev nTr : List Str := ["_law_purse_here", "_law_width", "_law_most", "_law_letters_to", "_law_found", "_law_turn", "_law_letters", "_law_place"]
/-- a drawn term: a number up to 10 ** 6, up to t letters of n exponents -/
def Drawn (n t : Nat) (x : Int × Wd) : Prop := -(10 ^ 6) ≤ x.1 ∧ x.1 ≤ 10 ^ 6 ∧ x.2.length ≤ t ∧ ∀ l ∈ x.2, Ltr n l
def spTr (K : PySem.W.Frag) : Sp := fun vs H Q _ => ∃ (g : Addr) (n m t : Nat) (c : Nat), vs = [.ref g, .int (n : Nat), .int (m : Nat), .int (t : Nat)] ∧ 1 ≤ n ∧ n ≤ 2 ∧ m ≤ 100 ∧ t ≤ 100 ∧ Pu H g c ∧ c ≤ 100000 ∧
  ∀ (D : Addr) (rs : List Trm) (H' : Hp), H D = none → Keep g H H' → Pu H' g (c + 3 + (9 + 3 * t) * m) → rs.length ≤ m → (∀ r ∈ rs, TmAt K H' r ∧ Drawn n t r.2) → H' D = some (.lst (rs.map fun r => V.ref r.1)) → Q (.ref D) H'
theorem scTr : FnScope nTr ["_law_purse_here", "_law_width", "_law_most", "_law_letters_to"] (defScope sTr) := ⟨rfl, rfl, rfl, by decide +kernel, rfl, by decide +kernel, by decide +kernel⟩
abbrev tLd (K : PySem.W.Frag) : TE := tCall (spLr K) [] E0 (tCons (tVar 0) (tCons (tVar 1) tNil))
section
variable {P : Program} {w : World} {K : PySem.W.Frag} {mg : Str → Option Value} {base : Heap}
theorem ok_tr {f fD fS fL : Addr} {fd dD dS dL : FuncData} (F : Fun K "_law_terms" "_law_terms" sTr f fd) (N : Nm mg) (GD : FnOk P w K mg base CX0 2 fD dD ["_law_purse_here", "_law_out_of"] spDr) (mD : mg "_law_draw" = some (.ref fD)) (kD : PySem.W.keepIn K (.ref fD) = true) (bD : Binds K dD ["_law_purse_here", "_law_out_of"] [])
    (GS : FnOk P w K mg base CX0 3 fS dS ["_law_purse_here", "_law_most"] spSi) (mS : mg "_law_signed" = some (.ref fS)) (kS : PySem.W.keepIn K (.ref fS) = true) (bS : Binds K dS ["_law_purse_here", "_law_most"] [])
    (GL : FnOk P w K mg base CX0 3 fL dL ["_law_purse_here", "_law_width"] (spLr K)) (mL : mg "_law_letter" = some (.ref fL)) (kL : PySem.W.keepIn K (.ref fL) = true) (bL : Binds K dL ["_law_purse_here", "_law_width"] []) :
    FnOk P w K mg base CX0 4 f fd ["_law_purse_here", "_law_width", "_law_most", "_law_letters_to"] (spTr K) := by
  refine F.ok scTr (fun vs H Q E h => ?_) fun cdv A outer s H vs Q E hr h => ?_
  · obtain ⟨g, n, m, t, c, rfl, _⟩ := h
    rfl
  · obtain ⟨g, n, m, t, c, rfl, n1, n2, hm, ht, hp, hc, q⟩ := h
    have hr2 := hr.mono (show 2 ≤ 3 by decide)
    refine ⟨_, pss_cons (ps_set (i := 4) scTr.nd rfl (.inl rfl) (pe_lst pa_nil))
      (pss_cons (ps_for PassesOwn.never rfl (pi_range1 (by rfl) N.rng (pa_cons (pe_call GD hr2 rfl mD kD bD .nil pass0 (pa_cons (pv 0) (pa_cons (pe_op op_add (pv 2) pe_int) pa_nil))) pa_nil)) (pg_name (i := 5) scTr.nd rfl (Or.inl rfl))
        (pss_cons (ps_set (i := 6) scTr.nd rfl (.inl rfl) (pe_callTy call_tuple_of (by rfl) N.tup PyProof.Rows.boot_tuple (pa_cons (pe_lc (own := [("_law_place", 7)]) (g := gName 7) (tt := tYes) (te := tLd K) rfl scTr.nd
            (pi_range1 (by rfl) N.rng (pa_cons (pe_call GD hr2 rfl mD kD bD .nil pass0 (pa_cons (pv 0) (pa_cons (pe_op op_add (pv 3) pe_int) pa_nil))) pa_nil)) (blkOk_by (N := nTr) (sc := defScope sTr) (by decide +kernel)) (fun _ _ _ _ _ => pg_name (i := 7) scTr.nd rfl (Or.inl rfl)) (fun _ _ _ _ _ => pts_nil)
            (fun _ _ _ _ _ => pe_call GL hr rfl mL kL bL .nil pass0 (pa_cons (pv 0) (pa_cons (pv 1) pa_nil)))) pa_nil)))
        (pss_one (ps_expr (pe_bm PySem.F.plainAttrs_list PySem.F.slot_list_append PySem.F.type_list_append mt_append (pv 4) (pa_cons (pe_tup (pa_cons (pe_call GS hr rfl mS kS bS .nil pass0 (pa_cons (pv 0) (pa_cons
            (pe_ix ix_list (pe_lst (pa_cons pe_int (pa_cons (pe_op op_powW pe_int pe_int) pa_nil))) (pe_call GD hr2 rfl mD kD bD .nil pass0 (pa_cons (pv 0) (pa_cons pe_int pa_nil))) (fun _ _ => rfl)) pa_nil))) (pa_cons (pv 6) pa_nil))) pa_nil))))))
      (pss_one (ps_ret (pv 4)))), ?_⟩
    refine ⟨by show 0 ≤ sizeLine; omega, fun D hD => ?_⟩
    have sD : Same H (upd H D (.lst [])) := same_new hD
    have hgD : g ≠ D := hp.ne hD
    refine ⟨_, rfl, _, rfl, _, _, rfl, rfl, g, (m : Int) + 1, c, rfl, by omega, by omega, hp.mono sD, by omega, fun r H1 b1 b2 k1 p1 => ?_⟩
    obtain ⟨j, rfl⟩ : ∃ j : Nat, r = (j : Int) := ⟨r.toNat, by omega⟩
    refine ⟨j, rfl, by omega, by omega, ?_⟩
    have bnd : ∀ i : Nat, i ≤ 100 → (9 + 3 * t) * i ≤ 309 * 100 := fun i hi => Nat.mul_le_mul (by omega) hi
    refine for_range (fun i σ H' => Keep g H H' ∧ Pu H' g (c + 3 + (9 + 3 * t) * i) ∧ ∃ rs : List Trm, rs.length = i ∧ (∀ r ∈ rs, TmAt K H' r ∧ Drawn n t r.2) ∧ H' D = some (.lst (rs.map fun r => V.ref r.1)) ∧ ∃ o5 o6, σ = [some (.ref g), some (.int (n : Nat)), some (.int (m : Nat)), some (.int (t : Nat)), some (.ref D), o5, o6, none]) ?_ ?_ ?_
    · exact ⟨(Keep.of sD).trans k1, p1, [], rfl, fun r hr => absurd hr (by simp), k1 _ _ hgD.symm upd_same, none, none, rfl⟩
    · rintro i σ H2 hi ⟨k2, p2, rs, l2, r2, e2, o5, o6, rfl⟩
      have bi := bnd i (by omega)
      refine ⟨_, rfl, _, rfl, _, _, rfl, rfl, g, (t : Int) + 1, _, rfl, by omega, by omega, p2, by omega, fun r3 H3 c1 c2 k3 p3 => ?_⟩
      obtain ⟨j3, rfl⟩ : ∃ j : Nat, r3 = (j : Int) := ⟨r3.toNat, by omega⟩
      refine ⟨j3, rfl, by omega, by omega, ?_⟩
      refine lets_run (σ := [some (.ref g), some (.int (n : Nat)), some (.int (m : Nat)), some (.int (t : Nat)), some (.ref D), some (.int (0 + (i : Int))), o6, none]) (fun _ => rfl) (fun _ => rfl) (fun _ => rfl) n1 n2 p3 (by omega) (by omega) fun L ls H4 hL k4 p4 l4 r4 e4 => ?_
      refine ⟨L, _, rfl, .inl ⟨SqL.of e4, fun T hT => ?_⟩⟩
      have e4D : H4 D = some (.lst (rs.map fun r => V.ref r.1)) := k4 _ _ hgD.symm (k3 _ _ hgD.symm e2)
      have sA : Same H4 (upd H4 T (.tup (ls.map fun p => V.ref p.1))) := same_new hT
      refine ⟨_, rfl, .inl ⟨rfl, _, SqL.of (sA _ _ e4D)⟩, ?_⟩
      refine ⟨_, rfl, 10, 6, rfl, rfl, ⟨by decide, by decide +kernel⟩, by show 2 ≤ sizeLine; rw [sizeLine_eq]; omega, fun pl hpl => ?_⟩
      have sB : Same _ (upd (upd H4 T (.tup (ls.map fun p => V.ref p.1))) pl (.lst [V.int 3, V.int (10 ^ Int.toNat 6)])) := same_new hpl
      have pB := (p4.mono sA).mono sB
      refine ⟨_, rfl, g, 2, _, rfl, by omega, by omega, pB, by omega, fun rr H6 d1 d2 k6 p6 => ?_⟩
      have hgp : pl ≠ g := fun z => by
        obtain ⟨xs, ex⟩ := (p4.mono sA).lst
        rw [z, ex] at hpl
        cases hpl
      obtain ⟨mm, m0, m1, hat⟩ : ∃ mm : Int, 0 ≤ mm ∧ mm ≤ 10 ^ 6 ∧ atI [V.int 3, V.int (10 ^ Int.toNat 6)] rr = some (V.int mm) := by
        have : rr = 0 ∨ rr = 1 := by omega
        rcases this with rfl | rfl
        · exact ⟨3, by decide, by decide, rfl⟩
        · exact ⟨10 ^ 6, by decide, by decide, rfl⟩
      refine ⟨pl, _, rr, V.int mm, rfl, rfl, SqL.of (k6 _ _ hgp upd_same), hat, ?_⟩
      refine ⟨g, mm, _, rfl, m0, by omega, p6, by omega, fun v H7 v1 v2 k7 p7 => ?_⟩
      refine ⟨_, rfl, by show 2 ≤ sizeLine; rw [sizeLine_eq]; omega, fun q hq => ?_⟩
      have sC : Same H7 (upd H7 q (.tup [V.int v, V.ref T])) := same_new hq
      have e7D : (upd H7 q (.tup [V.int v, V.ref T])) D = some (.lst (rs.map fun r => V.ref r.1)) := sC _ _ (k7 _ _ hgD.symm (k6 _ _ hgD.symm (sB _ _ (sA _ _ e4D))))
      -- tuples stay
      have t1 : ∀ a us, SqT K (upd H4 T (.tup (ls.map fun p => V.ref p.1))) a us → SqT K (upd (upd H7 q (.tup [V.int v, V.ref T])) D (.lst ((rs.map fun r => V.ref r.1) ++ [.ref q]))) a us := fun a us h => by
        have h1 := sqT_ext (.of sB) h
        obtain ⟨x1, y1⟩ := pB.lst
        obtain ⟨x2, y2⟩ := p6.lst
        exact sqT_upd e7D True.intro (sqT_ext (.of sC) (sqT_keep (sqT_keep h1 y1 k6) y2 k7))
      have t2 : ∀ a us, SqT K H2 a us → SqT K (upd (upd H7 q (.tup [V.int v, V.ref T])) D (.lst ((rs.map fun r => V.ref r.1) ++ [.ref q]))) a us := fun a us h => by
        obtain ⟨x1, y1⟩ := p2.lst
        obtain ⟨x2, y2⟩ := p3.lst
        exact t1 _ _ (sqT_ext (.of sA) (sqT_keep (sqT_keep h y1 k3) y2 k4))
      have nk : NKey K (upd H4 T (.tup (ls.map fun p => V.ref p.1))) (ls.map (·.2)) T := ⟨ls.map (·.1), SqT.of (by rw [upd_same, List.map_map]; rfl), Paired.mapP (lets_paired r4) fun _ _ h => sqT_ext (.of sA) h⟩
      refine ⟨D, _, _, rfl, rfl, e7D, by rw [List.length_map, l2, sizeLine_eq]; omega, ?_⟩
      refine ⟨fun b o hb e => ?_, pu_upd (pu_upd (p7.le ?_) (p7.ne hq)) hgD, rs ++ [(q, v, ls.map (·.2))], by simp [l2], fun r hr => ?_, by rw [upd_same, List.map_append]; rfl, _, _, rfl⟩
      · rw [upd_ne (ne_of_none e hD)]
        exact sC _ _ (k7 _ _ hb (k6 _ _ hb (sB _ _ (sA _ _ (k4 _ _ hb (k3 _ _ hb (k2 _ _ hb e)))))))
      · rw [Nat.mul_succ]
        omega
      · rcases List.mem_append.mp hr with hr | hr
        · obtain ⟨⟨b, h1, h2⟩, h3⟩ := r2 r hr
          exact ⟨⟨b, t2 _ _ h1, h2.mono t2⟩, h3⟩
        · rw [List.mem_singleton.mp hr]
          refine ⟨⟨T, sqT_upd e7D True.intro (SqT.of upd_same), nk.mono t1⟩, by show -(10 ^ 6) ≤ v; omega, by show v ≤ 10 ^ 6; omega, by show (ls.map (·.2)).length ≤ t; rw [List.length_map]; omega, fun l hl => ?_⟩
          obtain ⟨p, hp', rfl⟩ := List.mem_map.mp hl
          exact (r4 p hp').1
    · rintro σ H2 ⟨k2, p2, rs, l2, r2, e2, o5, o6, rfl⟩
      refine ⟨_, rfl, ?_⟩
      have bj := bnd j (by omega)
      simp only [Int.toNat_natCast] at p2 l2
      have le : (9 + 3 * t) * j ≤ (9 + 3 * t) * m := Nat.mul_le_mul_left _ (by omega)
      exact q D rs H2 hD k2 (p2.le (by omega)) (by omega) r2 e2
end
end L2.Fo

/-! # dicts whose keys are tuples of ints: rules -/
namespace L2.Lk
open PySem PySem.Spec PyProof.Rows
open L2.Nk (ints_items)
abbrev Wd := List Int
/-- the key's words in order, the key's own tuple, the value -/
abbrev Ent := Wd × Addr × V
abbrev knd (P : Program) (w : World) : HeapKind P w Wd := tupleKind (intKind P w)
abbrev KN : List Ent → List (Wd × Addr × Value) → Prop := Paired fun p q => p.1 = q.1 ∧ p.2.1 = q.2.1 ∧ RelV p.2.2 q.2.2
/-- at d: a dict of such keys -/
def NtO (P : Program) (w : World) (d : Addr) (xs : List Ent) : HO := .ext fun h => xs.length ≤ sizeLine ∧ (d == sysModules) = false ∧ ∃ us, KN xs us ∧
  ∃ o es ep, h.get? d = some o ∧ o.ExactDict ∧ o.data = .dict es ep ∧ es.toList = us.map (entryOfKey (knd P w)) ∧ (us.map (·.1)).Nodup
/-- at b: the tuple of the ints k -/
def NKey (K : PySem.W.Frag) (H : Hp) (k : Wd) (b : Addr) : Prop := SqT K H b (k.map V.int)
def NKeys (K : PySem.W.Frag) (H : Hp) (xs : List Ent) : Prop := ∀ x ∈ xs, NKey K H x.1 x.2.1
def valN (xs : List Ent) (k : Wd) : Option V := (xs.find? fun x => decide (x.1 = k)).map (·.2.2)
def putN (xs : List Ent) (k : Wd) (b : Addr) (v : V) : List Ent := if (xs.any fun x => decide (x.1 = k)) = true then xs.map (fun x => if x.1 = k then (x.1, x.2.1, v) else x) else xs ++ [(k, b, v)]
theorem valN_nil {k : Wd} : valN [] k = none := rfl
theorem valN_pos {p : Ent} {r : List Ent} {k : Wd} (e : p.1 = k) : valN (p :: r) k = some p.2.2 := by simp [valN, List.find?_cons, e]
theorem valN_neg {p : Ent} {r : List Ent} {k : Wd} (e : ¬ p.1 = k) : valN (p :: r) k = valN r k := by simp [valN, List.find?_cons, e]
theorem valN_any (k : Wd) : ∀ xs : List Ent, (xs.any fun x => decide (x.1 = k)) = (valN xs k).isSome
  | [] => rfl
  | p :: r => by
    by_cases e : p.1 = k
    · rw [valN_pos e]; simp [e]
    · rw [valN_neg e, ← valN_any k r]; simp [e]
theorem length_putN (xs : List Ent) (k : Wd) (b : Addr) (v : V) : (putN xs k b v).length ≤ xs.length + 1 := by
  unfold putN
  split <;> simp
theorem KN.val {xs : List Ent} {us : List (Wd × Addr × Value)} (r : KN xs us) (k : Wd) : RelO (valN xs k) ((atKey us k).map (·.2)) := by
  induction r with
  | nil => exact True.intro
  | @cons p q ps qs h t ih =>
    obtain ⟨h1, _, h2⟩ := h
    by_cases e : p.1 = k
    · have e' : q.1 = k := h1.symm.trans e
      have b : atKey (q :: qs) k = some q.2 := by simp [atKey, List.find?_cons, e']
      rw [valN_pos e, b]; exact h2
    · have e' : ¬ q.1 = k := fun z => e (h1.trans z)
      have b : atKey (q :: qs) k = atKey qs k := by simp [atKey, List.find?_cons, e']
      rw [valN_neg e, b]; exact ih
theorem KN.repl {xs : List Ent} {us : List (Wd × Addr × Value)} (r : KN xs us) (k : Wd) {y : V} {u : Value} (ry : RelV y u) : KN (xs.map fun x => if x.1 = k then (x.1, x.2.1, y) else x) (us.map (putAt k u)) := by
  induction r with
  | nil => exact .nil
  | @cons p q ps qs h t ih =>
    rw [List.map_cons, List.map_cons]
    refine .cons ?_ ih
    obtain ⟨h1, h2, h3⟩ := h
    unfold putAt
    by_cases e : p.1 = k
    · rw [if_pos e, if_pos (h1.symm.trans e)]; exact ⟨h1, h2, ry⟩
    · rw [if_neg e, if_neg (fun z => e (h1.trans z))]; exact ⟨h1, h2, h3⟩
theorem KN.put {xs : List Ent} {us : List (Wd × Addr × Value)} (r : KN xs us) (k : Wd) {b : Addr} {y : V} {u : Value} (ry : RelV y u) : KN (putN xs k b y) (storedH us k b u) := by
  have e : (xs.any fun x => decide (x.1 = k)) = (atKey us k).isSome := by
    rw [valN_any, (r.val k).isSome_eq, Option.isSome_map]
  unfold putN storedH
  rw [e]
  by_cases q : (atKey us k).isSome = true
  · rw [if_pos q, if_pos q]; exact r.repl k ry
  · rw [if_neg q, if_neg q]; exact Paired.snoc r ⟨rfl, rfl, ry⟩
theorem NKey.mono {K : PySem.W.Frag} {H H' : Hp} {k : Wd} {b : Addr} (h : NKey K H k b) (f : ∀ c xs, SqT K H c xs → SqT K H' c xs) : NKey K H' k b := f _ _ h
section
variable {X : Cx} {pins : List (Addr × Obj)} {σ : St} {H : Hp} {s : Shared}
theorem nkey_at (I : Inv X pins σ H s) {k : Wd} {b : Addr} (h : NKey X.K H k b) : (knd X.prog X.w).is s.heap k b := by
  obtain ⟨us, ru, ⟨o, e, c, n, d⟩, _⟩ := I.tuple h
  exact ⟨o, us.toArray, n, e, c, d, by simpa using ints_items ru⟩
theorem nt_ok {P : Program} {w : World} {h : Heap} {d : Addr} {xs : List Ent} {H : Hp} (x : ObjOk P w H h d (NtO P w d xs)) : xs.length ≤ sizeLine ∧ (d == sysModules) = false ∧ ∃ us, KN xs us ∧
    ∃ o es ep, h.get? d = some o ∧ o.ExactDict ∧ o.data = .dict es ep ∧ es.toList = us.map (entryOfKey (knd P w)) ∧ (us.map (·.1)).Nodup := by
  have y : ObjOk P w H h d (.ext _) := x
  exact y.1
theorem nt_mk {P : Program} {w : World} {h : Heap} {d : Addr} {xs : List Ent} {us : List (Wd × Addr × Value)} {H : Hp} {o : Obj} {es : Array DictEntry} {ep : Nat} (z : xs.length ≤ sizeLine) (hd : (d == sysModules) = false) (r : KN xs us) (e : h.get? d = some o) (x : o.ExactDict) (dt : o.data = .dict es ep) (en : es.toList = us.map (entryOfKey (knd P w))) (nd : (us.map (·.1)).Nodup) :
    ObjOk P w H h d (NtO P w d xs) := by
  refine ⟨⟨z, hd, us, r, o, es, ep, e, x, dt, en, nd⟩, ⟨o, e⟩, fun h1 h2 q k => ?_⟩
  obtain ⟨z, hd, us, r, o, es, ep, e, x, dt, en, nd⟩ := q
  exact ⟨z, hd, us, r, o, es, ep, k _ e, x, dt, en, nd⟩
theorem nd_rd (I : Inv X pins σ H s) {d : Addr} {xs : List Ent} (e : Rd H d (NtO X.prog X.w d xs)) (hk : NKeys X.K H xs) : xs.length ≤ sizeLine ∧ (d == sysModules) = false ∧ ∃ us, KN xs us ∧ s.heap.DictOfH (knd X.prog X.w) d us := by
  obtain ⟨z, hd, us, r, o, es, ep, h1, h2, h3, h4, h5⟩ := nt_ok (e.ok I.hok)
  refine ⟨z, hd, us, r, o, es, ep, h1, h2, h3, h4, ?_, h5⟩
  clear h4 h5 z e
  induction r with
  | nil => intro x hx; exact nomatch hx
  | @cons p q ps qs hq t ih =>
    intro x hx
    rcases List.mem_cons.mp hx with e | hx
    · subst e
      have := nkey_at I (hk p List.mem_cons_self)
      rw [hq.1, hq.2.1] at this
      exact this
    · exact ih (fun y hy => hk y (List.mem_cons_of_mem _ hy)) x hx
end
/-- what the dict at a holds at the key y -/
def NGet (P : Program) (w : World) (K : PySem.W.Frag) (H : Hp) (a : Addr) (y : V) (r : Option V) : Prop := ∃ xs k b, Rd H a (NtO P w a xs) ∧ NKeys K H xs ∧ y = .ref b ∧ NKey K H k b ∧ r = valN xs k
/-- the heap behind a[y] = v -/
def NPut (P : Program) (w : World) (K : PySem.W.Frag) (H : Hp) (a : Addr) (y v : V) (H' : Hp) : Prop := ∃ xs k b, H a = some (NtO P w a xs) ∧ NKeys K H xs ∧ y = .ref b ∧ NKey K H k b ∧ xs.length < sizeLine ∧ H' = upd H a (NtO P w a (putN xs k b v))
section
variable {X : Cx} {pins : List (Addr × Obj)} {σ : St} {H : Hp} {s : Shared} {a : Addr} {y v d : V} {u r : Value} {o : Option V} {A : Around} {E : Value → Shared → Prop}
theorem n_getItem {Q : Value → Shared → Prop} (hu : A.units + 2 < cLine) (I : Inv X pins σ H s) (g : NGet X.prog X.w X.K H a y (some v)) (ry : RelV y u) (h : ∀ w' s', Inv X pins σ H s' → RelV v w' → Q w' s') :
    wpAny (model X.prog X.w) A (getItem (.ref a) u) Q E s := by
  obtain ⟨xs, k, b, e, hk, ey, eb, l⟩ := g
  subst ey
  cases (show u = Value.ref b from ry)
  obtain ⟨z, hd, us, rel, dd⟩ := nd_rd I e hk
  obtain ⟨w', hw, rw'⟩ := RelO.some_of (v := v) (o := (atKey us k).map (·.2)) (by rw [l]; exact rel.val k)
  obtain ⟨p, hp, hp2⟩ := Option.map_eq_some_iff.mp hw
  refine wpAny_getItem_heap (by show A.units + 1 < cLine; omega) (nkey_at I eb) dd hp ?_
  rw [hp2]
  exact h w' _ (I.tok _) rw'
theorem n_in {Q : Value → Shared → Prop} (hu : A.units + 2 < cLine) (I : Inv X pins σ H s) (g : NGet X.prog X.w X.K H a y o) (ry : RelV y u) (h : ∀ s', Inv X pins σ H s' → Q (.bool o.isSome) s') :
    wpAny (model X.prog X.w) A (compareOp .In u (.ref a)) Q E s := by
  obtain ⟨xs, k, b, e, hk, ey, eb, l⟩ := g
  subst ey
  cases (show u = Value.ref b from ry)
  obtain ⟨z, hd, us, rel, dd⟩ := nd_rd I e hk
  refine wpAny_in_heap (by show A.units + 1 < cLine; omega) (nkey_at I eb) hd dd ?_
  have q := (rel.val k).isSome_eq
  rw [Option.isSome_map] at q
  rw [← q, ← l]
  exact h _ (I.tok _)
theorem n_notIn {Q : Value → Shared → Prop} (hu : A.units + 2 < cLine) (I : Inv X pins σ H s) (g : NGet X.prog X.w X.K H a y o) (ry : RelV y u) (h : ∀ s', Inv X pins σ H s' → Q (.bool (!o.isSome)) s') :
    wpAny (model X.prog X.w) A (compareOp .NotIn u (.ref a)) Q E s := by
  obtain ⟨xs, k, b, e, hk, ey, eb, l⟩ := g
  subst ey
  cases (show u = Value.ref b from ry)
  obtain ⟨z, hd, us, rel, dd⟩ := nd_rd I e hk
  refine wpAny_notIn_heap (by show A.units + 1 < cLine; omega) (nkey_at I eb) hd dd ?_
  have q := (rel.val k).isSome_eq
  rw [Option.isSome_map] at q
  rw [← q, ← l]
  exact h _ (I.tok _)
theorem n_setItem {H' : Hp} {Q : Unit → Shared → Prop} (hu : A.units + 2 < cLine) (I : Inv X pins σ H s) (g : NPut X.prog X.w X.K H a y v H') (ry : RelV y u) (rv : RelV v r) (h : ∀ s', Inv X pins σ H' s' → Q () s') :
    wpAny (model X.prog X.w) A (setItem (.ref a) u r) Q E s := by
  obtain ⟨xs, k, b, e, hk, ey, eb, l, eH⟩ := g
  subst ey eH
  cases (show u = Value.ref b from ry)
  obtain ⟨z, hd, us, rel, dd⟩ := nd_rd I (.inl e) hk
  have hz : us.length ≤ sizeLine := by rw [← Paired.length rel]; exact z
  have hl : (putN xs k b v).length ≤ sizeLine := by have := length_putN xs k b v; omega
  refine wpAny_setItem_heap (hsz := hz) (by show A.units + 1 < cLine; omega) (nkey_at I eb) dd fun h' dd' hs => h _ ?_
  obtain ⟨q, es, ep, hq, h2, h3, h4, _, h5⟩ := dd'
  exact d_write I (by rw [e]; exact True.intro) hs ⟨q, hq⟩ (nt_mk hl hd (rel.put k rv) hq h2 h3 h4 h5)
theorem n_get2 {Q : Value → Shared → Prop} (hu : A.units + 2 < cLine) (I : Inv X pins σ H s) (g : NGet X.prog X.w X.K H a y o) (ry : RelV y u) (rd : RelV d r) (h : ∀ w' s', Inv X pins σ H s' → RelV (o.getD d) w' → Q w' s') :
    wpAny (model X.prog X.w) A (call (.builtin "dict.get") [.ref a, u, r]) Q E s := by
  obtain ⟨xs, k, b, e, hk, ey, eb, l⟩ := g
  subst ey
  cases (show u = Value.ref b from ry)
  obtain ⟨z, hd, us, rel, dd⟩ := nd_rd I e hk
  refine call_meetsIn PySem.F.slot_dict_get dd.typeIs PySem.F.entry_dict_get (PySem.F.args_dict_get_3 _ _ _) (meetsH_dict_get_default (knd X.prog X.w) a b hd r) ⟨by show A.units + 1 < cLine; omega, k, us, nkey_at I eb, dd, h _ _ (I.tok _) ?_⟩
  rw [l]
  exact (rel.val k).getD rd
theorem nd_type (I : Inv X pins σ H s) {xs : List Ent} (e : Rd H a (NtO X.prog X.w a xs)) : s.TypeIs (.ref a) "dict" ∧ (∀ b, Value.ref a = .ref b → ∃ ob, s.heap.get? b = some ob ∧ ob.dict = none) := by
  obtain ⟨z, hd, us, r, o, es, ep, h1, h2, h3, h4, h5⟩ := nt_ok (e.ok I.hok)
  exact ⟨⟨o, h1, h2.1⟩, fun b q => by cases q; exact ⟨o, h1, h2.2.1⟩⟩
end
/-! ### as rules -/
def tNGet (P : Program) (w : World) (K : PySem.W.Frag) (td ty : TE) : TE := fun σ H Q => td σ H fun x H1 => ty σ H1 fun y H2 => ∃ a v, x = .ref a ∧ NGet P w K H2 a y (some v) ∧ Q v H2
def tNIn (P : Program) (w : World) (K : PySem.W.Frag) (ty td : TE) : TE := fun σ H Q => ty σ H fun y H1 => td σ H1 fun x H2 => ∃ a o, x = .ref a ∧ NGet P w K H2 a y o ∧ Q (.bl o.isSome) H2
def tNNotIn (P : Program) (w : World) (K : PySem.W.Frag) (ty td : TE) : TE := fun σ H Q => ty σ H fun y H1 => td σ H1 fun x H2 => ∃ a o, x = .ref a ∧ NGet P w K H2 a y o ∧ Q (.bl (!o.isSome)) H2
def sNPut (P : Program) (w : World) (K : PySem.W.Frag) (td ty tv : TE) : TS := fun D σ H => tv σ H fun v H1 => td σ H1 fun x H2 => ty σ H2 fun y H3 => ∃ a H4, x = .ref a ∧ NPut P w K H3 a y v H4 ∧ D.nx σ H4
def tNGet2 (P : Program) (w : World) (K : PySem.W.Frag) (td ty tx : TE) : TE := fun σ H Q => td σ H fun x H1 => ∃ a, x = .ref a ∧ (∃ xs, Rd H1 a (NtO P w a xs)) ∧ ty σ H1 fun y H2 => tx σ H2 fun z H3 => ∃ o, NGet P w K H3 a y o ∧ Q (o.getD z) H3
def tNNew (P : Program) (w : World) : TE := fun _ H Q => ∀ p, H p = none → Q (.ref p) (upd H p (NtO P w p []))
section
variable {X : Cx} {o i e f value : Expr} {pos pos' tpos apos cpos : Pos} {td ty tv tx : TE}
theorem pe_nnew : PE X (.Dict [] [] pos) (tNNew X.prog X.w) := ⟨fun pins s σ H Q I h =>
  wpAny_Dict_empty ⟨.ref s.heap.objs.size, _, I.laid (a := s.heap.objs.size) (o := NtO X.prog X.w s.heap.objs.size []) (t' := s.toks) (fun _ _ q => Heap.get?_push_of_some _ q) (Nat.le_refl _)
    (nt_mk (us := []) (es := #[]) (ep := 0) (Nat.zero_le _) (beq_eq_false_iff_ne.mpr (Ne.symm (Nat.ne_of_lt I.big))) .nil (Heap.get?_push_size _ rfl) ⟨rfl, rfl, rfl⟩ rfl rfl List.nodup_nil), rfl, h _ (I.hok.fresh (Nat.le_refl _))⟩⟩
theorem pe_nget (hu : X.A.units + 2 < cLine) (ho : PE X o td) (hi : PE X i ty) (hs : NoSl i) : PE X (.Subscript o i pos) (tNGet X.prog X.w X.K td ty) := by
  refine ⟨fun pins s σ H Q I h => ?_⟩
  refine subD_of PySem.F.slot_dict_getitem.lookup hs (thn (ho.run pins s σ H _ I h) fun u s1 ⟨x, H1, I1, rx, q1⟩ => thn (hi.run pins s1 σ H1 _ I1 q1) fun iv s2 ⟨y, H2, I2, ry, a, v, ex, g, q2⟩ => ?_)
  subst ex
  obtain rfl : u = Value.ref a := rx
  obtain ⟨xs, _, _, e, _⟩ := id g
  exact ⟨(nd_type I2 e).1, n_getItem hu I2 g ry fun w' s3 I3 rw' => ⟨v, H2, I3, rw', q2⟩⟩
theorem pc_nin (hu : X.A.units + 2 < cLine) (hi : PE X i ty) (ho : PE X o td) : PC X .In i o (tNIn X.prog X.w X.K ty td) := by
  refine ⟨fun pins s σ H Q I h => ?_⟩
  refine thn (hi.run pins s σ H _ I h) fun iv s1 ⟨y, H1, I1, ry, q1⟩ => thn (ho.run pins s1 σ H1 _ I1 q1) fun u s2 ⟨x, H2, I2, rx, a, ov, ex, g, q2⟩ => ?_
  subst ex
  obtain rfl : u = Value.ref a := rx
  exact n_in hu I2 g ry fun s3 I3 => ⟨.bl ov.isSome, H2, I3, rfl, q2⟩
theorem pc_nnotin (hu : X.A.units + 2 < cLine) (hi : PE X i ty) (ho : PE X o td) : PC X .NotIn i o (tNNotIn X.prog X.w X.K ty td) := by
  refine ⟨fun pins s σ H Q I h => ?_⟩
  refine thn (hi.run pins s σ H _ I h) fun iv s1 ⟨y, H1, I1, ry, q1⟩ => thn (ho.run pins s1 σ H1 _ I1 q1) fun u s2 ⟨x, H2, I2, rx, a, ov, ex, g, q2⟩ => ?_
  subst ex
  obtain rfl : u = Value.ref a := rx
  exact n_notIn hu I2 g ry fun s3 I3 => ⟨.bl (!ov.isSome), H2, I3, rfl, q2⟩
theorem ps_nput (hu : X.A.units + 2 < cLine) (ho : PE X o td) (hi : PE X i ty) (hv : PE X value tv) (hs : swapsWith value (some (.Subscript o i pos')) pos.line X.env = pure false) :
    PS X (.Assign [.Subscript o i pos'] value pos) (sNPut X.prog X.w X.K td ty tv) := by
  refine ⟨fun pins s σ H D I h => ?_⟩
  refine wpAny_Assign_Subscript (thn (hv.run pins s σ H _ I h) fun r s1 ⟨v, H1, I1, rv, q1⟩ => thn (ho.run pins s1 σ H1 _ I1 q1) fun u s2 ⟨x, H2, I2, rx, q2⟩ => thn (hi.run pins s2 σ H2 _ I2 q2) fun iv s3 ⟨y, H3, I3, ry, a, H4, ex, g, q3⟩ => ?_) hs
  subst ex
  obtain rfl : u = Value.ref a := rx
  exact n_setItem hu I3 g ry rv fun s4 I4 => ⟨σ, H4, I4, q3⟩
theorem pe_nget2 (hu : X.A.units + 2 < cLine) (ho : PE X o td) (he : PE X e ty) (hf : PE X f tx) (m : M2 X o "get" apos e f cpos) : PE X (.Call (.Attribute o "get" apos) [e, f] [] cpos) (tNGet2 X.prog X.w X.K td ty tx) := by
  refine ⟨fun pins s σ H Q I h => ?_⟩
  refine wpAny_Call_method m.base m.few m.line PySem.F.plainAttrs_dict PySem.F.slot_dict_get PySem.F.type_dict_get (thn (ho.run pins s σ H _ I h) fun u s1 ⟨x, H1, I1, rx, a, ex, ⟨xs, d⟩, q1⟩ => ?_)
  subst ex
  obtain rfl : u = Value.ref a := rx
  obtain ⟨t1, t2⟩ := nd_type I1 d
  refine ⟨t1, t2, ?_⟩
  rw [m.trees]
  refine Calls.callWith_builtin rfl (Calls.evalArgs_plain (Calls.spliced_cons (thn (he.run pins s1 σ H1 _ I1 q1) fun iv s2 ⟨y, H2, I2, ry, q2⟩ =>
    Calls.spliced_cons (thn (hf.run pins s2 σ H2 _ I2 q2) fun fv s3 ⟨z, H3, I3, rz, ov, g, q3⟩ => Calls.spliced_nil ?_))))
  exact n_get2 hu I3 g ry rz fun w' s4 I4 rw' => ⟨_, H3, I4, rw', q3⟩
end

/-! ### setdefault -/
theorem n_setd {X : Cx} {pins : List (Addr × Obj)} {σ : St} {H : Hp} {s : Shared} {a b : Addr} {d : V} {r : Value} {A : Around} {E : Value → Shared → Prop} {xs : List Ent} {k : Wd} {Q : Value → Shared → Prop} (hu : A.units + 2 < cLine) (I : Inv X pins σ H s) (e : H a = some (NtO X.prog X.w a xs)) (hk : NKeys X.K H xs) (eb : NKey X.K H k b) (rd : RelV d r) (hl : xs.length < sizeLine)
    (h1 : ∀ v, valN xs k = some v → ∀ (w' : Value) (s' : Shared), Inv X pins σ H s' → RelV v w' → Q w' s') (h2 : valN xs k = none → ∀ (w' : Value) (s' : Shared), Inv X pins σ (upd H a (NtO X.prog X.w a (putN xs k b d))) s' → RelV d w' → Q w' s') :
    wpAny (model X.prog X.w) A (call (.builtin "dict.setdefault") [.ref a, .ref b, r]) Q E s := by
  obtain ⟨z, hd, us, rel, dd⟩ := nd_rd I (.inl e) hk
  have hz : us.length ≤ sizeLine := by rw [← Paired.length rel]; exact z
  have hl2 : (putN xs k b d).length ≤ sizeLine := by have := length_putN xs k b d; omega
  refine call_setdefault_heap (hsz := hz) (by show A.units + 1 < cLine; omega) (nkey_at I eb) hd dd (fun p hp => ?_) fun hn h' dd' hs => ?_
  · obtain ⟨v, hv, rw'⟩ : ∃ v, valN xs k = some v ∧ RelV v p.2 := by
      have q := rel.val k
      rw [hp] at q
      cases q0 : valN xs k with
      | none => rw [q0] at q; exact (show False from q).elim
      | some v0 => rw [q0] at q; exact ⟨v0, rfl, q⟩
    exact h1 v hv _ _ (I.tok _) rw'
  · have q0 : valN xs k = none := by
      have q := rel.val k
      rw [hn] at q
      cases q0 : valN xs k with
      | none => rfl
      | some v0 => rw [q0] at q; exact (show False from q).elim
    obtain ⟨q, es, ep, hq, h3, h4, h5, _, h6⟩ := dd'
    exact h2 q0 _ _ (d_write (t' := _) I (by rw [e]; exact True.intro) hs ⟨q, hq⟩ (nt_mk hl2 hd (rel.put k rd) hq h3 h4 h5 h6)) rd
/-- d.setdefault(y, z) -/
def tNSetd (P : Program) (w : World) (K : PySem.W.Frag) (td ty tx : TE) : TE := fun σ H Q => td σ H fun x H1 => ∃ a, x = .ref a ∧ (∃ xs, Rd H1 a (NtO P w a xs)) ∧ ty σ H1 fun y H2 => tx σ H2 fun z H3 => ∃ (xs : List Ent) (k : Wd) (b : Addr), H3 a = some (NtO P w a xs) ∧ NKeys K H3 xs ∧ y = .ref b ∧ NKey K H3 k b ∧ xs.length < sizeLine ∧
  (∀ v, valN xs k = some v → Q v H3) ∧ (valN xs k = none → Q z (upd H3 a (NtO P w a (putN xs k b z))))
theorem pe_nsetd {X : Cx} {o e f : Expr} {td ty tx : TE} {apos cpos : Pos} (hu : X.A.units + 2 < cLine) (ho : PE X o td) (he : PE X e ty) (hf : PE X f tx) (m : M2 X o "setdefault" apos e f cpos) : PE X (.Call (.Attribute o "setdefault" apos) [e, f] [] cpos) (tNSetd X.prog X.w X.K td ty tx) := by
  refine ⟨fun pins s σ H Q I h => ?_⟩
  refine wpAny_Call_method m.base m.few m.line PySem.F.plainAttrs_dict PySem.F.slot_dict_setdefault PySem.F.type_dict_setdefault (thn (ho.run pins s σ H _ I h) fun u s1 ⟨x, H1, I1, rx, a, ex, ⟨xs0, d⟩, q1⟩ => ?_)
  subst ex
  obtain rfl : u = Value.ref a := rx
  obtain ⟨t1, t2⟩ := nd_type I1 d
  refine ⟨t1, t2, ?_⟩
  rw [m.trees]
  refine Calls.callWith_builtin rfl (Calls.evalArgs_plain (Calls.spliced_cons (thn (he.run pins s1 σ H1 _ I1 q1) fun iv s2 ⟨y, H2, I2, ry, q2⟩ =>
    Calls.spliced_cons (thn (hf.run pins s2 σ H2 _ I2 q2) fun fv s3 ⟨z, H3, I3, rz, xs, k, b, ea, hk, ey, eb, hl, q3, q4⟩ => Calls.spliced_nil ?_))))
  subst ey
  cases (show iv = Value.ref b from ry)
  exact n_setd hu I3 ea hk eb rz hl (fun v hv w' s4 I4 rw' => ⟨v, _, I4, rw', q3 v hv⟩) fun hn w' s4 I4 rw' => ⟨z, _, I4, rw', q4 hn⟩
/-! ### if not d -/
theorem truthy_raw {prog : Program} {w : World} {A : Around} {E : Value → Shared → Prop} {s : Shared} {d : Addr} {es : Array DictEntry} {ep : Nat} {Q : Bool → Shared → Prop} (hd : (d == sysModules) = false) (hm : s.heap.DictRaw d es ep) (hfit : (es.size : Int) < 2 ^ 63)
    (h : Q (!(es.size == 0)) { s with toks := s.toks + 1 + 1 }) : wpAny (model prog w) A (truthy (.ref d)) Q E s := by
  have hT : s.TypeIs (.ref d) "dict" := let ⟨o, e, x, _⟩ := hm; ⟨o, e, x.1⟩
  have hne : ((es.size : Int) != 0) = !(es.size == 0) := by cases es.size <;> simp <;> omega
  have body : ∀ {A : Around} {E : Value → Shared → Prop} {Q : Value → Shared → Prop}, Q (.int es.size (s.toks + 1)) { s with toks := s.toks + 1 + 1 } → wpAny (model prog w) A (Builtin.«len» ⟨[.ref d], []⟩) (fun fin s' => ∃ r, fin = .done (.ret r) ∧ Q r s') E s := by
    intro A E Q h
    unfold Builtin.«len»
    refine wpAny_bind (m := oneArg "len" _) (wpAny_pure ?_)
    refine wpAny_bind (m := callSpecial? (.ref d) (Str.ofString "__len__")) (wpAny_callSpecial?_slot (name := Str.ofString "__len__") hT F.slot_dict_len (call_len_raw hd hm ?_))
    refine wpAny_bind (wpAny_holding (wpAny_pure ?_))
    refine wpAny_bind (wpAny_letGo ?_)
    show wpAny _ _ (if ((es.size : Nat) : Int) < 0 then _ else _) _ _ _
    rw [if_neg (by omega)]
    show wpAny _ _ (if ((es.size : Nat) : Int) ≥ 2 ^ 63 then _ else _) _ _ _
    rw [if_neg (by omega)]
    exact wpAny_bind (wpAny_mkInt (wpAny_pure ⟨_, rfl, h⟩))
  have key : wpAny (model prog w) A (runValue (.builtin "len" ⟨[.ref d], []⟩)) (fun r s' => r = .int es.size (s.toks + 1) ∧ Q (!(es.size == 0)) s') E s := by
    refine wpAny_runValue (codeAny_builtin entry_len ?_)
    rw [Around.under_plainId plain_len _]
    exact wpAny_mono (body (Q := fun r s' => r = .int es.size (s.toks + 1) ∧ Q (!(es.size == 0)) s') ⟨rfl, h⟩)
      (fun fin s' h' => by obtain ⟨r, rfl, hq⟩ := h'; exact hq) fun _ _ e => e
  unfold truthy
  first
    | refine wpAny_bind (wpAny_callSpecial?_none (name := Str.ofString "__bool__") hT noBool_dict ?_)
    | refine wpAny_bind (wpAny_pure (wpAny_bind (wpAny_callSpecial?_none (name := Str.ofString "__bool__") hT noBool_dict ?_)))
  first
    | refine wpAny_bind (wpAny_specialOf (name := Str.ofString "__len__") hT F.slot_dict_len.lookup ?_)
    | refine wpAny_bind (wpAny_pure (wpAny_bind (wpAny_specialOf (name := Str.ofString "__len__") hT F.slot_dict_len.lookup ?_)))
  first
    | exact wpAny_bind (wpAny_mono key (fun r s' h' => by obtain ⟨rfl, hq⟩ := h'; exact wpAny_pure (hne ▸ hq)) fun _ _ e => e)
    | exact wpAny_bind (wpAny_pure (wpAny_bind (wpAny_mono key (fun r s' h' => by obtain ⟨rfl, hq⟩ := h'; exact wpAny_pure (hne ▸ hq)) fun _ _ e => e)))
theorem tru_nt {X : Cx} : TruR X (fun x H Q => ∃ (a : Addr) (xs : List Ent), x = .ref a ∧ Rd H a (NtO X.prog X.w a xs) ∧ Q (!xs.isEmpty) H) := by
  intro pins s σ H x v Q I rx h
  obtain ⟨a, xs, rfl, e, q⟩ := h
  cases rx
  obtain ⟨z, hd, us, r, o, es, ep, h1, h2, h3, h4, h5⟩ := nt_ok (e.ok I.hok)
  have l1 : xs.length = us.length := Paired.length r
  have l2 : es.toList.length = us.length := by rw [h4, List.length_map]
  rw [Array.length_toList] at l2
  refine truthy_raw hd ⟨o, h1, h2, h3⟩ (by rw [sizeLine_eq] at z; omega) ⟨H, I.tok _, ?_⟩
  have : (!(es.size == 0)) = !xs.isEmpty := by
    rw [l2, ← l1]
    cases xs <;> rfl
  rw [this]
  exact q
/-! ### its keys walked -/
/-- the keys of the locked dict at d, each its own tuple -/
def Itkn (P : Program) (w : World) (d : Addr) (o : Obj) (xs : List Ent) : It :=
  ⟨fun i H => H d = some (.frz o (NtO P w d xs)) ∧ i < xs.length, fun i H x H' => H' = H ∧ ∃ e, xs[i]? = some e ∧ x = .ref e.2.1, fun i H => H d = some (.frz o (NtO P w d xs)) ∧ xs.length ≤ i⟩
section
variable {X : Cx} {pins : List (Addr × Obj)} {σ : St} {H : Hp} {s : Shared} {d : Addr} {o : Obj}
theorem kn_get {xs : List Ent} {us : List (Wd × Addr × Value)} (r : KN xs us) : ∀ {i : Nat} {e : Ent}, xs[i]? = some e → ∃ q, us[i]? = some q ∧ q.2.1 = e.2.1 := by
  induction r with
  | nil => intro i e h; simp at h
  | cons h _ ih =>
    intro i e he
    cases i with
    | zero => simp at he; subst he; exact ⟨_, rfl, h.2.1.symm⟩
    | succ j => simpa using ih (by simpa using he)
theorem frzN {xs : List Ent} (I : Inv X pins σ H s) (h : H d = some (.frz o (NtO X.prog X.w d xs))) : (d == sysModules) = false ∧ s.heap.get? d = some o ∧ o.ExactDict ∧ ∃ (es : Array DictEntry) (ep : Nat), o.data = .dict es ep ∧ es.size = xs.length ∧
    ∀ (i : Nat) (e : Ent), xs[i]? = some e → ∃ en : DictEntry, es[i]? = some en ∧ en.key = .ref e.2.1 := by
  obtain ⟨hd, y⟩ := (show ObjOk X.prog X.w H s.heap d (.frz o (NtO X.prog X.w d xs)) from I.hok d _ h)
  obtain ⟨z, hs, us, rel, o', es, ep, ho, hx, hdt, he, _⟩ := nt_ok y
  rw [hd] at ho
  cases ho
  refine ⟨hs, hd, hx, es, ep, hdt, ?_, fun i e q => ?_⟩
  · have l2 : xs.length = us.length := Paired.length rel
    have l1 : es.toList.length = us.length := by rw [he, List.length_map]
    rw [Array.length_toList] at l1
    omega
  · obtain ⟨q', h1, h2⟩ := kn_get rel q
    have : es.toList[i]? = some (entryOfKey (knd X.prog X.w) q') := by rw [he, List.getElem?_map, h1]; rfl
    rw [Array.getElem?_toList] at this
    exact ⟨_, this, by show Value.ref q'.2.1 = _; rw [h2]⟩
end
section
variable {P : Program} {w : World} {K : PySem.W.Frag} {tg : Expr} {d : Addr} {o : Obj} {es : Array DictEntry} {ep : Nat}
theorem turn_keysN {xs : List Ent} (it : Addr) (hod : o.data = .dict es ep) : Turn P w K tg (Itkn P w d o xs) [it] it (fun i h => h.IsKeyIter it d i xs.length ep) where
  mem := by simp
  obj := fun i h st b hb => by
    have e : b = it := by simpa using hb
    subst e
    obtain ⟨oi, e, c, dd⟩ := st
    exact ⟨oi, e, fun v z => by rw [dd] at z; cases z⟩
  keep := fun i h h' st k => st.at fun oi e => k it (by simp) oi e
  item := by
    intro X hP hw hK hc i pins s σ H E I hf st hg
    subst hP hw hK
    obtain ⟨hd, hi⟩ := hg
    obtain ⟨f0, f1, f2, f3, f4, f5⟩ := hf it (by simp)
    obtain ⟨hs, hgd, hx, es', ep', hdt, hsz, ent⟩ := frzN I hd
    obtain ⟨rfl, rfl⟩ := dict_ep hod hdt
    obtain ⟨e, he⟩ : ∃ p, xs[i]? = some p := ⟨xs[i], List.getElem?_eq_getElem hi⟩
    obtain ⟨en, hen, hkey⟩ := ent i e he
    refine next_key_item st hgd hdt hsz hen fun h' st' sb => ?_
    have I1 : Inv X pins σ H { s with heap := h' } := I.turned (t' := s.toks) (fun b ob hb e => (sb.2 b hb).trans e) f0 f1 f3 f4 f5
    obtain ⟨oi, e1, c, dd⟩ := id st'
    exact ⟨en.key, rfl, go_of (s := { s with heap := h' }) e1 c dd (by decide) ⟨.ref e.2.1, H, I1, hkey, ⟨rfl, e, he, rfl⟩, st', fun b hb => (hf b hb).1⟩⟩
  done := by
    intro X hP hw hK hc i pins s σ H E I hf st hg
    subst hP hw hK
    obtain ⟨hd, hi⟩ := hg
    obtain ⟨f0, f1, f2, f3, f4, f5⟩ := hf it (by simp)
    obtain ⟨hs, hgd, hx, es', ep', hdt, hsz, ent⟩ := frzN I hd
    obtain ⟨rfl, rfl⟩ := dict_ep hod hdt
    exact next_key_end (I.ok.hd hc) st hgd hdt hsz hi fun h' eb => ⟨rfl, I.turned (t' := s.toks) (fun b ob hb e => eb b ob hb e) f0 f1 f3 f4 f5⟩
  self := fun A i s Q E st h => by
    refine wpAny_pyIter_slot st.typeIs F.slot_dict_keyiterator_iter (wpAny_call_entry F.slot_dict_keyiterator_iter st.typeIs F.entry_dict_keyiterator_iter ?_ (F.args_dict_keyiterator_iter_1 _))
    show wpAny _ _ (ret (.ref it)) _ _ s
    exact wpAny_pure ⟨_, rfl, "dict_keyiterator", _, st.typeIs, F.slot_dict_keyiterator_next.lookup, h⟩
theorem walk_keysN {xs : List Ent} : Walk (Itkn P w d o xs) xs.length (fun H => H d = some (.frz o (NtO P w d xs))) (fun i H x H' => H' = H ∧ ∃ e, xs[i]? = some e ∧ x = .ref e.2.1) :=
  ⟨fun _ _ hi q => ⟨q, hi⟩, fun _ q => ⟨q, Nat.le_refl _⟩, fun _ _ _ _ _ _ y => y⟩
end
def iKeysN (P : Program) (w : World) (td : TE) : TI := fun σ H R => td σ H fun x H1 => ∃ d o xs, x = .ref d ∧ H1 d = some (.frz o (NtO P w d xs)) ∧ R (Itkn P w d o xs) H1
section
variable {X : Cx} {tg e : Expr} {td : TE}
theorem pi_keysN (he : PE X e td) : PI X tg e (iKeysN X.prog X.w td) := by
  refine ⟨fun pins s σ H R I h => ?_⟩
  refine thn (he.run pins s σ H _ I h) fun u s1 ⟨x, H1, I1, rx, d, o, xs, ex, hd, q⟩ => ?_
  subst ex
  obtain rfl : u = Value.ref d := rx
  obtain ⟨hs, hgd, hx, es, ep, hdt, hsz, ent⟩ := frzN I1 hd
  refine iter_keys hs hgd hx hdt (pi_one (tk := s1.toks) I1 _ (turn_keysN _ hdt) ⟨_, Heap.get?_push_size _ rfl, rfl, ?_⟩ q)
  rw [hsz] <;> rfl
end
end L2.Lk

/-! # zip of three lists, walked -/
namespace L2
open PySem PySem.Spec PyProof.Rows
/-- the lists at a, b and c as they stand at each turn, the items in new tuples -/
def Itz3 (K : PySem.W.Frag) (a b c : Addr) : It :=
  ⟨fun i H => ∃ (xs ys zs : List V) (x y z : V), SqL K H a xs ∧ SqL K H b ys ∧ SqL K H c zs ∧ xs[i]? = some x ∧ ys[i]? = some y ∧ zs[i]? = some z,
    fun i H v H' => ∃ T x y z, v = .ref T ∧ H T = none ∧ H' = upd H T (.tup [x, y, z]) ∧ (∀ xs, SqL K H a xs → xs[i]? = some x) ∧ (∀ ys, SqL K H b ys → ys[i]? = some y) ∧ ∀ zs, SqL K H c zs → zs[i]? = some z,
    fun i H => ∃ xs ys zs : List V, SqL K H a xs ∧ SqL K H b ys ∧ SqL K H c zs ∧ i ≤ xs.length ∧ i ≤ ys.length ∧ i ≤ zs.length ∧ (i = xs.length ∨ i = ys.length ∨ i = zs.length)⟩
structure Zp3 (z TI TO i1 i2 i3 a b c : Addr) : Prop where
  S : ZipSep3 z TI TO i1 i2 i3 [i1, a] [i2, b] [i3, c]
  a1 : a ≠ i1
  b2 : b ≠ i2
  c3 : c ≠ i3
theorem turn_zip3 {P : Program} {w : World} {K : PySem.W.Frag} {elts : List Expr} {kk : Nat} {tpos : Pos} {a b c z TI TO i1 i2 i3 : Addr} (D : Zp3 z TI TO i1 i2 i3 a b c) :
    Turn P w K (.Tuple elts kk tpos) (Itz3 K a b c) [z, TI, TO, i1, i2, i3] z (fun i h => IsZip h z TI TO .none ∧ IsTupOf3 h TI (.ref i1) (.ref i2) (.ref i3) ∧ (∃ x y u, IsTupOf3 h TO x y u) ∧ h.IsListIter i1 a i ∧ h.IsListIter i2 b i ∧ h.IsListIter i3 c i) where
  mem := by simp
  obj := fun i h st d hd => by
    obtain ⟨hz, hTI, ⟨x, y, u, hTO⟩, ⟨o1, e1, _, d1⟩, ⟨o2, e2, _, d2⟩, ⟨o3, e3, _, d3⟩⟩ := st
    have e' : d = z ∨ d = TI ∨ d = TO ∨ d = i1 ∨ d = i2 ∨ d = i3 := by simpa using hd
    rcases e' with q | q | q | q | q | q
    · rw [q]; exact ⟨_, hz, fun v q => nomatch q⟩
    · rw [q]; exact ⟨_, hTI, fun v q => nomatch q⟩
    · rw [q]; exact ⟨_, hTO, fun v q => nomatch q⟩
    · rw [q]; exact ⟨o1, e1, fun v q => by rw [d1] at q; cases q⟩
    · rw [q]; exact ⟨o2, e2, fun v q => by rw [d2] at q; cases q⟩
    · rw [q]; exact ⟨o3, e3, fun v q => by rw [d3] at q; cases q⟩
  keep := fun i h h' st k => by
    obtain ⟨hz, hTI, ⟨x, y, u, hTO⟩, h1, h2, h3⟩ := st
    exact ⟨k z (by simp) _ hz, k TI (by simp) _ hTI, ⟨x, y, u, k TO (by simp) _ hTO⟩, h1.at fun o q => k i1 (by simp) o q, h2.at fun o q => k i2 (by simp) o q, h3.at fun o q => k i3 (by simp) o q⟩
  item := by
    intro X hP hw hK hc i pins s σ H E I hf st hg
    subst hP hw hK
    obtain ⟨hz, hTI, ⟨x0, y0, u0, hTO⟩, h1, h2, h3⟩ := st
    obtain ⟨xs, ys, zs, x, y, zv, hqx, hqy, hqz, hx, hy, hzz⟩ := hg
    obtain ⟨its, rv, p, _⟩ := I.list hqx
    obtain ⟨its2, rv2, p2, _⟩ := I.list hqy
    obtain ⟨its3, rv3, p3, _⟩ := I.list hqz
    obtain ⟨u, hu, ru⟩ := rv.get hx
    obtain ⟨u2, hu2, ru2⟩ := rv2.get hy
    obtain ⟨u3, hu3, ru3⟩ := rv3.get hzz
    have hzl : z < s.heap.objs.size := Heap.lt_size hz
    have hh := I.ok.hd hc
    have lt1 : i < its.toArray.size := by
      have := List.getElem?_eq_some_iff.mp hu
      obtain ⟨q, _⟩ := this
      simpa using q
    have lt2 : i < its2.toArray.size := by
      obtain ⟨q, _⟩ := List.getElem?_eq_some_iff.mp hu2
      simpa using q
    have lt3 : i < its3.toArray.size := by
      obtain ⟨q, _⟩ := List.getElem?_eq_some_iff.mp hu3
      simpa using q
    refine wpAny_pyNext_zipD3_item D.S (Draws.list (A := X.A.in1) hh i1 a D.a1 its.toArray) (Draws.list (A := X.A.in1) hh i2 b D.b2 its2.toArray) (Draws.list (A := X.A.in1) hh i3 c D.c3 its3.toArray) hz hTI hTO ⟨h1, p.isList⟩ ⟨h2, p2.isList⟩ ⟨h3, p3.isList⟩ lt1 lt2 lt3
      fun x1 x2 x3 h' tk e1 e2 e3 z' TO' s1 s2 s3 hT hsz hk => ?_
    have q1 : x1 = u := by
      have : its[i]? = some x1 := by simpa using e1
      rw [hu] at this; cases this; rfl
    have q2 : x2 = u2 := by
      have : its2[i]? = some x2 := by simpa using e2
      rw [hu2] at this; cases this; rfl
    have q3 : x3 = u3 := by
      have : its3[i]? = some x3 := by simpa using e3
      rw [hu3] at this; cases this; rfl
    subst q1 q2 q3
    refine ⟨_, rfl, wpAny_letOwnedTupleGo_zip (s := { s with heap := h', toks := tk }) z' fun h'' z'' sb => ?_⟩
    have hT2 : h''.get? s.heap.objs.size = some { cls := .type "tuple", data := .seq #[x1, x2, x3] } := (sb.2 _ (Nat.ne_of_gt hzl)).trans hT
    have new : ObjOk X.prog X.w (upd H s.heap.objs.size (.tup [x, y, zv])) h'' s.heap.objs.size (.tup [x, y, zv]) :=
      ⟨by show 3 ≤ sizeLine; decide, [x1, x2, x3], .cons ru (.cons ru2 (.cons ru3 .nil)), ⟨_, hT2, rfl, _, rfl⟩⟩
    have I1 : Inv X pins σ (upd H s.heap.objs.size (.tup [x, y, zv])) { s with heap := h'', toks := tk } :=
      I.turnedNew (t' := tk) (ch := [z, TI, TO, i1, i2, i3]) (fun c o hb q => (sb.2 c (fun q' => hb (by simp [q']))).trans (hk c o (fun q' => hb (by simp [q'])) (fun q' => hb (by simp [q'])) (fun q' => hb (by simp [q'])) (fun q' => hb (by simp [q'])) (fun q' => hb (by simp [q'])) q)) hf (Nat.le_refl _) new
    refine ⟨.ref s.heap.objs.size, _, I1, rfl, ⟨_, x, y, zv, rfl, I.hok.fresh (Nat.le_refl _), rfl, fun l hl => by rw [I.list_inj hl hqx]; exact hx, fun l hl => by rw [I.list_inj hl hqy]; exact hy, fun l hl => by rw [I.list_inj hl hqz]; exact hzz⟩, ⟨z'', ?_, ⟨x1, x2, x3, ?_⟩, ?_, ?_, ?_⟩, fun c hcm => ?_⟩
    · exact (sb.2 _ D.S.TIz).trans (hk _ _ D.S.TIz D.S.TITO D.S.TIi1 D.S.TIi2 D.S.TIi3 hTI)
    · exact (sb.2 _ D.S.TOz).trans TO'
    · exact s1.1.at fun o q => (sb.2 _ D.S.zi1.symm).trans q
    · exact s2.1.at fun o q => (sb.2 _ D.S.zi2.symm).trans q
    · exact s3.1.at fun o q => (sb.2 _ D.S.zi3.symm).trans q
    · have hlt : c < s.heap.objs.size := by
        have e' : c = z ∨ c = TI ∨ c = TO ∨ c = i1 ∨ c = i2 ∨ c = i3 := by simpa using hcm
        rcases e' with q | q | q | q | q | q
        · rw [q]; exact hzl
        · rw [q]; exact Heap.lt_size hTI
        · rw [q]; exact Heap.lt_size hTO
        · rw [q]; obtain ⟨_, e1, _⟩ := h1; exact Heap.lt_size e1
        · rw [q]; obtain ⟨_, e2, _⟩ := h2; exact Heap.lt_size e2
        · rw [q]; obtain ⟨_, e3, _⟩ := h3; exact Heap.lt_size e3
      rw [upd_ne (Nat.ne_of_lt hlt)]
      exact (hf c hcm).1
  done := by
    intro X hP hw hK hc i pins s σ H E I hf st hg
    subst hP hw hK
    obtain ⟨hz, hTI, ⟨x0, y0, u0, hTO⟩, h1, h2, h3⟩ := st
    obtain ⟨xs, ys, zs, hqx, hqy, hqz, g1, g2, g3, hend⟩ := hg
    obtain ⟨its, rv, p, _⟩ := I.list hqx
    obtain ⟨its2, rv2, p2, _⟩ := I.list hqy
    obtain ⟨its3, rv3, p3, _⟩ := I.list hqz
    have l1 := rv.length
    have l2 := rv2.length
    have l3 := rv3.length
    have hh := I.ok.hd hc
    exact wpAny_pyNext_zipD3_end D.S (Draws.list (A := X.A.in1) hh i1 a D.a1 its.toArray) (Draws.list (A := X.A.in1) hh i2 b D.b2 its2.toArray) (Draws.list (A := X.A.in1) hh i3 c D.c3 its3.toArray) hz hTI hTO ⟨h1, p.isList⟩ ⟨h2, p2.isList⟩ ⟨h3, p3.isList⟩
      (by simp; omega) (by simp; omega) (by simp; omega) (by simp; omega)
      fun h' tk hk => ⟨rfl, I.turnedL (t' := tk) (ch := [z, TI, TO, i1, i2, i3]) (fun c o hb q => hk c o (fun q' => hb (by simp [q'])) (fun q' => hb (by simp [q'])) (fun q' => hb (by simp [q'])) (fun q' => hb (by simp [q'])) (fun q' => hb (by simp [q'])) q) hf⟩
  self := fun A i s Q E st h => wpAny_pyIter_zip st.1 h
def iZip3 (K : PySem.W.Frag) (ta : TA) : TI := fun σ H R => ta σ H fun vs H1 => ∃ a b c xs ys zs, vs = [.ref a, .ref b, .ref c] ∧ SqL K H1 a xs ∧ SqL K H1 b ys ∧ SqL K H1 c zs ∧ R (Itz3 K a b c) H1
theorem walk_zip3 {K : PySem.W.Frag} {a b c : Addr} {xs ys zs : List V} {n : Nat} (h1 : xs.length = n) (h2 : ys.length = n) (h3 : zs.length = n) :
    Walk (Itz3 K a b c) n (fun H => SqL K H a xs ∧ SqL K H b ys ∧ SqL K H c zs) (fun i H v H' => ∃ T x y z, v = .ref T ∧ H T = none ∧ H' = upd H T (.tup [x, y, z]) ∧ xs[i]? = some x ∧ ys[i]? = some y ∧ zs[i]? = some z) := by
  refine ⟨fun i _ hi q => ?_, fun _ q => ⟨xs, ys, zs, q.1, q.2.1, q.2.2, by omega⟩, fun i H v H' _ q y => ?_⟩
  · have l1 : i < xs.length := by omega
    have l2 : i < ys.length := by omega
    have l3 : i < zs.length := by omega
    exact ⟨xs, ys, zs, xs[i], ys[i], zs[i], q.1, q.2.1, q.2.2, by simp [l1], by simp [l2], by simp [l3]⟩
  · obtain ⟨T, x, y, z, e1, e2, e3, e4, e5, e6⟩ := y
    exact ⟨T, x, y, z, e1, e2, e3, e4 xs q.1, e5 ys q.2.1, e6 zs q.2.2⟩
theorem sep3 (I a b c : Nat) (h1 : a < I) (h2 : b < I) (h3 : c < I) : Zp3 (I + 5) (I + 3) (I + 4) I (I + 1) (I + 2) a b c := by
  have n {x y : Nat} (h : x ≠ y) : (x : Addr) ≠ y := h
  refine ⟨⟨n (by omega), n (by omega), n (by omega), n (by omega), by simp, ?_, ?_, n (by omega), by simp, ?_, ?_, n (by omega), by simp, ?_, ?_, ?_, ?_, ?_, ?_, ?_, ?_⟩, n (by omega), n (by omega), n (by omega)⟩ <;>
    (intro h; simp only [List.mem_cons, List.not_mem_nil, or_false] at h; rcases h with h | h <;> (have h' : (_ : Nat) = _ := h; omega))
theorem pi_zip3 {X : Cx} {e e2 e3 : Expr} {ta : TA} {p pos tpos : Pos} {elts : List Expr} {kk : Nat} (hg : Gl X "zip") (hm : X.mg "zip" = none) (ha : PA X [e, e2, e3] ta)
    (hs : starEach [e, e2, e3] X.env = (false, eval e X.env) :: starEach [e2, e3] X.env := by rfl) (hpl : (backTo pos (starEach [e2, e3] X.env)).any (·.1) = false := by rfl) :
    PI X (.Tuple elts kk tpos) (.Call (.Name "zip" p) [e, e2, e3] [] pos) (iZip3 X.K ta) := by
  refine ⟨fun pins s σ H R I h => ?_⟩
  refine Call_ (ld_blt I hg hm PyProof.Rows.boot_zip (PyProof.Rows.callWith_type1 (thn (ha.run pos pins s σ H _ I h) fun us s1 ⟨vs, H1, I1, r1, q1⟩ => ?_) hs hpl))
  obtain ⟨a, b, c, xs, ys, zs, ex, hqx, hqy, hqz, q⟩ := q1
  subst ex
  cases r1 with
  | cons r rr =>
    cases rr with
    | cons r' rr =>
      cases rr with
      | cons r'' rr =>
        cases rr
        cases r
        cases r'
        cases r''
        obtain ⟨its, rv, p1, _⟩ := I1.list hqx
        obtain ⟨its2, rv2, p2, _⟩ := I1.list hqy
        obtain ⟨its3, rv3, p3, _⟩ := I1.list hqz
        have la : a < s1.heap.objs.size := p1.lt
        have lb : b < s1.heap.objs.size := p2.lt
        have lc : c < s1.heap.objs.size := p3.lt
        refine zip_begins3 (begins_list a its.toArray) (begins_list b its2.toArray) (begins_list c its3.toArray) p1.isList p2.isList p3.isList fun h' hz hTI hTO h1 h2 h3 hsz hk => wpAny_pyIter_zip hz ?_
        have I2 : Inv X pins σ H1 { s1 with heap := h' } := I1.kept (t' := s1.toks) hk
        refine ⟨s1.heap.objs.size + 5, [s1.heap.objs.size + 5, s1.heap.objs.size + 3, s1.heap.objs.size + 4, s1.heap.objs.size, s1.heap.objs.size + 1, s1.heap.objs.size + 2], _, _, H1, rfl, I2, turn_zip3 (sep3 s1.heap.objs.size a b c la lb lc), ⟨hz, hTI, ⟨_, _, _, hTO⟩, ⟨_, h1, rfl, rfl⟩, ⟨_, h2, rfl, rfl⟩, ⟨_, h3, rfl, rfl⟩⟩, fun d hcm => ?_, q⟩
        have e' : d = s1.heap.objs.size + 5 ∨ d = s1.heap.objs.size + 3 ∨ d = s1.heap.objs.size + 4 ∨ d = s1.heap.objs.size ∨ d = s1.heap.objs.size + 1 ∨ d = s1.heap.objs.size + 2 := by simpa using hcm
        have hle : s1.heap.objs.size ≤ d := by
          rcases e' with z | z | z | z | z | z
          · rw [z]; exact Nat.le_add_right _ _
          · rw [z]; exact Nat.le_add_right _ _
          · rw [z]; exact Nat.le_add_right _ _
          · rw [z]; exact Nat.le_refl _
          · rw [z]; exact Nat.le_add_right _ _
          · rw [z]; exact Nat.le_add_right _ _
        exact I1.fpOk hle (I1.hok.fresh hle)
end L2

set_option exponentiation.threshold 2000
/-! # letter_worth -/
namespace L2.Fo
open PySem PySem.Spec PyProof.Rows L2.Vf L2.Dw L2.Ch L2.Nk RZ
/-- the product of the powers -/
def lwA : Int → List Int → List Int → Int
  | w, p :: cs, e :: ls => lwA (w * p ^ e.toNat) cs ls
  | w, _, _ => w
def lw (ls cs : List Int) : Int := lwA 1 cs ls
/-- exponents, parts -/
def ExOk (ls : List Int) : Prop := ls.length ≤ 2 ∧ ∀ e ∈ ls, 0 ≤ e ∧ e ≤ 6
def PaOk (cs : List Int) : Prop := ∀ p ∈ cs, p.natAbs ≤ 2 ^ 64
theorem mulAbs {a b : Int} {m n : Nat} (ha : a.natAbs ≤ 2 ^ m) (hb : b.natAbs ≤ 2 ^ n) : (a * b).natAbs ≤ 2 ^ (m + n) := by
  rw [Int.natAbs_mul, Nat.pow_add]
  exact Nat.mul_le_mul ha hb
theorem powAbs {p : Int} {m : Nat} (hp : p.natAbs ≤ 2 ^ m) : ∀ n : Nat, (p ^ n).natAbs ≤ 2 ^ (m * n)
  | 0 => by simp
  | n + 1 => by
    rw [Int.pow_succ, Nat.mul_succ]
    exact mulAbs (powAbs hp n) hp
theorem lwA_abs : ∀ (cs ls : List Int) (w : Int) (m : Nat), w.natAbs ≤ 2 ^ m → PaOk cs → (∀ e ∈ ls, 0 ≤ e ∧ e ≤ 6) → (lwA w cs ls).natAbs ≤ 2 ^ (m + 384 * ls.length)
  | p :: cs, e :: ls, w, m, h, hc, he => by
    have h1 := lwA_abs cs ls (w * p ^ e.toNat) (m + 384) (by
      have a := mulAbs h (powAbs (hc p List.mem_cons_self) e.toNat)
      have b := (he e List.mem_cons_self).2
      exact Nat.le_trans a (Nat.pow_le_pow_right (by decide) (by omega))) (fun q hq => hc q (List.mem_cons_of_mem _ hq)) (fun q hq => he q (List.mem_cons_of_mem _ hq))
    refine Nat.le_trans h1 (Nat.pow_le_pow_right (by decide) ?_)
    simp only [List.length_cons]
    omega
  | [], ls, w, m, h, _, _ => by
    cases ls <;> exact Nat.le_trans h (Nat.pow_le_pow_right (by decide) (by omega))
  | _ :: _, [], w, m, h, _, _ => h
theorem lw_abs {ls cs : List Int} (h : ExOk ls) (hc : PaOk cs) : (lw ls cs).natAbs ≤ 2 ^ 768 :=
  Nat.le_trans (lwA_abs cs ls 1 0 (by decide) hc h.2) (Nat.pow_le_pow_right (by decide) (by have := h.1; omega))
theorem mulX {i j : Int} {a b : Nat} (ha : i.natAbs ≤ 2 ^ a) (hb : j.natAbs ≤ 2 ^ b) (h : a + b ≤ 134217000) : CMulX i j :=
  mulx_ok (a := a + 1) (b := b + 1) (Nat.lt_of_le_of_lt ha (by rw [Nat.pow_succ]; have := Nat.pos_of_ne_zero (n := 2 ^ a) (by simp); omega)) (Nat.lt_of_le_of_lt hb (by rw [Nat.pow_succ]; have := Nat.pos_of_ne_zero (n := 2 ^ b) (by simp); omega)) (by omega)
abbrev sLw : Stmt := top 20
abbrev nLw : List Str := ["letter", "cell", "worth", "part", "exponent", "_"]
theorem scLw : FnScope nLw ["letter", "cell"] (defScope sLw) := ⟨rfl, rfl, rfl, by decide +kernel, rfl, by decide +kernel, by decide +kernel⟩
def spLw (K : PySem.W.Frag) : Sp := fun vs H Q _ => ∃ (l c : Addr) (ls cs : List Int), vs = [.ref l, .ref c] ∧ SqT K H l (ls.map V.int) ∧ SqT K H c (cs.map V.int) ∧ ls.length = cs.length ∧ ExOk ls ∧ PaOk cs ∧ ∀ H', Same H H' → Q (.int (lw ls cs)) H'
section
variable {P : Program} {w : World} {K : PySem.W.Frag} {mg : Str → Option Value} {base : Heap}
theorem ok_lw {f : Addr} {fd : FuncData} (F : Fun K "letter_worth" "letter_worth" sLw f fd) (N : Nm mg) : FnOk P w K mg base CX0 1 f fd ["letter", "cell"] (spLw K) := by
  refine F.ok scLw (fun vs H Q E h => ?_) fun cdv A outer s H vs Q E hr h => ?_
  · obtain ⟨l, c, ls, cs, rfl, _⟩ := h
    rfl
  · obtain ⟨l, c, ls, cs, rfl, hl, hc, hlen, he, hp, q⟩ := h
    refine ⟨_, pss_cons (ps_set (i := 2) scLw.nd rfl (.inl rfl) pe_int)
      (pss_cons (ps_for PassesOwn.never rfl (pi_zipA (by rfl) N.zip (pa_cons (pv 1) (pa_cons (pv 0) pa_nil))) (pg_tup rfl (pgs_cons (pg_name (i := 3) scLw.nd rfl (Or.inl rfl)) (pgs_cons (pg_name (i := 4) scLw.nd rfl (Or.inl rfl)) pgs_nil)))
        (pss_one (ps_for PassesOwn.never rfl (pi_range1 (by rfl) N.rng (pa_cons (pv 4) pa_nil)) (pg_name (i := 5) scLw.nd rfl (Or.inl rfl))
          (pss_one (ps_set (i := 2) scLw.nd rfl (.inl rfl) (pe_op op_mulX (pv 2) (pv 3)))))))
      (pss_one (ps_ret (pv 2)))), ?_⟩
    refine ⟨_, rfl, _, rfl, c, l, _, _, rfl, .inr ⟨hc, hl, ?_⟩⟩
    refine for_zipT (show (cs.map V.int).length = (ls.map V.int).length by simp [hlen]) (fun i σ H' => Same H H' ∧ ∃ (v : Int) (o3 o4 o5 : Option V), σ = [some (.ref l), some (.ref c), some (.int v), o3, o4, o5] ∧ v.natAbs ≤ 2 ^ (384 * i) ∧ lwA v (cs.drop i) (ls.drop i) = lw ls cs) ?_ ?_ ?_ ?_
    · exact ⟨.refl _, 1, _, _, _, rfl, by decide, rfl⟩
    · rintro i σ H' ⟨s1, _⟩
      exact ⟨sqT_ext (.of s1) hc, sqT_ext (.of s1) hl⟩
    · rintro i x y T σ H' hx hy ⟨s1, v, o3, o4, o5, rfl, hv, hw⟩ hT
      rw [List.getElem?_map] at hx hy
      obtain ⟨p, hpi, rfl⟩ := Option.map_eq_some_iff.mp hx
      obtain ⟨e, hei, rfl⟩ := Option.map_eq_some_iff.mp hy
      obtain ⟨e0, e6⟩ := he.2 e (List.mem_of_getElem? hei)
      have hp64 := hp p (List.mem_of_getElem? hpi)
      obtain ⟨n, rfl⟩ := Int.eq_ofNat_of_zero_le e0
      have hi : i < 2 := by
        have := (List.getElem?_eq_some_iff.mp hei).1
        have := he.1
        omega
      refine ⟨T, _, rfl, SqT.of upd_same, rfl, _, _, rfl, _, _, rfl, rfl, ?_⟩
      refine ⟨_, rfl, _, rfl, ?_⟩
      refine ⟨by omega, by omega, ?_⟩
      have s2 : Same H (upd H' T (.tup [.int p, .int (n : Int)])) := s1.trans (same_new hT)
      refine for_range (lo := 0) (n := n) (fun j σ H'' => Same H H'' ∧ ∃ (u : Int) (o : Option V), σ = [some (.ref l), some (.ref c), some (.int u), some (.int p), some (.int (n : Int)), o] ∧ u = v * p ^ j) ⟨s2, v, _, rfl, by simp⟩ (fun j σ H'' hj hP => ?_) fun σ H'' hP => ?_
      · obtain ⟨s3, u, o, rfl, rfl⟩ := hP
        refine ⟨_, rfl, _, rfl, _, _, rfl, rfl, mulX (mulAbs hv (powAbs hp64 j)) hp64 (by omega), ?_⟩
        exact ⟨s3, _, _, rfl, by rw [Int.pow_succ, Int.mul_assoc]⟩
      · obtain ⟨s3, u, o, rfl, rfl⟩ := hP
        refine ⟨s3, _, _, _, _, rfl, ?_, ?_⟩
        · exact Nat.le_trans (mulAbs hv (powAbs hp64 n)) (Nat.pow_le_pow_right (by decide) (by omega))
        · rw [← hw]
          have d1 : cs.drop i = p :: cs.drop (i + 1) := by
            obtain ⟨h1, h2⟩ := List.getElem?_eq_some_iff.mp hpi
            rw [← h2]; exact List.drop_eq_getElem_cons h1
          have d2 : ls.drop i = (n : Int) :: ls.drop (i + 1) := by
            obtain ⟨h1, h2⟩ := List.getElem?_eq_some_iff.mp hei
            rw [← h2]; exact List.drop_eq_getElem_cons h1
          rw [d1, d2]
          rfl
    · rintro σ H' ⟨s1, v, o3, o4, o5, rfl, hv, hw⟩
      refine ⟨_, rfl, ?_⟩
      have : v = lw ls cs := by
        rw [← hw]
        have z1 : cs.drop (cs.map V.int).length = [] := by simp
        rw [z1]
        cases ls.drop (cs.map V.int).length <;> rfl
      rw [this]
      exact q H' s1
end
end L2.Fo

/-! # by_first_letter -/
namespace L2.Fo
open PySem PySem.Spec PyProof.Rows L2.Vf L2.Dw L2.Ch L2.Nk RZ
abbrev Grp := List Int × List (Int × Wd)
def ensG (gs : List Grp) (l : List Int) : List Grp := if (gs.any fun g => decide (g.1 = l)) = true then gs else gs ++ [(l, [])]
def pushG (gs : List Grp) (l : List Int) (t : Int × Wd) : List Grp := gs.map fun g => if g.1 = l then (g.1, g.2 ++ [t]) else g
def stepG (gs : List Grp) (t : Int × Wd) : List Grp := match t.2 with
  | [] => gs
  | l :: k => pushG (ensG gs l) l (t.1, k)
/-- the terms by their first letters -/
def groupsOf (ts : List (Int × Wd)) : List Grp := ts.foldl stepG []
theorem groups_snoc (ts : List (Int × Wd)) (t : Int × Wd) : groupsOf (ts ++ [t]) = stepG (groupsOf ts) t := by
  unfold groupsOf
  rw [List.foldl_append]
  rfl
theorem ens_len (gs : List Grp) (l : List Int) : (ensG gs l).length ≤ gs.length + 1 := by
  unfold ensG
  split <;> simp
theorem groups_len (ts : List (Int × Wd)) : (groupsOf ts).length ≤ ts.length := by
  suffices h : ∀ (ts : List (Int × Wd)) (gs : List Grp), (ts.foldl stepG gs).length ≤ gs.length + ts.length by simpa [groupsOf] using h ts []
  intro ts
  induction ts with
  | nil => intro gs; simp
  | cons t ts ih =>
    intro gs
    rw [List.foldl_cons]
    refine Nat.le_trans (ih _) ?_
    have : (stepG gs t).length ≤ gs.length + 1 := by
      unfold stepG
      split
      · omega
      · unfold pushG
        rw [List.length_map]
        exact ens_len _ _
    simp only [List.length_cons]
    omega
theorem same_wr {H H' : Hp} {c : Addr} {o : HO} (s : Same H H') (hc : H c = none) : Same H (upd H' c o) := fun b u e => by
  rw [upd_ne (ne_of_none e hc)]
  exact s _ _ e
section
variable {P : Program} {w : World} {K : PySem.W.Frag}
/-- at v: a new list of terms -/
def LstAt (K : PySem.W.Frag) (H : Hp) (v : V) (ts : List (Int × Wd)) : Prop := ∃ (c : Addr) (rs : List Trm), v = .ref c ∧ H c = some (.lst (rs.map fun r : Trm => V.ref r.1)) ∧ (∀ r ∈ rs, TmAt K H r) ∧ rs.map (·.2) = ts
/-- the groups gs, at their lists, each its own -/
structure GrL (K : PySem.W.Frag) (H0 H : Hp) (xs : List Lk.Ent) (gs : List Grp) : Prop where
  key : Lk.NKeys K H xs
  rel : Paired (fun (x : Lk.Ent) (g : Grp) => x.1 = g.1 ∧ LstAt K H x.2.2 g.2) xs gs
  nd : (xs.map (·.1)).Nodup
  inj : ∀ x ∈ xs, ∀ y ∈ xs, x.2.2 = y.2.2 → x.1 = y.1
  new : ∀ x ∈ xs, ∃ c, x.2.2 = .ref c ∧ H0 c = none
theorem val_mem {xs : List Lk.Ent} {k : List Int} {v : V} (h : Lk.valN xs k = some v) : ∃ x ∈ xs, x.1 = k ∧ x.2.2 = v := by
  unfold Lk.valN at h
  obtain ⟨x, hx, rfl⟩ := Option.map_eq_some_iff.mp h
  exact ⟨x, List.mem_of_find?_eq_some hx, by simpa using List.find?_some hx, rfl⟩
theorem val_none {xs : List Lk.Ent} {k : List Int} (h : Lk.valN xs k = none) : ∀ x ∈ xs, x.1 ≠ k := fun x hx e => by
  unfold Lk.valN at h
  rw [Option.map_eq_none_iff, List.find?_eq_none] at h
  exact h x hx (by simp [e])
theorem nodup_key {xs : List Lk.Ent} (nd : (xs.map (·.1)).Nodup) : ∀ {x y : Lk.Ent}, x ∈ xs → y ∈ xs → x.1 = y.1 → x = y := by
  induction xs with
  | nil => intro x y hx; exact absurd hx (by simp)
  | cons p r ih =>
    rw [List.map_cons, List.nodup_cons] at nd
    intro x y hx hy e
    rcases List.mem_cons.mp hx with hx | hx <;> rcases List.mem_cons.mp hy with hy | hy
    · rw [hx, hy]
    · exact absurd (List.mem_map.mpr ⟨y, hy, by rw [← e, hx]⟩) nd.1
    · exact absurd (List.mem_map.mpr ⟨x, hx, by rw [e, hy]⟩) nd.1
    · exact ih nd.2 hx hy e
theorem no_key {l : List Int} {R : Lk.Ent → Grp → Prop} (hR : ∀ x g, R x g → x.1 = g.1) {xs : List Lk.Ent} {gs : List Grp} (r : Paired R xs gs) : (∀ x ∈ xs, x.1 ≠ l) → ∀ y ∈ gs, y.1 ≠ l := by
  induction r with
  | nil => intro _ y hy; exact absurd hy (by simp)
  | cons h1 _ ih =>
    intro h y hy
    rcases List.mem_cons.mp hy with rfl | hy
    · exact fun e => h _ List.mem_cons_self ((hR _ _ h1).trans e)
    · exact ih (fun x hx => h x (List.mem_cons_of_mem _ hx)) y hy
theorem put_none {xs : List Lk.Ent} {k : List Int} {b : Addr} {v : V} (h : Lk.valN xs k = none) : Lk.putN xs k b v = xs ++ [(k, b, v)] := by
  unfold Lk.putN
  rw [Lk.valN_any, h]
  rfl
theorem tmAt_upd {H : Hp} {d : Addr} {o o' : HO} {r : Trm} (e : H d = some o) (mu : Mut (some o)) (h : TmAt K H r) : TmAt K (upd H d o') r := by
  obtain ⟨b, h1, h2⟩ := h
  exact ⟨b, sqT_upd e mu h1, h2.mono fun _ _ q => sqT_upd e mu q⟩
theorem lkey_upd {H : Hp} {d b : Addr} {k : List Int} {o o' : HO} (e : H d = some o) (mu : Mut (some o)) (h : Lk.NKey K H k b) : Lk.NKey K (upd H d o') k b := sqT_upd e mu h
theorem lkey_ext {H H' : Hp} {b : Addr} {k : List Int} (s : Same H H') (h : Lk.NKey K H k b) : Lk.NKey K H' k b := sqT_ext (.of s) h
/-- all stays -/
theorem GrL.same {H0 H H' : Hp} {xs : List Lk.Ent} {gs : List Grp} (g : GrL K H0 H xs gs) (s : Same H H') : GrL K H0 H' xs gs :=
  ⟨fun x hx => lkey_ext s (g.key x hx), Paired.mapP g.rel fun x y ⟨e, c, rs, e1, e2, e3, e4⟩ => ⟨e, c, rs, e1, s _ _ e2, fun r hr => (e3 r hr).ext (.of s), e4⟩, g.nd, g.inj, g.new⟩
/-- a fresh list for l, laid into the dict -/
theorem GrL.ens {H0 H : Hp} {xs : List Lk.Ent} {gs : List Grp} {D p b : Addr} {l : List Int} {o o' : HO} (g : GrL K H0 H xs gs) (hD : H D = some o) (mu : Mut (some o)) (hl : H p = some (.lst [])) (hp0 : H0 p = none) (hpD : p ≠ D) (hpn : ∀ x ∈ xs, x.2.2 ≠ .ref p) (hDn : ∀ x ∈ xs, x.2.2 ≠ .ref D) (hb : Lk.NKey K H l b) (hv : Lk.valN xs l = none) :
    GrL K H0 (upd H D o') (xs ++ [(l, b, .ref p)]) (ensG gs l) := by
  have hno : ∀ y ∈ gs, y.1 ≠ l := no_key (fun _ _ h => h.1) g.rel (val_none hv)
  have he : ensG gs l = gs ++ [(l, [])] := by
    unfold ensG
    rw [if_neg]
    intro q
    obtain ⟨y, hy, e⟩ := List.any_eq_true.mp q
    exact hno y hy (by simpa using e)
  rw [he]
  refine ⟨fun x hx => ?_, ?_, ?_, fun x hx y hy e => ?_, fun x hx => ?_⟩
  · rcases List.mem_append.mp hx with hx | hx
    · exact lkey_upd hD mu (g.key x hx)
    · rw [List.mem_singleton.mp hx]; exact lkey_upd hD mu hb
  · have r1 : Paired (fun (x : Lk.Ent) (g : Grp) => x.1 = g.1 ∧ LstAt K (upd H D o') x.2.2 g.2) xs gs := by
      have r := g.rel
      clear he hno hv
      have hDn' := hDn
      clear hDn hpn g
      induction r with
      | nil => exact .nil
      | @cons p q ps qs h1 _ ih =>
        refine .cons ?_ (ih fun x hx => hDn' x (List.mem_cons_of_mem _ hx))
        obtain ⟨e, c, rs, e1, e2, e3, e4⟩ := h1
        have nc : c ≠ D := fun z => hDn' p List.mem_cons_self (by rw [e1, z])
        exact ⟨e, c, rs, e1, by rw [upd_ne nc]; exact e2, fun r hr => tmAt_upd hD mu (e3 r hr), e4⟩
    exact Paired.snoc r1 ⟨rfl, p, [], rfl, by rw [upd_ne hpD]; exact hl, fun r hr => absurd hr (by simp), rfl⟩
  · rw [List.map_append, List.nodup_append]
    refine ⟨g.nd, by simp, fun a ha b' hb' => ?_⟩
    obtain ⟨x, hx, rfl⟩ := List.mem_map.mp ha
    have : b' = l := by simpa using hb'
    rw [this]
    exact val_none hv x hx
  · rcases List.mem_append.mp hx with hx | hx <;> rcases List.mem_append.mp hy with hy | hy
    · exact g.inj x hx y hy e
    · rw [List.mem_singleton.mp hy] at e; exact absurd e (hpn x hx)
    · rw [List.mem_singleton.mp hx] at e; exact absurd e.symm (hpn y hy)
    · rw [List.mem_singleton.mp hx, List.mem_singleton.mp hy]
  · rcases List.mem_append.mp hx with hx | hx
    · exact g.new x hx
    · rw [List.mem_singleton.mp hx]; exact ⟨p, rfl, hp0⟩
theorem ens_there {gs : List Grp} {xs : List Lk.Ent} {H0 H : Hp} {l : List Int} {v : V} (g : GrL K H0 H xs gs) (hv : Lk.valN xs l = some v) : ensG gs l = gs := by
  obtain ⟨x, hx, e1, e2⟩ := val_mem hv
  have : ∃ y ∈ gs, y.1 = l := by
    have r := g.rel
    clear g hv
    induction r with
    | nil => exact absurd hx (by simp)
    | @cons p q ps qs h1 _ ih =>
      rcases List.mem_cons.mp hx with rfl | hx
      · exact ⟨q, List.mem_cons_self, h1.1.symm.trans e1⟩
      · obtain ⟨y, hy, e⟩ := ih hx
        exact ⟨y, List.mem_cons_of_mem _ hy, e⟩
  unfold ensG
  rw [if_pos]
  obtain ⟨y, hy, e⟩ := this
  exact List.any_eq_true.mpr ⟨y, hy, by simp [e]⟩
/-- a term is laid at the end of the list for l -/
theorem GrL.push {H0 H : Hp} {xs : List Lk.Ent} {gs : List Grp} {l : List Int} {b c : Addr} {rs : List Trm} {r : Trm} (g : GrL K H0 H xs gs) (hm : (l, b, V.ref c) ∈ xs) (hl : H c = some (.lst (rs.map fun r => V.ref r.1))) (ht : TmAt K H r) :
    GrL K H0 (upd H c (.lst ((rs.map fun r => V.ref r.1) ++ [.ref r.1]))) xs (pushG gs l r.2) := by
  refine ⟨fun x hx => lkey_upd hl True.intro (g.key x hx), ?_, g.nd, g.inj, g.new⟩
  have hin : ∀ x ∈ xs, x.1 = l → x.2.2 = .ref c := fun x hx e => by rw [nodup_key g.nd hx hm e]
  have hout : ∀ x ∈ xs, x.1 ≠ l → x.2.2 ≠ .ref c := fun x hx e z => e (g.inj x hx _ hm z)
  have r0 := g.rel
  clear hm g
  induction r0 with
  | nil => exact .nil
  | @cons p q ps qs h1 _ ih =>
    have ih' := ih (fun x hx => hin x (List.mem_cons_of_mem _ hx)) (fun x hx => hout x (List.mem_cons_of_mem _ hx))
    unfold pushG at ih' ⊢
    rw [List.map_cons]
    refine .cons ?_ ih'
    obtain ⟨e, c1, rs1, e1, e2, e3, e4⟩ := h1
    by_cases z : p.1 = l
    · have zc : c1 = c := by
        have := hin p List.mem_cons_self z
        rw [e1] at this
        cases this
        rfl
      subst zc
      have zr : (rs1.map fun r => V.ref r.1) = rs.map fun r => V.ref r.1 := by
        rw [hl] at e2
        injection e2 with e2
        injection e2 with e2
        exact e2.symm
      rw [if_pos (e.symm.trans z)]
      refine ⟨e, c1, rs1 ++ [r], e1, ?_, fun r' hr' => ?_, by rw [List.map_append, e4]; rfl⟩
      · rw [upd_same, List.map_append, zr]
        rfl
      · rcases List.mem_append.mp hr' with h | h
        · exact tmAt_upd hl True.intro (e3 r' h)
        · rw [List.mem_singleton.mp h]; exact tmAt_upd hl True.intro ht
    · have zc : c1 ≠ c := fun q => hout p List.mem_cons_self z (by rw [e1, q])
      rw [if_neg (fun q => z (e.trans q))]
      exact ⟨e, c1, rs1, e1, by rw [upd_ne zc]; exact e2, fun r' hr' => tmAt_upd hl True.intro (e3 r' hr'), e4⟩
end
end L2.Fo

/-! # by_first_letter, what it promises -/
namespace L2.Fo
open PySem PySem.Spec PyProof.Rows L2.Vf L2.Dw L2.Ch L2.Nk RZ
theorem cut_one (xs : List V) : cutV xs (some 1) none = xs.drop 1 := by
  unfold cutV
  have e1 : HT.sIx xs.length 0 (some 1) = min 1 xs.length := HT.sIx_nat _ _ 1
  rw [e1, HT.sIx_none]
  cases xs with
  | nil => rfl
  | cons a r =>
    have : min 1 (a :: r).length = 1 := by simp
    rw [this]
    simp
theorem at0 (v : V) (r : List V) : atI (v :: r) 0 = some v := atI_nat (xs := v :: r) (j := 0) rfl
abbrev sBf : Stmt := top 23
abbrev nBf : List Str := ["terms", "groups", "coefficient", "letters"]
theorem scBf : FnScope nBf ["terms"] (defScope sBf) := ⟨rfl, rfl, rfl, by decide +kernel, rfl, by decide +kernel, by decide +kernel⟩
def spBf (P : Program) (w : World) (K : PySem.W.Frag) : Sp := fun vs H Q _ => ∃ (a : Addr) (ts : List Trm), vs = [.ref a] ∧ SqL K H a (ts.map fun t => V.ref t.1) ∧ (∀ t ∈ ts, TmAt K H t) ∧ ts.length < sizeLine ∧
  ∀ (D : Addr) (xs : List Lk.Ent) (H' : Hp), Same H H' → H D = none → H' D = some (Lk.NtO P w D xs) → GrL K H H' xs (groupsOf (ts.map (·.2))) → Q (.ref D) H'
section
variable {P : Program} {w : World} {K : PySem.W.Frag} {mg : Str → Option Value} {base : Heap}
theorem lens_step {gs : List Grp} {n : Nat} (t : Int × Wd) (h : ∀ g ∈ gs, g.2.length ≤ n) : ∀ g ∈ stepG gs t, g.2.length ≤ n + 1 := by
  unfold stepG
  split
  · exact fun g hg => Nat.le_succ_of_le (h g hg)
  · rename_i l k e
    have h1 : ∀ g ∈ ensG gs l, g.2.length ≤ n := by
      unfold ensG
      split
      · exact h
      · intro g hg
        rcases List.mem_append.mp hg with hg | hg
        · exact h g hg
        · rw [List.mem_singleton.mp hg]; exact Nat.zero_le _
    intro g hg
    obtain ⟨g0, h0, rfl⟩ := List.mem_map.mp hg
    have := h1 g0 h0
    split
    · simp only [List.length_append, List.length_singleton]; omega
    · omega
theorem groups_lens (ts : List (Int × Wd)) : ∀ g ∈ groupsOf ts, g.2.length ≤ ts.length := by
  suffices h : ∀ (ts : List (Int × Wd)) (gs : List Grp) (n : Nat), (∀ g ∈ gs, g.2.length ≤ n) → ∀ g ∈ ts.foldl stepG gs, g.2.length ≤ n + ts.length by
    intro g hg
    have := h ts [] 0 (fun g hg => absurd hg (by simp)) g hg
    omega
  intro ts
  induction ts with
  | nil => intro gs n h g hg; exact h g hg
  | cons t ts ih =>
    intro gs n h g hg
    have := ih (stepG gs t) (n + 1) (lens_step t h) g hg
    simp only [List.length_cons]
    omega
theorem Paired.mem {α β : Type} {R : α → β → Prop} {xs : List α} {ys : List β} (r : Paired R xs ys) {x : α} (hx : x ∈ xs) : ∃ y ∈ ys, R x y := by
  induction r with
  | nil => exact absurd hx (by simp)
  | cons h _ ih =>
    rcases List.mem_cons.mp hx with rfl | hx
    · exact ⟨_, List.mem_cons_self, h⟩
    · obtain ⟨y, hy, e⟩ := ih hx
      exact ⟨y, List.mem_cons_of_mem _ hy, e⟩
/-- the list known: the term's rest is laid at its end -/
theorem rd_bf2 {H0 H : Hp} {a D b c b0 b1 : Addr} {tc : Int} {l : List Int} {k : Wd} {br : List Addr} {xs : List Lk.Ent} {gs : List Grp} {rs : List Trm} {Q : VK} (s1 : Same H0 H) (hD : H0 D = none) (hx : H D = some (Lk.NtO P w D xs)) (g : GrL K H0 H xs gs) (hm : (l, b1, V.ref c) ∈ xs)
    (hc : H c = some (.lst (rs.map fun r => V.ref r.1))) (ll : rs.length < sizeLine) (hb : SqT K H b ((b0 :: br).map V.ref)) (hbr : Paired (fun c l => SqT K H c (l.map V.int)) br k)
    (q : ∀ H', Same H0 H' → H' D = some (Lk.NtO P w D xs) → GrL K H0 H' xs (pushG gs l (tc, k)) → Q .non H') :
    tyV K "list" (.ref c) H ∧ tCons (tTup (tCons (tVar 2) (tCons (tSl (rSlT K) (tVar 3) (tPart (tC (.int 1))) tNoPart) tNil))) tNil [some (.ref a), some (.ref D), some (.int tc), some (.ref b)] H fun us H2 => rAppend (.ref c) us H2 Q := by
  refine ⟨.inl ⟨rfl, _, SqL.of hc⟩, ?_⟩
  refine ⟨_, rfl, _, rfl, 1, rfl, b, _, rfl, hb, ?_, fun T hT => ?_⟩
  · rintro ⟨z, _⟩
    have e1 : HT.sIx ((b0 :: br).map V.ref).length 0 (some 1) = min 1 ((b0 :: br).map V.ref).length := HT.sIx_nat _ _ 1
    rw [e1] at z
    simp at z
  have eT : cutV ((b0 :: br).map V.ref) (some 1) none = br.map V.ref := by rw [cut_one]; rfl
  rw [eT] at *
  have sA : Same H (upd H T (.tup (br.map V.ref))) := same_new hT
  refine ⟨by show 2 ≤ sizeLine; rw [sizeLine_eq]; omega, fun t ht => ?_⟩
  have sB := sA.trans (same_new (o := .tup [V.int tc, V.ref T]) ht)
  have hc5 := sB _ _ hc
  have g5 := g.same sB
  have tm : TmAt K (upd (upd H T (.tup (br.map V.ref))) t (.tup [V.int tc, V.ref T])) (t, tc, k) :=
    ⟨T, SqT.of upd_same, br, SqT.of (by rw [upd_ne (ne_of_none upd_same ht)]; exact upd_same), Paired.mapP hbr fun _ _ z => sqT_ext (.of sB) z⟩
  refine ⟨c, _, _, rfl, rfl, hc5, by rw [List.length_map]; exact ll, ?_⟩
  have hcD : D ≠ c := fun z => by
    obtain ⟨c', e1, e2⟩ := g.new _ hm
    cases e1
    rw [z, hc] at hx
    unfold Lk.NtO at hx
    cases hx
  obtain ⟨c', e1, hc0⟩ := g.new _ hm
  cases e1
  exact q _ (same_wr (s1.trans sB) hc0) (by rw [upd_ne hcD]; exact sB _ _ hx) (g5.push hm hc5 tm)
theorem same_up {H : Hp} {D : Addr} {o : HO} (h : H D = none) : Same H (upd H D o) := same_new h
theorem ok_bf {f : Addr} {fd : FuncData} (F : Fun K "by_first_letter" "by_first_letter" sBf f fd) : FnOk P w K mg base CX0 3 f fd ["terms"] (spBf P w K) := by
  refine F.ok scBf (fun vs H Q E h => ?_) fun cdv A outer s H vs Q E hr h => ?_
  · obtain ⟨a, ts, rfl, _⟩ := h
    rfl
  · obtain ⟨a, ts, rfl, hl, ht, hz, q⟩ := h
    have h2 : (A.deeper (envOfC "by_first_letter" (defScope sBf) s.heap.objs.size f cdv)).units + 2 < cLine := by have := hr.units; omega
    refine ⟨_, pss_cons (ps_asg Lk.pe_nnew (pg_name (i := 1) scBf.nd rfl (Or.inl rfl)))
      (pss_cons (ps_for PassesOwn.never rfl (pi_list (pv 0)) (pg_tup rfl (pgs_cons (pg_name (i := 2) scBf.nd rfl (Or.inl rfl)) (pgs_cons (pg_name (i := 3) scBf.nd rfl (Or.inl rfl)) pgs_nil)))
        (pss_one (ps_if (pt_truth (pv 3) (fun _ => rfl)) (pss_one (ps_expr (pe_bm PySem.F.plainAttrs_list PySem.F.slot_list_append PySem.F.type_list_append mt_append
          (Lk.pe_nsetd h2 (pv 1) (pe_ix ix_tup (pv 3) pe_int (fun _ _ => rfl)) (pe_lst pa_nil) ⟨by rfl, by rfl, by rfl, by rfl⟩)
          (pa_cons (pe_tup (pa_cons (pv 2) (pa_cons (pe_slice sl_tup (pv 3) (po_some pe_int) po_none) pa_nil))) pa_nil)))) pss_nil)))
      (pss_one (ps_ret (pv 1)))), ?_⟩
    intro D hD
    have sl : ∀ {o : HO}, Same H (upd H D o) := same_new hD
    refine ⟨_, rfl, a, rfl, ⟨_, sqL_ext (.of sl) hl⟩, ?_⟩
    refine for_it (walk_list (xs := ts.map fun t => V.ref t.1)) (fun j σ H' => Same H H' ∧ ∃ xs, H' D = some (Lk.NtO P w D xs) ∧ GrL K H H' xs (groupsOf ((ts.take j).map (·.2))) ∧ ∃ o2 o3, σ = [some (.ref a), some (.ref D), o2, o3]) ?_ ?_ ?_ ?_
    · exact ⟨sl, [], upd_same, ⟨fun x hx => absurd hx (by simp), .nil, List.nodup_nil, fun x hx => absurd hx (by simp), fun x hx => absurd hx (by simp)⟩, _, _, rfl⟩
    · rintro i σ H' _ ⟨s1, _⟩
      exact sqL_ext (.of s1) hl
    · rintro i x σ H1 H1' hi ⟨s1, xs, hx1, hg, o2, o3, rfl⟩ ⟨rfl, hx⟩
      rw [List.getElem?_map] at hx
      obtain ⟨t, hti, rfl⟩ := Option.map_eq_some_iff.mp hx
      obtain ⟨b, h1, hk⟩ := ht t (List.mem_of_getElem? hti)
      have h1' : SqT K H1' t.1 [.int t.2.1, .ref b] := sqT_ext (.of s1) h1
      obtain ⟨bs, hb, hbs⟩ := nKey_ext (.of s1) hk
      have e : (ts.take (i + 1)).map (·.2) = (ts.take i).map (·.2) ++ [t.2] := by rw [List.take_add_one, hti]; simp
      refine ⟨t.1, _, rfl, h1', rfl, _, _, rfl, _, _, rfl, rfl, ?_⟩
      refine ⟨_, rfl, _, .inr (.inl ⟨_, hb, rfl⟩), ?_⟩
      rw [e, groups_snoc]
      obtain ⟨ta, tc, tk⟩ := t
      cases hbs with
      | nil => exact ⟨s1, xs, hx1, hg, _, _, rfl⟩
      | @cons b0 l br k hb0 hbr =>
        have hlb : Lk.NKey K H1' l b0 := hb0
        have hbs' : SqT K H1' b ((b0 :: br).map V.ref) := hb
        have hlen : xs.length < sizeLine := by
          have l1 := Paired.length hg.rel
          have l2 := groups_len ((ts.take i).map (·.2))
          rw [List.length_map, List.length_take] at l2
          omega
        refine ⟨_, rfl, D, rfl, ⟨xs, .inl hx1⟩, ?_⟩
        refine ⟨_, rfl, b, _, 0, V.ref b0, rfl, rfl, hbs', at0 _ _, ?_⟩
        refine ⟨by show 0 ≤ sizeLine; omega, fun p hp => ?_⟩
        have sp : Same H1' (upd H1' p (.lst [])) := same_new hp
        have hpD : p ≠ D := (ne_of_none hx1 hp).symm
        have hxp : (upd H1' p (.lst [])) D = some (Lk.NtO P w D xs) := sp _ _ hx1
        have hgp := hg.same sp
        refine ⟨xs, l, b0, hxp, hgp.key, rfl, lkey_ext sp hlb, hlen, fun v hv => ?_, fun hv => ?_⟩
        · obtain ⟨x, hxm, hx1k, hxv⟩ := val_mem hv
          have hen := ens_there hgp hv
          obtain ⟨g, hgm, hg1, c, rs, hc1, hc2, hc3, hc4⟩ := Paired.mem hgp.rel hxm
          have hxe : x = (l, x.2.1, V.ref c) := by
            rw [← hx1k, ← hc1]
          have ll : rs.length < sizeLine := by
            have := groups_lens ((ts.take i).map (·.2)) g hgm
            rw [List.length_map, List.length_take, ← hc4, List.length_map] at this
            omega
          rw [hxv] at hc1
          subst hc1
          refine rd_bf2 (s1.trans sp) hD hxp hgp (hxe ▸ hxm) hc2 ll (sqT_ext (.of sp) hbs') (Paired.mapP hbr fun _ _ z => sqT_ext (.of sp) z) fun H5 y1 y2 y3 => ?_
          exact ⟨y1, xs, y2, by show GrL _ _ _ _ (pushG (ensG _ l) l (tc, k)); rw [hen]; exact y3, _, _, rfl⟩
        · rw [put_none hv]
          have hlp : (upd H1' p (.lst [])) p = some (.lst []) := upd_same
          have hH0p : H p = none := s1.free hp
          have gE := hgp.ens (o' := Lk.NtO P w D (xs ++ [(l, b0, .ref p)])) hxp True.intro hlp hH0p hpD (fun x hx z => ?_) (fun x hx z => ?_) (lkey_ext sp hlb) hv
          · refine rd_bf2 (rs := []) (same_wr (s1.trans sp) hD) hD upd_same gE (List.mem_append.mpr (.inr (List.mem_singleton.mpr rfl))) (by rw [upd_ne hpD]; exact hlp) (by show 0 < sizeLine; omega) (sqT_upd hxp True.intro (sqT_ext (.of sp) hbs')) (Paired.mapP hbr fun _ _ z => sqT_upd hxp True.intro (sqT_ext (.of sp) z)) fun H5 y1 y2 y3 => ?_
            exact ⟨y1, _, y2, y3, _, _, rfl⟩
          · obtain ⟨g, _, _, c, rs, hc1, hc2, _⟩ := Paired.mem hg.rel hx
            rw [z] at hc1
            cases hc1
            rw [hp] at hc2
            cases hc2
          · obtain ⟨g, _, _, c, rs, hc1, hc2, _⟩ := Paired.mem hg.rel hx
            rw [z] at hc1
            cases hc1
            rw [hx1] at hc2
            unfold Lk.NtO at hc2
            cases hc2
    · rintro σ H' ⟨s1, xs, hx1, hg, o2, o3, rfl⟩
      have e : (ts.take (ts.map fun t => V.ref t.1).length).map (·.2) = ts.map (·.2) := by rw [List.length_map, List.take_length]
      rw [e] at hg
      exact ⟨_, rfl, q D xs H' s1 hD hx1 hg⟩
end
end L2.Fo

set_option exponentiation.threshold 2000
/-! # worths of terms, from the end -/
namespace L2.Fo
open PySem PySem.Spec PyProof.Rows L2.Vf L2.Dw L2.Ch L2.Nk RZ
abbrev Wf := List Int → Nat → Int
/-- g i + .. , n of them -/
def sf (g : Nat → Int) : Nat → Nat → Int
  | _, 0 => 0
  | i, n + 1 => g i + sf g (i + 1) n
/-- the worth of a word on the cells from i on -/
def Sv (W : Wf) (m : Nat) : Wd → Nat → Int
  | [], _ => 1
  | l :: k, i => sf (fun j => W l j * Sv W m k (j + 1)) i (m - i)
def tv (W : Wf) (m : Nat) (ts : List (Int × Wd)) (i : Nat) : Int := (ts.map fun t => t.1 * Sv W m t.2 i).sum
def cst (ts : List (Int × Wd)) : Int := ((ts.filter fun t => t.2.isEmpty).map (·.1)).sum
def gv (W : Wf) (m : Nat) (gs : List Grp) (j : Nat) : Int := (gs.map fun g => W g.1 j * tv W m g.2 (j + 1)).sum
theorem sf_congr {f g : Nat → Int} (h : ∀ j, f j = g j) : ∀ n i, sf f i n = sf g i n
  | 0, _ => rfl
  | n + 1, i => by rw [sf, sf, h, sf_congr h n]
theorem sf_add (f g : Nat → Int) : ∀ n i, sf (fun j => f j + g j) i n = sf f i n + sf g i n
  | 0, _ => by simp [sf]
  | n + 1, i => by rw [sf, sf, sf, sf_add f g n]; omega
theorem sf_zero : ∀ n i, sf (fun _ => 0) i n = 0
  | 0, _ => rfl
  | n + 1, i => by rw [sf, sf_zero n]; rfl
theorem sf_mul (c : Int) (f : Nat → Int) : ∀ n i, sf (fun j => c * f j) i n = c * sf f i n
  | 0, _ => by simp [sf]
  | n + 1, i => by rw [sf, sf, sf_mul c f n, Int.mul_add]
/-- what a term gives at the place j of its first letter -/
def ctr (W : Wf) (m : Nat) (t : Int × Wd) (j : Nat) : Int := match t.2 with
  | [] => 0
  | l :: k => W l j * (t.1 * Sv W m k (j + 1))
theorem tv_split (W : Wf) (m : Nat) : ∀ (ts : List (Int × Wd)) (i : Nat), tv W m ts i = cst ts + sf (fun j => (ts.map fun t => ctr W m t j).sum) i (m - i)
  | [], i => by simp [tv, cst, sf_zero]
  | (c, k) :: ts, i => by
    have ih := tv_split W m ts i
    unfold tv at ih ⊢
    rw [List.map_cons, List.sum_cons, ih]
    have e : sf (fun j => (((c, k) :: ts).map fun t => ctr W m t j).sum) i (m - i) = sf (fun j => ctr W m (c, k) j) i (m - i) + sf (fun j => (ts.map fun t => ctr W m t j).sum) i (m - i) := by
      rw [← sf_add]
      exact sf_congr (fun j => by rw [List.map_cons, List.sum_cons]) _ _
    rw [e]
    cases k with
    | nil =>
      have : cst ((c, []) :: ts) = c + cst ts := by simp [cst]
      rw [this]
      have z : sf (fun j => ctr W m (c, []) j) i (m - i) = 0 := sf_zero _ _
      rw [z]
      show c * 1 + _ = _
      omega
    | cons l k =>
      have : cst ((c, l :: k) :: ts) = cst ts := by simp [cst]
      rw [this]
      have z : c * Sv W m (l :: k) i = sf (fun j => ctr W m (c, l :: k) j) i (m - i) := by
        show c * sf _ _ _ = _
        rw [← sf_mul]
        exact sf_congr (fun j => by show c * (W l j * _) = W l j * (c * _); rw [← Int.mul_assoc, ← Int.mul_assoc, Int.mul_comm c]) _ _
      show c * Sv W m (l :: k) i + _ = _
      rw [z]
      omega
/-! ### groups -/
theorem ens_keys (gs : List Grp) (l : List Int) (nd : (gs.map (·.1)).Nodup) : ((ensG gs l).map (·.1)).Nodup ∧ l ∈ (ensG gs l).map (·.1) := by
  unfold ensG
  split
  · rename_i h
    obtain ⟨y, hy, e⟩ := List.any_eq_true.mp h
    exact ⟨nd, List.mem_map.mpr ⟨y, hy, by simpa using e⟩⟩
  · rename_i h
    rw [List.map_append]
    refine ⟨List.nodup_append.mpr ⟨nd, by simp, fun a ha b hb => ?_⟩, by simp⟩
    have : b = l := by simpa using hb
    rw [this]
    intro z
    obtain ⟨y, hy, e⟩ := List.mem_map.mp ha
    exact h (List.any_eq_true.mpr ⟨y, hy, by simp [e, z]⟩)
theorem push_keys (gs : List Grp) (l : List Int) (t : Int × Wd) : (pushG gs l t).map (·.1) = gs.map (·.1) := by
  unfold pushG
  rw [List.map_map]
  refine List.map_congr_left fun g _ => ?_
  show (if g.1 = l then (g.1, g.2 ++ [t]) else g).1 = g.1
  split <;> rfl
theorem step_keys {gs : List Grp} (t : Int × Wd) (nd : (gs.map (·.1)).Nodup) : ((stepG gs t).map (·.1)).Nodup := by
  unfold stepG
  split
  · exact nd
  · rw [push_keys]; exact (ens_keys gs _ nd).1
theorem gv_ens (W : Wf) (m : Nat) (gs : List Grp) (l : List Int) (j : Nat) : gv W m (ensG gs l) j = gv W m gs j := by
  unfold ensG
  split
  · rfl
  · simp [gv, tv]
theorem gv_push0 (W : Wf) (m : Nat) (l : List Int) (t : Int × Wd) (j : Nat) : ∀ gs : List Grp, l ∉ gs.map (·.1) → gv W m (pushG gs l t) j = gv W m gs j
  | [], _ => rfl
  | g :: gs, h => by
    rw [List.map_cons, List.mem_cons, not_or] at h
    have ih := gv_push0 W m l t j gs h.2
    unfold gv pushG at ih ⊢
    rw [List.map_cons, List.map_cons, List.map_cons, List.sum_cons, List.sum_cons, ih, if_neg (fun z => h.1 z.symm)]
theorem gv_push (W : Wf) (m : Nat) (l : List Int) (t : Int × Wd) (j : Nat) : ∀ gs : List Grp, (gs.map (·.1)).Nodup → l ∈ gs.map (·.1) → gv W m (pushG gs l t) j = gv W m gs j + W l j * (t.1 * Sv W m t.2 (j + 1))
  | [], _, h => absurd h (by simp)
  | g :: gs, nd, h => by
    rw [List.map_cons, List.nodup_cons] at nd
    by_cases z : g.1 = l
    · have h0 := gv_push0 W m l t j gs (z ▸ nd.1)
      unfold gv pushG at h0 ⊢
      rw [List.map_cons, List.map_cons, List.map_cons, List.sum_cons, List.sum_cons, h0, if_pos z]
      have : tv W m (g.2 ++ [t]) (j + 1) = tv W m g.2 (j + 1) + t.1 * Sv W m t.2 (j + 1) := by simp [tv]
      show W g.1 j * tv W m (g.2 ++ [t]) (j + 1) + _ = _
      rw [this, Int.mul_add, z]
      omega
    · have h' : l ∈ gs.map (·.1) := by
        rw [List.map_cons, List.mem_cons] at h
        rcases h with h | h
        · exact absurd h.symm z
        · exact h
      have ih := gv_push W m l t j gs nd.2 h'
      unfold gv pushG at ih ⊢
      rw [List.map_cons, List.map_cons, List.map_cons, List.sum_cons, List.sum_cons, ih, if_neg z]
      omega
theorem gv_step (W : Wf) (m : Nat) {gs : List Grp} (nd : (gs.map (·.1)).Nodup) (t : Int × Wd) (j : Nat) : gv W m (stepG gs t) j = gv W m gs j + ctr W m t j := by
  obtain ⟨c, k⟩ := t
  cases k with
  | nil => show gv W m gs j = gv W m gs j + 0; omega
  | cons l k =>
    obtain ⟨h1, h2⟩ := ens_keys gs l nd
    show gv W m (pushG (ensG gs l) l (c, k)) j = _
    rw [gv_push W m l (c, k) j _ h1 h2, gv_ens]
    rfl
theorem groups_keys (ts : List (Int × Wd)) : ((groupsOf ts).map (·.1)).Nodup := by
  suffices h : ∀ (ts : List (Int × Wd)) (gs : List Grp), (gs.map (·.1)).Nodup → ((ts.foldl stepG gs).map (·.1)).Nodup from h ts [] List.nodup_nil
  intro ts
  induction ts with
  | nil => intro gs h; exact h
  | cons t ts ih => intro gs h; exact ih _ (step_keys t h)
theorem gv_groups (W : Wf) (m : Nat) (ts : List (Int × Wd)) (j : Nat) : gv W m (groupsOf ts) j = (ts.map fun t => ctr W m t j).sum := by
  suffices h : ∀ (ts : List (Int × Wd)) (gs : List Grp), (gs.map (·.1)).Nodup → gv W m (ts.foldl stepG gs) j = gv W m gs j + (ts.map fun t => ctr W m t j).sum by
    have := h ts [] List.nodup_nil
    have z : gv W m [] j = 0 := rfl
    rw [z] at this
    unfold groupsOf
    rw [this]
    omega
  intro ts
  induction ts with
  | nil => intro gs h; simp
  | cons t ts ih =>
    intro gs h
    rw [List.foldl_cons, ih _ (step_keys t h), gv_step W m h, List.map_cons, List.sum_cons]
    omega
theorem tv_groups (W : Wf) (m : Nat) (ts : List (Int × Wd)) (i : Nat) : tv W m ts i = cst ts + sf (gv W m (groupsOf ts)) i (m - i) := by
  rw [tv_split, sf_congr (gv_groups W m ts)]
theorem groups_from {S : Int × Wd → Prop} (ts : List (Int × Wd)) (h0 : ∀ t ∈ ts, S t) : ∀ g ∈ groupsOf ts, ∀ t ∈ g.2, S (t.1, g.1 :: t.2) := by
  suffices h : ∀ (ts : List (Int × Wd)) (gs : List Grp), (∀ t ∈ ts, S t) → (∀ g ∈ gs, ∀ t ∈ g.2, S (t.1, g.1 :: t.2)) → ∀ g ∈ ts.foldl stepG gs, ∀ t ∈ g.2, S (t.1, g.1 :: t.2) from h ts [] h0 (fun g hg => absurd hg (by simp))
  intro ts
  induction ts with
  | nil => intro gs _ h; exact h
  | cons t ts ih =>
    intro gs hs hg
    refine ih _ (fun u hu => hs u (List.mem_cons_of_mem _ hu)) ?_
    obtain ⟨c, k⟩ := t
    cases k with
    | nil => exact hg
    | cons l k =>
      have h1 : ∀ g ∈ ensG gs l, ∀ t ∈ g.2, S (t.1, g.1 :: t.2) := by
        unfold ensG
        split
        · exact hg
        · intro g hgm
          rcases List.mem_append.mp hgm with q | q
          · exact hg g q
          · rw [List.mem_singleton.mp q]; intro t ht; exact absurd ht (by simp)
      intro g hgm t ht
      obtain ⟨g0, h0, rfl⟩ := List.mem_map.mp (show g ∈ pushG (ensG gs l) l (c, k) from hgm)
      by_cases z : g0.1 = l
      · rw [if_pos z] at ht ⊢
        rcases List.mem_append.mp ht with q | q
        · exact h1 g0 h0 t q
        · rw [List.mem_singleton.mp q]
          show S (c, g0.1 :: k)
          rw [z]
          exact hs _ List.mem_cons_self
      · rw [if_neg z] at ht ⊢
        exact h1 g0 h0 t ht
/-! ### bounds -/
theorem sf_abs {f : Nat → Int} {b : Nat} (h : ∀ j, (f j).natAbs ≤ 2 ^ b) : ∀ n i, (sf f i n).natAbs ≤ n * 2 ^ b
  | 0, _ => by simp [sf]
  | n + 1, i => by
    rw [sf, Nat.succ_mul]
    have := sf_abs h n (i + 1)
    have := h i
    omega
theorem Sv_abs {W : Wf} {m : Nat} (hm : m ≤ 512) (h : ∀ l j, (W l j).natAbs ≤ 2 ^ 768) : ∀ (k : Wd) (i : Nat), (Sv W m k i).natAbs ≤ 2 ^ (777 * k.length)
  | [], _ => by simp [Sv]
  | l :: k, i => by
    have ih := Sv_abs hm h k
    have h1 := sf_abs (f := fun j => W l j * Sv W m k (j + 1)) (b := 768 + 777 * k.length) (fun j => mulAbs (h l j) (ih (j + 1))) (m - i) i
    have h2 : (m - i) * 2 ^ (768 + 777 * k.length) ≤ 2 ^ 9 * 2 ^ (768 + 777 * k.length) := Nat.mul_le_mul_right _ (show m - i ≤ 512 by omega)
    rw [← Nat.pow_add] at h2
    refine Nat.le_trans h1 (Nat.le_trans h2 (Nat.pow_le_pow_right (by decide) ?_))
    simp only [List.length_cons]
    omega
theorem tv_abs {W : Wf} {m d : Nat} (hm : m ≤ 512) (h : ∀ l j, (W l j).natAbs ≤ 2 ^ 768) : ∀ (ts : List (Int × Wd)) (i : Nat), (∀ t ∈ ts, t.1.natAbs ≤ 2 ^ 200 ∧ t.2.length ≤ d) → (tv W m ts i).natAbs ≤ ts.length * 2 ^ (200 + 777 * d)
  | [], _, _ => by simp [tv]
  | t :: ts, i, ht => by
    have ih := tv_abs hm h ts i (fun u hu => ht u (List.mem_cons_of_mem _ hu))
    have h1 := mulAbs (ht t List.mem_cons_self).1 (Nat.le_trans (Sv_abs hm h t.2 i) (Nat.pow_le_pow_right (by decide) (show 777 * t.2.length ≤ 777 * d from Nat.mul_le_mul_left _ (ht t List.mem_cons_self).2)))
    unfold tv at ih ⊢
    rw [List.map_cons, List.sum_cons, List.length_cons, Nat.succ_mul]
    omega
theorem tv_abs2 {W : Wf} {m d : Nat} (hm : m ≤ 512) (h : ∀ l j, (W l j).natAbs ≤ 2 ^ 768) {ts : List (Int × Wd)} (hl : ts.length ≤ 2 ^ 20) (ht : ∀ t ∈ ts, t.1.natAbs ≤ 2 ^ 200 ∧ t.2.length ≤ d) (i : Nat) : (tv W m ts i).natAbs ≤ 2 ^ (220 + 777 * d) := by
  refine Nat.le_trans (tv_abs hm h ts i ht) ?_
  have : (2 : Nat) ^ (220 + 777 * d) = 2 ^ 20 * 2 ^ (200 + 777 * d) := by rw [← Nat.pow_add]; congr 1; omega
  rw [this]
  exact Nat.mul_le_mul_right _ hl
end L2.Fo

set_option exponentiation.threshold 2000
/-! # tail_worths, its term -/
namespace L2.Fo
open PySem PySem.Spec PyProof.Rows L2.Vf L2.Dw L2.Ch L2.Nk RZ
abbrev sTw : Stmt := top 22
abbrev nTw : List Str := ["terms", "table", "many", "constant", "groups", "gains", "letter", "behind", "tails", "gain", "coefficient", "letters", "worth", "rest"]
theorem scTw : FnScope nTw ["terms", "table", "many"] (defScope sTw) := ⟨rfl, rfl, rfl, by decide +kernel, rfl, by decide +kernel, by decide +kernel⟩
/-- a list of m ints -/
abbrev lf (m : Nat) (g : Nat → Int) : List V := (List.range m).map fun j => V.int (g j)
/-- the worths of the letter l on the cells of a row, in the table at t -/
def TbL (K : PySem.W.Frag) (H : Hp) (tx : List Lk.Ent) (W : Wf) (m : Nat) (l : List Int) : Prop := ∃ c, Lk.valN tx l = some (.ref c) ∧ H c = some (.lst (lf m (W l)))
/-- a table of worths for the letters of ts -/
structure TbO (P : Program) (w : World) (K : PySem.W.Frag) (H : Hp) (t : Addr) (W : Wf) (m : Nat) (ts : List (Int × Wd)) : Prop where
  ex : ∃ tx, H t = some (Lk.NtO P w t tx) ∧ Lk.NKeys K H tx ∧ ∀ u ∈ ts, ∀ l ∈ u.2, TbL K H tx W m l
theorem TbO.same {P : Program} {w : World} {K : PySem.W.Frag} {H H' : Hp} {t : Addr} {W : Wf} {m : Nat} {ts : List (Int × Wd)} (b : TbO P w K H t W m ts) (s : Same H H') : TbO P w K H' t W m ts := by
  obtain ⟨tx, h1, h2, h3⟩ := b
  refine ⟨tx, s _ _ h1, fun x hx => lkey_ext s (h2 x hx), fun u hu l hl => ?_⟩
  obtain ⟨c, e1, e2⟩ := h3 u hu l hl
  exact ⟨c, e1, s _ _ e2⟩
/-- the bounds of it all -/
structure Bnd (W : Wf) (m : Nat) (ts : List (Int × Wd)) (d : Nat) : Prop where
  w : ∀ l j, (W l j).natAbs ≤ 2 ^ 768
  m : m ≤ 512
  l : ts.length ≤ 2 ^ 20
  t : ∀ t ∈ ts, t.1.natAbs ≤ 2 ^ 200 ∧ t.2.length ≤ d
  d : d ≤ 100
/-- of terms with fewer than d letters -/
def spTw (P : Program) (w : World) (K : PySem.W.Frag) : Nat → Sp
  | 0 => fun _ _ _ _ => False
  | d + 1 => fun vs H Q _ => ∃ (a t : Addr) (m : Nat) (ts : List Trm) (W : Wf), vs = [.ref a, .ref t, .int (m : Nat)] ∧ H a = some (.lst (ts.map fun t => V.ref t.1)) ∧ (∀ t ∈ ts, TmAt K H t) ∧ Bnd W m (ts.map (·.2)) d ∧ TbO P w K H t W m (ts.map (·.2)) ∧
    ∀ (D : Addr) (H' : Hp), Same H H' → H D = none → H' D = some (.lst (lf (m + 1) (tv W m (ts.map (·.2))))) → Q (.ref D) H'
end L2.Fo

set_option exponentiation.threshold 2000
/-! # tail_worths, pieces of its reading -/
namespace L2.Fo
open PySem PySem.Spec PyProof.Rows L2.Vf L2.Dw L2.Ch L2.Nk RZ
theorem lf_len (m : Nat) (f : Nat → Int) : (lf m f).length = m := by simp [lf]
theorem lf_get {m i : Nat} (f : Nat → Int) (h : i < m) : (lf m f)[i]? = some (.int (f i)) := by
  simp [lf, h]
theorem lf_snoc (n : Nat) (f : Nat → Int) : lf (n + 1) f = lf n f ++ [.int (f n)] := by
  simp [lf, List.range_succ]
theorem lf_congr {n : Nat} {f g : Nat → Int} (h : ∀ i, i < n → f i = g i) : lf n f = lf n g :=
  List.map_congr_left fun i hi => by rw [h i (List.mem_range.mp hi)]
theorem lf_drop (m : Nat) (f : Nat → Int) : (lf (m + 1) f).drop 1 = lf m (fun j => f (j + 1)) := by
  simp [lf, List.range_succ_eq_map, Function.comp_def]
theorem lf_rep (c : Int) : ∀ n : Nat, (List.replicate n [V.int c]).flatten = lf n (fun _ => c)
  | 0 => rfl
  | n + 1 => by rw [lf_snoc, ← lf_rep c n, List.replicate_succ', List.flatten_append]; rfl
theorem lf_rev (m : Nat) (f : Nat → Int) : (lf (m + 1) fun n => f (m - n)).reverse = lf (m + 1) f := by
  refine List.ext_getElem (by simp [lf]) fun i h1 h2 => ?_
  simp only [List.length_reverse, lf_len] at h1
  simp only [lf, List.getElem_reverse, List.getElem_map, List.getElem_range, List.length_map, List.length_range]
  congr 2
  omega
theorem groups_nil {ts : List (Int × Wd)} (h0 : ∀ t ∈ ts, t.2 = []) : groupsOf ts = [] := by
  suffices h : ∀ (ts : List (Int × Wd)) (gs : List Grp), (∀ t ∈ ts, t.2 = []) → ts.foldl stepG gs = gs from h ts [] h0
  intro ts
  induction ts with
  | nil => intro gs _; rfl
  | cons t ts ih =>
    intro gs hs
    rw [List.foldl_cons, ih _ (fun u hu => hs u (List.mem_cons_of_mem _ hu))]
    unfold stepG
    rw [hs t List.mem_cons_self]
theorem groups_ne (ts : List (Int × Wd)) : ∀ g ∈ groupsOf ts, g.2 ≠ [] := by
  suffices h : ∀ (ts : List (Int × Wd)) (gs : List Grp), (∀ g ∈ gs, g.2 ≠ []) → ∀ g ∈ ts.foldl stepG gs, g.2 ≠ [] from h ts [] (fun g hg => absurd hg (by simp))
  intro ts
  induction ts with
  | nil => intro gs h; exact h
  | cons t ts ih =>
    intro gs h
    refine ih _ ?_
    obtain ⟨c, k⟩ := t
    cases k with
    | nil => exact h
    | cons l k =>
      intro g hg
      obtain ⟨g0, h0, rfl⟩ := List.mem_map.mp (show g ∈ pushG (ensG gs l) l (c, k) from hg)
      by_cases z : g0.1 = l
      · rw [if_pos z]; simp
      · rw [if_neg z]
        unfold ensG at h0
        split at h0
        · exact h g0 h0
        · rcases List.mem_append.mp h0 with q | q
          · exact h g0 q
          · rw [List.mem_singleton.mp q] at z; exact absurd rfl z
theorem gv_snoc (W : Wf) (m : Nat) (gs : List Grp) (g : Grp) (j : Nat) : gv W m (gs ++ [g]) j = gv W m gs j + W g.1 j * tv W m g.2 (j + 1) := by simp [gv]
section
variable {P : Program} {w : World} {K : PySem.W.Frag}
/-- the groups stay while the dict is locked -/
theorem GrL.frz {H0 H : Hp} {xs : List Lk.Ent} {gs : List Grp} {D : Addr} {o : HO} (g : GrL K H0 H xs gs) (hD : H D = some (Lk.NtO P w D xs)) : GrL K H0 (upd H D o) xs gs := by
  refine ⟨fun x hx => lkey_upd hD True.intro (g.key x hx), Paired.mapP g.rel fun x y ⟨e, c, rs, e1, e2, e3, e4⟩ => ⟨e, c, rs, e1, ?_, fun r hr => tmAt_upd hD True.intro (e3 r hr), e4⟩, g.nd, g.inj, g.new⟩
  rw [upd_ne (fun z => by rw [z, hD] at e2; unfold Lk.NtO at e2; cases e2)]
  exact e2
/-- the coefficients of the terms without letters, summed -/
theorem rd_cst {H : Hp} {a : Addr} {ts : List Trm} {o1 o2 o3 o4 o5 o6 o7 o8 o9 o10 o11 o12 o13 : Option V} {Q : VK} (ha : H a = some (.lst (ts.map fun t => V.ref t.1))) (ht : ∀ t ∈ ts, TmAt K H t) (hz : ts.length ≤ 2 ^ 20)
    (q : ∀ H', Same H H' → Q (.int (cst (ts.map (·.2)))) H') :
    tCB (rSum K) (tCons (tLc (iList K (tVar 0)) (gTup K 2 (gCons (gName 10) (gCons (gName 11) gNil))) (tNot fun σ H Q => tVar 11 σ H fun x H' => ∃ k, TruV K x H' k ∧ Q k H') (tVar 10) [10, 11]) tNil) [some (.ref a), o1, o2, o3, o4, o5, o6, o7, o8, o9, o10, o11, o12, o13] H Q := by
  refine ⟨_, rfl, a, rfl, ⟨_, SqL.of ha⟩, fun D hD => ?_⟩
  refine lc_list (xs := ts.map fun t => V.ref t.1) (fun i H2 => Same H H2 ∧ H2 D = some (.lst (((((ts.take i).map (·.2)).filter fun t => t.2.isEmpty).map (·.1)).map V.int))) ?_ ?_ ?_ ?_
  · exact ⟨same_new hD, upd_same⟩
  · rintro i H2 _ ⟨s2, _⟩
    exact SqL.of (s2 _ _ ha)
  · rintro i x H2 hx ⟨s2, e2⟩
    have hi : i < (ts.map fun r => V.ref r.1).length := (List.getElem?_eq_some_iff.mp hx).1
    rw [List.length_map] at hi
    rw [List.getElem?_map] at hx
    obtain ⟨r, hr, rfl⟩ := Option.map_eq_some_iff.mp hx
    obtain ⟨b, g1, bs, g2, g3⟩ := TmAt.ext (.of s2) (ht r (List.mem_of_getElem? hr))
    refine ⟨r.1, _, rfl, g1, rfl, _, _, rfl, _, _, rfl, rfl, rfl, ?_⟩
    have e : (ts.take (i + 1)).map (·.2) = (ts.take i).map (·.2) ++ [r.2] := by rw [List.take_add_one, hr]; simp
    refine ⟨_, rfl, !(bs.map V.ref).isEmpty, .inr (.inl ⟨_, g2, rfl⟩), ?_⟩
    have ll : (((((ts.take i).map (·.2)).filter fun t => t.2.isEmpty).map (·.1)).map V.int).length < sizeLine := by
      rw [List.length_map, List.length_map, sizeLine_eq]
      have := List.length_filter_le (fun t : Int × Wd => t.2.isEmpty) ((ts.take i).map (·.2))
      rw [List.length_map, List.length_take] at this
      have : (2 : Nat) ^ 20 = 1048576 := by decide
      omega
    obtain ⟨ra, rc, rk⟩ := r
    cases g3 with
    | nil =>
      refine ⟨_, rfl, _, e2, ll, same_wr s2 hD, ?_⟩
      rw [upd_same, e]
      simp
    | cons _ _ =>
      refine ⟨s2, ?_⟩
      rw [e2, e]
      simp
  · rintro H2 ⟨s2, e2⟩
    have e : (ts.take (ts.map fun t => V.ref t.1).length).map (·.2) = ts.map (·.2) := by rw [List.length_map, List.take_length]
    rw [e] at e2
    exact ⟨D, _, rfl, SqL.of e2, q H2 s2⟩
end
end L2.Fo

set_option exponentiation.threshold 2000
/-! # tail_worths, its loops -/
namespace L2.Fo
open PySem PySem.Spec PyProof.Rows L2.Vf L2.Dw L2.Ch L2.Nk RZ
section
variable {P : Program} {w : World} {K : PySem.W.Frag}
/-- gains with those of one more letter -/
theorem rd_gain {H : Hp} {t G B b c : Addr} {tx : List Lk.Ent} {m : Nat} {l : List Int} {f wl h : Nat → Int} {bits : Nat} {o0 o2 o3 o4 o9 o8 o10 o11 o12 o13 : Option V} {Q : VK} (hbits : bits ≤ 130000000)
    (hG : H G = some (.lst (lf m f))) (hB : H B = some (.lst (lf (m + 1) h))) (hx : Rd H t (Lk.NtO P w t tx)) (hk : Lk.NKeys K H tx) (hb : Lk.NKey K H l b) (hv : Lk.valN tx l = some (.ref c)) (hc : H c = some (.lst (lf m wl)))
    (hm : m ≤ 512) (bw : ∀ j, (wl j).natAbs ≤ 2 ^ 768) (bh : ∀ j, (h j).natAbs ≤ 2 ^ bits)
    (q : ∀ (E : Addr) (H' : Hp), Same H H' → H E = none → H' E = some (.lst (lf m fun j => f j + wl j * h (j + 1))) → Q (.ref E) H') :
    tLc (iZip3 K (tCons (tVar 5) (tCons (Lk.tNGet P w K (tVar 1) (tVar 6)) (tCons (tSl (rSlL K) (tVar 7) (tPart (tC (.int 1))) tNoPart) tNil)))) (gTup K 3 (gCons (gName 9) (gCons (gName 12) (gCons (gName 13) gNil)))) tYes
      (tOp (rI0 fun i j => .int (i + j)) (tVar 9) (tOp (rI CMulX fun i j => .int (i * j)) (tVar 12) (tVar 13))) [9, 12, 13]
      [o0, some (.ref t), o2, o3, o4, some (.ref G), some (.ref b), some (.ref B), o8, o9, o10, o11, o12, o13] H Q := by
  refine ⟨_, rfl, _, rfl, _, rfl, t, .ref c, rfl, ⟨tx, l, b, hx, hk, rfl, hb, hv.symm⟩, _, rfl, 1, rfl, B, _, rfl, SqL.of hB, fun S hS => ?_⟩
  rw [cut_one, lf_drop] at *
  have sS := same_new (o := .lst (lf m fun j => h (j + 1))) hS
  have hS1 : (upd H S (.lst (lf m fun j => h (j + 1)))) S = some (.lst (lf m fun j => h (j + 1))) := upd_same
  refine ⟨G, c, S, _, _, _, rfl, SqL.of (sS _ _ hG), SqL.of (sS _ _ hc), SqL.of hS1, fun E hE => ?_⟩
  refine lc_it (walk_zip3 (lf_len m f) (lf_len m wl) (lf_len m fun j => h (j + 1))) (fun i H2 => Same (upd H S (.lst (lf m fun j => h (j + 1)))) H2 ∧ H2 E = some (.lst (lf i fun j => f j + wl j * h (j + 1)))) ?_ ?_ ?_ ?_
  · exact ⟨same_new hE, upd_same⟩
  · rintro i H2 _ ⟨s2, _⟩
    exact ⟨SqL.of (s2 _ _ (sS _ _ hG)), SqL.of (s2 _ _ (sS _ _ hc)), SqL.of (s2 _ _ hS1)⟩
  · rintro i x H2 H3 hi ⟨s2, e2⟩ ⟨T, x, y, z, rfl, hT, rfl, e4, e5, e6⟩
    rw [lf_get f hi] at e4
    rw [lf_get wl hi] at e5
    rw [lf_get (fun j => h (j + 1)) hi] at e6
    cases e4
    cases e5
    cases e6
    have sT := same_new (o := .tup [.int (f i), .int (wl i), .int (h (i + 1))]) hT
    refine ⟨T, _, rfl, SqT.of upd_same, rfl, _, _, rfl, _, _, rfl, _, _, rfl, rfl, rfl, ?_⟩
    refine ⟨_, rfl, _, rfl, _, rfl, _, _, rfl, rfl, mulX (bw i) (bh (i + 1)) (by omega), _, _, rfl, rfl, ?_⟩
    refine ⟨_, sT _ _ e2, by rw [lf_len, sizeLine_eq]; omega, same_wr (s2.trans sT) hE, ?_⟩
    rw [upd_same, lf_snoc]
  · rintro H2 ⟨s2, e2⟩
    exact q E H2 (sS.trans s2) (sS.free hE) e2
/-- the sums from the end -/
theorem rd_tails {H : Hp} {G p : Addr} {m : Nat} {c : Int} {g : Nat → Int} {o0 o1 o2 o3 o4 o6 o7 o9 o10 o11 o12 o13 : Option V} {Q : VK} (hm : m ≤ 512) (hG : H G = some (.lst (lf m g))) (hp : H p = some (.lst [.int c])) (hGp : G ≠ p)
    (q : ∀ (D : Addr) (H' : Hp), (∀ b o, b ≠ p → H b = some o → H' b = some o) → H D = none → H' D = some (.lst (lf (m + 1) fun i => c + sf g i (m - i))) → Q (.ref D) H') :
    tSeq (tFor (iList K (tRevL K (tVar 5))) (gName 9) (tDrop (tBM K "list" rAppend (tVar 8) (tCons (tOp (rI0 fun i j => .int (i + j)) (tOp (rIxL K) (tVar 8) (tUn (rU fun i => .int (-i)) (tC (.int 1)))) (tVar 9)) tNil))))
      (tRet (tRevL K (tVar 8))) { nx := fun _ H' => Q .non H', rt := Q } [o0, o1, o2, o3, o4, some (.ref G), o6, o7, some (.ref p), o9, o10, o11, o12, o13] H := by
  refine ⟨_, rfl, G, _, rfl, SqL.of hG, fun R hR => ⟨R, rfl, ⟨_, SqL.of upd_same⟩, ?_⟩⟩
  have hRp : R ≠ p := (ne_of_none hp hR).symm
  have sR := same_new (o := .lst (lf m g).reverse) hR
  refine for_it (walk_list (xs := (lf m g).reverse)) (fun n σ H' => (∀ b o, b ≠ p → (upd H R (.lst (lf m g).reverse)) b = some o → H' b = some o) ∧ H' p = some (.lst (lf (n + 1) fun k => c + sf g (m - k) k)) ∧ ∃ o, σ = [o0, o1, o2, o3, o4, some (.ref G), o6, o7, some (.ref p), o, o10, o11, o12, o13]) ?_ ?_ ?_ ?_
  · refine ⟨fun b o _ e => e, ?_, _, rfl⟩
    rw [sR _ _ hp]
    simp [lf, sf]
  · rintro n σ H' _ ⟨k1, _⟩
    exact SqL.of (k1 _ _ hRp upd_same)
  · rintro n x σ H' H'' hn ⟨k1, e1, o, rfl⟩ ⟨rfl, hx⟩
    have hn' : n < m := by simpa [lf] using hn
    have hx' : x = .int (g (m - 1 - n)) := by
      have h0 : (lf m g).reverse[n]? = some (.int (g (m - 1 - n))) := by
        rw [List.getElem?_reverse (by rw [lf_len]; exact hn'), lf_len, lf_get g (by omega)]
      rw [h0] at hx
      cases hx
      rfl
    subst hx'
    refine ⟨_, rfl, .inl ⟨rfl, _, SqL.of e1⟩, ?_⟩
    refine ⟨_, rfl, 1, rfl, p, _, -1, _, rfl, rfl, SqL.of e1, (by rw [lf_snoc]; exact atI_last _ _), _, rfl, _, _, rfl, rfl, ?_⟩
    refine ⟨p, _, _, rfl, rfl, e1, by rw [lf_len, sizeLine_eq]; omega, fun b o hb e => by rw [upd_ne hb]; exact k1 b o hb e, ?_, _, rfl⟩
    rw [upd_same, lf_snoc (n + 1)]
    have e : c + sf g (m - n) n + g (m - 1 - n) = c + sf g (m - (n + 1)) (n + 1) := by
      rw [sf, show m - (n + 1) + 1 = m - n by omega, show m - (n + 1) = m - 1 - n by omega]
      omega
    show some (HO.lst (lf (n + 1) _ ++ [.int (c + sf g (m - n) n + g (m - 1 - n))])) = some (HO.lst (lf (n + 1) _ ++ [V.int (c + sf g (m - (n + 1)) (n + 1))]))
    rw [e]
  · rintro σ H' ⟨k1, e1, o, rfl⟩
    have hl : (lf m g).reverse.length = m := by rw [List.length_reverse, lf_len]
    rw [hl] at e1
    refine ⟨_, rfl, p, _, rfl, SqL.of e1, fun D hD => ?_⟩
    refine q D _ (fun b o hb e => ?_) ?_ ?_
    · rw [upd_ne (ne_of_none (k1 b o hb (sR _ _ e)) hD)]
      exact k1 b o hb (sR _ _ e)
    · cases e : H D with
      | none => rfl
      | some o =>
        by_cases z : D = p
        · rw [z, e1] at hD; cases hD
        · rw [k1 D o z (sR _ _ e)] at hD; cases hD
    · rw [upd_same]
      congr 2
      rw [← lf_rev m (fun i => c + sf g i (m - i))]
      congr 1
      refine lf_congr fun i hi => ?_
      show c + sf g (m - i) i = c + sf g (m - i) (m - (m - i))
      rw [show m - (m - i) = i by omega]
end
end L2.Fo

set_option exponentiation.threshold 2000
/-! # tail_worths: what it promises -/
namespace L2.Fo
open PySem PySem.Spec PyProof.Rows L2.Vf L2.Dw L2.Ch L2.Nk RZ
theorem Paired.idx {α β : Type} {R : α → β → Prop} {xs : List α} {ys : List β} (r : Paired R xs ys) : ∀ {i : Nat} {x : α}, xs[i]? = some x → ∃ y, ys[i]? = some y ∧ R x y := by
  induction r with
  | nil => intro i x h; simp at h
  | cons h _ ih =>
    intro i x hx
    cases i with
    | zero => simp at hx; subst hx; exact ⟨_, rfl, h⟩
    | succ j => simpa using ih (by simpa using hx)
theorem val_of_mem {xs : List Lk.Ent} (nd : (xs.map (·.1)).Nodup) {x : Lk.Ent} (hx : x ∈ xs) : Lk.valN xs x.1 = some x.2.2 := by
  unfold Lk.valN
  cases z : xs.find? (fun y => decide (y.1 = x.1)) with
  | none => exact absurd (List.find?_eq_none.mp z x hx) (by simp)
  | some y =>
    have e1 : y.1 = x.1 := by simpa using List.find?_some z
    rw [nodup_key nd (List.mem_of_find?_eq_some z) hx e1]
    rfl
theorem go_name {i : Nat} {x : V} {σ : St} {H : Hp} {Q : St → Hp → Prop} (h : Q (σ.set i (some x)) H) : gName i x σ H Q := h
theorem go_asg {t : TE} {g : TG} {D : Ends} {σ : St} {H : Hp} (h : t σ H fun x H1 => g x σ H1 D.nx) : tAsg t g D σ H := h
section
variable {P : Program} {w : World} {K : PySem.W.Frag} {mg : Str → Option Value} {base : Heap}
theorem ok_tw {f fB : Addr} {fd dB : FuncData} (F : Fun K "tail_worths" "tail_worths" sTw f fd) (N : Nm mg) (mT : mg "tail_worths" = some (.ref f)) (kT : PySem.W.keepIn K (.ref f) = true) (bT : Binds K fd ["terms", "table", "many"] [])
    (GB : FnOk P w K mg base CX0 3 fB dB ["terms"] (spBf P w K)) (mB : mg "by_first_letter" = some (.ref fB)) (kB : PySem.W.keepIn K (.ref fB) = true) (bB : Binds K dB ["terms"] []) :
    ∀ d : Nat, FnOk P w K mg base CX0 (3 + d) f fd ["terms", "table", "many"] (spTw P w K d)
  | 0 => ⟨fun _ _ _ _ h => h.elim, fun _ _ _ _ _ _ _ _ _ _ _ _ _ h => h.elim⟩
  | d + 1 => by
    have GT := ok_tw F N mT kT bT GB mB kB bB d
    refine F.ok scTw (fun vs H Q E h => ?_) fun cdv A outer s H vs Q E hr h => ?_
    · obtain ⟨a, t, m, ts, W, rfl, _⟩ := h
      rfl
    · have hr3 := hr.mono (show 3 ≤ 3 + d by omega)
      have h2 : (A.deeper (envOfC "tail_worths" (defScope sTw) s.heap.objs.size f cdv)).units + 2 < cLine := by have := hr.units; omega
      obtain ⟨a, t, m, ts, W, rfl, ha, ht, hb, ho, q⟩ := h
      refine ⟨_, pss_cons (ps_set (i := 3) scTw.nd rfl (.inl rfl) (pe_callB (cr_sum rfl) (by rfl) N.sum Dw.boot_sum (pa_cons (pe_lc (own := [("coefficient", 10), ("letters", 11)]) (g := gTup K 2 (gCons (gName 10) (gCons (gName 11) gNil))) (tt := tNot (fun σ H Q => tVar 11 σ H fun x H' => ∃ k, TruV K x H' k ∧ Q k H')) (te := tVar 10) rfl scTw.nd
          (pi_list (pv 0)) (blkOk_by (N := nTw) (sc := defScope sTw) (by decide +kernel)) (fun _ _ _ _ _ => pg_tup rfl (pgs_cons (pg_name (i := 10) scTw.nd rfl (Or.inl rfl)) (pgs_cons (pg_name (i := 11) scTw.nd rfl (Or.inl rfl)) pgs_nil)))
          (fun _ _ _ _ _ => pts_one (pt_not (pt_truth (pv 11) (fun _ => rfl)))) (fun _ _ _ _ _ => pv 10)) pa_nil)))
        (pss_cons (ps_set (i := 4) scTw.nd rfl (.inl rfl) (pe_call GB hr3 rfl mB kB bB .nil pass0 (pa_cons (pv 0) pa_nil)))
        (pss_cons (ps_if (pt_not (pt_truthR (pv 4) Lk.tru_nt (fun _ => rfl))) (pss_one (ps_ret (pe_op op_rep (pe_lst (pa_cons (pv 3) pa_nil)) (pe_op op_add (pv 2) pe_int)))) pss_nil)
        (pss_cons (ps_set (i := 5) scTw.nd rfl (.inl rfl) (pe_op op_rep (pe_lst (pa_cons pe_int pa_nil)) (pv 2)))
        (pss_cons (ps_lock (ps_for PassesOwn.never rfl (Lk.pi_keysN (pv 4)) (pg_name (i := 6) scTw.nd rfl (Or.inl rfl)) (pss_cons (ps_set (i := 7) scTw.nd rfl (.inl rfl) (pe_call GT hr rfl mT kT bT .nil pass0 (pa_cons (Lk.pe_nget h2 (pv 4) (pv 6) (fun _ _ => rfl)) (pa_cons (pv 1) (pa_cons (pv 2) pa_nil)))))
        (pss_one (ps_setLc (i := 5) (own := [("gain", 9), ("worth", 12), ("rest", 13)]) (g := gTup K 3 (gCons (gName 9) (gCons (gName 12) (gCons (gName 13) gNil)))) (tt := tYes) (te := tOp (rI0 fun i j => .int (i + j)) (tVar 9) (tOp (rI CMulX fun i j => .int (i * j)) (tVar 12) (tVar 13))) rfl scTw.nd rfl rfl (sw_true rfl rfl rfl (by decide +kernel))
            (pi_zip3 (by rfl) N.zip (pa_cons (pv 5) (pa_cons (Lk.pe_nget h2 (pv 1) (pv 6) (fun _ _ => rfl)) (pa_cons (pe_slice sl_list (pv 7) (po_some pe_int) po_none) pa_nil)))) (blkOk_by (N := nTw) (sc := defScope sTw) (by decide +kernel))
            (fun _ _ _ _ _ => pg_tup rfl (pgs_cons (pg_name (i := 9) scTw.nd rfl (Or.inl rfl)) (pgs_cons (pg_name (i := 12) scTw.nd rfl (Or.inl rfl)) (pgs_cons (pg_name (i := 13) scTw.nd rfl (Or.inl rfl)) pgs_nil))))
            (fun _ _ _ _ _ => pts_nil) (fun _ _ _ _ _ => pe_op op_add (pv 9) (pe_op op_mulX (pv 12) (pv 13))))))))
        (pss_cons (ps_set (i := 8) scTw.nd rfl (.inl rfl) (pe_lst (pa_cons (pv 3) pa_nil)))
        (pss_cons (ps_for PassesOwn.never rfl (pi_list (pe_revL (pv 5))) (pg_name (i := 9) scTw.nd rfl (Or.inl rfl)) (pss_one (ps_expr (pe_bm PySem.F.plainAttrs_list PySem.F.slot_list_append PySem.F.type_list_append mt_append (pv 8)
          (pa_cons (pe_op op_add (pe_ix ix_list (pv 8) (pe_un un_neg pe_int) (fun _ _ => rfl)) (pv 9)) pa_nil)))))
        (pss_one (ps_ret (pe_revL (pv 8)))))))))), ?_⟩
      have hz : ts.length ≤ 2 ^ 20 := by have := hb.l; rw [List.length_map] at this; exact this
      have e20 : (2 : Nat) ^ 20 = 1048576 := by decide
      refine rd_cst ha ht hz fun H1 s1 => ?_
      refine ⟨_, rfl, a, ts, rfl, SqL.of (s1 _ _ ha), (fun r hr => (ht r hr).ext (.of s1)), by rw [sizeLine_eq]; omega, fun D xs H2 s2 hD hx hg => ?_⟩
      have s12 := s1.trans s2
      have hD0 : H D = none := s1.free hD
      refine ⟨_, rfl, D, xs, rfl, .inl hx, ?_⟩
      generalize hgs : groupsOf (ts.map (·.2)) = gs at hg
      have tvg : ∀ i, tv W m (ts.map (·.2)) i = cst (ts.map (·.2)) + sf (gv W m gs) i (m - i) := fun i => by rw [tv_groups, hgs]
      refine ite2 (fun hc => ?_) fun hc => ?_
      · have hxs : xs = [] := by cases xs <;> simp_all
        subst hxs
        have hgs0 : gs = [] := by have r := hg.rel; cases r; rfl
        subst hgs0
        refine ⟨_, rfl, by show 1 ≤ sizeLine; rw [sizeLine_eq]; decide, fun p hp => ?_⟩
        refine ⟨_, rfl, _, _, rfl, rfl, ?_⟩
        refine ⟨p, (m : Int) + 1, _, rfl, rfl, upd_same, by have := hb.m; omega, by have := hb.m; omega, ?_, fun G hG => ?_⟩
        · have := hb.m
          rw [show ((m : Int) + 1).toNat = m + 1 by omega, sizeLine_eq]
          simp
          omega
        · have sp := (s12.trans (same_new hp)).trans (same_new (o := .lst (List.replicate ((m : Int) + 1).toNat [V.int (cst (ts.map (·.2)))]).flatten) hG)
          refine q G _ sp ((s12.trans (same_new hp)).free hG) ?_
          rw [upd_same, show ((m : Int) + 1).toNat = m + 1 by omega, lf_rep]
          congr 2
          refine lf_congr fun i _ => ?_
          rw [tvg]
          have : sf (gv W m []) i (m - i) = 0 := sf_zero _ _
          rw [this, Int.add_zero]
      · refine ⟨by show 1 ≤ sizeLine; rw [sizeLine_eq]; decide, fun p hp => ?_⟩
        refine ⟨_, rfl, p, (m : Int), _, rfl, rfl, upd_same, by have := hb.m; omega, by have := hb.m; omega, ?_, fun G hG => ?_⟩
        · have := hb.m
          rw [show ((m : Int)).toNat = m by omega, sizeLine_eq]
          simp
          omega
        rw [show ((m : Int)).toNat = m by omega, lf_rep] at *
        have s3 : Same H2 (upd H2 p (.lst [.int 0])) := same_new hp
        have s4 : Same (upd H2 p (.lst [.int 0])) (upd (upd H2 p (.lst [.int 0])) G (.lst (lf m fun _ => 0))) := same_new hG
        have hG0 : H G = none := (s12.trans s3).free hG
        have s04 := (s12.trans s3).trans s4
        have hx4 := s4 _ _ (s3 _ _ hx)
        have hg4 := (hg.same s3).same s4
        have hDG : D ≠ G := ne_of_none (s3 _ _ hx) hG
        have eG4 : (upd (upd H2 p (.lst [.int 0])) G (.lst (lf m fun _ => 0))) G = some (.lst (lf m fun _ => 0)) := upd_same
        generalize hH4 : upd (upd H2 p (.lst [.int 0])) G (.lst (lf m fun _ => 0)) = H4 at *
        refine ⟨D, Lk.NtO P w D xs, hx4, True.intro, fun od => ?_⟩
        have s05 : Same H (upd H4 D (.frz od (Lk.NtO P w D xs))) := same_wr s04 hD0
        have hg5 := hg4.frz (o := .frz od (Lk.NtO P w D xs)) hx4
        refine ⟨_, rfl, D, od, xs, rfl, upd_same, ?_⟩
        have hlen : xs.length = gs.length := Paired.length hg.rel
        have eG5 : (upd H4 D (.frz od (Lk.NtO P w D xs))) G = some (.lst (lf m fun _ => 0)) := by rw [upd_ne hDG.symm]; exact eG4
        have eD5 : (upd H4 D (.frz od (Lk.NtO P w D xs))) D = some (.frz od (Lk.NtO P w D xs)) := upd_same
        generalize hH5 : upd H4 D (.frz od (Lk.NtO P w D xs)) = H5 at s05 hg5 eG5 eD5 ⊢
        refine for_it Lk.walk_keysN (fun i σ H' => Same H5 H' ∧ ∃ (G' : Addr) (o6 o7 : Option V), H' G' = some (.lst (lf m (gv W m (gs.take i)))) ∧ H G' = none ∧ σ = [some (.ref a), some (.ref t), some (.int (m : Nat)), some (.int (cst (ts.map (·.2)))), some (.ref D), some (.ref G'), o6, o7, none, none, none, none, none, none]) ?_ ?_ ?_ ?_
        · exact ⟨.refl _, G, _, _, by rw [eG5]; rfl, hG0, rfl⟩
        · rintro i σ H' _ ⟨k1, _⟩
          exact k1 _ _ eD5
        · rintro i x σ H' H6 hi ⟨k1, G', o6, o7, eG', nG', rfl⟩ ⟨rfl, e, he, rfl⟩
          have hg6 := hg5.same k1
          obtain ⟨g, hgi, e1, c, rs, ec, hcl, hct, hcd⟩ := Paired.idx hg6.rel he
          have hem := List.mem_of_getElem? he
          have hgm := List.mem_of_getElem? hgi
          have k06 := s05.trans k1
          have hval : some (V.ref c) = Lk.valN xs e.1 := by rw [val_of_mem hg6.nd hem, ec]
          have hgf : ∀ u ∈ g.2, (u.1, g.1 :: u.2) ∈ ts.map (·.2) := fun u hu => groups_from (S := fun z => z ∈ ts.map (·.2)) (ts.map (·.2)) (fun _ h => h) g (by rw [hgs]; exact hgm) u hu
          obtain ⟨u0, hu0⟩ : ∃ u, u ∈ g.2 := List.exists_mem_of_ne_nil _ (groups_ne _ g (by rw [hgs]; exact hgm))
          have dpos : 0 < d := by
            have := (hb.t _ (hgf u0 hu0)).2
            simp only [List.length_cons] at this
            omega
          obtain ⟨d', rfl⟩ : ∃ d', d = d' + 1 := ⟨d - 1, by omega⟩
          obtain ⟨tx, t1, t2, t3⟩ := (ho.same k06).ex
          obtain ⟨cw, w1, w2⟩ := t3 _ (hgf u0 hu0) g.1 List.mem_cons_self
          have hgl : g.2.length ≤ 2 ^ 20 := by
            have := groups_lens (ts.map (·.2)) g (by rw [hgs]; exact hgm)
            rw [List.length_map] at this
            omega
          have hbt : ∀ u ∈ g.2, u.1.natAbs ≤ 2 ^ 200 ∧ u.2.length ≤ d' := fun u hu => by
            have := hb.t _ (hgf u hu)
            refine ⟨this.1, ?_⟩
            have := this.2
            simp only [List.length_cons] at this
            omega
          have hbg : Bnd W m (rs.map (·.2)) d' := by
            rw [hcd]
            exact ⟨hb.w, hb.m, hgl, hbt, by have := hb.d; omega⟩
          have hbo : TbO P w K H6 t W m (rs.map (·.2)) := by
            rw [hcd]
            exact ⟨tx, t1, t2, fun u hu l hl => t3 _ (hgf u hu) l (List.mem_cons_of_mem _ hl)⟩
          refine ⟨_, rfl, _, rfl, D, .ref c, rfl, ⟨xs, e.1, e.2.1, .inr ⟨od, k1 _ _ eD5⟩, hg6.key, rfl, hg6.key e hem, hval⟩, _, rfl, _, rfl, ?_⟩
          refine ⟨c, t, m, rs, W, rfl, hcl, hct, hbg, hbo, fun B H7 s7 hB0 hB => ?_⟩
          rw [hcd] at hB
          refine go_name ?_
          dsimp only
          refine go_asg ?_
          show tLc _ _ _ _ [9, 12, 13] [some (.ref a), some (.ref t), some (.int (m : Nat)), some (.int (cst (ts.map (·.2)))), some (.ref D), some (.ref G'), some (.ref e.2.1), some (.ref B), none, none, none, none, none, none] H7 _
          refine rd_gain (bits := 220 + 777 * d') (l := g.1) (by have := hb.d; omega) (s7 _ _ eG') hB (.inl (s7 _ _ t1)) (fun x hx => lkey_ext s7 (t2 x hx)) (lkey_ext s7 (e1 ▸ hg6.key e hem)) w1 (s7 _ _ w2) hb.m (hb.w g.1) (tv_abs2 hb.m hb.w hgl hbt) fun E2 H8 s8 hE0 hE8 => ?_
          refine ⟨(k1.trans s7).trans s8, E2, _, _, ?_, (k06.trans s7).free hE0, rfl⟩
          rw [hE8, List.take_add_one, hgi]
          congr 2
          exact lf_congr fun j _ => (gv_snoc W m (gs.take i) g j).symm
        · rintro σ H' ⟨k1, G', o6, o7, eG', nG', rfl⟩
          refine ⟨k1 _ _ eD5, ?_⟩
          rw [hlen, List.take_length] at eG'
          have hGD' : G' ≠ D := fun z => by rw [z, k1 _ _ eD5] at eG'; cases eG'
          refine ⟨_, rfl, by show 1 ≤ sizeLine; rw [sizeLine_eq]; decide, fun p' hp' => ?_⟩
          have s06 : Same H (upd H' D (Lk.NtO P w D xs)) := same_wr (s05.trans k1) hD0
          have s7 := s06.trans (same_new (o := .lst [V.int (cst (ts.map (·.2)))]) hp')
          have eG7 : (upd (upd H' D (Lk.NtO P w D xs)) p' (.lst [V.int (cst (ts.map (·.2)))])) G' = some (.lst (lf m (gv W m gs))) := by
            have h1 : (upd H' D (Lk.NtO P w D xs)) G' = some (.lst (lf m (gv W m gs))) := by rw [upd_ne hGD']; exact eG'
            rw [upd_ne (ne_of_none h1 hp')]; exact h1
          have hGp' : G' ≠ p' := fun z => by
            rw [← z, upd_ne hGD', eG'] at hp'
            cases hp'
          refine rd_tails hb.m eG7 upd_same hGp' fun T H9 k9 hT eT => ?_
          refine q T H9 (fun b o hbo => k9 b o (ne_of_none hbo (s06.free hp')) (s7 _ _ hbo)) (s7.free hT) ?_
          rw [eT]
          congr 2
          exact lf_congr fun i _ => (tvg i).symm
end
end L2.Fo

set_option exponentiation.threshold 2000
/-! # worth_table -/
namespace L2.Fo
open PySem PySem.Spec PyProof.Rows L2.Vf L2.Dw L2.Ch L2.Nk RZ
abbrev sWt : Stmt := top 21
abbrev nWt : List Str := ["terms", "row", "table", "_", "letters", "letter", "cell"]
theorem scWt : FnScope nWt ["terms", "row"] (defScope sWt) := ⟨rfl, rfl, rfl, by decide +kernel, rfl, by decide +kernel, by decide +kernel⟩
/-- at r: a list of cells -/
def RwAt (K : PySem.W.Frag) (H : Hp) (r : Addr) (rows : List (List Int)) : Prop := ∃ cs : List Addr, H r = some (.lst (cs.map V.ref)) ∧ Paired (fun c l => SqT K H c (l.map V.int)) cs rows
theorem RwAt.same {K : PySem.W.Frag} {H H' : Hp} {r : Addr} {rows : List (List Int)} (b : RwAt K H r rows) (s : Same H H') : RwAt K H' r rows := by
  obtain ⟨cs, h1, h2⟩ := b
  exact ⟨cs, s _ _ h1, Paired.mapP h2 fun _ _ e => sqT_ext (.of s) e⟩
/-- the worths of letters on the cells of a row -/
instance exDec (l : List Int) : Decidable (ExOk l) := by unfold ExOk; infer_instance
def wOf (rows : List (List Int)) : Wf := fun l j => if ExOk l then lw l (rows.getD j []) else 0
/-- a row of width n -/
def RwOk (n : Nat) (rows : List (List Int)) : Prop := rows.length ≤ 512 ∧ ∀ c ∈ rows, c.length = n ∧ PaOk c
/-- words of width n -/
def WdOk (n : Nat) (ts : List (Int × Wd)) : Prop := ts.length ≤ 4000 ∧ ∀ u ∈ ts, u.2.length ≤ 100 ∧ ∀ l ∈ u.2, l.length = n ∧ ExOk l
def spWt (P : Program) (w : World) (K : PySem.W.Frag) : Sp := fun vs H Q _ => ∃ (a r : Addr) (ts : List Trm) (rows : List (List Int)) (n : Nat), vs = [.ref a, .ref r] ∧ H a = some (.lst (ts.map fun t => V.ref t.1)) ∧ (∀ t ∈ ts, TmAt K H t) ∧ RwAt K H r rows ∧ RwOk n rows ∧ WdOk n (ts.map (·.2)) ∧
  ∀ (T : Addr) (H' : Hp), Same H H' → TbO P w K H' T (wOf rows) rows.length (ts.map (·.2)) → Q (.ref T) H'
/-- the table so far -/
structure Tbs (P : Program) (w : World) (K : PySem.W.Frag) (H : Hp) (T : Addr) (rows : List (List Int)) (tx : List Lk.Ent) : Prop where
  at_ : H T = some (Lk.NtO P w T tx)
  key : Lk.NKeys K H tx
  val : ∀ x ∈ tx, ∃ c, x.2.2 = .ref c ∧ H c = some (.lst (lf rows.length (wOf rows x.1)))
theorem Tbs.same {P : Program} {w : World} {K : PySem.W.Frag} {H H' : Hp} {T : Addr} {rows : List (List Int)} {tx : List Lk.Ent} (b : Tbs P w K H T rows tx) (s : Same H H') : Tbs P w K H' T rows tx :=
  ⟨s _ _ b.at_, fun x hx => lkey_ext s (b.key x hx), fun x hx => let ⟨c, e1, e2⟩ := b.val x hx; ⟨c, e1, s _ _ e2⟩⟩
theorem wOf_abs {n : Nat} {rows : List (List Int)} (h : RwOk n rows) (l : List Int) (j : Nat) : (wOf rows l j).natAbs ≤ 2 ^ 768 := by
  unfold wOf
  by_cases hl : ExOk l
  · rw [if_pos hl]
    refine lw_abs hl ?_
    rw [List.getD_eq_getElem?_getD]
    cases z : rows[j]? with
    | none => intro p hp; exact absurd hp (by simp)
    | some c => exact (h.2 c (List.mem_of_getElem? z)).2
  · rw [if_neg hl]
    exact Nat.zero_le _
theorem isSome_snoc {tx : List Lk.Ent} {e : Lk.Ent} {l : List Int} (h : (Lk.valN tx l).isSome = true) : (Lk.valN (tx ++ [e]) l).isSome = true := by
  rw [← Lk.valN_any] at h ⊢
  rw [List.any_append, h]
  rfl
theorem isSome_last {tx : List Lk.Ent} {l : List Int} {b : Addr} {v : V} : (Lk.valN (tx ++ [(l, b, v)]) l).isSome = true := by
  rw [← Lk.valN_any, List.any_append]
  simp
section
variable {P : Program} {w : World} {K : PySem.W.Frag} {mg : Str → Option Value} {base : Heap}
/-- the worths of one letter -/
theorem rd_col {H : Hp} {r c : Addr} {rows : List (List Int)} {l : List Int} {n : Nat} {o0 o2 o3 o4 o6 : Option V} {Q : VK} (hrw : RwAt K H r rows) (hro : RwOk n rows) (hk : SqT K H c (l.map V.int)) (hl : l.length = n) (he : ExOk l)
    (q : ∀ (D : Addr) (H' : Hp), Same H H' → H D = none → H' D = some (.lst (lf rows.length (wOf rows l))) → Q (.ref D) H') :
    tLc (iList K (tVar 1)) (gName 6) tYes (tCall (spLw K) [] E0 (tCons (tVar 5) (tCons (tVar 6) tNil))) [6] [o0, some (.ref r), o2, o3, o4, some (.ref c), o6] H Q := by
  obtain ⟨cs, h1, h2⟩ := hrw
  have hlen : cs.length = rows.length := Paired.length h2
  refine ⟨_, rfl, r, rfl, ⟨_, SqL.of h1⟩, fun D hD => ?_⟩
  refine lc_list (xs := cs.map V.ref) (fun i H2 => Same H H2 ∧ H2 D = some (.lst (lf i (wOf rows l)))) ?_ ?_ ?_ ?_
  · exact ⟨same_new hD, upd_same⟩
  · rintro i H2 _ ⟨s2, _⟩
    exact SqL.of (s2 _ _ h1)
  · rintro i x H2 hx ⟨s2, e2⟩
    rw [List.getElem?_map] at hx
    obtain ⟨cc, hcc, rfl⟩ := Option.map_eq_some_iff.mp hx
    obtain ⟨ps, hps, hs⟩ := Paired.idx h2 hcc
    have hm := hro.2 ps (List.mem_of_getElem? hps)
    have hi : i < rows.length := (List.getElem?_eq_some_iff.mp hps).1
    refine ⟨rfl, _, rfl, _, rfl, c, cc, l, ps, rfl, sqT_ext (.of s2) hk, sqT_ext (.of s2) hs, by rw [hl, hm.1], he, hm.2, fun H3 s3 => ?_⟩
    refine ⟨_, s3 _ _ e2, by rw [lf_len, sizeLine_eq]; have := hro.1; omega, same_wr (s2.trans s3) hD, ?_⟩
    rw [upd_same, lf_snoc]
    have : wOf rows l i = lw l ps := by unfold wOf; rw [if_pos he, List.getD_eq_getElem?_getD, hps]; rfl
    rw [this]
  · rintro H2 ⟨s2, e2⟩
    rw [List.length_map, hlen] at e2
    exact q D H2 s2 hD e2
theorem ok_wt {f fW : Addr} {fd dW : FuncData} (F : Fun K "worth_table" "worth_table" sWt f fd) (GW : FnOk P w K mg base CX0 1 fW dW ["letter", "cell"] (spLw K)) (mW : mg "letter_worth" = some (.ref fW)) (kW : PySem.W.keepIn K (.ref fW) = true) (bW : Binds K dW ["letter", "cell"] []) :
    FnOk P w K mg base CX0 3 f fd ["terms", "row"] (spWt P w K) := by
  refine F.ok scWt (fun vs H Q E h => ?_) fun cdv A outer s H vs Q E hr h => ?_
  · obtain ⟨a, r, ts, rows, n, rfl, _⟩ := h
    rfl
  · obtain ⟨a, r, ts, rows, n, rfl, ha, ht, hrw, hro, hwd, q⟩ := h
    have hr1 := hr.mono (show 1 ≤ 2 by decide)
    have h2 : (A.deeper (envOfC "worth_table" (defScope sWt) s.heap.objs.size f cdv)).units + 2 < cLine := by have := hr.units; omega
    refine ⟨_, pss_cons (ps_asg Lk.pe_nnew (pg_name (i := 2) scWt.nd rfl (Or.inl rfl)))
      (pss_cons (ps_for PassesOwn.never rfl (pi_list (pv 0)) (pg_tup rfl (pgs_cons (pg_name (i := 3) scWt.nd rfl (Or.inl rfl)) (pgs_cons (pg_name (i := 4) scWt.nd rfl (Or.inl rfl)) pgs_nil)))
        (pss_one (ps_for PassesOwn.never rfl (pi_tup (pv 4)) (pg_name (i := 5) scWt.nd rfl (Or.inr rfl))
          (pss_one (ps_if (pt_cmp (Lk.pc_nnotin h2 (pv 5) (pv 2))) (pss_one (Lk.ps_nput h2 (pv 2) (pv 5)
            (pe_lc (own := [("cell", 6)]) (g := gName 6) (tt := tYes) (te := tCall (spLw K) [] E0 (tCons (tVar 5) (tCons (tVar 6) tNil))) rfl scWt.nd (pi_list (pv 1)) (blkOk_by (N := nWt) (sc := defScope sWt) (by decide +kernel)) (fun _ _ _ _ _ => pg_name (i := 6) scWt.nd rfl (Or.inl rfl)) (fun _ _ _ _ _ => pts_nil)
              (fun _ _ _ _ _ => pe_call GW hr1 rfl mW kW bW .nil pass0 (pa_cons (pv 5) (pa_cons (pv 6) pa_nil)))) (by rfl))) pss_nil)))))
      (pss_one (ps_ret (pv 2)))), ?_⟩
    intro T hT
    have sl : ∀ {o : HO}, Same H (upd H T o) := same_new hT
    refine ⟨_, rfl, a, rfl, ⟨_, SqL.of (sl _ _ ha)⟩, ?_⟩
    have hln : ts.length ≤ 4000 := by have := hwd.1; rw [List.length_map] at this; exact this
    refine for_it (walk_list (xs := ts.map fun t => V.ref t.1)) (fun i σ H' => Same H H' ∧ ∃ tx, Tbs P w K H' T rows tx ∧ tx.length ≤ 100 * i ∧ (∀ u ∈ (ts.take i).map (·.2), ∀ l ∈ u.2, (Lk.valN tx l).isSome = true) ∧ ∃ o3 o4 o5, σ = [some (.ref a), some (.ref r), some (.ref T), o3, o4, o5, none]) ?_ ?_ ?_ ?_
    · exact ⟨sl, [], ⟨upd_same, fun x hx => absurd hx (by simp), fun x hx => absurd hx (by simp)⟩, by simp, fun u hu => absurd hu (by simp), _, _, _, rfl⟩
    · rintro i σ H' _ ⟨s1, _⟩
      exact SqL.of (s1 _ _ ha)
    · rintro i x σ H1 H1' hi ⟨s1, tx, hb, hl, hs, o3, o4, o5, rfl⟩ ⟨rfl, hx⟩
      rw [List.getElem?_map] at hx
      obtain ⟨t, hti, rfl⟩ := Option.map_eq_some_iff.mp hx
      have htm := List.mem_of_getElem? hti
      obtain ⟨b, h1, bs, hb1, hb2⟩ := (ht t htm).ext (.of s1)
      have hu := hwd.2 t.2 (List.mem_map.mpr ⟨t, htm, rfl⟩)
      have hil : i < 4000 := by have := (List.getElem?_eq_some_iff.mp hti).1; omega
      have hbl : bs.length = t.2.2.length := Paired.length hb2
      have e : (ts.take (i + 1)).map (·.2) = (ts.take i).map (·.2) ++ [t.2] := by rw [List.take_add_one, hti]; simp
      refine ⟨t.1, _, rfl, h1, rfl, _, _, rfl, _, _, rfl, rfl, ?_⟩
      refine ⟨_, rfl, b, rfl, ⟨_, hb1⟩, ?_⟩
      refine for_it (walk_tup (xs := bs.map V.ref)) (fun j σ H' => (Same H H' ∧ ∀ c us, SqT K H1' c us → SqT K H' c us) ∧ ∃ tx, Tbs P w K H' T rows tx ∧ tx.length ≤ 100 * i + j ∧ (∀ u ∈ (ts.take i).map (·.2), ∀ l ∈ u.2, (Lk.valN tx l).isSome = true) ∧ (∀ l ∈ t.2.2.take j, (Lk.valN tx l).isSome = true) ∧ ∃ o5, σ = [some (.ref a), some (.ref r), some (.ref T), some (.int t.2.1), some (.ref b), o5, none]) ?_ ?_ ?_ ?_
      · exact ⟨⟨s1, fun _ _ h => h⟩, tx, hb, hl, hs, fun l hl => absurd hl (by simp), _, rfl⟩
      · rintro j σ H' _ ⟨k1, _⟩
        exact k1.2 _ _ hb1
      · rintro j x σ H2 H2' hj ⟨k1, tx, hb, hl, hs, hs2, o5, rfl⟩ ⟨rfl, hx⟩
        rw [List.getElem?_map] at hx
        obtain ⟨c, hcj, rfl⟩ := Option.map_eq_some_iff.mp hx
        obtain ⟨l, hlj, hc⟩ := Paired.idx hb2 hcj
        have hlm := List.mem_of_getElem? hlj
        obtain ⟨hln1, hle⟩ := hu.2 l hlm
        have hjl : j < 100 := by have := (List.getElem?_eq_some_iff.mp hlj).1; omega
        have hc2 : SqT K H2' c (l.map V.int) := k1.2 _ _ hc
        have et : t.2.2.take (j + 1) = t.2.2.take j ++ [l] := by rw [List.take_add_one, hlj]; rfl
        refine ⟨_, rfl, _, rfl, T, Lk.valN tx l, rfl, ⟨tx, l, c, .inl hb.at_, hb.key, rfl, hc2, rfl⟩, _, rfl, ?_⟩
        refine ite2 (fun hcn => ?_) fun hcn => ?_
        · have hv : Lk.valN tx l = none := by cases z : Lk.valN tx l <;> simp_all
          refine rd_col (hrw.same k1.1) hro hc2 hln1 hle fun D H3 s3 hD hD3 => ?_
          have hb3 := hb.same s3
          refine ⟨_, rfl, _, rfl, T, _, rfl, ⟨tx, l, c, hb3.at_, hb3.key, rfl, lkey_ext s3 hc2, by rw [sizeLine_eq]; omega, rfl⟩, ?_⟩
          rw [put_none hv]
          have hDT : D ≠ T := fun z => by rw [z, hb.at_] at hD; cases hD
          have tT : ∀ c' us, SqT K H3 c' us → SqT K (upd H3 T (Lk.NtO P w T (tx ++ [(l, c, .ref D)]))) c' us := fun c' us h => sqT_upd hb3.at_ True.intro h
          refine ⟨⟨same_wr (k1.1.trans s3) hT, fun c us h => tT _ _ (sqT_ext (.of s3) (k1.2 _ _ h))⟩, _, ⟨upd_same, fun x hx => ?_, fun x hx => ?_⟩, by rw [List.length_append]; simp; omega, fun u hu l' hl' => isSome_snoc (hs u hu l' hl'), fun l' hl' => ?_, _, rfl⟩
          · rcases List.mem_append.mp hx with h | h
            · exact tT _ _ (hb3.key x h)
            · rw [List.mem_singleton.mp h]; exact tT _ _ (sqT_ext (.of s3) hc2)
          · rcases List.mem_append.mp hx with h | h
            · obtain ⟨c', e1, e2⟩ := hb3.val x h
              exact ⟨c', e1, by rw [upd_ne (fun z => by rw [z, hb3.at_] at e2; unfold Lk.NtO at e2; cases e2)]; exact e2⟩
            · rw [List.mem_singleton.mp h]
              exact ⟨D, rfl, by rw [upd_ne hDT]; exact hD3⟩
          · rw [et] at hl'
            rcases List.mem_append.mp hl' with h | h
            · exact isSome_snoc (hs2 l' h)
            · rw [List.mem_singleton.mp h]; exact isSome_last
        · have hv : (Lk.valN tx l).isSome = true := by cases z : Lk.valN tx l <;> simp_all
          refine ⟨k1, tx, hb, by omega, hs, fun l' hl' => ?_, _, rfl⟩
          rw [et] at hl'
          rcases List.mem_append.mp hl' with h | h
          · exact hs2 l' h
          · rw [List.mem_singleton.mp h]; exact hv
      · rintro σ H' ⟨k1, tx, hb, hl, hs, hs2, o5, rfl⟩
        rw [List.length_map, hbl, List.take_length] at hs2
        refine ⟨k1.1, tx, hb, by rw [List.length_map, hbl] at hl; have := hu.1; omega, fun u hum => ?_, _, _, _, rfl⟩
        rw [e] at hum
        rcases List.mem_append.mp hum with h | h
        · exact hs u h
        · rw [List.mem_singleton.mp h]; exact hs2
    · rintro σ H' ⟨s1, tx, hb, hl, hs, o3, o4, o5, rfl⟩
      have e : (ts.take (ts.map fun t => V.ref t.1).length).map (·.2) = ts.map (·.2) := by rw [List.length_map, List.take_length]
      rw [e] at hs
      refine ⟨_, rfl, q T H' s1 ⟨tx, hb.at_, hb.key, fun u hu l hl => ?_⟩⟩
      have := hs u hu l hl
      obtain ⟨v, hv⟩ := Option.isSome_iff_exists.mp this
      obtain ⟨x, hx, e1, e2⟩ := val_mem hv
      obtain ⟨c, c1, c2⟩ := hb.val x hx
      rw [e1] at c2
      exact ⟨c, by rw [hv, ← e2, c1], c2⟩
end
end L2.Fo

set_option exponentiation.threshold 2000
/-! # Form.at -/
namespace L2.Fo
open PySem PySem.Spec PyProof.Rows L2.Vf L2.Dw L2.Ch L2.Nk RZ
abbrev sAt : Stmt := inClass sFo 2
theorem scAt : FnScope ["self", "row"] ["self", "row"] (defScope sAt) := ⟨rfl, rfl, rfl, by decide +kernel, rfl, by decide +kernel, by decide +kernel⟩
/-- terms of at most three letters -/
def TmOk (n : Nat) (us : List (Int × Wd)) : Prop := us.length ≤ 4000 ∧ ∀ u ∈ us, u.1.natAbs ≤ 2 ^ 200 ∧ u.2.length ≤ 8 ∧ ∀ l ∈ u.2, l.length = n ∧ ExOk l
/-- the worth of terms on a row -/
def atW (us : List (Int × Wd)) (rows : List (List Int)) : Int := tv (wOf rows) rows.length us 0
def spAt (K : PySem.W.Frag) (C CR : Addr) : Sp := fun vs H Q E => ∃ (p : Addr) (v : V) (n : Nat) (us : List (Int × Wd)) (D : Addr) (d : PyData) (as : List Addr), vs = [.ref p, v] ∧ FoAt K C H p n us D ∧ Sh K H v d as ∧
  ((rowD n d = false ∧ ∀ x, H x = none → E (.ref CR) (some x) (upd H x (.xd [("value", v)]))) ∨
    (rowD n d = true ∧ ∃ r rows, v = .ref r ∧ RwAt K H r rows ∧ RwOk n rows ∧ TmOk n us ∧ ∀ H', Same H H' → Q (.int (atW us rows)) H'))
section
variable {P : Program} {w : World} {K : PySem.W.Frag} {mg : Str → Option Value} {base : Heap}
theorem ok_at {C CR iR f fF fT fW : Addr} {fd dF dT dW dIR : FuncData} (F : Fun K "at" "Form.at" sAt f fd) (N : Nm mg) (T : FoT K mg C) (ER : ErT P w K mg base "InvalidRow" CR iR dIR)
    (GF : FnOk P w K mg base CX0 4 fF dF ["value", "width"] (spAsk2 K rowD)) (mF : mg "fits_row" = some (.ref fF)) (kF : PySem.W.keepIn K (.ref fF) = true) (bF : Binds K dF ["value", "width"] [])
    (GT : FnOk P w K mg base CX0 12 fT dT ["terms", "table", "many"] (spTw P w K 9)) (mT : mg "tail_worths" = some (.ref fT)) (kT : PySem.W.keepIn K (.ref fT) = true) (bT : Binds K dT ["terms", "table", "many"] [])
    (GW : FnOk P w K mg base CX0 3 fW dW ["terms", "row"] (spWt P w K)) (mW : mg "worth_table" = some (.ref fW)) (kW : PySem.W.keepIn K (.ref fW) = true) (bW : Binds K dW ["terms", "row"] []) :
    FnOk P w K mg base (L2.CX P w) 13 f fd ["self", "row"] (spAt K C CR) := by
  refine F.okX scAt (fun vs H Q E h => ?_) fun cdv A outer s H vs Q E hr h => ?_
  · obtain ⟨p, v, n, us, D, d, as, rfl, _⟩ := h
    rfl
  · obtain ⟨p, v, n, us, D, d, as, rfl, ⟨dx, rs, hp, hD, tm, e⟩, hv, q⟩ := h
    have hr2 := hr.mono (show 2 ≤ 12 by decide)
    have hr3 := hr.mono (show 3 ≤ 12 by decide)
    have hr4 := hr.mono (show 4 ≤ 12 by decide)
    refine ⟨_, pss_cons (ps_if (pt_not (pt_val (pe_call GF hr4 rfl mF kF bF .nil pass0 (pa_cons (pv 1) (pa_cons (pe_fld (pv 0) rfl) pa_nil))))) (pss_one (ps_raiseE rfl ER.cl ER.fi ER.b1 hr2 (takes_of rfl rfl rfl rfl) (by rfl) ER.mg_ (pa_cons (pv 1) pa_nil))) pss_nil)
      (pss_one (ps_ret (pe_ix ix_list (pe_call GT hr rfl mT kT bT .nil pass0 (pa_cons (pe_fld (pv 0) rfl) (pa_cons (pe_call GW hr3 rfl mW kW bW .nil pass0 (pa_cons (pe_fld (pv 0) rfl) (pa_cons (pv 1) pa_nil)))
        (pa_cons (pe_callB call_len_seq (by rfl) N.len PySem.boot_len (pa_cons (pv 1) pa_nil)) pa_nil)))) pe_int (fun _ _ => rfl)))), ?_⟩
    refine ⟨_, rfl, _, rfl, p, C, dx, _, .int n, rfl, hp, T.cl, T.nW, rfl, v, d, as, n, rfl, hv, ⟨_, rfl, ?_⟩⟩
    rcases q with ⟨e1, q⟩ | ⟨e1, r, rows, rfl, hrw, hro, htm, q⟩
    · rw [e1]
      exact iteT ⟨v, rfl, q⟩
    · rw [e1]
      refine iteF ?_
      have hlr : rs.length = us.length := by rw [← e, List.length_map]
      have htm2 := htm.2
      have hwd : WdOk n (rs.map (·.2)) := by rw [e]; exact ⟨htm.1, fun u hu => ⟨by have := (htm2 u hu).2.1; omega, (htm2 u hu).2.2⟩⟩
      have hbn : Bnd (wOf rows) rows.length (rs.map (·.2)) 8 := by
        rw [e]
        refine ⟨wOf_abs hro, hro.1, ?_, fun u hu => ⟨(htm2 u hu).1, (htm2 u hu).2.1⟩, by decide⟩
        have : (2 : Nat) ^ 20 = 1048576 := by decide
        have := htm.1
        omega
      obtain ⟨cs, hc1, hc2⟩ := id hrw
      have hcl : cs.length = rows.length := Paired.length hc2
      refine ⟨_, rfl, p, C, dx, _, .ref D, rfl, hp, T.cl, T.nT, rfl, _, rfl, p, C, dx, _, .ref D, rfl, hp, T.cl, T.nT, rfl, _, rfl, D, r, rs, rows, n, rfl, hD, tm, hrw, hro, hwd, fun TT H1 s1 hto => ?_⟩
      refine ⟨_, rfl, r, cs.map V.ref, rfl, .inl (SqL.of (s1 _ _ hc1)), ?_⟩
      rw [List.length_map, hcl]
      refine ⟨D, TT, rows.length, rs, wOf rows, rfl, s1 _ _ hD, fun x hx => (tm x hx).ext (.of s1), hbn, hto, fun R H2 s2 hR eR => ?_⟩
      refine ⟨R, _, 0, _, rfl, rfl, SqL.of eR, atI_nat (j := 0) (lf_get _ (by omega)), ?_⟩
      have := q H2 (s1.trans s2)
      unfold atW at this
      rw [e]
      exact this
end
end L2.Fo

set_option exponentiation.threshold 2000
/-! # the law's own worths -/
namespace L2.Fo
open PySem PySem.Spec PyProof.Rows L2.Vf L2.Dw L2.Ch L2.Nk RZ
abbrev sLt : Stmt := top 36
abbrev nLt : List Str := ["_law_letter_here", "_law_cell_here", "_law_found", "_law_at", "_law_turn"]
theorem scLt : FnScope nLt ["_law_letter_here", "_law_cell_here"] (defScope sLt) := ⟨rfl, rfl, rfl, by decide +kernel, rfl, by decide +kernel, by decide +kernel⟩
section
variable {P : Program} {w : World} {K : PySem.W.Frag} {mg : Str → Option Value} {base : Heap}
theorem ok_lt {f : Addr} {fd : FuncData} (F : Fun K "_law_letter_at" "_law_letter_at" sLt f fd) (N : Nm mg) : FnOk P w K mg base CX0 1 f fd ["_law_letter_here", "_law_cell_here"] (spLw K) := by
  refine F.ok scLt (fun vs H Q E h => ?_) fun cdv A outer s H vs Q E hr h => ?_
  · obtain ⟨l, c, ls, cs, rfl, _⟩ := h
    rfl
  · obtain ⟨l, c, ls, cs, rfl, hl, hc, hlen, he, hp, q⟩ := h
    refine ⟨_, pss_cons (ps_set (i := 2) scLt.nd rfl (.inl rfl) pe_int)
      (pss_cons (ps_for PassesOwn.never rfl (pi_range1 (by rfl) N.rng (pa_cons (pe_callB call_len_seq (by rfl) N.len PySem.boot_len (pa_cons (pv 0) pa_nil)) pa_nil)) (pg_name (i := 3) scLt.nd rfl (Or.inl rfl))
        (pss_one (ps_for PassesOwn.never rfl (pi_range1 (by rfl) N.rng (pa_cons (pe_ix ix_tup (pv 0) (pv 3) (fun _ _ => rfl)) pa_nil)) (pg_name (i := 4) scLt.nd rfl (Or.inl rfl))
          (pss_one (ps_set (i := 2) scLt.nd rfl (.inl rfl) (pe_op op_mulX (pv 2) (pe_ix ix_tup (pv 1) (pv 3) (fun _ _ => rfl))))))))
      (pss_one (ps_ret (pv 2)))), ?_⟩
    refine ⟨_, rfl, l, ls.map V.int, rfl, .inr hl, ls.length, by rw [List.length_map], by have := he.1; omega, by have := he.1; omega, ?_⟩
    refine for_range (lo := 0) (n := ls.length) (fun i σ H' => H' = H ∧ ∃ (v : Int) (o3 o4 : Option V), σ = [some (.ref l), some (.ref c), some (.int v), o3, o4] ∧ v.natAbs ≤ 2 ^ (384 * i) ∧ lwA v (cs.drop i) (ls.drop i) = lw ls cs) ?_ (fun i σ H' hi hP => ?_) fun σ H' hP => ?_
    · exact ⟨rfl, 1, _, _, rfl, by decide, rfl⟩
    · obtain ⟨rfl, v, o3, o4, rfl, hv, hw⟩ := hP
      have hi2 : i < 2 := by have := he.1; omega
      have hei : ls[i]? = some ls[i] := List.getElem?_eq_getElem hi
      have hpi : cs[i]? = some (cs[i]'(by omega)) := List.getElem?_eq_getElem (by omega)
      generalize ls[i] = e at hei
      generalize cs[i]'(by omega) = p at hpi
      obtain ⟨e0, e6⟩ := he.2 e (List.mem_of_getElem? hei)
      have hp64 := hp p (List.mem_of_getElem? hpi)
      obtain ⟨n, rfl⟩ := Int.eq_ofNat_of_zero_le e0
      refine ⟨_, rfl, _, rfl, l, _, ((0 : Int) + (i : Nat)), .int (n : Int), rfl, rfl, hl, ?_, n, rfl, by omega, by omega, ?_⟩
      · rw [Int.zero_add]; exact atI_nat (by rw [List.getElem?_map, hei]; rfl)
      refine for_range (lo := 0) (n := n) (fun j σ H'' => H'' = H' ∧ ∃ (u : Int) (o : Option V), σ = [some (.ref l), some (.ref c), some (.int u), some (.int (0 + (i : Nat))), o] ∧ u = v * p ^ j) ⟨rfl, v, _, rfl, by simp⟩ (fun j σ H'' hj hP => ?_) fun σ H'' hP => ?_
      · obtain ⟨rfl, u, o, rfl, rfl⟩ := hP
        refine ⟨_, rfl, _, rfl, _, rfl, c, _, ((0 : Int) + (i : Nat)), .int p, rfl, rfl, hc, ?_, _, _, rfl, rfl, mulX (mulAbs hv (powAbs hp64 j)) hp64 (by omega), ?_⟩
        · rw [Int.zero_add]; exact atI_nat (by rw [List.getElem?_map, hpi]; rfl)
        exact ⟨rfl, _, _, rfl, by rw [Int.pow_succ, Int.mul_assoc]⟩
      · obtain ⟨rfl, u, o, rfl, rfl⟩ := hP
        refine ⟨rfl, _, _, _, rfl, ?_, ?_⟩
        · exact Nat.le_trans (mulAbs hv (powAbs hp64 n)) (Nat.pow_le_pow_right (by decide) (by omega))
        · rw [← hw]
          have d1 : cs.drop i = p :: cs.drop (i + 1) := by
            obtain ⟨h1, h2⟩ := List.getElem?_eq_some_iff.mp hpi
            rw [← h2]; exact List.drop_eq_getElem_cons h1
          have d2 : ls.drop i = (n : Int) :: ls.drop (i + 1) := by
            obtain ⟨h1, h2⟩ := List.getElem?_eq_some_iff.mp hei
            rw [← h2]; exact List.drop_eq_getElem_cons h1
          rw [d1, d2]
          rfl
    · obtain ⟨rfl, v, o3, o4, rfl, hv, hw⟩ := hP
      refine ⟨_, rfl, ?_⟩
      have : v = lw ls cs := by
        rw [← hw, List.drop_length]
        cases cs.drop ls.length <;> rfl
      rw [this]
      exact q H' (.refl _)
end
end L2.Fo

set_option exponentiation.threshold 2000
/-! # the law's own worths, 2 -/
namespace L2.Fo
open PySem PySem.Spec PyProof.Rows L2.Vf L2.Dw L2.Ch L2.Nk RZ
theorem sf_snoc (g : Nat → Int) : ∀ n i, sf g i (n + 1) = sf g i n + g (i + n)
  | 0, i => by simp [sf]
  | n + 1, i => by
    rw [sf, sf_snoc g n (i + 1), sf, show i + 1 + n = i + (n + 1) by omega]
    omega
theorem sf_shift {f g : Nat → Int} {s : Nat} (h : ∀ j, f j = g (j + s)) : ∀ n i, sf f i n = sf g (i + s) n
  | 0, _ => rfl
  | n + 1, i => by rw [sf, sf, h, sf_shift h n (i + 1), show i + 1 + s = i + s + 1 by omega]
theorem wOf_drop (rows : List (List Int)) (s : Nat) (l : List Int) (j : Nat) : wOf (rows.drop s) l j = wOf rows l (j + s) := by
  unfold wOf
  rw [List.getD_eq_getElem?_getD, List.getD_eq_getElem?_getD, List.getElem?_drop, Nat.add_comm]
theorem Sv_drop (rows : List (List Int)) (s : Nat) : ∀ (k : Wd) (i : Nat), Sv (wOf (rows.drop s)) (rows.length - s) k i = Sv (wOf rows) rows.length k (i + s)
  | [], _ => rfl
  | l :: k, i => by
    rw [Sv, Sv, show rows.length - s - i = rows.length - (i + s) by omega]
    refine sf_shift (fun j => ?_) _ _
    rw [wOf_drop, Sv_drop rows s k, show j + 1 + s = j + s + 1 by omega]
theorem shaped_word (k : Wd) : SeqAt.shaped (dWord k) = true := by
  unfold SeqAt.shaped dWord
  have := deep_lines k
  simp [PyData.canLay0, PyData.depth, lay_linesF]
  omega
theorem Paired.drop {α β : Type} {R : α → β → Prop} {xs : List α} {ys : List β} (r : Paired R xs ys) : ∀ n : Nat, Paired R (xs.drop n) (ys.drop n) := by
  induction r with
  | nil => intro n; simp; exact .nil
  | cons h t ih =>
    intro n
    cases n with
    | zero => exact .cons h t
    | succ n => exact ih n
theorem cut_nat (xs : List V) (n : Nat) (h : n ≤ xs.length) : cutV xs (some (n : Int)) none = xs.drop n := by
  unfold cutV
  rw [HT.sIx_nat, HT.sIx_none, Nat.min_eq_left h, List.take_of_length_le (by rw [List.length_drop]; omega)]
abbrev sSu : Stmt := top 37
abbrev nSu : List Str := ["_law_letters", "_law_row_here", "_law_found", "_law_at", "_law_worth_here"]
theorem scSu : FnScope nSu ["_law_letters", "_law_row_here"] (defScope sSu) := ⟨rfl, rfl, rfl, by decide +kernel, rfl, by decide +kernel, by decide +kernel⟩
/-- of fewer than d letters -/
def spSu (K : PySem.W.Frag) : Nat → Sp
  | 0 => fun _ _ _ _ => False
  | d + 1 => fun vs H Q _ => ∃ (b r : Addr) (k : Wd) (rows : List (List Int)) (n : Nat), vs = [.ref b, .ref r] ∧ NKey K H k b ∧ k.length ≤ d ∧ d ≤ 10 ∧ RwAt K H r rows ∧ RwOk n rows ∧ (∀ l ∈ k, l.length = n ∧ ExOk l) ∧
    ∀ H', Same H H' → Q (.int (Sv (wOf rows) rows.length k 0)) H'
section
variable {P : Program} {w : World} {K : PySem.W.Frag} {mg : Str → Option Value} {base : Heap}
theorem ok_su {f fL : Addr} {fd dL : FuncData} (F : Fun K "_law_sum" "_law_sum" sSu f fd) (N : Nm mg) (mS : mg "_law_sum" = some (.ref f)) (kS : PySem.W.keepIn K (.ref f) = true) (bS : Binds K fd ["_law_letters", "_law_row_here"] [])
    (GL : FnOk P w K mg base CX0 1 fL dL ["_law_letter_here", "_law_cell_here"] (spLw K)) (mL : mg "_law_letter_at" = some (.ref fL)) (kL : PySem.W.keepIn K (.ref fL) = true) (bL : Binds K dL ["_law_letter_here", "_law_cell_here"] []) :
    ∀ d : Nat, FnOk P w K mg base CX0 (1 + d) f fd ["_law_letters", "_law_row_here"] (spSu K d)
  | 0 => ⟨fun _ _ _ _ h => h.elim, fun _ _ _ _ _ _ _ _ _ _ _ _ _ h => h.elim⟩
  | d + 1 => by
    have GS := ok_su F N mS kS bS GL mL kL bL d
    refine F.ok scSu (fun vs H Q E h => ?_) fun cdv A outer s H vs Q E hr h => ?_
    · obtain ⟨b, r, k, rows, n, rfl, _⟩ := h
      rfl
    · have hr1 := hr.mono (show 1 ≤ 1 + d by omega)
      have hu := hr.units
      obtain ⟨b, r, k, rows, n, rfl, hk, hkd, hd, hrw, hro, hex, q⟩ := h
      refine ⟨_, pss_cons (ps_if (pt_cmpR (Vf.op_eqD hu) (pv 0) (pe_tup pa_nil) (nomark _)) (pss_one (ps_ret pe_int)) pss_nil)
        (pss_cons (ps_set (i := 2) scSu.nd rfl (.inl rfl) pe_int)
        (pss_cons (ps_for PassesOwn.never rfl (pi_range1 (by rfl) N.rng (pa_cons (pe_callB call_len_seq (by rfl) N.len PySem.boot_len (pa_cons (pv 1) pa_nil)) pa_nil)) (pg_name (i := 3) scSu.nd rfl (Or.inl rfl))
          (pss_cons (ps_set (i := 4) scSu.nd rfl (.inl rfl) (pe_call GL hr1 rfl mL kL bL .nil pass0 (pa_cons (pe_ix ix_tup (pv 0) pe_int (fun _ _ => rfl)) (pa_cons (pe_ix ix_list (pv 1) (pv 3) (fun _ _ => rfl)) pa_nil))))
          (pss_one (ps_if (pt_cmp (pc_neI (pv 4) pe_int)) (pss_one (ps_set (i := 2) scSu.nd rfl (.inl rfl) (pe_op op_add (pv 2) (pe_op op_mulX (pv 4) (pe_call GS hr rfl mS kS bS .nil pass0 (pa_cons (pe_slice sl_tup (pv 0) (po_some pe_int) po_none)
            (pa_cons (pe_slice sl_list (pv 1) (po_some (pe_op op_add (pv 3) pe_int)) po_none) pa_nil))))))) pss_nil))))
        (pss_one (ps_ret (pv 2))))), ?_⟩
      refine ⟨_, rfl, by show 0 ≤ sizeLine; omega, fun e0 he0 => ?_⟩
      have s0 := same_new (o := .tup []) he0
      refine ⟨dWord k, .tuple [], [], [], word_sh (nKey_ext (.of s0) hk), .tup (SqT.of upd_same) .nil, shaped_word k, rfl, _, rfl, ?_⟩
      have ee : PyData.eqv (dWord k) (.tuple []) = decide (k = []) := eqv_word k []
      rw [if_neg Bool.false_ne_true, ee]
      obtain ⟨cs, hc1, hc2⟩ := hrw.same s0
      have hcl : cs.length = rows.length := Paired.length hc2
      cases k with
      | nil => exact iteT (q _ s0)
      | cons l k =>
        refine iteF ?_
        obtain ⟨bs, hb, hbs⟩ := nKey_ext (.of s0) hk
        cases hbs with
        | @cons b0 _ br _ hb0 hbr =>
        obtain ⟨hln, hle⟩ := hex l List.mem_cons_self
        generalize hH0 : upd H e0 (.tup []) = H0 at *
        refine ⟨_, rfl, r, cs.map V.ref, rfl, .inl (SqL.of hc1), rows.length, by rw [List.length_map, hcl], by have := hro.1; omega, by have := hro.1; omega, ?_⟩
        refine for_range (lo := 0) (n := rows.length) (fun i σ H' => Same H0 H' ∧ ∃ o3 o4, σ = [some (.ref b), some (.ref r), some (.int (sf (fun j => wOf rows l j * Sv (wOf rows) rows.length k (j + 1)) 0 i)), o3, o4]) ?_ (fun i σ H1 hi hP => ?_) fun σ H1 hP => ?_
        · exact ⟨.refl _, _, _, rfl⟩
        · obtain ⟨s1, o3, o4, rfl⟩ := hP
          have hri : rows[i]? = some rows[i] := List.getElem?_eq_getElem hi
          generalize rows[i] = ps at hri
          have hci : cs[i]? = some (cs[i]'(by omega)) := List.getElem?_eq_getElem (by omega)
          generalize cs[i]'(by omega) = c at hci
          obtain ⟨ps', hps', hcs⟩ := Paired.idx hc2 hci
          rw [hri] at hps'
          cases hps'
          obtain ⟨hpn, hpo⟩ := hro.2 ps (List.mem_of_getElem? hri)
          have ew : wOf rows l i = lw l ps := by unfold wOf; rw [if_pos hle, List.getD_eq_getElem?_getD, hri]; rfl
          have esn := sf_snoc (fun j => wOf rows l j * Sv (wOf rows) rows.length k (j + 1)) i 0
          rw [Nat.zero_add, ew] at esn
          refine ⟨_, rfl, b, _, 0, .ref b0, rfl, rfl, sqT_ext (.of s1) hb, at0 _ _, _, rfl, _, rfl, r, _, ((0 : Int) + (i : Nat)), .ref c, rfl, rfl, SqL.of (s1 _ _ hc1), ?_, ?_⟩
          · rw [Int.zero_add]; exact atI_nat (by rw [List.getElem?_map, hci]; rfl)
          refine ⟨b0, c, l, ps, rfl, sqT_ext (.of s1) hb0, sqT_ext (.of s1) hcs, by rw [hln, hpn], hle, hpo, fun H2 s2 => ?_⟩
          have s12 := s1.trans s2
          refine ⟨_, rfl, lw l ps, 0, rfl, rfl, _, rfl, ?_⟩
          show (if (!decide (lw l ps = 0)) = true then _ else _)
          by_cases z : lw l ps = 0
          · rw [decide_eq_true z]
            refine iteF ⟨s12, some (.int (0 + (i : Int))), some (.int (lw l ps)), ?_⟩
            rw [esn, z, Int.zero_mul, Int.add_zero]
            rfl
          · rw [decide_eq_false z]
            refine iteT ?_
            obtain ⟨d', rfl⟩ : ∃ d', d = d' + 1 := ⟨d - 1, by simp only [List.length_cons] at hkd; omega⟩
            refine ⟨_, rfl, _, rfl, _, rfl, 1, rfl, b, _, rfl, sqT_ext (.of s12) hb, ?_, fun T hT => ?_⟩
            · rintro ⟨z, _⟩
              have e1 : HT.sIx ((b0 :: br).map V.ref).length 0 (some 1) = min 1 ((b0 :: br).map V.ref).length := HT.sIx_nat _ _ 1
              rw [e1] at z
              simp at z
            have eT : cutV ((b0 :: br).map V.ref) (some 1) none = br.map V.ref := by rw [cut_one]; rfl
            rw [eT] at *
            have s3 := s12.trans (same_new (o := .tup (br.map V.ref)) hT)
            have eT3 : (upd H2 T (.tup (br.map V.ref))) T = some (.tup (br.map V.ref)) := upd_same
            generalize upd H2 T (.tup (br.map V.ref)) = H3 at s3 eT3 ⊢
            refine ⟨_, rfl, _, rfl, _, _, rfl, rfl, _, rfl, r, _, rfl, SqL.of (s3 _ _ hc1), fun S hS => ?_⟩
            have eS : cutV (cs.map V.ref) (some (0 + (i : Int) + 1)) none = (cs.drop (i + 1)).map V.ref := by
              rw [show (0 + (i : Int) + 1) = ((i + 1 : Nat) : Int) by omega, cut_nat _ _ (by rw [List.length_map]; omega), List.map_drop]
            rw [eS] at *
            have s4 := s3.trans (same_new (o := .lst ((cs.drop (i + 1)).map V.ref)) hS)
            have s34 := same_new (o := .lst ((cs.drop (i + 1)).map V.ref)) hS
            refine ⟨T, S, k, rows.drop (i + 1), n, rfl, ⟨br, SqT.of (s34 _ _ eT3), Paired.mapP hbr fun _ _ e => sqT_ext (.of s4) e⟩, by simp only [List.length_cons] at hkd; omega, by omega, ⟨cs.drop (i + 1), upd_same, Paired.mapP (Paired.drop hc2 (i + 1)) fun _ _ e => sqT_ext (.of s4) e⟩,
              ⟨by have := hro.1; rw [List.length_drop]; omega, fun x hx => hro.2 x (List.mem_of_mem_drop hx)⟩, fun l' hl' => hex l' (List.mem_cons_of_mem _ hl'), fun H5 s5 => ?_⟩
            have eSv : Sv (wOf (rows.drop (i + 1))) (rows.drop (i + 1)).length k 0 = Sv (wOf rows) rows.length k (i + 1) := by
              rw [List.length_drop, Sv_drop, Nat.zero_add]
            rw [eSv]
            refine ⟨_, _, rfl, rfl, mulX (lw_abs hle hpo) (Sv_abs hro.1 (wOf_abs hro) k (i + 1)) (by simp only [List.length_cons] at hkd; omega), _, _, rfl, rfl, s4.trans s5, some (.int (0 + (i : Int))), some (.int (lw l ps)), ?_⟩
            rw [esn]
            rfl
        · obtain ⟨s1, o3, o4, rfl⟩ := hP
          refine ⟨_, rfl, ?_⟩
          exact q H1 (s0.trans s1)
end
end L2.Fo

/-! # terms put together: told by their coefficients -/
namespace L2.Nk
open PySem PySem.Spec PyProof.Rows PySem.W
/-- the sum of the coefficients of a word -/
def coef : List (Int × Wd) → Wd → Int
  | [], _ => 0
  | t :: ts, k => (if t.2 = k then t.1 else 0) + coef ts k
theorem coef_app : ∀ (a b : List (Int × Wd)) (k : Wd), coef (a ++ b) k = coef a k + coef b k
  | [], b, k => by simp [coef]
  | t :: a, b, k => by
    rw [List.cons_append, coef, coef, coef_app a b k]
    omega
theorem coef_perm {a b : List (Int × Wd)} (h : a.Perm b) (k : Wd) : coef a k = coef b k := by
  induction h with
  | nil => rfl
  | cons x _ ih => rw [coef, coef, ih]
  | swap x y l => rw [coef, coef, coef, coef]; omega
  | trans _ _ i j => rw [i, j]
theorem getS_cons (p : Wd × Int) (ys : Sm) (k : Wd) : getS (p :: ys) k = if p.1 = k then p.2 else getS ys k := by
  unfold getS
  rw [List.find?_cons]
  by_cases z : p.1 = k
  · simp [z]
  · simp [z]
theorem getS_no : ∀ {ys : Sm} {k : Wd}, (ys.any fun p => decide (p.1 = k)) = false → getS ys k = 0
  | [], _, _ => rfl
  | p :: ys, k, h => by
    rw [List.any_cons, Bool.or_eq_false_iff] at h
    rw [getS_cons, if_neg (by simpa using h.1), getS_no h.2]
theorem getS_map (ys : Sm) (k k' : Wd) (n : Int) (h : (ys.any fun p => decide (p.1 = k)) = true) : getS (ys.map fun p => if p.1 = k then (p.1, n) else p) k' = if k = k' then n else getS ys k' := by
  induction ys with
  | nil => simp at h
  | cons p ys ih =>
    rw [List.map_cons, getS_cons, getS_cons]
    by_cases z : p.1 = k
    · rw [if_pos z]
      show (if p.1 = k' then n else _) = _
      by_cases z2 : k = k'
      · rw [if_pos z2, if_pos (z.trans z2)]
      · rw [if_neg z2, if_neg (fun e => z2 (z.symm.trans e)), if_neg (fun e => z2 (z.symm.trans e))]
        cases hq : (ys.any fun p => decide (p.1 = k)) with
        | true => rw [ih hq, if_neg z2]
        | false =>
          have : (ys.map fun p => if p.1 = k then (p.1, n) else p) = ys := by
            have hall : ∀ q ∈ ys, ¬ q.1 = k := fun q hq' e => by
              have : (ys.any fun p => decide (p.1 = k)) = true := List.any_eq_true.mpr ⟨q, hq', by simp [e]⟩
              rw [hq] at this
              cases this
            conv => rhs; rw [← List.map_id ys]
            exact List.map_congr_left fun q hq' => by rw [if_neg (hall q hq')]; rfl
          rw [this]
    · rw [if_neg z]
      rw [List.any_cons] at h
      have h' : (ys.any fun p => decide (p.1 = k)) = true := by simpa [z] using h
      rw [ih h']
      by_cases z2 : k = k'
      · rw [if_pos z2, if_pos z2, if_neg (fun e => z (e.trans z2.symm))]
      · rw [if_neg z2, if_neg z2]
theorem getS_snoc (ys : Sm) (k k' : Wd) (n : Int) (h : (ys.any fun p => decide (p.1 = k)) = false) : getS (ys ++ [(k, n)]) k' = if k = k' then n else getS ys k' := by
  induction ys with
  | nil => rw [List.nil_append, getS_cons]
  | cons p ys ih =>
    rw [List.any_cons, Bool.or_eq_false_iff] at h
    have z : ¬ p.1 = k := by simpa using h.1
    rw [List.cons_append, getS_cons, getS_cons, ih h.2]
    by_cases z2 : k = k'
    · rw [if_pos z2, if_pos z2, if_neg (fun e => z (e.trans z2.symm))]
    · rw [if_neg z2, if_neg z2]
theorem getS_add (ys : Sm) (c : Int) (k k' : Wd) : getS (addS ys c k) k' = getS ys k' + if k = k' then c else 0 := by
  unfold addS
  cases hq : (ys.any fun p => decide (p.1 = k)) with
  | true =>
    rw [if_pos rfl, getS_map ys k k' _ hq]
    by_cases z : k = k'
    · subst z; simp
    · simp [z]
  | false =>
    rw [if_neg Bool.false_ne_true, getS_snoc ys k k' _ hq]
    by_cases z : k = k'
    · subst z; simp
    · simp [z]
theorem fold_get (k : Wd) : ∀ (ts : List (Int × Wd)) (ys : Sm), getS (ts.foldl (fun ys t => addS ys t.1 t.2) ys) k = getS ys k + coef ts k
  | [], ys => by simp [coef]
  | t :: ts, ys => by
    rw [List.foldl_cons, fold_get k ts, getS_add, coef]
    omega
theorem get_sums (ts : List (Int × Wd)) (k : Wd) : getS (sumsOf ts) k = coef ts k := by
  unfold sumsOf
  rw [fold_get]
  have : getS [] k = 0 := rfl
  rw [this]
  omega
theorem some_cons (p : Wd × Int) (ys : Sm) : someOf (p :: ys) = (if p.2 = 0 then [] else [(p.2, p.1)]) ++ someOf ys := by
  unfold someOf
  rw [List.filter_cons]
  by_cases z : p.2 = 0
  · simp [z]
  · simp [z]
theorem coef_some : ∀ (ys : Sm), (ys.map (·.1)).Nodup → ∀ k, coef (someOf ys) k = getS ys k
  | [], _, k => rfl
  | p :: ys, h, k => by
    rw [List.map_cons, List.nodup_cons] at h
    rw [some_cons, coef_app, coef_some ys h.2, getS_cons]
    by_cases z : p.1 = k
    · rw [if_pos z]
      have hn : getS ys k = 0 := getS_no (by
        rw [Bool.eq_false_iff]
        intro hq
        obtain ⟨q, hq1, hq2⟩ := List.any_eq_true.mp hq
        exact h.1 (List.mem_map.mpr ⟨q, hq1, by rw [z]; simpa using hq2⟩))
      rw [hn]
      by_cases z2 : p.2 = 0
      · simp [z2, coef]
      · simp [z2, coef, z]
    · rw [if_neg z]
      by_cases z2 : p.2 = 0
      · simp [z2, coef]
      · simp [z2, coef, z]
theorem mem_some {ys : Sm} (h : (ys.map (·.1)).Nodup) (t : Int × Wd) : t ∈ someOf ys ↔ t.1 ≠ 0 ∧ getS ys t.2 = t.1 := by
  unfold someOf
  rw [List.mem_map]
  constructor
  · rintro ⟨p, hp, rfl⟩
    rw [List.mem_filter] at hp
    exact ⟨by simpa using hp.2, getS_mem h hp.1⟩
  · rintro ⟨h1, h2⟩
    have : (ys.any fun p => decide (p.1 = t.2)) = true := by
      cases hq : (ys.any fun p => decide (p.1 = t.2)) with
      | true => rfl
      | false => rw [getS_no hq] at h2; exact absurd h2.symm h1
    obtain ⟨p, hp, e⟩ := List.any_eq_true.mp this
    have e' : p.1 = t.2 := by simpa using e
    have h3 : getS ys p.1 = p.2 := getS_mem h hp
    rw [e', h2] at h3
    refine ⟨p, List.mem_filter.mpr ⟨hp, by rw [← h3]; simpa using h1⟩, ?_⟩
    rw [← h3, e']
theorem nodup_some {ys : Sm} (h : (ys.map (·.1)).Nodup) : (someOf ys).Nodup ∧ ((someOf ys).map (·.2)).Nodup := by
  have h2 : ((someOf ys).map (·.2)).Nodup := by
    have : (someOf ys).map (·.2) = (ys.filter fun p => !decide (p.2 = 0)).map (·.1) := by
      unfold someOf
      rw [List.map_map]
      rfl
    rw [this]
    exact List.Nodup.sublist (List.Sublist.map _ List.filter_sublist) h
  refine ⟨?_, h2⟩
  exact List.Pairwise.of_map (fun t : Int × Wd => t.2) (fun a b h e => h (by rw [e])) h2
/-! ### the order tells words apart -/
theorem lex_nil (x : Int ⊕ List Nat) : PyProof.Rows.lexLt itemOrd [] [x] = true := by rfl
theorem key_inj {a b : Wd} (h : keyToks (dKey a) = keyToks (dKey b)) : a = b := by
  have al := alike_keys a b
  have e : PyData.eqv (dKey a) (dKey b) = true := by
    cases hq : PyData.eqv (dKey a) (dKey b) with
    | true => rfl
    | false =>
      have := (toks_eqv _ _ al).2 hq [] [.inl 0]
      rw [h, lex_pre, lex_nil] at this
      rw [show PyProof.Rows.lexLt itemOrd (keyToks (dKey b)) (keyToks (dKey b)) = false from lex_irrefl _] at this
      cases this
  have e2 : PyData.eqv (dWord a) (dWord b) = true := by
    have : PyData.eqv (dKey a) (dKey b) = (PyData.eqv (.int a.length) (.int b.length) && PyData.eqv (dWord a) (dWord b)) := by
      show PyData.eqv (.tuple [.int a.length, dWord a]) (.tuple [.int b.length, dWord b]) = _
      simp only [PyData.eqv, PyData.eqvAll, Bool.and_true]
    rw [this, Bool.and_eq_true] at e
    exact e.2
  rw [Fo.eqv_word] at e2
  exact of_decide_eq_true e2
theorem le_anti {a b : Int × Wd} (h1 : dataLe false (fun t : Int × Wd => dKey t.2) a b = true) (h2 : dataLe false (fun t : Int × Wd => dKey t.2) b a = true) : a.2 = b.2 := by
  rw [dataLe_eq] at h1 h2
  have g1 : dataLt (dKey b.2) (dKey a.2) = false := by simpa using h1
  have g2 : dataLt (dKey a.2) (dKey b.2) = false := by simpa using h2
  exact key_inj (lex_total (O := itemOrd) _ _ g2 g1)
theorem coef_together (ts : List (Int × Wd)) (k : Wd) : coef (together ts) k = coef ts k := by
  unfold together
  rw [coef_perm (List.mergeSort_perm _ _), coef_some _ (sums_nodup ts), get_sums]
/-- the coefficients tell all -/
theorem together_eq {ts us : List (Int × Wd)} (h : ∀ k, coef ts k = coef us k) : together ts = together us := by
  have n1 := nodup_some (sums_nodup ts)
  have n2 := nodup_some (sums_nodup us)
  have pm : (someOf (sumsOf ts)).Perm (someOf (sumsOf us)) := (List.perm_ext_iff_of_nodup n1.1 n2.1).mpr fun t => by
    rw [mem_some (sums_nodup ts), mem_some (sums_nodup us), get_sums, get_sums, h]
  unfold together
  have tot := sortLe_total (listOrd itemOrd) false fun t : Int × Wd => keyToks (dKey t.2)
  refine List.Perm.eq_of_pairwise (le := fun a b => dataLe false (fun t : Int × Wd => dKey t.2) a b = true) (fun a b ha hb h1 h2 => ?_) (sort_pairwise tot _) (sort_pairwise tot _) (((List.mergeSort_perm _ _).trans pm).trans (List.mergeSort_perm _ _).symm)
  have e := le_anti h1 h2
  have ma := (mem_some (sums_nodup ts) a).mp (List.mem_mergeSort.mp ha)
  have mb := (mem_some (sums_nodup us) b).mp (List.mem_mergeSort.mp hb)
  refine Prod.ext ?_ e
  rw [← ma.2, ← mb.2, get_sums, get_sums, h, e]
theorem together_ne {ts us : List (Int × Wd)} {k : Wd} (h : coef ts k ≠ coef us k) : together ts ≠ together us := fun e => h (by rw [← coef_together ts, ← coef_together us, e])
theorem mem_together {ts : List (Int × Wd)} {t : Int × Wd} (h : t ∈ together ts) : t.1 ≠ 0 ∧ coef ts t.2 = t.1 := by
  unfold together at h
  have := (mem_some (sums_nodup ts) t).mp (List.mem_mergeSort.mp h)
  rw [get_sums] at this
  exact this
theorem nodup_together (ts : List (Int × Wd)) : ((together ts).map (·.2)).Nodup := by
  unfold together
  exact ((List.mergeSort_perm _ _).map _).nodup_iff.mpr (nodup_some (sums_nodup ts)).2
theorem together_len (ts : List (Int × Wd)) : (together ts).length ≤ ts.length := by
  unfold together
  rw [List.length_mergeSort]
  unfold someOf
  rw [List.length_map]
  exact Nat.le_trans (List.length_filter_le _ _) (sums_len ts)
end L2.Nk

set_option exponentiation.threshold 2000
/-! # the law's own worths, 3 -/
namespace L2.Fo
open PySem PySem.Spec PyProof.Rows L2.Vf L2.Dw L2.Ch L2.Nk RZ
abbrev sWo : Stmt := top 38
abbrev nWo : List Str := ["_law_terms_here", "_law_row_here", "_law_coefficient", "_law_letters"]
theorem scWo : FnScope nWo ["_law_terms_here", "_law_row_here"] (defScope sWo) := ⟨rfl, rfl, rfl, by decide +kernel, rfl, by decide +kernel, by decide +kernel⟩
def spWo (K : PySem.W.Frag) : Sp := fun vs H Q _ => ∃ (a r : Addr) (ts : List Trm) (rows : List (List Int)) (n : Nat), vs = [.ref a, .ref r] ∧ H a = some (.lst (ts.map fun t => V.ref t.1)) ∧ (∀ t ∈ ts, TmAt K H t) ∧ RwAt K H r rows ∧ RwOk n rows ∧ TmOk n (ts.map (·.2)) ∧
  ∀ H', Same H H' → Q (.int (atW (ts.map (·.2)) rows)) H'
section
variable {P : Program} {w : World} {K : PySem.W.Frag} {mg : Str → Option Value} {base : Heap}
theorem ok_wo {f fS : Addr} {fd dS : FuncData} (F : Fun K "_law_worth" "_law_worth" sWo f fd) (N : Nm mg)
    (GS : FnOk P w K mg base CX0 10 fS dS ["_law_letters", "_law_row_here"] (spSu K 9)) (mS : mg "_law_sum" = some (.ref fS)) (kS : PySem.W.keepIn K (.ref fS) = true) (bS : Binds K dS ["_law_letters", "_law_row_here"] []) :
    FnOk P w K mg base CX0 11 f fd ["_law_terms_here", "_law_row_here"] (spWo K) := by
  refine F.ok scWo (fun vs H Q E h => ?_) fun cdv A outer s H vs Q E hr h => ?_
  · obtain ⟨a, r, ts, rows, n, rfl, _⟩ := h
    rfl
  · obtain ⟨a, r, ts, rows, n, rfl, ha, ht, hrw, hro, htm, q⟩ := h
    refine ⟨_, pss_one (ps_ret (pe_callB (cr_sum rfl) (by rfl) N.sum Dw.boot_sum (pa_cons (pe_lc (own := [("_law_coefficient", 2), ("_law_letters", 3)]) (g := gTup K 2 (gCons (gName 2) (gCons (gName 3) gNil))) (tt := tYes) (te := tOp (rI CMulX fun i j => .int (i * j)) (tVar 2) (tCall (spSu K 9) [] E0 (tCons (tVar 3) (tCons (tVar 1) tNil)))) rfl scWo.nd
      (pi_list (pv 0)) (blkOk_by (N := nWo) (sc := defScope sWo) (by decide +kernel)) (fun _ _ _ _ _ => pg_tup rfl (pgs_cons (pg_name (i := 2) scWo.nd rfl (Or.inl rfl)) (pgs_cons (pg_name (i := 3) scWo.nd rfl (Or.inl rfl)) pgs_nil)))
      (fun _ _ _ _ _ => pts_nil) (fun _ _ _ _ _ => pe_op op_mulX (pv 2) (pe_call GS hr rfl mS kS bS .nil pass0 (pa_cons (pv 3) (pa_cons (pv 1) pa_nil))))) pa_nil))), ?_⟩
    refine ⟨_, rfl, a, rfl, ⟨_, SqL.of ha⟩, fun D hD => ?_⟩
    refine lc_list (xs := ts.map fun t => V.ref t.1) (fun i H2 => Same H H2 ∧ H2 D = some (.lst ((((ts.take i).map (·.2)).map fun t => t.1 * Sv (wOf rows) rows.length t.2 0).map V.int))) ?_ ?_ ?_ ?_
    · exact ⟨same_new hD, upd_same⟩
    · rintro i H2 _ ⟨s2, _⟩
      exact SqL.of (s2 _ _ ha)
    · rintro i x H2 hx ⟨s2, e2⟩
      have hi : i < (ts.map fun r => V.ref r.1).length := (List.getElem?_eq_some_iff.mp hx).1
      rw [List.length_map] at hi
      rw [List.getElem?_map] at hx
      obtain ⟨t, hti, rfl⟩ := Option.map_eq_some_iff.mp hx
      have htmem := List.mem_of_getElem? hti
      obtain ⟨b, g1, g2⟩ := TmAt.ext (.of s2) (ht t htmem)
      obtain ⟨hu1, hu2, hu3⟩ := htm.2 t.2 (List.mem_map.mpr ⟨t, htmem, rfl⟩)
      have hln : ts.length ≤ 4000 := by have := htm.1; rw [List.length_map] at this; exact this
      refine ⟨t.1, _, rfl, g1, rfl, _, _, rfl, _, _, rfl, rfl, rfl, ?_⟩
      refine ⟨_, rfl, _, rfl, _, rfl, b, r, t.2.2, rows, n, rfl, g2, hu2, by decide, hrw.same s2, hro, hu3, fun H3 s3 => ?_⟩
      refine ⟨_, _, rfl, rfl, mulX hu1 (Sv_abs hro.1 (wOf_abs hro) t.2.2 0) (by omega), ?_⟩
      refine ⟨_, s3 _ _ e2, by rw [List.length_map, List.length_map, List.length_map, List.length_take, sizeLine_eq]; omega, same_wr (s2.trans s3) hD, ?_⟩
      rw [upd_same]
      have e : (ts.take (i + 1)).map (·.2) = (ts.take i).map (·.2) ++ [t.2] := by rw [List.take_add_one, hti]; simp
      rw [e]
      simp
    · rintro H2 ⟨s2, e2⟩
      have e : (ts.take (ts.map fun t => V.ref t.1).length).map (·.2) = ts.map (·.2) := by rw [List.length_map, List.take_length]
      rw [e] at e2
      exact ⟨D, _, rfl, SqL.of e2, q H2 s2⟩
end
/-! ### terms put together have the same worths -/
theorem tv_app (W : Wf) (m : Nat) (a b : List (Int × Wd)) (i : Nat) : tv W m (a ++ b) i = tv W m a i + tv W m b i := by simp [tv]
theorem tv_out (W : Wf) (m i : Nat) (k : Wd) : ∀ ts : List (Int × Wd), tv W m ts i = coef ts k * Sv W m k i + tv W m (ts.filter fun t => decide (t.2 ≠ k)) i
  | [] => by simp [tv, coef]
  | t :: ts => by
    have ih := tv_out W m i k ts
    unfold tv at ih ⊢
    rw [List.map_cons, List.sum_cons, ih, coef]
    by_cases z : t.2 = k
    · rw [if_pos z, List.filter_cons_of_neg (by simp [z]), Int.add_mul, z]
      omega
    · rw [if_neg z, List.filter_cons_of_pos (by simp [z]), List.map_cons, List.sum_cons, Int.add_mul]
      omega
theorem coef_filter (k k' : Wd) : ∀ ts : List (Int × Wd), coef (ts.filter fun t => decide (t.2 ≠ k)) k' = if k' = k then 0 else coef ts k'
  | [] => by simp [coef]
  | t :: ts => by
    have ih := coef_filter k k' ts
    by_cases z : t.2 = k
    · rw [List.filter_cons_of_neg (by simp [z]), ih, coef]
      by_cases y : k' = k
      · rw [if_pos y, if_pos y]
      · rw [if_neg y, if_neg y, if_neg (show ¬ t.2 = k' from fun q => y (q.symm.trans z))]; omega
    · rw [List.filter_cons_of_pos (by simp [z]), coef, coef, ih]
      by_cases y : k' = k
      · rw [if_pos y, if_pos y, if_neg (fun q => z (q.trans y))]; omega
      · rw [if_neg y, if_neg y]
theorem tv_zero (W : Wf) (m i : Nat) : ∀ (n : Nat) (ts : List (Int × Wd)), ts.length ≤ n → (∀ k, coef ts k = 0) → tv W m ts i = 0
  | _, [], _, _ => by simp [tv]
  | 0, _ :: _, h, _ => absurd h (by simp)
  | n + 1, t :: ts, h, hc => by
    rw [tv_out W m i t.2, hc, Int.zero_mul, Int.zero_add]
    refine tv_zero W m i n _ ?_ fun k => ?_
    · rw [List.filter_cons_of_neg (by simp)]
      have := List.length_filter_le (fun u : Int × Wd => decide (u.2 ≠ t.2)) ts
      simp only [List.length_cons] at h
      omega
    · rw [coef_filter]
      split
      · rfl
      · exact hc k
theorem coef_neg : ∀ (ts : List (Int × Wd)) (k : Wd), coef (ts.map fun t => (-t.1, t.2)) k = -coef ts k
  | [], _ => by simp [coef]
  | t :: ts, k => by
    have ih := coef_neg ts k
    rw [List.map_cons, coef, coef, ih]
    by_cases z : t.2 = k
    · rw [if_pos z, if_pos z]; omega
    · rw [if_neg z, if_neg z]; omega
theorem tv_neg (W : Wf) (m i : Nat) : ∀ ts : List (Int × Wd), tv W m (ts.map fun t => (-t.1, t.2)) i = -tv W m ts i
  | [] => by simp [tv]
  | t :: ts => by
    have ih := tv_neg W m i ts
    unfold tv at ih ⊢
    rw [List.map_cons, List.map_cons, List.sum_cons, ih, List.map_cons, List.sum_cons]
    show -t.1 * Sv W m t.2 i + _ = _
    rw [Int.neg_mul]
    omega
theorem tv_coef (W : Wf) (m i : Nat) {a b : List (Int × Wd)} (h : ∀ k, coef a k = coef b k) : tv W m a i = tv W m b i := by
  have z := tv_zero W m i _ (a ++ b.map fun t => (-t.1, t.2)) (Nat.le_refl _) fun k => by
    rw [coef_app, coef_neg, h]
    omega
  rw [tv_app, tv_neg] at z
  omega
theorem atW_together (us : List (Int × Wd)) (rows : List (List Int)) : atW (together us) rows = atW us rows := tv_coef _ _ _ fun k => coef_together us k
end L2.Fo

/-! # own operators: x op y, -x, n * x, x op= y -/
namespace PySem.VfE
open PySem PySem.Spec PySem.Calls PyProof.Rows PySem.W PySem.SeqAt AutoSeq1 MeetsSeq
section
variable {prog : Program} {w : World} {A : Around} {E : Value → Shared → Prop} {s : Shared} {K : Frag} {x C f : Addr} {ox : Obj} {od : Option Obj} {b : Value} {nm : String}
theorem bin1_K {Q : Value → Shared → Prop} (X : K.In s.heap) (I : InstAt s.heap x ox C od) (hb : Looks (model prog w) s.heap (typeOf b) (.ref C)) (hc : selfFirst K C = true)
    (hs : findIn K (.ref C) (PySem.dunder nm) = some (some (.ref f))) (hf : isFn K (.ref f) = true)
    (h : wpAny (model prog w) A (call (.ref f) [.ref x, b]) (PySem.W.CmpBack Q) E s) : wpAny (model prog w) A (binaryOp1 nm (.ref x) b) (fun r s' => ∃ v, r = some v ∧ Q v s') E s := by
  obtain ⟨cd, rest, hcd, hm⟩ := ksp_first hc
  unfold binaryOp1
  refine wpAny_bind (I.type.here (wpAny_bind (hb.here (wpAny_bind ((fills_K X hcd hm hs).here ?_)))))
  simp only [beq_self_eq_true, if_true]
  refine wpAny_bind (wpAny_pure ?_)
  simp only [Bool.and_false, Bool.false_eq_true, if_false, Bool.false_and]
  refine wpAny_bind (wpAny_pure ?_)
  simp only [Bool.false_eq_true, if_false]
  refine wpAny_bind (m := tryMethod (.ref x) _ b) ?_
  unfold tryMethod
  refine wpAny_bind (special_fn X I hs (beq_iff_eq.mp hf) (wpAny_mono h (fun v s' hv => ?_) fun _ _ e => e))
  cases v <;> first | exact hv.elim | exact wpAny_pure (wpAny_pure ⟨_, rfl, hv⟩)
theorem binop_own {op : Operator} {Q : Value → Shared → Prop} (X : K.In s.heap) (I : InstAt s.heap x ox C od) (hb : Looks (model prog w) s.heap (typeOf b) (.ref C)) (hc : selfFirst K C = true)
    (hs : findIn K (.ref C) (PySem.dunder op.info.2) = some (some (.ref f))) (hf : isFn K (.ref f) = true)
    (h : wpAny (model prog w) A (call (.ref f) [.ref x, b]) (PySem.W.CmpBack Q) E s) : wpAny (model prog w) A (binaryOp op (.ref x) b) Q E s := by
  unfold binaryOp
  refine wpAny_holding (wpAny_bind (wpAny_mono (bin1_K X I hb hc hs hf h) (fun r s' hr => ?_) fun _ _ e => e))
  obtain ⟨v, rfl, hq⟩ := hr
  exact wpAny_pure hq
/-- a class over object alone -/
def baseOnly (K : Frag) (C : Addr) : Bool := (clsIn K C).any fun cd => cd.mro == [.ref C, .type "object"]
theorem baseOnly_mro (h : baseOnly K C = true) : ∃ cd, clsIn K C = some cd ∧ cd.mro = [.ref C, .type "object"] := by
  obtain ⟨cd, hcd, hm⟩ := any_some h
  exact ⟨cd, hcd, beq_iff_eq.mp hm⟩
theorem fillsI_no {M : Model} {h : Heap} {add : Bool} (X : K.In h) (hc : baseOnly K C = true) (h1 : findIn K (.ref C) (dunderI nm) = some none) (h2 : findIn K (.type "object") (dunderI nm) = some none) : Looks M h (fillsInplaceSlot (.ref C) nm add) false := by
  obtain ⟨cd, hcd, hm⟩ := baseOnly_mro hc
  intro A Q E s k q
  have Lm : Looks M h (mroOf (.ref C)) cd.mro := (looks_clsIn X hcd).andThen (f := fun cd => pure cd.mro) .now
  have Lm' := Lm.keeps k
  obtain ⟨hh, g, d, tt, os⟩ := s
  have X' : K.In hh := X.keeps k
  have L1 : Looks M hh (typeLookup (.ref C) (dunderI nm)) none := looks_findIn X' h1
  have L2 : Looks M hh (typeLookup (.type "object") (dunderI nm)) none := looks_findIn X' h2
  unfold fillsInplaceSlot
  refine wpAny_bind (Lm'.at ?_)
  rw [hm, List.anyM_cons]
  repeat lk
  exact q
theorem inplace_own {op : Operator} {Q : Value → Shared → Prop} (X : K.In s.heap) (I : InstAt s.heap x ox C od) (hb : Looks (model prog w) s.heap (typeOf b) (.ref C)) (hc : selfFirst K C = true) (ho : baseOnly K C = true)
    (h1 : findIn K (.ref C) (dunderI op.info.2) = some none) (h2 : findIn K (.type "object") (dunderI op.info.2) = some none)
    (hs : findIn K (.ref C) (PySem.dunder op.info.2) = some (some (.ref f))) (hf : isFn K (.ref f) = true)
    (h : wpAny (model prog w) A (call (.ref f) [.ref x, b]) (PySem.W.CmpBack Q) E s) : wpAny (model prog w) A (inplaceOp op (.ref x) b) Q E s := by
  unfold inplaceOp
  refine wpAny_holding (wpAny_bind (I.type.here (wpAny_bind ((fillsI_no X ho h1 h2).here ?_))))
  simp only [Bool.false_eq_true, if_false]
  refine wpAny_bind (wpAny_mono (bin1_K X I hb hc hs hf h) (fun r s' hr => ?_) fun _ _ e => e)
  obtain ⟨v, rfl, hq⟩ := hr
  exact wpAny_pure hq
theorem mul_decl (i : Int) (u : Tok) (a C dx : Addr) :
    Meets (Builtin.«int.__mul__» ⟨[.int i u, .ref a], []⟩) (fun _ R s => s.heap.get? a = some (instObj C dx) ∧ R (.ok (.ret .notImplemented)) s) :=
  .of_wp fun prog w A R s h => by obtain ⟨hp, g, d, tk, os⟩ := s; obtain ⟨hl, h⟩ := h; unfold instObj at hl; wp_walk using wpAny_load hl; exact ⟨_, rfl, h⟩
theorem mul_none {i : Int} {t : Tok} {dx : Addr} (hl : s.heap.get? x = some (instObj C dx)) : wpAny (model prog w) A (tryMethod (.int i t) (PySem.dunder "mul") (.ref x)) (fun r s' => r = none ∧ s' = s) E s := by
  unfold tryMethod
  refine wpAny_bind (wpAny_callSpecial?_slot (typeIs_int s i t) F.slot_int_mul (call_meets F.slot_int_mul (typeIs_int s i t) F.entry_int_mul (F.args_int_mul_2 _ _) (mul_decl i t x C dx) ⟨hl, ?_⟩))
  exact wpAny_pure ⟨rfl, rfl⟩
theorem rmul_own {i : Int} {t : Tok} {dx g : Addr} {Q : Value → Shared → Prop} (X : K.In s.heap) (I : InstAt s.heap x ox C od) (hl : s.heap.get? x = some (instObj C dx)) (hc : selfFirst K C = true) (hs : findIn K (.ref C) (PySem.dunder "mul") = some (some (.ref g)))
    (hr : findIn K (.ref C) (dunderR "mul") = some (some (.ref f))) (hf : isFn K (.ref f) = true) (hsub : subIn K (.ref C) (.type "int") = some false)
    (h : wpAny (model prog w) A (call (.ref f) [.ref x, .int i t]) (PySem.W.CmpBack Q) E s) : wpAny (model prog w) A (binaryOp .Mult (.int i t) (.ref x)) Q E s := by
  obtain ⟨cd, rest, hcd, hm⟩ := ksp_first hc
  have one := ksp_try (M := model prog w) X I hr hf h
  have two := mul_none (prog := prog) (w := w) (A := A) (E := E) (i := i) (t := t) hl
  obtain ⟨hh, gl, d, tt, os⟩ := s
  have L1 : Looks (model prog w) hh (typeOf (.int i t)) (.type "int") := Looks.of_pure rfl
  have L2 : Looks (model prog w) hh (typeOf (.ref x)) (.ref C) := I.type
  have L3 : Looks (model prog w) hh (fillsNumberSlot (.type "int") "mul") true := Looks.of_pure F.fills_int_mul
  have L4 : Looks (model prog w) hh (fillsNumberSlot (.ref C) "mul") true := fills_K X hcd hm hs
  have L5 : Looks (model prog w) hh (isSubtype (.ref C) (.type "int")) false := looks_subIn X hsub
  have L7 : Looks (model prog w) hh (numberSlotInPython (.type "int") "mul") false := Looks.of_pure rfl
  have hne : (Value.type "int" == Value.ref C) = false := Bool.eq_false_iff.mpr fun q => by cases beq_iff_eq.mp q
  unfold binaryOp
  refine wpAny_holding (wpAny_bind ?_)
  show wpAny (model prog w) A (binaryOp1 "mul" (.int i t) (.ref x)) _ E _
  unfold binaryOp1
  refine wpAny_bind (L1.at (wpAny_bind (L2.at (wpAny_bind (L3.at ?_)))))
  simp only [hne, Bool.false_eq_true, if_false]
  ksp_lk
  refine wpAny_mono two (fun r s' hz => ?_) fun _ _ e => e
  obtain ⟨rfl, rfl⟩ := hz
  ksp_lk
  refine wpAny_mono one (fun r s' hr' => ?_) fun _ _ e => e
  obtain ⟨v, rfl, hq⟩ := hr'
  ksp_lk
  exact hq
end
end PySem.VfE

/-! # own operators, as rules -/
namespace L2.Vf
open PySem PySem.Spec PyProof.Rows
/-- what the written part says of a class's operator -/
structure OpF (K : PySem.W.Frag) (C f : Addr) (nm : Str) : Prop where
  first : PySem.W.selfFirst K C = true
  has : PySem.W.findIn K (.ref C) nm = some (some (.ref f))
  fn : PySem.W.isFn K (.ref f) = true
/-- no own way of op= -/
structure InF (K : PySem.W.Frag) (C : Addr) (nm : Str) : Prop where
  only : PySem.VfE.baseOnly K C = true
  own : PySem.W.findIn K (.ref C) nm = some none
  obj : PySem.W.findIn K (.type "object") nm = some none
theorem back_of {X : Cx} {pins : List (Addr × Obj)} {σ : St} {Q : VK} {v : Value} {s' : Shared} (h : EP X pins σ Q v s') : PySem.W.CmpBack (EP X pins σ Q) v s' := by
  cases v with
  | notImplemented =>
    obtain ⟨z, H', I', r, q⟩ := h
    cases z <;> first | (cases r; done) | (obtain ⟨t, e⟩ := r; cases e)
  | _ => exact h
def tOwn2 (C : Addr) (sp : Sp) (E : St → XK) (ta tb : TE) : TE := fun σ H Q => ta σ H fun x H1 => tb σ H1 fun y H2 => ∃ (a dx b dy : Addr) (fs gs : List (Str × V)), x = .ref a ∧ y = .ref b ∧ H2 a = some (.ins C dx fs) ∧ H2 b = some (.ins C dy gs) ∧ sp [x, y] H2 Q (E σ)
def tOwnI (C : Addr) (sp : Sp) (E : St → XK) (ta tb : TE) : TE := fun σ H Q => ta σ H fun x H1 => tb σ H1 fun y H2 => ∃ (a dx : Addr) (i : Int) (fs : List (Str × V)), x = .ref a ∧ y = .int i ∧ H2 a = some (.ins C dx fs) ∧ sp [x, y] H2 Q (E σ)
def tROwn (C : Addr) (sp : Sp) (E : St → XK) (ta tb : TE) : TE := fun σ H Q => ta σ H fun x H1 => tb σ H1 fun y H2 => ∃ (a dx : Addr) (i : Int) (fs : List (Str × V)), x = .int i ∧ y = .ref a ∧ H2 a = some (.ins C dx fs) ∧ sp [y, x] H2 Q (E σ)
def tOwn1 (C : Addr) (sp : Sp) (E : St → XK) (ta : TE) : TE := fun σ H Q => ta σ H fun x H1 => ∃ (a dx : Addr) (fs : List (Str × V)), x = .ref a ∧ H1 a = some (.ins C dx fs) ∧ sp [x] H1 Q (E σ)
section
variable {X : Cx} {CX : CXT} {k : Nat} {f g C : Addr} {fd : FuncData} {ps : List Str} {sp : Sp} {E : St → XK} {pos : Pos} {a b : Expr} {ta tb : TE} {op : Operator}
theorem pe_own2 (O : OpF X.K C f (PySem.dunder op.info.2)) (F : FnOk X.prog X.w X.K X.mg X.base CX k f fd ps sp) (hr : Room k X.A) (hbd : Binds X.K fd ps []) (hx : ∀ σ, PassesAt CX X σ (E σ)) (ha : PE X a ta) (hb : PE X b tb) : PE X (.BinOp a op b pos) (tOwn2 C sp E ta tb) := by
  refine ⟨fun pins s σ H Q I h => wpAny_BinOp (binT ha hb I h fun v u s2 x y H2 I2 rx ry q => ?_)⟩
  obtain ⟨a, dx, b, dy, fs, gs, rfl, rfl, ea, eb, q⟩ := q
  cases rx
  cases ry
  obtain ⟨mA, J, _⟩ := ins_get I2.hok ea
  obtain ⟨od, J, _⟩ := J.look
  obtain ⟨mB, Jb, _⟩ := ins_get I2.hok eb
  obtain ⟨ob, Jb, _⟩ := Jb.look
  exact PySem.VfE.binop_own I2.kIn J Jb.type O.first O.has O.fn (wpAny_mono (run_fnS F hr hbd (hx σ) I2 (.cons (show RelV (V.ref _) (Value.ref _) from rfl) (.cons (show RelV (V.ref _) (Value.ref _) from rfl) .nil)) q) (fun v s' h => back_of h) fun _ _ e => e)
/-- x op= y, by the operator itself -/
def rOwnIn (C : Addr) (sp : Sp) : TIp := fun x y H2 Q => ∃ (a dx b dy : Addr) (fs gs : List (Str × V)), x = .ref a ∧ y = .ref b ∧ H2 a = some (.ins C dx fs) ∧ H2 b = some (.ins C dy gs) ∧ sp [x, y] H2 Q fun _ _ _ => False
theorem ip_own (O : OpF X.K C f (PySem.dunder op.info.2)) (N : InF X.K C (PySem.dunderI op.info.2)) (F : FnOk X.prog X.w X.K X.mg X.base CX k f fd ps sp) (hr : Room k X.A) (hbd : Binds X.K fd ps []) (hx : ∀ σ, PassesAt CX X σ fun _ _ _ => False) : PIp X op (rOwnIn C sp) := by
  intro pins s σ H2 x y v u Q I2 rx ry q
  obtain ⟨a, dx, b, dy, fs, gs, rfl, rfl, ea, eb, q⟩ := q
  cases rx
  cases ry
  obtain ⟨mA, J, _⟩ := ins_get I2.hok ea
  obtain ⟨od, J, _⟩ := J.look
  obtain ⟨mB, Jb, _⟩ := ins_get I2.hok eb
  obtain ⟨ob, Jb, _⟩ := Jb.look
  exact PySem.VfE.inplace_own I2.kIn J Jb.type O.first N.only N.own N.obj O.has O.fn (wpAny_mono (run_fnS F hr hbd (E := fun _ _ _ _ => False) (hx σ) I2 (.cons (show RelV (V.ref _) (Value.ref _) from rfl) (.cons (show RelV (V.ref _) (Value.ref _) from rfl) .nil)) q) (fun v s' h => back_of h) fun _ _ e => e)
theorem pe_ownN (O : OpF X.K C f "__neg__") (F : FnOk X.prog X.w X.K X.mg X.base CX k f fd ps sp) (hr : Room k X.A) (hbd : Binds X.K fd ps []) (hx : ∀ σ, PassesAt CX X σ (E σ)) (ha : PE X a ta) : PE X (.UnaryOp .USub a pos) (tOwn1 C sp E ta) := by
  refine ⟨fun pins s σ H Q I h => UnaryOp_ (thn (ha.run pins s σ H _ I h) fun v s1 ⟨x, H1, I1, r1, q⟩ => ?_)⟩
  obtain ⟨a, dx, fs, rfl, ea, q⟩ := q
  cases r1
  obtain ⟨mA, J, _⟩ := ins_get I1.hok ea
  obtain ⟨od, J, _⟩ := J.look
  obtain ⟨m, hF⟩ := I1.fr
  exact PySem.W.ksp_neg hF I1.ok.mod.kin J O.has O.fn (run_fnS F hr hbd (hx σ) I1 (.cons (show RelV (V.ref _) (Value.ref _) from rfl) .nil) q)
/-- what the written part says of x op n -/
structure OpI (K : PySem.W.Frag) (C : Addr) (nm : String) : Prop where
  ex : ∃ fo ro rc, PySem.W.findIn K (.type "int") (PySem.dunder nm) = some fo ∧ PySem.W.findIn K (.type "int") (PySem.dunderR nm) = some ro ∧ PySem.W.findIn K (.ref C) (PySem.dunderR nm) = some rc ∧ (rc = none ∨ ∃ g : Addr, rc = some (.ref g))
  sub : PySem.W.subIn K (.type "int") (.ref C) = some false
theorem pe_ownI (O : OpF X.K C f (PySem.dunder op.info.2)) (OI : OpI X.K C op.info.2) (F : FnOk X.prog X.w X.K X.mg X.base CX k f fd ps sp) (hr : Room k X.A) (hbd : Binds X.K fd ps []) (hx : ∀ σ, PassesAt CX X σ (E σ)) (ha : PE X a ta) (hb : PE X b tb) : PE X (.BinOp a op b pos) (tOwnI C sp E ta tb) := by
  refine ⟨fun pins s σ H Q I h => wpAny_BinOp (binT ha hb I h fun v u s2 x y H2 I2 rx ry q => ?_)⟩
  obtain ⟨a, dx, i, fs, rfl, rfl, ea, q⟩ := q
  cases rx
  obtain ⟨t, rfl⟩ := ry
  obtain ⟨mA, J, _⟩ := ins_get I2.hok ea
  obtain ⟨od, J, _⟩ := J.look
  obtain ⟨m, hF⟩ := I2.fr
  obtain ⟨fo, ro, rc, h1, h2, h3, h4⟩ := OI.ex
  exact PySem.W.ksp_binT (T := "int") hF I2.ok.mod.kin J rfl O.first O.has O.fn h3 h4 h1 h2 OI.sub (wpAny_mono (run_fnS F hr hbd (hx σ) I2 (.cons (show RelV (V.ref _) (Value.ref _) from rfl) (.cons (show RelV (V.int _) (Value.int _ _) from ⟨_, rfl⟩) .nil)) q) (fun v s' h => back_of h) fun _ _ e => e)
/-- what it says of n * x -/
structure OpJ (K : PySem.W.Frag) (C : Addr) : Prop where
  mul : ∃ g : Addr, PySem.W.findIn K (.ref C) (PySem.dunder "mul") = some (some (.ref g))
  sub : PySem.W.subIn K (.ref C) (.type "int") = some false
theorem pe_rown (O : OpF X.K C f (PySem.dunderR "mul")) (OJ : OpJ X.K C) (F : FnOk X.prog X.w X.K X.mg X.base CX k f fd ps sp) (hr : Room k X.A) (hbd : Binds X.K fd ps []) (hx : ∀ σ, PassesAt CX X σ (E σ)) (ha : PE X a ta) (hb : PE X b tb) : PE X (.BinOp a .Mult b pos) (tROwn C sp E ta tb) := by
  refine ⟨fun pins s σ H Q I h => wpAny_BinOp (binT ha hb I h fun v u s2 x y H2 I2 rx ry q => ?_)⟩
  obtain ⟨a, dx, i, fs, rfl, rfl, ea, q⟩ := q
  cases ry
  obtain ⟨t, rfl⟩ := rx
  obtain ⟨mA, M, _⟩ := ins_get I2.hok ea
  obtain ⟨od, J, _⟩ := M.look
  obtain ⟨g, hg⟩ := OJ.mul
  exact PySem.VfE.rmul_own I2.kIn J M.obj O.first hg O.has O.fn OJ.sub (wpAny_mono (run_fnS F hr hbd (hx σ) I2 (.cons (show RelV (V.ref _) (Value.ref _) from rfl) (.cons (show RelV (V.int _) (Value.int _ _) from ⟨_, rfl⟩) .nil)) q) (fun v s' h => back_of h) fun _ _ e => e)
/-- a statement that is never reached -/
theorem ps_dead {st : Stmt} : PS X st (fun _ _ _ => False) := ⟨fun _ _ _ _ _ _ h => h.elim⟩
end
end L2.Vf

/-! # list comprehensions of any number of clauses: what a turn goes on with, as a rule -/
namespace L2.Lb
open PySem PySem.Spec PyProof.Rows
/-- what a turn goes on with, ahead of the next turn -/
abbrev Bdy := (Unit → Sem Fin) → Sem Fin
def turnOf (tg : Expr) (ip : Pos) (ifs : List Expr) (it : Value) (env : Env) (body : Bdy) (nx : Sem Fin) : Sem Fin := do
  standAt ip
  match ← pyNext it with
  | none => pure (.done .next)
  | some v =>
    letOwnedTupleGo tg it v
    assign tg env v
    let mut ok := true
    for c in ifs do
      if ok then ok ← isTrue c env (eval c env)
    if ok then body fun _ => nx
    else nx
section
variable {prog : Program} {w : World} {A : Around} {R : Result → Shared → Prop} {s : Shared} {elt tg iter : Expr} {gens : List Comprehension} {scope : Scope} {pos : Pos} {ci : Nat} {ip : Pos} {ifs : List Expr} {it acc : Value} {env : Env} {body : Bdy}
/-- a clause's loop -/
theorem loop_cl (ht : compTurn (.ListComp elt gens scope pos) ci it acc env = turnOf tg ip ifs it env body (again (.compLoop (.ListComp elt gens scope pos) ci it acc env))) (J : Nat → Shared → Prop)
    (turn : ∀ n t, J n t → wpAny (model prog w) A (pyNext it) (fun r t1 => match r with
      | none => R (.ok .next) t1
      | some v => wpAny (model prog w) A (letOwnedTupleGo tg it v) (fun _ t2 => wpAny (model prog w) A (assign tg env v) (fun _ t3 =>
          wpAny (model prog w) A (forIn ifs true fun c r => if r = true then do let ok ← isTrue c env (eval c env); pure (ForInStep.yield ok) else pure (ForInStep.yield r)) (fun b t4 =>
            if b = true then ∀ (k : Unit → Sem Fin) (Q : Fin → Shared → Prop) (E' : Value → Shared → Prop), (∀ t5, (∃ m, m < n ∧ J m t5) → wpAny (model prog w) A (k ()) Q E' t5) → wpAny (model prog w) A (body k) Q E' t4
            else ∃ m, m < n ∧ J m t4) (fun _ _ => False) t3) (fun _ _ => False) t2) (fun _ _ => False) t1) (fun _ _ => False) t)
    (n0 : Nat) (h0 : J n0 s) : codeAny (model prog w) A (.compLoop (.ListComp elt gens scope pos) ci it acc env) R s := by
  refine codeAny_loop rfl J (fun n t hJ => ?_) n0 h0
  show wpAny _ A ((compTurn (.ListComp elt gens scope pos) ci it acc env).onRaise (fun z => do noteFrame z env; theTreesLotGoes z)) _ _ t
  refine wpAny_noted ?_
  rw [ht]
  unfold turnOf
  refine wpAny_bind (wpAny_standAt (wpAny_bind (thnF (turn n t hJ) fun r t1 g1 => ?_)))
  cases r with
  | none => exact wpAny_pure g1
  | some v =>
    refine wpAny_bind (thnF g1 fun _ t2 g2 => wpAny_bind (thnF g2 fun _ t3 g3 => wpAny_bind (thnF g3 fun b t4 g4 => ?_)))
    cases b with
    | false => exact wpAny_pure ⟨rfl, g4⟩
    | true => exact g4 _ _ _ fun t5 g5 => wpAny_pure ⟨rfl, g5⟩
/-- a later clause begins -/
theorem start_cl (hcl : (clausesOf (.ListComp elt gens scope pos))[ci]? = some ⟨tg, iter, ifs, 0⟩) (h0 : codeAny (model prog w) A (.compLoop (.ListComp elt gens scope pos) ci it acc env) R s)
    (h : wpAny (model prog w) A (pyIter it) (fun it' t => codeAny (model prog w) A (.compLoop (.ListComp elt gens scope pos) ci it' acc env) R t) (fun _ _ => False) s) : codeAny (model prog w) A (.compStart (.ListComp elt gens scope pos) ci it acc env) R s := by
  refine codeAny_of_tree ?_
  show wpAny _ _ ((compStart (.ListComp elt gens scope pos) ci it acc env).onRaise (fun z => do noteFrame z env; standAt theWindowsPlace)) _ _ s
  refine wpAny_notedAt ?_
  unfold compStart
  rw [hcl]
  show wpAny _ _ (ask >>= _) _ _ s
  refine wpAny_bind (wpAny_askSetting (wpAny_ite ?_))
  split
  · first
      | exact wpAny_bind (wpAny_pure (wpAny_pure (And.intro rfl h0)))
      | exact wpAny_pure (And.intro rfl h0)
  · refine wpAny_bind (wpAny_rule ?_)
    first
      | exact wpAny_bind (wpAny_standAt (wpAny_bind (thnF h fun it' t h' => wpAny_pure (And.intro rfl h'))))
      | (show wpAny _ _ (standAt iter.pos >>= _) _ _ s; exact wpAny_bind (wpAny_standAt (wpAny_bind (thnF h fun it' t h' => wpAny_pure (And.intro rfl h')))))
end
/-- slots that know what σ0 knows -/
structure Kn (σ0 σ : St) : Prop where
  len : σ0.length = σ.length
  at_ : ∀ (j : Nat) v, σ0[j]? = some (some v) → σ[j]? = some (some v)
abbrev TBd := St → Hp → (Hp → Prop) → Prop
/-- a body as a rule; vs: the slots that it writes -/
structure PBd (Y : Cx) (vs : List Nat) (body : Bdy) (t : TBd) : Prop where
  run : ∀ (pins : List (Addr × Obj)) (s : Shared) (σ0 σ : St) (H : Hp) (N : Hp → Prop) (k : Unit → Sem Fin) (Q : Fin → Shared → Prop) (E : Value → Shared → Prop), Inv Y pins σ H s → Kn σ0 σ → (∀ j ∈ vs, ∀ v, σ0[j]? ≠ some (some v)) → t σ H N →
    (∀ σ' H' s', Inv Y pins σ' H' s' → Kn σ0 σ' → N H' → wpAny (model Y.prog Y.w) Y.A (k ()) Q E s') → wpAny (model Y.prog Y.w) Y.A (body k) Q E s
theorem out_wipe {σ : St} {i : Nat} : ∀ {vs : List Nat}, i ∉ vs → (wipe σ vs)[i]? = σ[i]? := fun h => wipe_out h
section
variable {Y : Cx} {elt iter tg : Expr} {gens : List Comprehension} {scope : Scope} {pos : Pos} {te : TE} {D : Addr} {vs vs' : List Nat} {ci : Nat} {ifs : List Expr} {body : Bdy} {wi : TI} {g : TG} {tt : TT} {tb : TBd}
def emitB (elt : Expr) (acc : Value) (env : Env) : Bdy := fun k => do
  let _ ← (do let _ ← call (.builtin "list.append") [acc, ← eval elt env])
  k ()
def bEmit (te : TE) (D : Addr) : TBd := fun σ H N => te σ H fun y H' => ∃ xs, H' D = some (.lst xs) ∧ xs.length < sizeLine ∧ N (upd H' D (.lst (xs ++ [y])))
theorem pb_emit (hx : Y.xe = fun _ _ => False) (he : PE Y elt te) : PBd Y vs (emitB elt (.ref D) Y.env) (bEmit te D) := by
  refine ⟨fun pins s σ0 σ H N k Q E I kn _ q hk => ?_⟩
  have r := he.run pins s σ H _ I q
  rw [hx] at r
  refine wpAny_bind (wpAny_bind (thnF r fun z t1 ⟨y, H1, I1, ry, xs, hD, hz, nx⟩ => ?_))
  exact wpAny_bind (app_ok I1 hD hz ry fun t2 I2 => wpAny_pure (hk σ _ t2 I2 kn nx))
def clauseB (e : Expr) (ci : Nat) (iter : Expr) (acc : Value) (env : Env) : Bdy := fun k => do
  let x ← eval iter env
  standAt iter.pos
  let x ← foldedSetIterable iter env x
  let _ ← runOwn (.compStart e ci (← holding [x] (pyIter x)) acc env) env
  k ()
def bClause (wi : TI) (g : TG) (tt : TT) (tb : TBd) (vs : List Nat) : TBd := fun σ H N => wi σ H fun J H1 => ∃ W : Nat → Nat → Hp → Prop, (∃ m, W 0 m H1) ∧ ∀ i m H, W i m H →
  (J.stop i H ∧ N H) ∨ (J.go i H ∧ ∃ Nx : Hp → Prop, (∀ H', Nx H' → ∃ m', m' < m ∧ W (i + 1) m' H') ∧ ∀ x H', J.yld i H x H' → g x (wipe σ vs) H' fun σ2 H2 => wipe σ2 vs = wipe σ vs ∧ tt σ2 H2 fun b H3 => if b = true then tb σ2 H3 Nx else Nx H3)
theorem pb_clause (hx : Y.xe = fun _ _ => False) (hc : Y.calm = true) (hsub : ∀ i ∈ vs', i ∈ vs) (hcl : (clausesOf (.ListComp elt gens scope pos))[ci]? = some ⟨tg, iter, ifs, 0⟩)
    (ht : ∀ it, compTurn (.ListComp elt gens scope pos) ci it (.ref D) Y.env = turnOf tg iter.pos ifs it Y.env body (again (.compLoop (.ListComp elt gens scope pos) ci it (.ref D) Y.env)))
    (hi : PI Y tg iter wi) (hg : PG Y tg g) (hts : PTs Y ifs tt) (hb : PBd Y vs' body tb) (hs : ∀ x, foldedSetIterable iter Y.env x = pure x) : PBd Y vs (clauseB (.ListComp elt gens scope pos) ci iter (.ref D) Y.env) (bClause wi g tt tb vs) := by
  refine ⟨fun pins s σ0 σ H N k Q E I kn hun q hk => ?_⟩
  have r := hi.run pins s σ H _ I q
  rw [hx] at r
  refine wpAny_bind (thnF r fun xv t1 hx1 => wpAny_bind (wpAny_standAt (wpAny_bind (wpAny_of_eq (hs xv) (wpAny_bind (wpAny_holding (thnF hx1 fun itv t2 h2 => ?_)))))))
  obtain ⟨i1, fp, tn, J, H2, rfl, I2, T, st2, f2, W, ⟨m0, w0⟩, turn⟩ := h2
  have stat : ∀ {H' : Hp}, (∀ b ∈ fp, H' b = none) → ∀ b ∈ fp, FpOk Y pins H' b := fun hn b hb => ⟨hn b hb, (f2 b hb).2⟩
  have whole : codeAny (model Y.prog Y.w) Y.A (.compLoop (.ListComp elt gens scope pos) ci (.ref i1) (.ref D) Y.env) (fun r t => match r with
      | .ok _ => ∃ H', Inv Y pins (wipe σ vs) H' t ∧ N H'
      | .error _ => False) t2 := by
    refine loop_cl (ht _) (fun m t => ∃ i H', Inv Y pins (wipe σ vs) H' t ∧ tn i t.heap ∧ (∀ b ∈ fp, H' b = none) ∧ W i m H') ?_ m0 ⟨0, H2, I2.weak (wipe_length _ _) (fun j v z => (wipe_some z).1), st2, fun b hb => (f2 b hb).1, w0⟩
    rintro m t3 ⟨i, H3, I3, st3, n3, w3⟩
    rcases turn i m H3 w3 with ⟨stop, nx⟩ | ⟨go, Nx, hNx, step⟩
    · refine thnF (T.done Y rfl rfl rfl hc i _ t3 (wipe σ vs) H3 (fun _ _ => False) I3 (stat n3) st3 stop) fun r t4 ⟨hr, I4⟩ => ?_
      subst hr
      exact ⟨_, I4, nx⟩
    · refine thnF (T.item Y rfl rfl rfl hc i _ t3 (wipe σ vs) H3 (fun _ _ => False) I3 (stat n3) st3 go) fun r t4 ⟨u, hr, h4⟩ => ?_
      subst hr
      refine thnF h4 fun _ t5 ⟨x, H5, I5, r5, y5, st5, n5⟩ => ?_
      have p5 := I5.pinned (stat n5) (T.obj _ _ st5)
      have rg := hg.run _ t5 (wipe σ vs) H5 x u _ p5 r5 (step x H5 y5)
      rw [hx] at rg
      refine thnF rg fun _ t6 ⟨σ6, H6, I6, hw6, q6⟩ => ?_
      have rt := hts.run _ t6 σ6 H6 _ I6 q6
      rw [hx] at rt
      refine thnF rt fun b t7 ⟨H7, I7, q7⟩ => ?_
      have kn6 : Kn (wipe σ vs) σ6 := ⟨by rw [← hw6, wipe_length], fun j v z => by rw [← hw6] at z; exact (wipe_some z).1⟩
      have fin : ∀ {σ' : St} {t : Shared} {H' : Hp}, Inv Y (pins ++ pinsAt fp t5.heap) σ' H' t → Kn (wipe σ vs) σ' → Nx H' → ∃ m', m' < m ∧ ∃ i H', Inv Y pins (wipe σ vs) H' t ∧ tn i t.heap ∧ (∀ b ∈ fp, H' b = none) ∧ W i m' H' := fun {σ' t H'} I' kn' nx => by
        obtain ⟨m', hm, w'⟩ := hNx H' nx
        have pin' : ∀ b ∈ fp, ∀ o, t5.heap.get? b = some o → t.heap.get? b = some o ∧ H' b = none := fun b hb o z =>
          let y := I'.pin (b, o) (List.mem_append_right _ (List.mem_append_right _ (mem_pinsAt hb z)))
          ⟨y.1, y.2.1⟩
        refine ⟨m', hm, i + 1, H', I'.unpinned.weak kn'.len kn'.at_, T.keep _ _ _ st5 fun b hb o z => (pin' b hb o z).1, fun b hb => ?_, w'⟩
        obtain ⟨o, z, _⟩ := T.obj _ _ st5 b hb
        exact (pin' b hb o z).2
      cases b with
      | false =>
        simp only [Bool.false_eq_true, if_false] at q7 ⊢
        exact fin I7 kn6 q7
      | true =>
        simp only [if_true] at q7 ⊢
        intro k' Q' E' hk'
        exact hb.run _ t7 (wipe σ vs) σ6 H7 Nx k' Q' E' I7 kn6 (fun j hj v z => (wipe_some z).2 (hsub j hj)) q7 fun σ' H' t' I' kn' nx => hk' t' (fin I' kn' nx)
  refine wpAny_bind (wpAny_runOwn ?_)
  rw [Around.mark_none]
  refine codeAny_mono (start_cl hcl whole (T.self Y.A 0 _ _ _ st2 whole)) fun r t hr => ?_
  cases r with
  | ok f =>
    obtain ⟨H', I', nx⟩ := hr
    have fin : wpAny (model Y.prog Y.w) Y.A (k ()) Q E t := hk _ _ _ I' ⟨kn.len.trans (wipe_length σ vs).symm, fun j v z => by rw [out_wipe fun hj => hun j hj v z]; exact kn.at_ j v z⟩ nx
    first
      | exact fin
      | exact wpAny_bind (wpAny_pure fin)
  | error z => exact hr.elim
end
end L2.Lb

/-! # list comprehensions of any number of clauses: the first clause -/
namespace L2.Lb
open PySem PySem.Spec PyProof.Rows
section
variable {X : Cx}
/-- D the new list; tb what a turn of the first clause goes on with -/
def tLcN (wi : TI) (g : TG) (tt : TT) (tb : Addr → TBd) (vs : List Nat) : TE := fun σ H Q => wi σ H fun J H1 => ∀ D, H1 D = none → ∃ W : Nat → Nat → Hp → Prop, (∃ m, W 0 m (upd H1 D (.lst []))) ∧ ∀ i m H, W i m H →
  (J.stop i H ∧ Q (.ref D) H) ∨ (J.go i H ∧ ∃ Nx : Hp → Prop, (∀ H', Nx H' → ∃ m', m' < m ∧ W (i + 1) m' H') ∧ ∀ x H', J.yld i H x H' → g x (wipe σ vs) H' fun σ2 H2 => wipe σ2 vs = wipe σ vs ∧ tt σ2 H2 fun b H3 => if b = true then tb D σ2 H3 Nx else Nx H3)
theorem lcN_core {pins : List (Addr × Obj)} {s : Shared} {σ : St} {H : Hp} {Q : VK} {elt tg iter : Expr} {ifs : List Expr} {gens : List Comprehension} {scope : Scope} {own : List (Str × Nat)} {pos pos' : Pos} {wi : TI} {g : TG} {tt : TT} {vs' : List Nat} {tb : Addr → TBd} {body : Value → Env → Bdy} {use : Option (Value → Sem Unit)} {Qf : Value → Shared → Prop}
    (hc : X.calm = true) (hN : X.N.Nodup) (I : Inv X pins σ H s) (hi : PI X tg iter wi) (ok : BlkOk X.N X.env.scope scope own) (hsub : ∀ i ∈ vs', i ∈ own.map (·.2))
    (hg : ∀ (s : Shared) (H : Hp) (C : Addr) (cl : List (Str × Addr)) (fp : List Addr), PG (X.blk s H scope (compEnvC scope cl C X.env) fp) tg g)
    (hts : ∀ (s : Shared) (H : Hp) (C : Addr) (cl : List (Str × Addr)) (fp : List Addr), PTs (X.blk s H scope (compEnvC scope cl C X.env) fp) ifs tt)
    (hb : ∀ (s : Shared) (H : Hp) (C : Addr) (cl : List (Str × Addr)) (fp : List Addr) (D : Addr), PBd (X.blk s H scope (compEnvC scope cl C X.env) fp) vs' (body (.ref D) (compEnvC scope cl C X.env)) (tb D))
    (ht : ∀ it acc env, compTurn (.ListComp elt (⟨tg, iter, ifs, 0⟩ :: gens) scope pos) 0 it acc env = turnOf tg iter.pos ifs it env (body acc env) (again (.compLoop (.ListComp elt (⟨tg, iter, ifs, 0⟩ :: gens) scope pos) 0 it acc env)))
    (hs : ∀ x, foldedSetIterable iter X.env x = pure x) (h : tLcN wi g tt tb (own.map (·.2)) σ H Q)
    (hRR : ∀ D C s' m H', Inv X pins σ H' s' → Q (.ref D) H' → s'.heap.Ns C m → FpOk X pins H' C → compPost (model X.prog X.w) X.A X.xe use Qf (.ref D) C (.ok .next) s') :
    wpAny (model X.prog X.w) X.A (comprehension (.ListComp elt (⟨tg, iter, ifs, 0⟩ :: gens) scope pos) scope X.env pos' (newList []) false (eval iter X.env) use) Qf X.xe s := by
  have bound : ∀ y ∈ scope.names, y.2 = .free → ∃ c, X.env.cells.lookup y.1 = some c := fun y hy z => by
    rcases ok.free y hy z with k | k <;> first | exact I.ok.has _ (.inl k) | exact I.ok.has _ (.inr k)
  refine wpAny_comprehension_free (use := use) rfl hs (closure_ok bound) ok.kind (fun y hy z => by rw [ok.uniq y hy, z])
    (thn (hi.run pins s σ H _ I h) fun xv t1 hx => thn hx fun itv t2 h2 => ?_)
  obtain ⟨it, fp, tn, J, H2, rfl, I2, T, st2, f2, q⟩ := h2
  refine wpAny_newObj_type (newEnv_comp ?_) (by show 0 ≤ sizeLine; decide)
  generalize eD : t2.heap.objs.size = D
  obtain ⟨W, ⟨m0, w0⟩, turn⟩ := q D (I2.hok.fresh (Nat.le_of_eq eD))
  generalize e3 : ({ t2 with heap := t2.heap.push { cls := .type "list", data := .seq ([] : List Value).toArray } } : Shared) = t3
  have h3 : t3.heap = t2.heap.push { cls := .type "list", data := .seq ([] : List Value).toArray } := by rw [← e3]
  have I3 : Inv X pins σ (upd H2 D (.lst [])) t3 := by
    rw [← e3]
    refine I2.laid (t' := t2.toks) (fun b o z => Heap.get?_push_of_some _ z) (Nat.le_of_eq eD) ⟨Nat.zero_le _, [], 0, .nil, ?_⟩
    rw [← eD]
    exact Heap.get?_push_size _ rfl
  have f3 : ∀ b ∈ fp, FpOk X pins (upd H2 D (.lst [])) b ∧ b < t3.heap.objs.size := fun b hb => by
    obtain ⟨o, z, _⟩ := T.obj _ _ st2 b hb
    have lt := Heap.lt_size z
    refine ⟨⟨?_, (f2 b hb).2⟩, by rw [h3, Heap.size_push]; exact Nat.lt_succ_of_lt lt⟩
    rw [upd_ne (by rw [← eD]; exact Nat.ne_of_lt lt)]
    exact (f2 b hb).1
  have st3 : tn 0 t3.heap := T.keep _ _ _ st2 fun b _ o z => by rw [h3]; exact Heap.get?_push_of_some _ z
  have I4 := block_start I3 ok hN f3
  generalize eH : upd H2 D (.lst []) = H3 at I3 I4 w0 f3
  generalize ecl : cellsFrom (t3.heap.objs.size + 1) scope.names (cloFrom X.env.cells scope.names []) = cl at I4 ⊢
  have pg := hg t3 H3 t3.heap.objs.size cl fp
  have pt := hts t3 H3 t3.heap.objs.size cl fp
  have pb := hb t3 H3 t3.heap.objs.size cl fp D
  show codeAny _ _ (.compStart (.ListComp elt (⟨tg, iter, ifs, 0⟩ :: gens) scope pos) 0 (.ref it) (.ref D) (compEnvC scope cl t3.heap.objs.size X.env)) (compPost (model X.prog X.w) X.A X.xe use Qf (.ref D) t3.heap.objs.size) { t3 with heap := pushCells (t3.heap.push { cls := .type "dict", data := .dict #[] }) scope.names }
  have nfp : ∀ b ∈ fp, H3 b = none := fun b hb => (f3 b hb).1.1
  generalize hce : compEnvC scope cl t3.heap.objs.size X.env = ce at I4 pg pt pb ⊢
  have cL : ce.locals = t3.heap.objs.size := by subst hce; rfl
  generalize e4 : ({ t3 with heap := pushCells (t3.heap.push { cls := .type "dict", data := .dict #[] }) scope.names } : Shared) = t4 at I4 ⊢
  have st4 : tn 0 t4.heap := T.keep _ _ _ st3 fun b _ o z => by rw [← e4]; exact pushCells_keeps _ _ _ _ (Heap.get?_push_of_some _ z)
  have stat : ∀ {σ' : St} {H' : Hp} {t' : Shared}, Inv (X.blk t3 H3 scope ce fp) [] σ' H' t' → (∀ b ∈ fp, H' b = none) → ∀ b ∈ fp, FpOk (X.blk t3 H3 scope ce fp) [] H' b := fun {σ' H' t'} I' hn b hb =>
    ⟨hn b hb, (I'.ok.exf b hb).1, I'.ok.exfs b hb, .inl hb, fun x c z => (I'.ok.exf b hb).2 x c z, fun p hp => absurd (show p ∈ ([] : List (Addr × Obj)) ++ [] from hp) (by simp)⟩
  have whole : codeAny (model X.prog X.w) X.A (.compLoop (.ListComp elt (⟨tg, iter, ifs, 0⟩ :: gens) scope pos) 0 (.ref it) (.ref D) ce) (compPost (model X.prog X.w) X.A X.xe use Qf (.ref D) t3.heap.objs.size) t4 := by
    refine loop_cl (ht _ _ _) (fun n t => ∃ i H', Inv (X.blk t3 H3 scope ce fp) [] (wipe σ (own.map (·.2))) H' t ∧ tn i t.heap ∧ (∀ b ∈ fp, H' b = none) ∧ W i n H') ?_ m0 ⟨0, H3, I4, st4, nfp, w0⟩
    rintro n t5 ⟨i, H5, I5, st5, n5, w5⟩
    rcases turn i n H5 w5 with ⟨stop, qq⟩ | ⟨go, Nx, hNx, step⟩
    · refine thnF (T.done (X.blk t3 H3 scope ce fp) rfl rfl rfl hc i [] t5 _ H5 (fun _ _ => False) I5 (stat I5 n5) st5 stop) fun r t6 ⟨hr, I6⟩ => ?_
      subst hr
      have I7 : Inv X pins σ H5 t6 := I3.call' (ch := fp) I6.os I6.base I6.hok I6.bare fun b hb => ⟨(f3 b hb).1.2.2.2.1, (f3 b hb).1.2.1, (f3 b hb).1.2.2.2.2.1, (f3 b hb).1.2.2.2.2.2⟩
      have nC : H5 t3.heap.objs.size = none := by
        have z : H5 ce.locals = none := I6.free
        rwa [cL] at z
      obtain ⟨m, hn, _⟩ := I6.loc
      have hn : t6.heap.Ns ce.locals m := hn
      rw [cL] at hn
      exact hRR D t3.heap.objs.size t6 m H5 I7 qq hn (I3.fpOk (Nat.le_refl _) nC)
    · refine thnF (T.item (X.blk t3 H3 scope ce fp) rfl rfl rfl hc i [] t5 _ H5 (fun _ _ => False) I5 (stat I5 n5) st5 go) fun r t6 ⟨u, hr, h6⟩ => ?_
      subst hr
      refine thnF h6 fun _ t7 ⟨x, H7, I7, r7, y7, st7, n7⟩ => ?_
      have p7 := I7.pinned (stat I7 n7) (T.obj _ _ st7)
      refine thnF (pg.run _ t7 _ H7 x u _ p7 r7 (step x H7 y7)) fun _ t8 ⟨σ8, H8, I8, hw8, q8⟩ => ?_
      refine thnF (pt.run _ t8 σ8 H8 _ I8 q8) fun b t9 ⟨H9, I9, q9⟩ => ?_
      have kn8 : Kn (wipe σ (own.map (·.2))) σ8 := ⟨by rw [← hw8, wipe_length], fun j v z => by rw [← hw8] at z; exact (wipe_some z).1⟩
      have fin : ∀ {σ' : St} {t : Shared} {H' : Hp}, Inv (X.blk t3 H3 scope ce fp) ([] ++ pinsAt fp t7.heap) σ' H' t → Kn (wipe σ (own.map (·.2))) σ' → Nx H' → ∃ m, m < n ∧ ∃ i H', Inv (X.blk t3 H3 scope ce fp) [] (wipe σ (own.map (·.2))) H' t ∧ tn i t.heap ∧ (∀ b ∈ fp, H' b = none) ∧ W i m H' := fun {σ' t H'} I' kn' nx => by
        obtain ⟨m', hm, w'⟩ := hNx H' nx
        have pin' : ∀ b ∈ fp, ∀ o, t7.heap.get? b = some o → t.heap.get? b = some o ∧ H' b = none := fun b hb o z =>
          let y := I'.pin (b, o) (List.mem_append_right _ (List.mem_append_right _ (mem_pinsAt hb z)))
          ⟨y.1, y.2.1⟩
        refine ⟨m', hm, i + 1, H', (I'.unpinned (pins := [])).weak kn'.len kn'.at_, T.keep _ _ _ st7 fun b hb o z => (pin' b hb o z).1, fun b hb => ?_, w'⟩
        obtain ⟨o, z, _⟩ := T.obj _ _ st7 b hb
        exact (pin' b hb o z).2
      cases b with
      | false =>
        simp only [Bool.false_eq_true, if_false] at q9 ⊢
        exact fin I9 kn8 q9
      | true =>
        simp only [if_true] at q9 ⊢
        intro k' Q' E' hk'
        exact pb.run _ t9 (wipe σ (own.map (·.2))) σ8 H9 Nx k' Q' E' I9 kn8 (fun j hj v z => (wipe_some z).2 (hsub j hj)) q9 fun σ' H' t' I' kn' nx => hk' t' (fin I' kn' nx)
  exact codeAny_compStart_list whole (T.self X.A 0 _ _ _ st4 whole)
/-- as a value -/
theorem pe_lcN {elt tg iter : Expr} {ifs : List Expr} {gens : List Comprehension} {scope : Scope} {own : List (Str × Nat)} {pos : Pos} {wi : TI} {g : TG} {tt : TT} {vs' : List Nat} {tb : Addr → TBd} {body : Value → Env → Bdy}
    (hc : X.calm = true) (hN : X.N.Nodup) (hi : PI X tg iter wi) (ok : BlkOk X.N X.env.scope scope own) (hsub : ∀ i ∈ vs', i ∈ own.map (·.2))
    (hg : ∀ (s : Shared) (H : Hp) (C : Addr) (cl : List (Str × Addr)) (fp : List Addr), PG (X.blk s H scope (compEnvC scope cl C X.env) fp) tg g)
    (hts : ∀ (s : Shared) (H : Hp) (C : Addr) (cl : List (Str × Addr)) (fp : List Addr), PTs (X.blk s H scope (compEnvC scope cl C X.env) fp) ifs tt)
    (hb : ∀ (s : Shared) (H : Hp) (C : Addr) (cl : List (Str × Addr)) (fp : List Addr) (D : Addr), PBd (X.blk s H scope (compEnvC scope cl C X.env) fp) vs' (body (.ref D) (compEnvC scope cl C X.env)) (tb D))
    (ht : ∀ it acc env, compTurn (.ListComp elt (⟨tg, iter, ifs, 0⟩ :: gens) scope pos) 0 it acc env = turnOf tg iter.pos ifs it env (body acc env) (again (.compLoop (.ListComp elt (⟨tg, iter, ifs, 0⟩ :: gens) scope pos) 0 it acc env)))
    (hs : ∀ x, foldedSetIterable iter X.env x = pure x) : PE X (.ListComp elt (⟨tg, iter, ifs, 0⟩ :: gens) scope pos) (tLcN wi g tt tb (own.map (·.2))) := by
  refine ⟨fun pins s σ H Q I h => ?_⟩
  rw [eval_ListComp]
  refine lcN_core hc hN I hi ok hsub hg hts hb ht hs h fun D C t m H' I' q hn f => ⟨m, hn, fun h'' sb => ?_⟩
  obtain ⟨a0, a1, a2, a3, a4, a5⟩ := f
  exact ⟨.ref D, H', I'.turned (t' := t.toks) (fun b o hb z => (sb.2 b hb).trans z) a0 a1 a3 a4 a5, rfl, q⟩
end
end L2.Lb

namespace L2.Qs
abbrev Wrd := List (List Int)
def addL (a b : List Int) : List Int := List.zipWith (· + ·) a b
/-- two words laid over one another, by first letters -/
def sh : Wrd → Wrd → List Wrd
  | [], v => [v]
  | a :: u, [] => [a :: u]
  | a :: u, b :: v => (sh u (b :: v)).map (a :: ·) ++ (sh (a :: u) v).map (b :: ·) ++ (sh u v).map (addL a b :: ·)
termination_by u v => u.length + v.length
theorem sh_nil (u : Wrd) : sh u [] = [u] := by cases u <;> simp [sh]
theorem nil_sh (v : Wrd) : sh [] v = [v] := by simp [sh]
theorem sh_cons (a : List Int) (u : Wrd) (b : List Int) (v : Wrd) : sh (a :: u) (b :: v) = (sh u (b :: v)).map (a :: ·) ++ (sh (a :: u) v).map (b :: ·) ++ (sh u v).map (addL a b :: ·) := by rw [sh]
theorem map_snoc_cons (c b : List Int) (X : List Wrd) : (X.map (c :: ·)).map (· ++ [b]) = (X.map (· ++ [b])).map (c :: ·) := by
  rw [List.map_map, List.map_map]; rfl
/-- by last letters -/
theorem sh_snoc (a b : List Int) : ∀ (u v : Wrd), (sh (u ++ [a]) (v ++ [b])).Perm ((sh u (v ++ [b])).map (· ++ [a]) ++ (sh (u ++ [a]) v).map (· ++ [b]) ++ (sh u v).map (· ++ [addL a b]))
  | [], [] => by
    rw [List.nil_append, List.nil_append, sh_cons]
    simp only [nil_sh, sh_nil, List.map_cons, List.map_nil, List.nil_append, List.cons_append]
    exact List.Perm.swap _ _ _
  | [], d :: v => by
    have ih := sh_snoc a b [] v
    simp only [List.nil_append, List.cons_append, sh_cons, nil_sh, sh_nil, List.map_cons, List.map_nil, List.map_append, map_snoc_cons] at ih ⊢
    have i1 := ih.map (d :: ·)
    simp only [List.map_cons, List.map_nil, List.map_append] at i1
    rw [List.perm_iff_count] at i1 ⊢
    intro w
    have j1 := i1 w
    simp only [List.count_append, List.count_cons, List.count_nil] at j1 ⊢
    omega
  | c :: u, [] => by
    have ih := sh_snoc a b u []
    simp only [List.nil_append, List.cons_append, sh_cons, nil_sh, sh_nil, List.map_cons, List.map_nil, List.map_append, map_snoc_cons] at ih ⊢
    have i1 := ih.map (c :: ·)
    simp only [List.map_cons, List.map_nil, List.map_append] at i1
    rw [List.perm_iff_count] at i1 ⊢
    intro w
    have j1 := i1 w
    simp only [List.count_append, List.count_cons, List.count_nil] at j1 ⊢
    omega
  | c :: u, d :: v => by
    have i1 := (sh_snoc a b u (d :: v)).map (c :: ·)
    have i2 := (sh_snoc a b (c :: u) v).map (d :: ·)
    have i3 := (sh_snoc a b u v).map (addL c d :: ·)
    simp only [List.cons_append, sh_cons, List.map_append, map_snoc_cons] at i1 i2 i3 ⊢
    rw [List.perm_iff_count] at i1 i2 i3 ⊢
    intro w
    have j1 := i1 w
    have j2 := i2 w
    have j3 := i3 w
    simp only [List.count_append] at j1 j2 j3 ⊢
    omega
termination_by u v => u.length + v.length
/-- as the program lays them, by last letters; both words from the end -/
def lay : Wrd → Wrd → List Wrd
  | [], v => [v.reverse]
  | a :: u, [] => [(a :: u).reverse]
  | a :: u, b :: v => (lay u (b :: v)).map (· ++ [a]) ++ (lay (a :: u) v).map (· ++ [b]) ++ (lay u v).map (· ++ [addL a b])
termination_by u v => u.length + v.length
theorem lay_nil (u : Wrd) : lay u [] = [u.reverse] := by cases u <;> simp [lay]
theorem nil_lay (v : Wrd) : lay [] v = [v.reverse] := by simp [lay]
theorem lay_cons (a : List Int) (u : Wrd) (b : List Int) (v : Wrd) : lay (a :: u) (b :: v) = (lay u (b :: v)).map (· ++ [a]) ++ (lay (a :: u) v).map (· ++ [b]) ++ (lay u v).map (· ++ [addL a b]) := by rw [lay]
theorem lay_sh : ∀ (u v : Wrd), (lay u v).Perm (sh u.reverse v.reverse)
  | [], v => by rw [nil_lay, List.reverse_nil, nil_sh]
  | a :: u, [] => by rw [lay_nil, List.reverse_nil, sh_nil]
  | a :: u, b :: v => by
    rw [lay_cons, List.reverse_cons, List.reverse_cons]
    refine List.Perm.trans ?_ (sh_snoc a b u.reverse v.reverse).symm
    have i1 := lay_sh u (b :: v)
    have i2 := lay_sh (a :: u) v
    have i3 := lay_sh u v
    rw [List.reverse_cons] at i1 i2
    exact ((i1.map _).append (i2.map _)).append (i3.map _)
termination_by u v => u.length + v.length
/-- what comes of two words -/
abbrev ilv (u v : Wrd) : List Wrd := lay u.reverse v.reverse
theorem ilv_sh (u v : Wrd) : (ilv u v).Perm (sh u v) := by
  have := lay_sh u.reverse v.reverse
  rwa [List.reverse_reverse, List.reverse_reverse] at this
theorem sh_len : ∀ (u v : Wrd), (sh u v).length ≤ 3 ^ (u.length + v.length)
  | [], v => by rw [nil_sh]; exact Nat.succ_le_of_lt (Nat.pow_pos (by decide))
  | a :: u, [] => by rw [sh_nil]; exact Nat.succ_le_of_lt (Nat.pow_pos (by decide))
  | a :: u, b :: v => by
    have h1 := sh_len u (b :: v)
    have h2 := sh_len (a :: u) v
    have h3 := sh_len u v
    simp only [sh_cons, List.length_append, List.length_map, List.length_cons] at *
    have e : 3 ^ (u.length + 1 + (v.length + 1)) = 3 * (3 * 3 ^ (u.length + v.length)) := by rw [show u.length + 1 + (v.length + 1) = (u.length + v.length) + 1 + 1 by omega, Nat.pow_succ, Nat.pow_succ]; omega
    have e1 : 3 ^ (u.length + (v.length + 1)) = 3 * 3 ^ (u.length + v.length) := by rw [show u.length + (v.length + 1) = (u.length + v.length) + 1 by omega, Nat.pow_succ]; omega
    have e2 : 3 ^ (u.length + 1 + v.length) = 3 * 3 ^ (u.length + v.length) := by rw [show u.length + 1 + v.length = (u.length + v.length) + 1 by omega, Nat.pow_succ]; omega
    omega
termination_by u v => u.length + v.length
/-- what the letters of two words laid over one another are -/
theorem sh_mem {S : List Int → Prop} : ∀ (u v : Wrd), (∀ l ∈ u, S l) → (∀ l ∈ v, S l) → (∀ a ∈ u, ∀ b ∈ v, S (addL a b)) → ∀ w ∈ sh u v, ∀ l ∈ w, S l
  | [], v, _, h2, _, w, hw, l, hl => by
    rw [nil_sh, List.mem_singleton] at hw
    exact h2 l (hw ▸ hl)
  | a :: u, [], h1, _, _, w, hw, l, hl => by
    rw [sh_nil, List.mem_singleton] at hw
    exact h1 l (hw ▸ hl)
  | a :: u, b :: v, h1, h2, h3, w, hw, l, hl => by
    rw [sh_cons, List.mem_append, List.mem_append, List.mem_map, List.mem_map, List.mem_map] at hw
    rcases hw with (⟨x, hx, rfl⟩ | ⟨x, hx, rfl⟩) | ⟨x, hx, rfl⟩
    · rcases List.mem_cons.mp hl with rfl | hl
      · exact h1 l List.mem_cons_self
      · exact sh_mem u (b :: v) (fun l h => h1 l (List.mem_cons_of_mem _ h)) h2 (fun a h => h3 a (List.mem_cons_of_mem _ h)) x hx l hl
    · rcases List.mem_cons.mp hl with rfl | hl
      · exact h2 l List.mem_cons_self
      · exact sh_mem (a :: u) v h1 (fun l h => h2 l (List.mem_cons_of_mem _ h)) (fun a h b h' => h3 a h b (List.mem_cons_of_mem _ h')) x hx l hl
    · rcases List.mem_cons.mp hl with rfl | hl
      · exact h3 a List.mem_cons_self b List.mem_cons_self
      · exact sh_mem u v (fun l h => h1 l (List.mem_cons_of_mem _ h)) (fun l h => h2 l (List.mem_cons_of_mem _ h)) (fun a h b h' => h3 a (List.mem_cons_of_mem _ h) b (List.mem_cons_of_mem _ h')) x hx l hl
termination_by u v => u.length + v.length
theorem sh_long : ∀ (u v : Wrd), ∀ w ∈ sh u v, w.length ≤ u.length + v.length
  | [], v, w, hw => by
    rw [nil_sh, List.mem_singleton] at hw
    subst hw; simp
  | a :: u, [], w, hw => by
    rw [sh_nil, List.mem_singleton] at hw
    subst hw; simp
  | a :: u, b :: v, w, hw => by
    rw [sh_cons, List.mem_append, List.mem_append, List.mem_map, List.mem_map, List.mem_map] at hw
    rcases hw with (⟨x, hx, rfl⟩ | ⟨x, hx, rfl⟩) | ⟨x, hx, rfl⟩
    · have := sh_long u (b :: v) x hx; simp only [List.length_cons] at *; omega
    · have := sh_long (a :: u) v x hx; simp only [List.length_cons] at *; omega
    · have := sh_long u v x hx; simp only [List.length_cons] at *; omega
termination_by u v => u.length + v.length
end L2.Qs

set_option exponentiation.threshold 2000
/-! # the worth of a product -/
namespace L2.Fo
open PySem PySem.Spec PyProof.Rows L2.Nk L2.Qs
def Ss (W : Wf) (m : Nat) (L : List Wd) (i : Nat) : Int := (L.map fun w => Sv W m w i).sum
theorem Sv_step (W : Wf) (m : Nat) (l : List Int) (k : Wd) {i : Nat} (h : i < m) : Sv W m (l :: k) i = W l i * Sv W m k (i + 1) + Sv W m (l :: k) (i + 1) := by
  rw [Sv, Sv, show m - i = (m - (i + 1)) + 1 by omega, sf]
theorem Sv_end (W : Wf) (m : Nat) (l : List Int) (k : Wd) {i : Nat} (h : m ≤ i) : Sv W m (l :: k) i = 0 := by
  rw [Sv, show m - i = 0 by omega, sf]
theorem Ss_app (W : Wf) (m : Nat) (a b : List Wd) (i : Nat) : Ss W m (a ++ b) i = Ss W m a i + Ss W m b i := by simp [Ss]
theorem Ss_step (W : Wf) (m : Nat) (l : List Int) {i : Nat} (h : i < m) : ∀ L : List Wd, Ss W m (L.map (l :: ·)) i = W l i * Ss W m L (i + 1) + Ss W m (L.map (l :: ·)) (i + 1)
  | [] => by simp [Ss]
  | w :: L => by
    have ih := Ss_step W m l h L
    unfold Ss at ih ⊢
    simp only [List.map_cons, List.sum_cons] at ih ⊢
    rw [ih, Sv_step W m l w h]
    grind
theorem Ss_end (W : Wf) (m : Nat) (l : List Int) {i : Nat} (h : m ≤ i) : ∀ L : List Wd, Ss W m (L.map (l :: ·)) i = 0
  | [] => by simp [Ss]
  | w :: L => by
    have ih := Ss_end W m l h L
    unfold Ss at ih ⊢
    simp only [List.map_cons, List.sum_cons] at ih ⊢
    rw [ih, Sv_end W m l w h]
    rfl
theorem Ss_perm (W : Wf) (m : Nat) (i : Nat) {a b : List Wd} (h : a.Perm b) : Ss W m a i = Ss W m b i := by
  induction h with
  | nil => rfl
  | cons x _ ih => unfold Ss at ih ⊢; rw [List.map_cons, List.map_cons, List.sum_cons, List.sum_cons, ih]
  | swap x y l => unfold Ss; simp only [List.map_cons, List.sum_cons]; omega
  | trans _ _ i j => rw [i, j]
/-- the worth of two words is that of all that come of them -/
theorem Sv_sh (W : Wf) (m : Nat) : ∀ (N : Nat) (u v : Wd), u.length + v.length ≤ N → (∀ a ∈ u, ∀ b ∈ v, ∀ j, W (addL a b) j = W a j * W b j) → ∀ (n i : Nat), m - i = n → Ss W m (sh u v) i = Sv W m u i * Sv W m v i := by
  intro N
  induction N with
  | zero =>
    intro u v h hW n i hn
    cases u with
    | nil => rw [nil_sh]; simp [Ss, Sv]
    | cons a u => simp at h
  | succ N ihN =>
    intro u v h hW
    cases u with
    | nil => intro n i hn; rw [nil_sh]; simp [Ss, Sv]
    | cons a u =>
      cases v with
      | nil => intro n i hn; rw [sh_nil]; simp [Ss, Sv]
      | cons b v =>
        intro n
        simp only [List.length_cons] at h
        have hab := hW a List.mem_cons_self b List.mem_cons_self
        have i1 := ihN u (b :: v) (by simp only [List.length_cons]; omega) (fun x hx => hW x (List.mem_cons_of_mem _ hx))
        have i2 := ihN (a :: u) v (by simp only [List.length_cons]; omega) (fun x hx y hy => hW x hx y (List.mem_cons_of_mem _ hy))
        have i3 := ihN u v (by omega) (fun x hx y hy => hW x (List.mem_cons_of_mem _ hx) y (List.mem_cons_of_mem _ hy))
        induction n with
        | zero =>
          intro i hi
          rw [sh_cons, Ss_app, Ss_app, Ss_end W m a (by omega), Ss_end W m b (by omega), Ss_end W m _ (by omega), Sv_end W m a u (by omega)]
          simp
        | succ n ihn =>
          intro i hi
          have hlt : i < m := by omega
          have q := ihn (i + 1) (by omega)
          rw [sh_cons, Ss_app, Ss_app] at q ⊢
          rw [Ss_step W m a hlt, Ss_step W m b hlt, Ss_step W m _ hlt, i1 _ (i + 1) rfl, i2 _ (i + 1) rfl, i3 _ (i + 1) rfl, hab, Sv_step W m a u hlt, Sv_step W m b v hlt]
          grind

/-- each term times each other one -/
def mulT (us vs : List (Int × Wd)) : List (Int × Wd) := us.flatMap fun t => vs.flatMap fun s => (ilv t.2 s.2).map fun k => (t.1 * s.1, k)
def timesT (c : Int) (us : List (Int × Wd)) : List (Int × Wd) := us.map fun t => (c * t.1, t.2)
theorem tv_times (W : Wf) (m : Nat) (c : Int) (i : Nat) : ∀ us : List (Int × Wd), tv W m (timesT c us) i = c * tv W m us i
  | [] => by simp [tv, timesT]
  | t :: us => by
    have ih := tv_times W m c i us
    unfold tv timesT at ih ⊢
    simp only [List.map_cons, List.sum_cons] at ih ⊢
    rw [ih]
    grind
theorem tv_words (W : Wf) (m : Nat) (c : Int) (i : Nat) : ∀ L : List Wd, tv W m (L.map fun k => (c, k)) i = c * Ss W m L i
  | [] => by simp [tv, Ss]
  | t :: us => by
    have ih := tv_words W m c i us
    unfold tv Ss at ih ⊢
    simp only [List.map_cons, List.sum_cons] at ih ⊢
    rw [ih]
    grind
theorem tv_one (W : Wf) (m : Nat) (i : Nat) (t : Int × Wd) : ∀ vs : List (Int × Wd), (∀ s ∈ vs, ∀ a ∈ t.2, ∀ b ∈ s.2, ∀ j, W (addL a b) j = W a j * W b j) →
    tv W m (vs.flatMap fun s => (ilv t.2 s.2).map fun k => (t.1 * s.1, k)) i = t.1 * Sv W m t.2 i * tv W m vs i
  | [], _ => by simp [tv]
  | s :: vs, h => by
    have ih := tv_one W m i t vs fun x hx => h x (List.mem_cons_of_mem _ hx)
    rw [List.flatMap_cons, tv_app, ih, tv_words, Ss_perm W m i (ilv_sh t.2 s.2), Sv_sh W m _ t.2 s.2 (Nat.le_refl _) (h s List.mem_cons_self) _ i rfl]
    unfold tv
    rw [List.map_cons, List.sum_cons]
    grind
theorem tv_mul (W : Wf) (m : Nat) (i : Nat) (vs : List (Int × Wd)) : ∀ us : List (Int × Wd), (∀ t ∈ us, ∀ s ∈ vs, ∀ a ∈ t.2, ∀ b ∈ s.2, ∀ j, W (addL a b) j = W a j * W b j) →
    tv W m (mulT us vs) i = tv W m us i * tv W m vs i
  | [], _ => by simp [tv, mulT]
  | t :: us, h => by
    have ih := tv_mul W m i vs us fun x hx => h x (List.mem_cons_of_mem _ hx)
    unfold mulT at ih ⊢
    rw [List.flatMap_cons, tv_app, ih, tv_one W m i t vs (h t List.mem_cons_self)]
    unfold tv
    rw [List.map_cons, List.sum_cons]
    grind
end L2.Fo

set_option exponentiation.threshold 2000
/-! # made_form, times -/
namespace L2.Fo
open PySem PySem.Spec PyProof.Rows L2.Vf L2.Dw L2.Ch L2.Nk
abbrev sMf : Stmt := top 16
abbrev sTi : Stmt := top 24
abbrev nMf : List Str := ["width", "terms", "form"]
theorem scMf : FnScope nMf ["width", "terms"] (defScope sMf) := ⟨rfl, rfl, rfl, by decide +kernel, rfl, by decide +kernel, by decide +kernel⟩
theorem extN_tr {H H1 H2 : Hp} (a : LamX.ExtN H H1) (b : LamX.ExtN H1 H2) : LamX.ExtN H H2 := fun c o e n => b c o (a c o e n) n
/-- a new form of terms that are known to be terms -/
def spMf (K : PySem.W.Frag) (T : List (Addr × Str)) (C : Addr) : Sp := fun vs H Q _ => ∃ (n : Nat) (a : Addr) (ts : List Trm), vs = [.int (n : Nat), .ref a] ∧ widD (.int (n : Nat)) = true ∧ SqL K H a (ts.map fun t => V.ref t.1) ∧ (∀ t ∈ ts, TmAt K H t) ∧ ts.length < sizeLine ∧ LamX.Tabs T H ∧
  ∀ (p D : Addr) (H' : Hp), H p = none → NewN H D → LamX.ExtN H H' → LamX.Tabs T H' → FoAt K C H' p n (together (ts.map (·.2))) D → Q (.ref p) H'
/-- the terms, each multiplied -/
def spTi (K : PySem.W.Frag) : Sp := fun vs H Q _ => ∃ (c : Int) (a : Addr) (ts : List Trm), vs = [.int c, .ref a] ∧ SqL K H a (ts.map fun t => V.ref t.1) ∧ (∀ t ∈ ts, TmAt K H t) ∧ ts.length < sizeLine ∧ c.natAbs ≤ 2 ^ 400 ∧ (∀ t ∈ ts, t.2.1.natAbs ≤ 2 ^ 400) ∧
  ∀ (D : Addr) (rs : List Trm) (H' : Hp), H D = none → Same H H' → H' D = some (.lst (rs.map fun r => V.ref r.1)) → (∀ r ∈ rs, TmAt K H' r) → rs.map (·.2) = (ts.map (·.2)).map (fun t => (c * t.1, t.2)) → Q (.ref D) H'
section
variable {P : Program} {w : World} {K : PySem.W.Frag} {mg : Str → Option Value} {base : Heap}
theorem ok_mf {C CN CL CT fI fP f : Addr} {T : List (Addr × Str)} {fd dI dP : FuncData} (F : Fun K "made_form" "made_form" sMf f fd) (FT : FoT K mg C) (M : Mk K C fI)
    (GI : FnOk P w K mg base (L2.CX P w) 6 fI dI ["self", "width", "terms"] (spFi K T C CN CL CT)) (bI : Binds K dI ["self", "width", "terms"] [])
    (GP : FnOk P w K mg base CX0 3 fP dP ["terms"] (spPt K T)) (mP : mg "put_together" = some (.ref fP)) (kP : PySem.W.keepIn K (.ref fP) = true) (bP : Binds K dP ["terms"] []) :
    FnOk P w K mg base CX0 8 f fd ["width", "terms"] (spMf K T C) := by
  refine F.ok scMf (fun vs H Q E h => ?_) fun cdv A outer s H vs Q E hr h => ?_
  · obtain ⟨n, a, ts, rfl, _⟩ := h
    rfl
  · obtain ⟨n, a, ts, rfl, wn, ha, ht, hz, hT, q⟩ := h
    refine ⟨_, pss_cons (ps_set (i := 2) scMf.nd rfl (.inl rfl) (pe_makeS M GI hr rfl FT.mg_ bI .nil (fun σ => passAt (W := fun _ _ _ _ => False) takes0 σ) (pa_cons (pv 0) (pa_cons (pe_lst pa_nil) pa_nil))))
      (pss_cons (ps_fld (pv 2) (pe_call GP (hr.mono (by decide)) rfl mP kP bP .nil pass0 (pa_cons (pv 1) pa_nil)) rfl)
      (pss_one (ps_ret (pv 2)))), ?_⟩
    refine ⟨_, rfl, by show 0 ≤ sizeLine; omega, fun A0 hA => ⟨rfl, fun x dx hx hdx ne => ?_⟩⟩
    have sA := same_new (o := .lst []) hA
    have sd := same_new (o := .own x) hdx
    have sM := sd.trans (same_new (o := .ins C dx []) (by rw [upd_ne ne.symm]; exact hx))
    refine ⟨x, dx, .int (n : Nat), .ref A0, .int (n : Nat), .list [], [], [A0], rfl, upd_same, .int _, .lst (as := []) (SqL.of (sM _ _ upd_same)) .nil, (hT.ext sA).ext sM, .inr ⟨n, rfl, wn, .inr ⟨[], rfl, .inr ⟨[], rfl, rfl, by show 0 < sizeLine; rw [sizeLine_eq]; omega, fun H1 D kN T1 nD fo => ⟨rfl, ?_⟩⟩⟩⟩⟩
    have e1 : LamX.ExtN H H1 := fun b o hb ho => kN b o (ne_of_none (sA _ _ hb) hx) ho (sM _ _ (sA _ _ hb))
    obtain ⟨dx1, rs1, f1, f2, f3, f4⟩ := fo
    have hx0 : H x = none := sA.free hx
    refine ⟨_, rfl, a, ts, rfl, sqL_ext e1 ha, (fun t h => (ht t h).ext e1), hz, T1, fun D2 rs2 H2 e2 T2 nD2 eD2 tm2 et2 => ?_⟩
    have hp2 := e2 _ _ f1 (fun ps z => by cases z)
    refine ⟨_, rfl, x, C, dx1, _, rfl, hp2, FT.cl, FT.nT, (by show 2 < 1000; decide), ?_⟩
    have pD : D2 ≠ x := fun z => by rw [z, hp2] at eD2; cases eD2
    refine ⟨_, rfl, q x D2 _ hx0 (fun o ho => ?_) (fun b o hb ho => ?_) (tabs_ins hp2 T2) ⟨dx1, rs2, upd_same, ?_, fun r hr => tmAt_ins hp2 (tm2 r hr).1, et2⟩⟩
    · by_cases z : ∃ ps, o = .tbl ps
      · exact z
      · exact nD2 o (e1 _ _ ho (fun ps y => z ⟨ps, y⟩))
    · rw [upd_ne (ne_of_none hb hx0)]
      exact e2 b o (e1 b o hb ho) ho
    · rw [upd_ne pD]; exact eD2
abbrev nTi : List Str := ["factor", "terms", "coefficient", "letters"]
theorem scTi : FnScope nTi ["factor", "terms"] (defScope sTi) := ⟨rfl, rfl, rfl, by decide +kernel, rfl, by decide +kernel, by decide +kernel⟩
theorem ok_ti {f : Addr} {fd : FuncData} (F : Fun K "times" "times" sTi f fd) : FnOk P w K mg base CX0 1 f fd ["factor", "terms"] (spTi K) := by
  refine F.ok scTi (fun vs H Q E h => ?_) fun cdv A outer s H vs Q E hr h => ?_
  · obtain ⟨c, a, ts, rfl, _⟩ := h
    rfl
  · obtain ⟨c, a, ts, rfl, ha, ht, hz, hc, hcs, q⟩ := h
    refine ⟨_, pss_one (ps_ret (pe_lc (own := [("coefficient", 2), ("letters", 3)]) (g := gTup K 2 (gCons (gName 2) (gCons (gName 3) gNil))) (tt := tYes) (te := tTup (tCons (tOp (rI CMulX fun i j => .int (i * j)) (tVar 0) (tVar 2)) (tCons (tVar 3) tNil))) rfl scTi.nd
      (pi_list (pv 1)) (blkOk_by (N := nTi) (sc := defScope sTi) (by decide +kernel)) (fun _ _ _ _ _ => pg_tup rfl (pgs_cons (pg_name (i := 2) scTi.nd rfl (Or.inl rfl)) (pgs_cons (pg_name (i := 3) scTi.nd rfl (Or.inl rfl)) pgs_nil)))
      (fun _ _ _ _ _ => pts_nil) (fun _ _ _ _ _ => pe_tup (pa_cons (pe_op op_mulX (pv 0) (pv 2)) (pa_cons (pv 3) pa_nil))))), ?_⟩
    refine ⟨_, rfl, a, rfl, ⟨_, ha⟩, fun D hD => ?_⟩
    refine lc_list (xs := ts.map fun t => V.ref t.1) (fun i H2 => Same H H2 ∧ ∃ rs : List Trm, H2 D = some (.lst (rs.map fun r => V.ref r.1)) ∧ (∀ r ∈ rs, TmAt K H2 r) ∧ rs.map (·.2) = (((ts.take i).map (·.2)).map fun t => (c * t.1, t.2))) ?_ ?_ ?_ ?_
    · exact ⟨same_new hD, [], upd_same, fun r hr => absurd hr (by simp), by simp⟩
    · rintro i H2 _ ⟨s2, _⟩
      exact sqL_ext (.of s2) ha
    · rintro i x H2 hx ⟨s2, rs, e2, r2, m2⟩
      rw [List.getElem?_map] at hx
      obtain ⟨t, hti, rfl⟩ := Option.map_eq_some_iff.mp hx
      have htm := List.mem_of_getElem? hti
      obtain ⟨b, g1, g2⟩ := TmAt.ext (.of s2) (ht t htm)
      have hil : i < ts.length := (List.getElem?_eq_some_iff.mp hti).1
      have hrl : rs.length ≤ i := by have := congrArg List.length m2; rw [List.length_map, List.length_map, List.length_map, List.length_take] at this; omega
      refine ⟨t.1, _, rfl, g1, rfl, _, _, rfl, _, _, rfl, rfl, rfl, ?_⟩
      refine ⟨_, rfl, _, rfl, _, _, rfl, rfl, mulX hc (hcs t htm) (by decide), _, rfl, by show 2 ≤ sizeLine; decide, fun y hy => ?_⟩
      have sy := same_new (o := .tup [V.int (c * t.2.1), V.ref b]) hy
      have eD := sy _ _ e2
      refine ⟨_, eD, by rw [List.length_map]; omega, same_wr (s2.trans sy) hD, rs ++ [(y, c * t.2.1, t.2.2)], by rw [upd_same, List.map_append]; rfl, fun r hr => ?_, ?_⟩
      · rcases List.mem_append.mp hr with h | h
        · exact tmAt_upd eD True.intro ((r2 r h).ext (.of sy))
        · rw [List.mem_singleton.mp h]
          exact tmAt_upd eD True.intro ⟨b, SqT.of upd_same, nKey_ext (.of sy) g2⟩
      · rw [List.map_append, m2, List.take_add_one, hti]
        simp
    · rintro H2 ⟨s2, rs, e2, r2, m2⟩
      rw [List.length_map, List.take_length] at m2
      exact q D rs H2 hD s2 e2 r2 m2
end
end L2.Fo

/-! # enumerate of a tuple -/
namespace PySem.VfZ
open PySem PySem.Spec PySem.Calls PyProof.Rows
section
variable {prog : Program} {w : World} {A : Around} {E : Value → Shared → Prop} {s : Shared} {IT : Heap → Addr → Addr → Nat → Prop} {SS : Heap → Addr → Array Value → Prop}
theorem en_item {e it l : Addr} {i : Nat} {xs : Array Value} {x old : Value} {Q : Value → Shared → Prop} (Z : ZK IT SS) (he : IsEnum s.heap e it i old) (hit : IT s.heap it l i) (hl : SS s.heap l xs) (hx : xs[i]? = some x) (ne : e ≠ it)
    (hQ : ∀ h', IsEnumOut h' e it ((i : Int) + 1) x s.heap.objs.size → IT h' it l (i + 1) → h'.get? s.heap.objs.size = some { cls := .type "tuple", data := .seq #[.int i s.toks, x] } →
      (∀ b o, b ≠ e → b ≠ it → s.heap.get? b = some o → h'.get? b = some o) → Q (.ref s.heap.objs.size) { s with heap := h', toks := s.toks + 1 }) :
    wpAny (model prog w) A (Builtin.«enumerate.__next__» ⟨[.ref e], []⟩) (fun f t => ∃ v, f = .done (.ret v) ∧ Q v t) E s := by
  obtain ⟨hp, g, d, tk, os⟩ := s
  have el : e < hp.objs.size := Heap.lt_size he
  show wpAny _ _ (field (.ref e) 2 >>= _) _ _ _ ; refine wpAny_bind (wpAny_field he rfl (x := .ref it) rfl (wpAny_bind (Z.item hit hl hx fun ha ia sa => ?_)))
  replace sa : Heap.SameBut it hp ha := sa
  have ea : IsEnum ha e it i old := (sa.2 e ne).trans he
  show wpAny _ _ (field (.ref e) 3 >>= _) _ _ ⟨ha, g, d, tk, os⟩ ; refine wpAny_bind (wpAny_field ea rfl (x := rawInt i) rfl ?_)
  show wpAny _ _ (field (.ref e) 4 >>= _) _ _ ⟨ha, g, d, tk, os⟩ ; refine wpAny_bind (wpAny_field ea rfl (x := .none) rfl ?_)
  show wpAny _ _ (mkInt i >>= _) _ _ ⟨ha, g, d, tk, os⟩ ; refine wpAny_bind (wpAny_mkInt ?_)
  show wpAny _ _ (setField (.ref e) 3 (rawInt ((i : Int) + 1)) >>= _) _ _ ⟨ha, g, d, tk + 1, os⟩ ; refine wpAny_bind (wpAny_setField_rec ea (by simp) fun hb eb sb => ?_)
  replace sb : Heap.SameBut e ha hb := sb
  replace eb : IsEnum hb e it ((i : Int) + 1) old := eb
  show wpAny _ _ (setField (.ref e) 4 .none >>= _) _ _ ⟨hb, g, d, tk + 1, os⟩ ; refine wpAny_bind (wpAny_setField_rec eb (by simp) fun hc ec sc => ?_)
  replace sc : Heap.SameBut e hb hc := sc
  replace ec : IsEnum hc e it ((i : Int) + 1) old := ec
  show wpAny _ _ (newTuple [.int i tk, x] >>= _) _ _ ⟨hc, g, d, tk + 1, os⟩ ; refine wpAny_bind (wpAny_newTuple ?_)
  have zc : hc.objs.size = hp.objs.size := by rw [sc.1, sb.1, sa.1]
  have ic := Z.ie (Z.ie ia sb.extBut (Ne.symm ne)) sc.extBut (Ne.symm ne)
  have kc : ∀ b o, b ≠ e → b ≠ it → hp.get? b = some o → hc.get? b = some o := fun b o b1 b2 z => sc.extBut b o b1 (sb.extBut b o b1 (sa.extBut b o b2 z))
  have ed : IsEnum (hc.push { cls := .type "tuple", data := .seq #[.int i tk, x] }) e it ((i : Int) + 1) old := Heap.get?_push_of_some _ ec
  have td : (hc.push { cls := .type "tuple", data := .seq #[.int i tk, x] }).get? hp.objs.size = some { cls := .type "tuple", data := .seq #[.int i tk, x] } := by rw [← zc]; exact Heap.get?_push_size _ rfl
  have id' := Z.ia ic (h' := hc.push { cls := .type "tuple", data := .seq #[.int i tk, x] }) fun o z => Heap.get?_push_of_some _ z
  have kd : ∀ b o, b ≠ e → b ≠ it → hp.get? b = some o → (hc.push { cls := .type "tuple", data := .seq #[.int i tk, x] }).get? b = some o := fun b o b1 b2 z => Heap.get?_push_of_some _ (kc b o b1 b2 z)
  show wpAny _ _ (Builtin.SmallTypes.ownedTupleIsFree (.ref e) >>= _) _ _ ⟨_, g, d, tk + 1, os⟩
  rw [zc]
  generalize hc.push { cls := .type "tuple", data := .seq #[.int i tk, x] } = hd at ed td id' kd
  clear kc ic ec eb ea sc sb sa ia zc hc hb ha
  refine wpAny_bind ?_
  unfold Builtin.SmallTypes.ownedTupleIsFree
  refine wpAny_bind (wpAny_field ed rfl (x := .none) rfl (wpAny_pure ?_))
  simp only [if_true]
  refine wpAny_bind (wpAny_rule (wpAny_bind (wpAny_field ed rfl (x := old) rfl (wpAny_bind (wpAny_setField_rec ed (by simp) fun hf ef sf => ?_)))))
  replace sf : Heap.SameBut e hd hf := sf
  replace ef : IsEnum hf e it ((i : Int) + 1) x := ef
  show wpAny _ _ (Builtin.SmallTypes.ownedTupleHandOut (.ref e) (.ref hp.objs.size) >>= _) _ _ ⟨hf, g, d, tk + 1, os⟩
  refine wpAny_bind ?_
  unfold Builtin.SmallTypes.ownedTupleHandOut
  refine wpAny_bind (wpAny_setField_rec ef (by simp) fun hg eg sg => ?_)
  replace sg : Heap.SameBut e hf hg := sg
  replace eg : IsEnumOut hg e it ((i : Int) + 1) x hp.objs.size := eg
  refine wpAny_setField_rec eg (by simp) fun hi ei si => ?_
  replace si : Heap.SameBut e hg hi := si
  replace ei : IsEnumOut hi e it ((i : Int) + 1) x hp.objs.size := ei
  have up : ∀ b o, b ≠ e → hd.get? b = some o → hi.get? b = some o := fun b o b1 z => si.extBut b o b1 (sg.extBut b o b1 (sf.extBut b o b1 z))
  exact wpAny_bind (wpAny_letGo (wpAny_pure ⟨_, rfl, hQ hi ei (Z.ia id' fun o z => up _ o (Ne.symm ne) z) (up _ _ (Nat.ne_of_gt el) td) fun b o b1 b2 z => up b o b1 (kd b o b1 b2 z)⟩))
theorem en_next {e it l : Addr} {i : Nat} {xs : Array Value} {x old : Value} {Q : Option Value → Shared → Prop} (Z : ZK IT SS) (he : IsEnum s.heap e it i old) (hit : IT s.heap it l i) (hl : SS s.heap l xs) (hx : xs[i]? = some x) (ne : e ≠ it)
    (hQ : ∀ h', IsEnumOut h' e it ((i : Int) + 1) x s.heap.objs.size → IT h' it l (i + 1) → h'.get? s.heap.objs.size = some { cls := .type "tuple", data := .seq #[.int i s.toks, x] } →
      (∀ b o, b ≠ e → b ≠ it → s.heap.get? b = some o → h'.get? b = some o) → Q (some (.ref s.heap.objs.size)) { s with heap := h', toks := s.toks + 1 }) : wpAny (model prog w) A (pyNext (.ref e)) Q E s := by
  have hT : s.TypeIs (.ref e) "enumerate" := ⟨_, he, rfl⟩
  unfold pyNext
  exact wpAny_bind (wpAny_attempt (wpAny_callSpecial?_slot (name := Str.ofString "__next__") hT F.slot_enumerate_next (wpAny_call_entry F.slot_enumerate_next hT F.entry_enumerate_next (en_item Z he hit hl hx ne fun h' a b c k => wpAny_pure (hQ h' a b c k)) (F.args_enumerate_next_1 _))))
theorem en_end {e it l : Addr} {i : Nat} {xs : Array Value} {old : Value} {Q : Option Value → Shared → Prop} (Z : ZK IT SS) (hh : A.handled = none) (he : IsEnum s.heap e it i old) (hit : IT s.heap it l i) (hl : SS s.heap l xs) (hx : xs[i]? = none)
    (hQ : ∀ h', Heap.ExtBut it s.heap h' → Q none { s with heap := h' }) : wpAny (model prog w) A (pyNext (.ref e)) Q E s := by
  have hT : s.TypeIs (.ref e) "enumerate" := ⟨_, he, rfl⟩
  unfold pyNext
  refine wpAny_bind (wpAny_attempt (wpAny_callSpecial?_slot (name := Str.ofString "__next__") hT F.slot_enumerate_next (wpAny_call_entry F.slot_enumerate_next hT F.entry_enumerate_next ?_ (F.args_enumerate_next_1 _))))
  show wpAny _ _ (field (.ref e) 2 >>= _) _ _ _ ; refine wpAny_bind (wpAny_field he rfl (x := .ref it) rfl (wpAny_bind (Z.fin hh hit hl hx fun h' x ee ⟨o, ho, hc⟩ => ?_)))
  exact wpAny_bind (wpAny_isInstance (T := "StopIteration") (b := true) ⟨o, ho, hc⟩ isSubtype_stop (wpAny_pure (hQ _ ee)))
theorem meets_enT (l : Addr) (xs : Array Value) : Meets (Builtin.«enumerate.__new__» ⟨[.type "enumerate", .ref l], []⟩) (fun _ R s => s.heap.IsTuple l xs ∧
      R (.ok (.ret (.ref (s.heap.push { cls := .type "tuple_iterator", data := .fields #[.ref l, .int 0 0] }).objs.size)))
        { s with heap := (s.heap.push { cls := .type "tuple_iterator", data := .fields #[.ref l, .int 0 0] }).push { cls := .type "enumerate", data := .fields #[.none, .bool false, .ref s.heap.objs.size, rawInt 0, .none, .none] } }) :=
  .of_wp fun prog w A R s h => by
    obtain ⟨hp, g, d, tk, os⟩ := s
    obtain ⟨a, h⟩ := h
    have hsub := sub_enumerate
    have hT : Heap.IsTuple (Shared.heap ⟨hp, g, d, tk, os⟩) l xs := a
    wp_walk using wpAny_pyIter_tuple hT
    refine wpAny_stack_any fun st => wpAny_pure ?_
    split
    · rename_i c _ _ _ _ _
      cases (c == Value.type "enumerate")
      · wp_walk using wpAny_pyIter_tuple hT
        exact ⟨_, rfl, h⟩
      · wp_walk using wpAny_pyIter_tuple hT
        exact ⟨_, rfl, h⟩
    · wp_walk using wpAny_pyIter_tuple hT
      exact ⟨_, rfl, h⟩
theorem call_enT {l : Addr} {xs : Array Value} {Q : Value → Shared → Prop} (hl : s.heap.IsTuple l xs)
    (h : ∀ h', IsEnum h' (s.heap.objs.size + 1) s.heap.objs.size 0 .none → h'.IsTupleIter s.heap.objs.size l 0 → (∀ b o, s.heap.get? b = some o → h'.get? b = some o) → Q (.ref (s.heap.objs.size + 1)) { s with heap := h' }) :
    wpAny (model prog w) A (call (.type "enumerate") [.ref l]) Q E s := by
  refine callType_new F.called_enumerate (by decide) (F.typeCall_enumerate_1 _) (F.newCall_enumerate_1 _) (fun obj => F.args_object_init_2 obj _) F.entry_enumerate_new (meets_enT l xs) ⟨hl, ?_⟩
  have hz : (s.heap.push { cls := .type "tuple_iterator", data := .fields #[.ref l, .int 0 0] }).objs.size = s.heap.objs.size + 1 := Heap.size_push ..
  show _ ∧ _
  rw [hz]
  have he := Heap.get?_push_size (s.heap.push { cls := .type "tuple_iterator", data := .fields #[.ref l, .int 0 0] }) (o := { cls := .type "enumerate", data := .fields #[.none, .bool false, .ref s.heap.objs.size, rawInt 0, .none, .none] }) rfl
  rw [hz] at he
  exact ⟨⟨_, he, rfl⟩, h _ he ⟨_, Heap.get?_push_of_some _ (Heap.get?_push_size _ rfl), rfl, rfl⟩ fun b o x => Heap.get?_push_of_some _ (Heap.get?_push_of_some _ x)⟩
end
end PySem.VfZ
namespace L2.Vf
open PySem PySem.Spec PyProof.Rows PySem.VfZ
/-- the tuple at a, each item in a new pair with its place -/
def IteT (K : PySem.W.Frag) (a : Addr) : It :=
  ⟨fun i H => ∃ (xs : List V) (x : V), SqT K H a xs ∧ xs[i]? = some x, fun i H v H' => ∃ t x, v = .ref t ∧ H t = none ∧ H' = upd H t (.tup [.int (i : Nat), x]) ∧ ∀ xs, SqT K H a xs → xs[i]? = some x, fun i H => ∃ xs : List V, SqT K H a xs ∧ xs.length ≤ i⟩
theorem turn_enT {P : Program} {w : World} {K : PySem.W.Frag} {elts : List Expr} {kk : Nat} {tpos : Pos} (a e it : Addr) :
    Turn P w K (.Tuple elts kk tpos) (IteT K a) [e, it] e (fun i h => (∃ old, IsEnum h e it ((i : Nat) : Int) old) ∧ h.IsTupleIter it a i ∧ e ≠ it) where
  mem := by simp
  obj := fun i h st b hb => by
    obtain ⟨⟨old, he⟩, ⟨o, ho, hc, hd⟩, _⟩ := st
    rcases (by simpa using hb : b = e ∨ b = it) with rfl | rfl
    · exact ⟨_, he, fun v q => nomatch q⟩
    · exact ⟨o, ho, fun v q => by rw [hd] at q; cases q⟩
  keep := fun i h h' st k => by
    obtain ⟨⟨old, he⟩, hi, ne⟩ := st
    exact ⟨⟨old, k e (by simp) _ he⟩, hi.at fun o q => k it (by simp) o q, ne⟩
  item := by
    intro X hP hw hK hc i pins s σ H E I hf st hg
    subst hP hw hK
    obtain ⟨⟨old, he⟩, hit, ne⟩ := st
    obtain ⟨xs, x, hq, hx⟩ := hg
    obtain ⟨its, rv, p, _⟩ := I.tuple hq
    obtain ⟨u, hu, ru⟩ := rv.get hx
    have le : e < s.heap.objs.size := Heap.lt_size he
    have li : it < s.heap.objs.size := zk_tuple.lt hit
    refine en_next zk_tuple he hit p (x := u) (by simpa using hu) ne fun h' ho hit' hT hk => ⟨_, rfl, wpAny_letOwnedTupleGo_enum (s := { s with heap := h', toks := s.toks + 1 }) ho fun h2 he2 sb => ?_⟩
    have hT2 : h2.get? s.heap.objs.size = some { cls := .type "tuple", data := .seq #[.int i s.toks, u] } := (sb.2 _ (Nat.ne_of_gt le)).trans hT
    have new : ObjOk X.prog X.w (upd H s.heap.objs.size (.tup [.int (i : Nat), x])) h2 s.heap.objs.size (.tup [.int (i : Nat), x]) := ⟨by show 2 ≤ sizeLine; decide, [.int i s.toks, u], .cons ⟨_, rfl⟩ (.cons ru .nil), ⟨_, hT2, rfl, _, rfl⟩⟩
    have I1 : Inv X pins σ (upd H s.heap.objs.size (.tup [.int (i : Nat), x])) { s with heap := h2, toks := s.toks + 1 } :=
      I.turnedNew (ch := [e, it]) (fun b ob hb q => (sb.2 b (fun z => hb (by simp [z]))).trans (hk b ob (fun z => hb (by simp [z])) (fun z => hb (by simp [z])) q)) hf (Nat.le_refl _) new
    refine ⟨.ref s.heap.objs.size, _, I1, rfl, ⟨_, x, rfl, I.hok.fresh (Nat.le_refl _), rfl, fun l hl => by rw [I.tuple_inj hl hq]; exact hx⟩, ⟨⟨u, by rw [show ((i + 1 : Nat) : Int) = (i : Int) + 1 by omega]; exact he2⟩, hit'.at fun o q => (sb.2 it (Ne.symm ne)).trans q, ne⟩, fun b hb => ?_⟩
    rcases (by simpa using hb : b = e ∨ b = it) with rfl | rfl
    · rw [upd_ne (Nat.ne_of_lt le)]; exact (hf _ hb).1
    · rw [upd_ne (Nat.ne_of_lt li)]; exact (hf _ hb).1
  done := by
    intro X hP hw hK hc i pins s σ H E I hf st hg
    subst hP hw hK
    obtain ⟨⟨old, he⟩, hit, ne⟩ := st
    obtain ⟨xs, hq, hx⟩ := hg
    obtain ⟨its, rv, p, _⟩ := I.tuple hq
    obtain ⟨g0, g1, g2, g3, g4, g5⟩ := hf it (by simp)
    have hl := rv.length
    exact en_end zk_tuple (I.ok.hd hc) he hit p (by simp; omega) fun h' eb => ⟨rfl, I.turned (t' := s.toks) (fun b o hb q => eb b o hb q) g0 g1 g3 g4 g5⟩
  self := fun A i s Q E st h => by
    obtain ⟨⟨_, he⟩, _⟩ := st
    exact wpAny_pyIter_enum he h
def iEnumT (K : PySem.W.Frag) (ta : TA) : TI := fun σ H R => ta σ H fun vs H1 => ∃ a xs, vs = [.ref a] ∧ SqT K H1 a xs ∧ R (IteT K a) H1
theorem pi_enumT {X : Cx} {e : Expr} {ta : TA} {p pos tpos : Pos} {elts : List Expr} {kk : Nat} (hg : Gl X "enumerate") (hm : X.mg "enumerate" = none) (ha : PA X [e] ta) (hs : starEach [e] X.env = [(false, eval e X.env)] := by rfl) :
    PI X (.Tuple elts kk tpos) (.Call (.Name "enumerate" p) [e] [] pos) (iEnumT X.K ta) := by
  refine ⟨fun pins s σ H R I h => Call_ (ld_blt I hg hm boot_enumerate (PyProof.Rows.callWith_type1 (thn (ha.run pos pins s σ H _ I h) fun us s1 ⟨vs, H1, I1, r1, q1⟩ => ?_) hs rfl))⟩
  obtain ⟨a, xs, rfl, hq, q⟩ := q1
  cases r1 with
  | cons r rr =>
    cases rr
    cases r
    obtain ⟨its, rv, p', _⟩ := I1.tuple hq
    have fr : ∀ c, s1.heap.objs.size ≤ c → FpOk X pins H1 c := fun c hle => I1.fpOk hle (I1.hok.fresh hle)
    refine call_enT p' fun h' he hit hk => wpAny_pyIter_enum he ⟨s1.heap.objs.size + 1, [s1.heap.objs.size + 1, s1.heap.objs.size], _, _, H1, rfl, I1.kept (t' := s1.toks) hk, turn_enT a (s1.heap.objs.size + 1) s1.heap.objs.size, ⟨⟨.none, he⟩, hit, Nat.succ_ne_self _⟩, fun b hb => ?_, q⟩
    rcases (by simpa using hb : b = s1.heap.objs.size + 1 ∨ b = s1.heap.objs.size) with rfl | rfl
    · exact fr _ (Nat.le_add_right _ _)
    · exact fr _ (Nat.le_refl _)
theorem walk_enT {K : PySem.W.Frag} {a : Addr} {xs : List V} : Walk (IteT K a) xs.length (fun H => SqT K H a xs) (YPair (fun i => some (.int (i : Nat))) (fun i => xs[i]?)) := by
  refine ⟨fun i _ hi q => ⟨xs, xs[i], q, by simp [hi]⟩, fun _ q => ⟨xs, q, Nat.le_refl _⟩, fun i H v H' _ q y => ?_⟩
  obtain ⟨t, x, h1, h2, h3, h4⟩ := y
  exact ⟨t, .int (i : Nat), x, h1, h2, h3, rfl, h4 xs q⟩
end L2.Vf

set_option exponentiation.threshold 2000
/-! # interleaved: its pieces -/
namespace L2.Fo
open PySem PySem.Spec PyProof.Rows L2.Vf L2.Dw L2.Ch L2.Nk L2.Qs RZ
theorem walk_zipT {K : PySem.W.Frag} {a b : Addr} {xs ys : List V} {n : Nat} (hn : n = min xs.length ys.length) : Walk (ItzT K a b) n (fun H => SqT K H a xs ∧ SqT K H b ys) (YPair (fun i => xs[i]?) (fun i => ys[i]?)) := by
  subst hn
  refine ⟨fun i _ hi q => ?_, fun _ q => ⟨xs, ys, q.1, q.2, by omega⟩, fun i H v H' _ q y => ?_⟩
  · exact ⟨xs, ys, xs[i]'(by omega), ys[i]'(by omega), q.1, q.2, List.getElem?_eq_getElem _, List.getElem?_eq_getElem _⟩
  · obtain ⟨t, x, z, h1, h2, h3, h4, h5⟩ := y
    exact ⟨t, x, z, h1, h2, h3, h4 xs q.1, h5 ys q.2⟩
/-- at a: a list of words -/
def WlAt (K : PySem.W.Frag) (H : Hp) (a : Addr) (ws : List Wd) : Prop := ∃ cs : List Addr, H a = some (.lst (cs.map V.ref)) ∧ Paired (fun c k => NKey K H k c) cs ws
theorem WlAt.same {K : PySem.W.Frag} {H H' : Hp} {a : Addr} {ws : List Wd} (h : WlAt K H a ws) (s : Same H H') : WlAt K H' a ws := by
  obtain ⟨cs, h1, h2⟩ := h
  exact ⟨cs, s _ _ h1, Paired.mapP h2 fun _ _ e => nKey_ext (.of s) e⟩
theorem nKey_upd {K : PySem.W.Frag} {H : Hp} {d b : Addr} {k : Wd} {o o' : HO} (e : H d = some o) (mu : Mut (some o)) (h : NKey K H k b) : NKey K (upd H d o') k b := h.mono fun _ _ q => sqT_upd e mu q
theorem WlAt.upd {K : PySem.W.Frag} {H : Hp} {d a : Addr} {ws : List Wd} {o o' : HO} (e : H d = some o) (mu : Mut (some o)) (ne : a ≠ d) (h : WlAt K H a ws) : WlAt K (upd H d o') a ws := by
  obtain ⟨cs, h1, h2⟩ := h
  exact ⟨cs, by rw [upd_ne ne]; exact h1, Paired.mapP h2 fun _ _ q => nKey_upd e mu q⟩
/-- a letter is put behind a word -/
theorem cat_word {K : PySem.W.Frag} {H : Hp} {b c : Addr} {k : Wd} {l : List Int} {Q : VK} (hk : NKey K H k b) (hc : SqT K H c (l.map V.int)) (hz : k.length < 1000) (q : ∀ d H', Same H H' → NKey K H' (k ++ [l]) d → Q (.ref d) H') :
    ∀ t, H t = none → rCatA K (.ref b) (.ref t) (upd H t (.tup [.ref c])) Q := by
  intro t ht
  obtain ⟨bs, h1, h2⟩ := hk
  have st := same_new (o := .tup [V.ref c]) ht
  have hl : bs.length = k.length := Paired.length h2
  refine ⟨b, t, bs.map V.ref, [V.ref c], rfl, rfl, sqT_ext (.of st) h1, SqT.of upd_same, by rw [List.length_map, sizeLine_eq]; simp; omega, fun e => ?_, fun _ e => absurd e (by simp), fun _ _ d hd => ?_⟩
  · have : bs = [] := by cases bs <;> simp_all
    subst this
    cases h2
    exact q t _ st ⟨[c], SqT.of upd_same, .cons (sqT_ext (.of st) hc) .nil⟩
  · have sd := same_new (o := .tup (bs.map V.ref ++ [V.ref c])) hd
    refine q d _ (st.trans sd) ⟨bs ++ [c], SqT.of (by rw [upd_same, List.map_append]; rfl), ?_⟩
    exact Paired.snoc (Paired.mapP h2 fun _ _ e => sqT_ext (.of (st.trans sd)) e) (sqT_ext (.of (st.trans sd)) hc)
/-- [way + (letter,) for way in ..] -/
theorem lc_app {K : PySem.W.Frag} {tI : TE} {σ : St} {H : Hp} {j m : Nat} {a cl : Addr} {ws : List Wd} {l : List Int} {Q : VK} (hI : ∀ R : VK, R (.ref a) H → tI σ H R) (hm : m < σ.length) (hj : σ[j]? = some (some (.ref cl))) (hne : j ≠ m) (hl : SqT K H cl (l.map V.int)) (wl : WlAt K H a ws) (hz : ws.length < sizeLine) (hw : ∀ k ∈ ws, k.length < 1000)
    (q : ∀ D H', Same H H' → H D = none → WlAt K H' D (ws.map (· ++ [l])) → Q (.ref D) H') :
    tLc (iList K tI) (gName m) tYes (tOp (rCatA K) (tVar m) (tTup (tCons (tVar j) tNil))) [m] σ H Q := by
  obtain ⟨cs, h1, h2⟩ := wl
  have hcl : cs.length = ws.length := Paired.length h2
  refine hI _ ⟨a, rfl, ⟨_, SqL.of h1⟩, fun D hD => ?_⟩
  refine lc_list (xs := cs.map V.ref) (fun i H2 => Same H H2 ∧ WlAt K H2 D ((ws.take i).map (· ++ [l]))) ?_ ?_ ?_ ?_
  · exact ⟨same_new hD, [], upd_same, .nil⟩
  · rintro i H2 _ ⟨s2, _⟩
    exact SqL.of (s2 _ _ h1)
  · rintro i x H2 hx ⟨s2, ds, e2, p2⟩
    rw [List.getElem?_map] at hx
    obtain ⟨c, hci, rfl⟩ := Option.map_eq_some_iff.mp hx
    obtain ⟨k, hki, hk⟩ := Paired.idx h2 hci
    have hil : i < ws.length := (List.getElem?_eq_some_iff.mp hki).1
    have hdl : ds.length ≤ i := by rw [Paired.length p2, List.length_map, List.length_take]; omega
    show wipe ((σ.set m none).set m (some (.ref c))) [m] = σ.set m none ∧ _
    refine ⟨by show ((σ.set m none).set m (some (V.ref c))).set m none = σ.set m none; rw [List.set_set, List.set_set], ?_⟩
    refine ⟨.ref c, by rw [List.getElem?_set_self (by rw [wipe_length]; exact hm)], .ref cl, by rw [List.getElem?_set_ne (Ne.symm hne)]; show (σ.set m none)[j]? = _; rw [List.getElem?_set_ne (Ne.symm hne)]; exact hj, by show 1 ≤ sizeLine; decide, ?_⟩
    refine cat_word (nKey_ext (.of s2) hk) (sqT_ext (.of s2) hl) (hw k (List.mem_of_getElem? hki)) fun d H3 s3 hd3 => ?_
    have e3 := s3 _ _ e2
    refine ⟨_, e3, by rw [List.length_map]; omega, same_wr (s2.trans s3) hD, ds ++ [d], by rw [upd_same, List.map_append]; rfl, ?_⟩
    rw [List.take_add_one, hki, List.map_append]
    exact Paired.snoc (Paired.mapP p2 fun _ _ e => nKey_upd e3 True.intro (nKey_ext (.of s3) e)) (nKey_upd e3 True.intro hd3)
  · rintro H2 ⟨s2, w2⟩
    rw [List.length_map, hcl, List.take_length] at w2
    exact q D H2 s2 hD w2
/-- the table so far: for each end of the other word what comes of it -/
def LoW (K : PySem.W.Frag) (Hb H : Hp) (A : Addr) (wss : List (List Wd)) : Prop := ∃ as : List Addr, H A = some (.lst (as.map V.ref)) ∧ Paired (fun a ws => WlAt K H a ws) as wss ∧ ∀ a ∈ as, Hb a = none
theorem LoW.same {K : PySem.W.Frag} {Hb H H' : Hp} {A : Addr} {wss : List (List Wd)} (h : LoW K Hb H A wss) (s : Same H H') : LoW K Hb H' A wss := by
  obtain ⟨as, h1, h2, h3⟩ := h
  exact ⟨as, s _ _ h1, Paired.mapP h2 fun _ _ e => e.same s, h3⟩
abbrev layAt (u v : Wd) (i j : Nat) : List Wd := lay (u.take i).reverse (v.take j).reverse
def IL (u v : Wd) (i n : Nat) : List (List Wd) := (List.range n).map fun j => layAt u v i j
theorem IL_snoc (u v : Wd) (i n : Nat) : IL u v i (n + 1) = IL u v i n ++ [layAt u v i n] := by simp [IL, List.range_succ]
theorem IL_get (u v : Wd) (i : Nat) {n j : Nat} (h : j < n) : (IL u v i n)[j]? = some (layAt u v i j) := by simp [IL, h]
theorem IL_len (u v : Wd) (i n : Nat) : (IL u v i n).length = n := by simp [IL]
theorem take_rev {u : Wd} {i : Nat} {a : List Int} (h : u[i]? = some a) : (u.take (i + 1)).reverse = a :: (u.take i).reverse := by
  rw [List.take_add_one, h]
  simp
theorem lay_zero (u v : Wd) (i : Nat) : layAt u v i 0 = [u.take i] := by
  show lay _ _ = _
  rw [List.take_zero, List.reverse_nil, lay_nil, List.reverse_reverse]
theorem lay_first (u v : Wd) (j : Nat) : layAt u v 0 j = [v.take j] := by
  show lay _ _ = _
  rw [List.take_zero, List.reverse_nil, nil_lay, List.reverse_reverse]
theorem lay_step {u v : Wd} {i j : Nat} {a b : List Int} (hu : u[i]? = some a) (hv : v[j]? = some b) :
    layAt u v (i + 1) (j + 1) = (layAt u v i (j + 1)).map (· ++ [a]) ++ (layAt u v (i + 1) j).map (· ++ [b]) ++ (layAt u v i j).map (· ++ [addL a b]) := by
  show lay _ _ = (lay _ _).map _ ++ (lay _ _).map _ ++ (lay _ _).map _
  rw [take_rev hu, take_rev hv, lay_cons]
theorem lay_size {u v : Wd} (h : u.length + v.length ≤ 12) (i j : Nat) : (layAt u v i j).length ≤ 531441 ∧ ∀ k ∈ layAt u v i j, k.length < 1000 := by
  have p := lay_sh (u.take i).reverse (v.take j).reverse
  rw [List.reverse_reverse, List.reverse_reverse] at p
  have l := sh_len (u.take i) (v.take j)
  have hl : (u.take i).length + (v.take j).length ≤ 12 := by simp only [List.length_take]; omega
  have p3 : 3 ^ ((u.take i).length + (v.take j).length) ≤ 3 ^ 12 := Nat.pow_le_pow_right (by decide) hl
  have e : 3 ^ 12 = 531441 := by decide
  refine ⟨by rw [p.length_eq]; omega, fun k hk => ?_⟩
  have := sh_long (u.take i) (v.take j) k (p.mem_iff.mp hk)
  omega
/-- tuple([exponent + more for exponent, more in zip(letter, beside)]) -/
theorem shared_run {K : PySem.W.Frag} {H : Hp} {c d : Addr} {x y : List Int} {o0 o1 o2 o4 o5 o7 o8 o9 o10 o11 : Option V} {Q : VK} (hc : SqT K H c (x.map V.int)) (hd : SqT K H d (y.map V.int)) (hx : x.length ≤ 1000)
    (q : ∀ t H', Same H H' → SqT K H' t ((addL x y).map V.int) → Q (.ref t) H') :
    tCB (fun xs H Q => ∃ p ys, xs = [.ref p] ∧ ((SqL K H p ys ∧ ∀ l, H l = none → Q (.ref l) (upd H l (.tup ys))) ∨ (SqT K H p ys ∧ Q (.ref p) H)))
      (tCons (tLc (iZipA K (tCons (tVar 3) (tCons (tVar 6) tNil))) (gTup K 2 (gCons (gName 10) (gCons (gName 11) gNil))) tYes (tOp (rI0 fun i j => .int (i + j)) (tVar 10) (tVar 11)) [10, 11]) tNil)
      [o0, o1, o2, some (.ref c), o4, o5, some (.ref d), o7, o8, o9, o10, o11] H Q := by
  refine ⟨_, rfl, _, rfl, c, d, _, _, rfl, .inr ⟨hc, hd, fun D hD => ?_⟩⟩
  refine lc_it (walk_zipT (xs := x.map V.int) (ys := y.map V.int) (n := min x.length y.length) (by rw [List.length_map, List.length_map])) (fun i H2 => Same H H2 ∧ H2 D = some (.lst (((addL x y).take i).map V.int))) ?_ ?_ ?_ ?_
  · exact ⟨same_new hD, upd_same⟩
  · rintro i H2 _ ⟨s2, _⟩
    exact ⟨sqT_ext (.of s2) hc, sqT_ext (.of s2) hd⟩
  · rintro i z H2 H3 hi ⟨s2, e2⟩ ⟨t, v1, v2, rfl, ht, rfl, e4, e5⟩
    have e4 : (x.map V.int)[i]? = some v1 := e4
    have e5 : (y.map V.int)[i]? = some v2 := e5
    rw [List.getElem?_map] at e4 e5
    obtain ⟨p, hp, rfl⟩ := Option.map_eq_some_iff.mp e4
    obtain ⟨r, hr, rfl⟩ := Option.map_eq_some_iff.mp e5
    have sT := same_new (o := .tup [.int p, .int r]) ht
    refine ⟨t, _, rfl, SqT.of upd_same, rfl, _, _, rfl, _, _, rfl, rfl, rfl, ?_⟩
    refine ⟨_, rfl, _, rfl, _, _, rfl, rfl, ?_⟩
    refine ⟨_, sT _ _ e2, by rw [List.length_map, List.length_take, sizeLine_eq]; unfold addL; rw [List.length_zipWith]; omega, same_wr (s2.trans sT) hD, ?_⟩
    rw [upd_same, List.take_add_one]
    have : (addL x y)[i]? = some (p + r) := by unfold addL; rw [List.getElem?_zipWith, hp, hr]
    rw [this]
    simp
  · rintro H2 ⟨s2, e2⟩
    rw [List.take_of_length_le (by unfold addL; rw [List.length_zipWith]; omega)] at e2
    exact ⟨D, _, rfl, .inl ⟨SqL.of e2, fun l hl => q l _ (s2.trans (same_new hl)) (SqT.of upd_same)⟩⟩
end L2.Fo

/-! # terms, unfolded one step -/
namespace L2.Tdf
open PySem PySem.Spec PyProof.Rows L2.Vf
section
variable {K : PySem.W.Frag} {H : Hp} {σ : St} {t a b ta tb : TE} {tas : TA} {c d : TT} {u w tbo : TS} {D : Ends} {Q : VK} {Qb : Bool → Hp → Prop} {r : R2} {g : TG}
theorem if_ (h : c σ H fun b H1 => if b = true then u D σ H1 else w D σ H1) : tIfS c u w D σ H := h
theorem asg_ {i : Nat} (h : t σ H fun x H1 => w D (σ.set i (some x)) H1) : tSeq (tAsg t (gName i)) w D σ H := h
theorem asg1_ {i : Nat} (h : t σ H fun x H1 => D.nx (σ.set i (some x)) H1) : tAsg t (gName i) D σ H := h
theorem asgG_ (h : t σ H fun x H1 => g x σ H1 fun σ2 H2 => w D σ2 H2) : tSeq (tAsg t g) w D σ H := h
theorem asgG1_ (h : t σ H fun x H1 => g x σ H1 D.nx) : tAsg t g D σ H := h
theorem seqIf_ (h : c σ H fun b H1 => if b = true then u { D with nx := w D } σ H1 else w D σ H1) : tSeq (tIfS c u tNext) w D σ H := h
theorem test_ (h : ta σ H fun x H1 => tb σ H1 fun y H2 => r x y H2 fun z H3 => ∃ k, z = .bl k ∧ Qb k H3) : tTest (tOp r ta tb) σ H Qb := h
theorem testV_ (h : ta σ H fun z H3 => ∃ k, z = .bl k ∧ Qb k H3) : tTest ta σ H Qb := h
theorem op_ (h : ta σ H fun x H1 => tb σ H1 fun y H2 => r x y H2 Q) : tOp r ta tb σ H Q := h
theorem lst_ (h : t σ H fun x H1 => tas σ H1 fun xs H2 => (x :: xs).length ≤ sizeLine ∧ ∀ p, H2 p = none → Q (.ref p) (upd H2 p (.lst (x :: xs)))) : tLst (tCons t tas) σ H Q := h
theorem cons_ {Qs : List V → Hp → Prop} (h : t σ H fun x H1 => tas σ H1 fun xs H2 => Qs (x :: xs) H2) : tCons t tas σ H Qs := h
theorem or_ (h : c σ H fun k H1 => if k = true then Qb true H1 else d σ H1 Qb) : tOr c d σ H Qb := h
theorem not_ (h : c σ H fun k H1 => Qb (!k) H1) : tNot c σ H Qb := h
theorem b_ (h : t σ H fun x H1 => ∃ k, x = .bl k ∧ Qb k H1) : L2.tB t σ H Qb := h
theorem neI_ (h : ta σ H fun x H1 => tb σ H1 fun y H2 => ∃ i j, x = .int i ∧ y = .int j ∧ Q (.bl (!decide (i = j))) H2) : tNeI ta tb σ H Q := h
theorem eqI_ (h : ta σ H fun x H1 => tb σ H1 fun y H2 => ∃ i j, x = .int i ∧ y = .int j ∧ Q (.bl (decide (i = j))) H2) : tEqI ta tb σ H Q := h
theorem andV_ (h : ta σ H fun x H1 => ∃ c, x = .bl c ∧ if c = true then tb σ H1 Q else Q (.bl false) H1) : tAndV ta tb σ H Q := h
theorem ret_ (h : t σ H D.rt) : tRet t D σ H := h
theorem drop_ (h : t σ H fun _ H1 => w D σ H1) : tSeq (tDrop t) w D σ H := h
theorem drop1_ (h : t σ H fun _ H1 => D.nx σ H1) : tDrop t D σ H := h
theorem cb_ {rr : List V → Hp → VK → Prop} (h : tas σ H fun xs H1 => rr xs H1 Q) : tCB rr tas σ H Q := h
theorem call_ {sp : Sp} (h : tas σ H fun vs H1 => sp vs H1 Q E0) : tCall sp [] E0 tas σ H Q := by
  show tas σ H fun vs H1 => sp (vs ++ []) H1 Q E0
  simpa using h
theorem forL_ {te : TE} (h : te σ H fun x H1 => ∃ a, x = .ref a ∧ (∃ xs, SqL K H1 a xs) ∧ ∃ W : Nat → Nat → St → Hp → Prop, (∃ m, W 0 m σ H1) ∧ ∀ i m σ H, W i m σ H →
    ((Itl K a).stop i H ∧ w D σ H) ∨ ((Itl K a).go i H ∧ ∃ N : St → Hp → Prop, (∀ σ' H', N σ' H' → ∃ m', m' < m ∧ W (i + 1) m' σ' H') ∧ ∀ x H', (Itl K a).yld i H x H' → g x σ H' fun σ2 H2 => tbo { D with nx := N, ct := N, bk := w D } σ2 H2)) : tSeq (tFor (iList K te) g tbo) w D σ H := h
end
theorem if_t {b : Bool} {A B : Prop} (h : b = true) (x : A) : if b = true then A else B := by rw [if_pos h]; exact x
theorem if_f {b : Bool} {A B : Prop} (h : b = false) (x : B) : if b = true then A else B := by rw [h]; exact x
theorem ne_int {n m : Nat} (h : n ≠ m) : (!decide ((n : Int) = (m : Int))) = true := by
  rw [decide_eq_false (by omega)]
  rfl
theorem eq_int (n : Nat) : (!decide ((n : Int) = (n : Int))) = false := by
  rw [decide_eq_true rfl]
  rfl
theorem cut_take (xs : List V) (k : Nat) : cutV xs none (some (k : Int)) = xs.take k := by
  unfold cutV
  rw [HT.sIx_none, HT.sIx_nat, Nat.sub_zero, List.drop_zero]
  by_cases h : k ≤ xs.length
  · rw [Nat.min_eq_left h]
  · rw [Nat.min_eq_right (by omega), List.take_of_length_le (Nat.le_refl _), List.take_of_length_le (by omega)]
theorem cut_drop (xs : List V) (n : Nat) (h : n ≤ xs.length) : cutV xs (some (n : Int)) none = xs.drop n := by
  unfold cutV
  rw [HT.sIx_nat, HT.sIx_none, Nat.min_eq_left h, List.take_of_length_le (by rw [List.length_drop]; omega)]
end L2.Tdf

set_option exponentiation.threshold 2000
/-! # interleaved -/
namespace L2.Fo
open PySem PySem.Spec PyProof.Rows L2.Vf L2.Dw L2.Ch L2.Nk L2.Qs L2.Tdf RZ
abbrev sIl : Stmt := top 26
abbrev nIl : List Str := ["one", "other", "above", "letter", "line", "at", "beside", "shared", "ways", "way", "exponent", "more"]
theorem scIl : FnScope nIl ["one", "other"] (defScope sIl) := ⟨rfl, rfl, rfl, by decide +kernel, rfl, by decide +kernel, by decide +kernel⟩
abbrev rLen (K : PySem.W.Frag) : List V → Hp → VK → Prop := fun xs H Q => ∃ p ys, xs = [.ref p] ∧ (SqL K H p ys ∨ SqT K H p ys) ∧ Q (.int ys.length) H
abbrev rTup (K : PySem.W.Frag) : List V → Hp → VK → Prop := fun xs H Q => ∃ p ys, xs = [.ref p] ∧ ((SqL K H p ys ∧ ∀ l, H l = none → Q (.ref l) (upd H l (.tup ys))) ∨ (SqT K H p ys ∧ Q (.ref p) H))
abbrev tPl (a b : TE) : TE := tOp (rI0 fun i j => .int (i + j)) a b
abbrev tWays (K : PySem.W.Frag) (tI : TE) (j : Nat) : TE := tLc (iList K tI) (gName 9) tYes (tOp (rCatA K) (tVar 9) (tTup (tCons (tVar j) tNil))) [9]
abbrev tIx (K : PySem.W.Frag) (i : Nat) (te : TE) : TE := tOp (rIxL K) (tVar i) te
def tIl0 (K : PySem.W.Frag) : TE := tLc (iRng1 (tCons (tPl (tCB (rLen K) (tCons (tVar 1) tNil)) (tC (.int 1))) tNil)) (gName 5) tYes (tLst (tCons (tSl (rSlA K) (tVar 1) tNoPart (tPart (tVar 5))) tNil)) [5]
abbrev tSh (K : PySem.W.Frag) : TE := tCB (rTup K) (tCons (tLc (iZipA K (tCons (tVar 3) (tCons (tVar 6) tNil))) (gTup K 2 (gCons (gName 10) (gCons (gName 11) gNil))) tYes (tPl (tVar 10) (tVar 11)) [10, 11]) tNil)
def tIl2 (K : PySem.W.Frag) : TS := tSeq (tAsg (tSh K) (gName 7)) (tSeq (tAsg (tWays K (tIx K 2 (tPl (tVar 5) (tC (.int 1)))) 3) (gName 8))
  (tSeq (tAsg (tOp rCat (tVar 8) (tWays K (tIx K 4 (tVar 5)) 6)) (gName 8)) (tSeq (tAsg (tOp rCat (tVar 8) (tWays K (tIx K 2 (tVar 5)) 7)) (gName 8)) (tDrop (tBM K "list" rAppend (tVar 4) (tCons (tVar 8) tNil))))))
def tIl1 (K : PySem.W.Frag) : TS := tSeq (tAsg (tLst (tCons (tWays K (tIx K 2 (tC (.int 0))) 3) tNil)) (gName 4)) (tSeq (tFor (iEnumT K (tCons (tVar 1) tNil)) (gTup K 2 (gCons (gName 5) (gCons (gName 6) gNil))) (tIl2 K)) (tAsg (tVar 4) (gName 2)))
def tIl (K : PySem.W.Frag) : TS := tSeq (tAsg (tIl0 K) (gName 2)) (tSeq (tFor (iTup K (tVar 0)) (gName 3) (tIl1 K)) (tRet (tIx K 2 (tUn (rU fun i => .int (-i)) (tC (.int 1))))))
section
variable {P : Program} {w : World} {K : PySem.W.Frag} {mg : Str → Option Value} {base : Heap}
theorem der_il {f : Addr} {cdv : Value} {A : Around} {outer : List Env} {s : Shared} {H : Hp} {E : XK} (N : Nm mg) (mE : mg "enumerate" = none) :
    PSs (cxOf CX0 P w K mg base nIl "interleaved" (defScope sIl) f cdv A outer s H E).nox (defBody sIl) (tIl K) := by
  refine pss_cons (ps_setLc (i := 2) (own := [("at", 5)]) (g := gName 5) (tt := tYes) (te := tLst (tCons (tSl (rSlA K) (tVar 1) tNoPart (tPart (tVar 5))) tNil)) rfl scIl.nd rfl rfl (sw_true rfl rfl rfl (by decide +kernel))
    (pi_range1 (by rfl) N.rng (pa_cons (pe_op op_add (pe_callB call_len_seq (by rfl) N.len PySem.boot_len (pa_cons (pv 1) pa_nil)) pe_int) pa_nil)) (blkOk_by (N := nIl) (sc := defScope sIl) (by decide +kernel))
    (fun _ _ _ _ _ => pg_name (i := 5) scIl.nd rfl (Or.inl rfl)) (fun _ _ _ _ _ => pts_nil) (fun _ _ _ _ _ => pe_lst (pa_cons (pe_slice sl_tupA (pv 1) po_none (po_some (pv 5))) pa_nil))) ?_
  refine pss_cons (ps_for PassesOwn.never rfl (pi_tup (pv 0)) (pg_name (i := 3) scIl.nd rfl (Or.inr rfl)) ?_) (pss_one (ps_ret (pe_ix ix_list (pv 2) (pe_un un_neg pe_int) (fun _ _ => rfl))))
  refine pss_cons (ps_set (i := 4) scIl.nd rfl (.inl rfl) (pe_lst (pa_cons (pe_lc (own := [("way", 9)]) (g := gName 9) (tt := tYes) (te := tOp (rCatA K) (tVar 9) (tTup (tCons (tVar 3) tNil))) rfl scIl.nd (pi_list (pe_ix ix_list (pv 2) pe_int (fun _ _ => rfl))) (blkOk_by (N := nIl) (sc := defScope sIl) (by decide +kernel))
    (fun _ _ _ _ _ => pg_name (i := 9) scIl.nd rfl (Or.inl rfl)) (fun _ _ _ _ _ => pts_nil) (fun _ _ _ _ _ => pe_op op_catA (pv 9) (pe_tup (pa_cons (pv 3) pa_nil)))) pa_nil))) ?_
  refine pss_cons (ps_for PassesOwn.never rfl (pi_enumT (by rfl) mE (pa_cons (pv 1) pa_nil)) (pg_tup rfl (pgs_cons (pg_name (i := 5) scIl.nd rfl (Or.inl rfl)) (pgs_cons (pg_name (i := 6) scIl.nd rfl (Or.inr rfl)) pgs_nil))) ?_) (pss_one (ps_set (i := 2) scIl.nd rfl (.inl rfl) (pv 4)))
  refine pss_cons (ps_set (i := 7) scIl.nd rfl (.inr rfl) (pe_callTy call_tuple_of (by rfl) N.tup PyProof.Rows.boot_tuple (pa_cons (pe_lc (own := [("exponent", 10), ("more", 11)]) (g := gTup K 2 (gCons (gName 10) (gCons (gName 11) gNil))) (tt := tYes) (te := tPl (tVar 10) (tVar 11)) rfl scIl.nd
    (pi_zipA (by rfl) N.zip (pa_cons (pv 3) (pa_cons (pv 6) pa_nil))) (blkOk_by (N := nIl) (sc := defScope sIl) (by decide +kernel)) (fun _ _ _ _ _ => pg_tup rfl (pgs_cons (pg_name (i := 10) scIl.nd rfl (Or.inl rfl)) (pgs_cons (pg_name (i := 11) scIl.nd rfl (Or.inl rfl)) pgs_nil))) (fun _ _ _ _ _ => pts_nil) (fun _ _ _ _ _ => pe_op op_add (pv 10) (pv 11))) pa_nil))) ?_
  refine pss_cons (ps_setLc (i := 8) (own := [("way", 9)]) (g := gName 9) (tt := tYes) (te := tOp (rCatA K) (tVar 9) (tTup (tCons (tVar 3) tNil))) rfl scIl.nd rfl rfl (sw_true rfl rfl rfl (by decide +kernel)) (pi_list (pe_ix ix_list (pv 2) (pe_op op_add (pv 5) pe_int) (fun _ _ => rfl))) (blkOk_by (N := nIl) (sc := defScope sIl) (by decide +kernel))
    (fun _ _ _ _ _ => pg_name (i := 9) scIl.nd rfl (Or.inl rfl)) (fun _ _ _ _ _ => pts_nil) (fun _ _ _ _ _ => pe_op op_catA (pv 9) (pe_tup (pa_cons (pv 3) pa_nil)))) ?_
  refine pss_cons (ps_set (i := 8) scIl.nd rfl (.inl rfl) (pe_op op_cat (pv 8) (pe_lc (own := [("way", 9)]) (g := gName 9) (tt := tYes) (te := tOp (rCatA K) (tVar 9) (tTup (tCons (tVar 6) tNil))) rfl scIl.nd (pi_list (pe_ix ix_list (pv 4) (pv 5) (fun _ _ => rfl))) (blkOk_by (N := nIl) (sc := defScope sIl) (by decide +kernel))
    (fun _ _ _ _ _ => pg_name (i := 9) scIl.nd rfl (Or.inl rfl)) (fun _ _ _ _ _ => pts_nil) (fun _ _ _ _ _ => pe_op op_catA (pv 9) (pe_tup (pa_cons (pv 6) pa_nil)))))) ?_
  refine pss_cons (ps_set (i := 8) scIl.nd rfl (.inl rfl) (pe_op op_cat (pv 8) (pe_lc (own := [("way", 9)]) (g := gName 9) (tt := tYes) (te := tOp (rCatA K) (tVar 9) (tTup (tCons (tVar 7) tNil))) rfl scIl.nd (pi_list (pe_ix ix_list (pv 2) (pv 5) (fun _ _ => rfl))) (blkOk_by (N := nIl) (sc := defScope sIl) (by decide +kernel))
    (fun _ _ _ _ _ => pg_name (i := 9) scIl.nd rfl (Or.inl rfl)) (fun _ _ _ _ _ => pts_nil) (fun _ _ _ _ _ => pe_op op_catA (pv 9) (pe_tup (pa_cons (pv 7) pa_nil)))))) ?_
  exact pss_one (ps_expr (pe_bm PySem.F.plainAttrs_list PySem.F.slot_list_append PySem.F.type_list_append mt_append (pv 4) (pa_cons (pv 8) pa_nil)))
end
end L2.Fo

set_option exponentiation.threshold 2000
/-! # interleaved, its reading -/
namespace L2.Fo
open PySem PySem.Spec PyProof.Rows L2.Vf L2.Dw L2.Ch L2.Nk L2.Qs L2.Tdf RZ
abbrev sI (b1 b2 : Addr) (x2 x3 x4 x5 x6 x7 x8 : Option V) : St := [some (.ref b1), some (.ref b2), x2, x3, x4, x5, x6, x7, x8, none, none, none]
theorem takeP {α β : Type} {R : α → β → Prop} {xs : List α} {ys : List β} (r : Paired R xs ys) : ∀ n : Nat, Paired R (xs.take n) (ys.take n) := by
  induction r with
  | nil => intro n; simp; exact .nil
  | cons h t ih =>
    intro n
    cases n with
    | zero => exact .nil
    | succ n => exact .cons h (ih n)
theorem appP {α β : Type} {R : α → β → Prop} {xs xs' : List α} {ys ys' : List β} (r : Paired R xs ys) (s : Paired R xs' ys') : Paired R (xs ++ xs') (ys ++ ys') := by
  induction r with
  | nil => exact s
  | cons h _ ih => exact .cons h ih
theorem mapM {α β : Type} {R S : α → β → Prop} {xs : List α} {ys : List β} (r : Paired R xs ys) : (∀ x ∈ xs, ∀ y, R x y → S x y) → Paired S xs ys := by
  induction r with
  | nil => intro _; exact .nil
  | cons h _ ih => intro f; exact .cons (f _ List.mem_cons_self _ h) (ih fun x hx => f x (List.mem_cons_of_mem _ hx))
section
variable {K : PySem.W.Frag} {H H0 H' : Hp} {A L b1 b2 : Addr} {u v : Wd} {x2 x3 x4 x5 x6 x7 x8 : Option V} {N : Ends}
theorem slice_word {b : Addr} {k : Wd} {j : Nat} {Q : VK} (hk : NKey K H k b) (hj : j ≤ k.length) (q : ∀ c H', Same H H' → NKey K H' (k.take j) c → Q (.ref c) H') : rSlA K (.ref b) none (some (0 + (j : Nat))) H Q := by
  obtain ⟨bs, h1, h2⟩ := id hk
  have hl : bs.length = k.length := Paired.length h2
  rw [Int.zero_add]
  refine ⟨b, bs.map V.ref, rfl, h1, fun e => ?_, fun _ c hc => ?_⟩
  · have e2 := e.2
    rw [HT.sIx_nat, List.length_map, hl, Nat.min_eq_left hj] at e2
    have : k.take j = k := List.take_of_length_le (by omega)
    exact q b H (.refl _) (by rw [this]; exact hk)
  · rw [cut_take, ← List.map_take]
    have sc := same_new (o := .tup ((bs.take j).map V.ref)) hc
    exact q c _ sc ⟨bs.take j, SqT.of upd_same, Paired.mapP (takeP h2 j) fun _ _ e => sqT_ext (.of sc) e⟩
theorem il0_run {bs2 : List Addr} {Q : VK} (h2 : NKey K H v b2) (p2 : SqT K H b2 (bs2.map V.ref)) (l2 : bs2.length = v.length) (hz : v.length ≤ 12) (u : Wd) (q : ∀ A H', Same H H' → LoW K H H' A (IL u v 0 (v.length + 1)) → Q (.ref A) H') :
    tIl0 K (sI b1 b2 x2 x3 x4 none x6 x7 x8) H Q := by
  unfold tIl0
  have hk : ((bs2.map V.ref).length : Int) + 1 = ((v.length + 1 : Nat) : Int) := by rw [List.length_map, l2]; omega
  refine ⟨_, rfl, b2, _, rfl, .inr p2, _, _, rfl, rfl, ((v.length + 1 : Nat) : Int), congrArg (fun x : Int => [V.int x]) hk, by omega, by omega, fun A hA => ?_⟩
  refine lc_range (lo := 0) (n := v.length + 1) (fun j H2 => Same H H2 ∧ ∃ as : List Addr, H2 A = some (.lst (as.map V.ref)) ∧ Paired (fun a ws => WlAt K H2 a ws) as (IL u v 0 j) ∧ ∀ a ∈ as, a ≠ A ∧ H a = none) ⟨same_new hA, [], upd_same, .nil, fun a h => absurd h (by simp)⟩ ?_ ?_
  · rintro j H2 hj ⟨s2, as, e2, pr2, ne2⟩
    refine ⟨rfl, _, rfl, _, rfl, _, rfl, ?_⟩
    refine slice_word (nKey_ext (.of s2) h2) (by omega) fun c H3 s3 hc => ⟨by show 1 ≤ sizeLine; decide, fun L hL => ?_⟩
    have sL := same_new (o := .lst [V.ref c]) hL
    have e3 := s3 _ _ e2
    have e4 := sL _ _ e3
    have nL : A ≠ L := ne_of_none e3 hL
    refine ⟨_, e4, by rw [List.length_map, Paired.length pr2, IL_len, sizeLine_eq]; omega, same_wr ((s2.trans s3).trans sL) hA, as ++ [L], by rw [upd_same, List.map_append]; rfl, ?_, fun a ha => ?_⟩
    · rw [IL_snoc]
      refine Paired.snoc (mapM pr2 fun a ha ws h => ((h.same s3).same sL).upd e4 True.intro (ne2 a ha).1) ?_
      rw [lay_first]
      exact ⟨[c], by rw [upd_ne nL.symm, upd_same]; rfl, .cons (nKey_upd e4 True.intro (nKey_ext (.of sL) hc)) .nil⟩
    · rcases List.mem_append.mp ha with h | h
      · exact ne2 a h
      · rw [List.mem_singleton.mp h]; exact ⟨nL.symm, (s2.trans s3).free hL⟩
  · rintro H2 ⟨s2, as, e2, pr2, ne2⟩
    exact q A H2 s2 ⟨as, e2, pr2, fun a h => (ne2 a h).2⟩
end
end L2.Fo

set_option exponentiation.threshold 2000
/-! # interleaved: what it promises -/
namespace L2.Fo
open PySem PySem.Spec PyProof.Rows L2.Vf L2.Dw L2.Ch L2.Nk L2.Qs L2.Tdf RZ
/-- all words that come of two -/
def spIl (K : PySem.W.Frag) : Sp := fun vs H Q _ => ∃ (b1 b2 : Addr) (u v : Wd), vs = [.ref b1, .ref b2] ∧ NKey K H u b1 ∧ NKey K H v b2 ∧ u.length + v.length ≤ 12 ∧ (∀ l ∈ u, l.length ≤ 1000) ∧ ∀ (D : Addr) (H' : Hp), H D = none → Same H H' → WlAt K H' D (ilv u v) → Q (.ref D) H'
section
variable {K : PySem.W.Frag} {H Hb H' : Hp} {A L b1 b2 : Addr} {u v : Wd} {x2 x3 x4 x5 x6 x7 x8 : Option V} {N : Ends}
theorem cat_wl {l b : Addr} {ws zs : List Wd} {Q : VK} (h1 : WlAt K H l ws) (h2 : WlAt K H b zs) (hz : ws.length + zs.length ≤ sizeLine) (q : ∀ D H', Same H H' → H D = none → WlAt K H' D (ws ++ zs) → Q (.ref D) H') : rCat (.ref l) (.ref b) H Q := by
  obtain ⟨cs, e1, p1⟩ := h1
  obtain ⟨ds, e2, p2⟩ := h2
  refine ⟨l, b, _, _, rfl, rfl, e1, e2, by rw [List.length_map, List.length_map, Paired.length p1, Paired.length p2]; exact hz, fun D hD => ?_⟩
  have sD := same_new (o := .lst (cs.map V.ref ++ ds.map V.ref)) hD
  exact q D _ sD hD ⟨cs ++ ds, by rw [upd_same, List.map_append], appP (Paired.mapP p1 fun _ _ e => nKey_ext (.of sD) e) (Paired.mapP p2 fun _ _ e => nKey_ext (.of sD) e)⟩
/-- the item of a table of words -/
theorem low_at {wss : List (List Wd)} {j : Nat} {ws : List Wd} (h : LoW K Hb H A wss) (hj : wss[j]? = some ws) : ∃ (as : List Addr) (a : Addr), H A = some (.lst (as.map V.ref)) ∧ atI (as.map V.ref) (j : Int) = some (.ref a) ∧ WlAt K H a ws := by
  obtain ⟨as, e, p, _⟩ := h
  have hl := Paired.length p
  have hlt : j < as.length := by rw [hl]; exact (List.getElem?_eq_some_iff.mp hj).1
  have ha : as[j]? = some as[j] := List.getElem?_eq_getElem hlt
  obtain ⟨w2, hw2, hr⟩ := Paired.idx p ha
  rw [hj] at hw2
  cases hw2
  exact ⟨as, _, e, atI_nat (by rw [List.getElem?_map, ha]; rfl), hr⟩
/-- one turn over the other word -/
theorem il2_run {i j : Nat} {a b : List Int} {c3 c6 : Addr} {as : List Addr} (hz : u.length + v.length ≤ 12) (hu : u[i]? = some a) (hv : v[j]? = some b) (ha : a.length ≤ 1000) (lo : LoW K Hb H A (IL u v i (v.length + 1)))
    (sa : SqT K H c3 (a.map V.int)) (sb : SqT K H c6 (b.map V.int)) (eL : H L = some (.lst (as.map V.ref))) (pL : Paired (fun a ws => WlAt K H a ws) as (IL u v (i + 1) (j + 1))) (nL : ∀ a ∈ as, a ≠ L ∧ Hb a = none) (sb0 : Same Hb H)
    (q : ∀ x7 x8 H2 (z : Addr), (∀ d o, d ≠ L → H d = some o → H2 d = some o) → H2 L = some (.lst ((as ++ [z]).map V.ref)) → Paired (fun a ws => WlAt K H2 a ws) (as ++ [z]) (IL u v (i + 1) (j + 2)) → (∀ a ∈ as ++ [z], a ≠ L ∧ Hb a = none) → N.nx (sI b1 b2 (some (.ref A)) (some (.ref c3)) (some (.ref L)) (some (.int (j : Nat))) (some (.ref c6)) x7 x8) H2) :
    tIl2 K N (sI b1 b2 (some (.ref A)) (some (.ref c3)) (some (.ref L)) (some (.int (j : Nat))) (some (.ref c6)) x7 x8) H := by
  unfold tIl2
  have hjv : j < v.length := (List.getElem?_eq_some_iff.mp hv).1
  obtain ⟨z1, w1⟩ := lay_size hz i (j + 1)
  obtain ⟨z2, w2⟩ := lay_size hz (i + 1) j
  obtain ⟨z3, w3⟩ := lay_size hz i j
  refine asg_ (shared_run sa sb ha fun t H1 s1 st => ?_)
  obtain ⟨as1, a1, e1, i1, k1⟩ := low_at (lo.same s1) (IL_get u v i (show j + 1 < v.length + 1 by omega))
  refine asg_ (lc_app (a := a1) (cl := c3) (l := a) (fun R r => ⟨_, rfl, _, rfl, _, _, rfl, rfl, A, _, _, .ref a1, rfl, rfl, SqL.of e1, by rw [show (j : Int) + 1 = ((j + 1 : Nat) : Int) by omega]; exact i1, r⟩) (by show 9 < 12; decide) rfl (by decide) (sqT_ext (.of s1) sa) k1 (by rw [sizeLine_eq]; omega) w1 fun D1 H2 s2 n2 d1 => ?_)
  have s02 := s1.trans s2
  have pL2 : Paired (fun a ws => WlAt K H2 a ws) as (IL u v (i + 1) (j + 1)) := Paired.mapP pL fun _ _ e => e.same s02
  obtain ⟨as2, a2, e2, i2, k2⟩ := low_at (Hb := Hb) ⟨as, s02 _ _ eL, pL2, fun a h => (nL a h).2⟩ (IL_get u v (i + 1) (show j < j + 1 by omega))
  refine asg_ (op_ ⟨_, rfl, lc_app (a := a2) (cl := c6) (l := b) (fun R r => ⟨_, rfl, _, rfl, L, _, _, .ref a2, rfl, rfl, SqL.of e2, i2, r⟩) (by show 9 < 12; decide) rfl (by decide) (sqT_ext (.of s02) sb) k2 (by rw [sizeLine_eq]; omega) w2 fun D2 H3 s3 n3 d2 => ?_⟩)
  refine cat_wl (d1.same s3) d2 (by rw [List.length_map, List.length_map, sizeLine_eq]; omega) fun D3 H4 s4 n4 d3 => ?_
  have s04 := (s02.trans s3).trans s4
  obtain ⟨as5, a5, e5, i5, k5⟩ := low_at (lo.same s04) (IL_get u v i (show j < v.length + 1 by omega))
  refine asg_ (op_ ⟨_, rfl, lc_app (a := a5) (cl := t) (l := addL a b) (fun R r => ⟨_, rfl, _, rfl, A, _, _, .ref a5, rfl, rfl, SqL.of e5, i5, r⟩) (by show 9 < 12; decide) rfl (by decide) (sqT_ext (.of ((s2.trans s3).trans s4)) st) k5 (by rw [sizeLine_eq]; omega) w3 fun D5 H5 s5 n5 d5 => ?_⟩)
  refine cat_wl (d3.same s5) d5 (by rw [List.length_append, List.length_map, List.length_map, List.length_map, sizeLine_eq]; omega) fun z H6 s6 n6 d6 => ?_
  have s06 := (s04.trans s5).trans s6
  have eL6 := s06 _ _ eL
  have zL : z ≠ L := (ne_of_none ((s04.trans s5) _ _ eL) n6).symm
  refine drop1_ ⟨_, rfl, .inl ⟨rfl, _, SqL.of eL6⟩, _, rfl, L, _, _, rfl, rfl, eL6, by rw [List.length_map, Paired.length pL, IL_len, sizeLine_eq]; omega, ?_⟩
  have em : as.map V.ref ++ [V.ref z] = (as ++ [z]).map V.ref := by rw [List.map_append]; rfl
  refine q _ _ _ z (fun d o hd ho => by rw [upd_ne hd]; exact s06 _ _ ho) (by rw [upd_same, em]) ?_ fun x hx => ?_
  · rw [IL_snoc, lay_step hu hv]
    exact Paired.snoc (mapM pL fun x hx ws h => (h.same s06).upd eL6 True.intro (nL x hx).1) (d6.upd eL6 True.intro zL)
  · rcases List.mem_append.mp hx with h | h
    · exact nL x h
    · rw [List.mem_singleton.mp h]; exact ⟨zL, sb0.free ((s04.trans s5).free n6)⟩
end
end L2.Fo

set_option exponentiation.threshold 2000
/-! # interleaved, promised -/
namespace L2.Fo
open PySem PySem.Spec PyProof.Rows L2.Vf L2.Dw L2.Ch L2.Nk L2.Qs L2.Tdf RZ
section
variable {K : PySem.W.Frag} {H Hb H' : Hp} {A L b1 b2 : Addr} {u v : Wd} {x2 x3 x4 x5 x6 x7 x8 : Option V} {N : Ends}
theorem low_last {wss : List (List Wd)} {n : Nat} {ws : List Wd} (h : LoW K Hb H A wss) (hn : wss.length = n + 1) (hj : wss[n]? = some ws) : ∃ (as : List Addr) (a : Addr), H A = some (.lst (as.map V.ref)) ∧ atI (as.map V.ref) (-1) = some (.ref a) ∧ WlAt K H a ws ∧ Hb a = none := by
  obtain ⟨as, e, p, nb⟩ := h
  have hl : as.length = n + 1 := (Paired.length p).trans hn
  have ha : as[n]? = some as[n] := List.getElem?_eq_getElem (by omega)
  obtain ⟨w2, hw2, hr⟩ := Paired.idx p ha
  rw [hj] at hw2
  cases hw2
  refine ⟨as, _, e, ?_, hr, nb _ (List.mem_of_getElem? ha)⟩
  unfold atI
  have : ixN (as.map V.ref).length (-1) = some n := by
    rw [List.length_map, hl]
    unfold ixN
    rw [if_neg (by decide), if_pos (by omega)]
    congr 1
    omega
  rw [this]
  show (as.map V.ref)[n]? = _
  rw [List.getElem?_map, ha]
  rfl
/-- one letter of the first word -/
theorem il1_run {i : Nat} {a : List Int} {c3 : Addr} {bs2 : List Addr} (hz : u.length + v.length ≤ 12) (hu : u[i]? = some a) (ha : a.length ≤ 1000) (p2 : SqT K H b2 (bs2.map V.ref)) (r2 : Paired (fun c l => SqT K H c (l.map V.int)) bs2 v)
    (sb0 : Same Hb H) (lo : LoW K Hb H A (IL u v i (v.length + 1))) (sa : SqT K H c3 (a.map V.int)) (q : ∀ x3 x4 x5 x6 x7 x8 A' H', Same H H' → LoW K Hb H' A' (IL u v (i + 1) (v.length + 1)) → N.nx (sI b1 b2 (some (.ref A')) x3 x4 x5 x6 x7 x8) H') :
    tIl1 K N (sI b1 b2 (some (.ref A)) (some (.ref c3)) x4 x5 x6 x7 x8) H := by
  unfold tIl1
  have l2 : bs2.length = v.length := Paired.length r2
  obtain ⟨z0, w0⟩ := lay_size hz i 0
  obtain ⟨as0, a0, e0, i0, k0⟩ := low_at lo (IL_get u v i (show 0 < v.length + 1 by omega))
  refine asg_ (lst_ (lc_app (a := a0) (cl := c3) (l := a) (fun R r => ⟨_, rfl, A, _, _, .ref a0, rfl, rfl, SqL.of e0, i0, r⟩) (by show 9 < 12; decide) rfl (by decide) sa k0 (by rw [sizeLine_eq]; omega) w0 fun D1 H1 s1 n1 d1 => ⟨by show 1 ≤ sizeLine; decide, fun L hL => ?_⟩))
  have sL := same_new (o := .lst [V.ref D1]) hL
  have hL0 : H L = none := s1.free hL
  have nD : D1 ≠ L := fun z => by
    obtain ⟨cs, e, _⟩ := d1
    rw [z, hL] at e
    cases e
  have s01 := s1.trans sL
  refine ⟨_, rfl, b2, bs2.map V.ref, rfl, sqT_ext (.of s01) p2, ?_⟩
  refine for_it (walk_enT (xs := bs2.map V.ref)) (fun j σ H' => ∃ x5 x6 x7 x8, ∃ as : List Addr, σ = sI b1 b2 (some (.ref A)) (some (.ref c3)) (some (.ref L)) x5 x6 x7 x8 ∧ Same H H' ∧ H' L = some (.lst (as.map V.ref)) ∧ Paired (fun a ws => WlAt K H' a ws) as (IL u v (i + 1) (j + 1)) ∧ ∀ a ∈ as, a ≠ L ∧ Hb a = none) ?_ ?_ ?_ ?_
  · refine ⟨_, _, _, _, [D1], rfl, s01, upd_same, ?_, fun x hx => by rw [List.mem_singleton.mp hx]; exact ⟨nD, sb0.free n1⟩⟩
    have e1 : IL u v (i + 1) (0 + 1) = [(layAt u v i 0).map (· ++ [a])] := by
      rw [IL_snoc, lay_zero, lay_zero, List.take_add_one, hu]
      rfl
    rw [e1]
    exact .cons (d1.same sL) .nil
  · rintro j σ H2 _ ⟨y5, y6, y7, y8, as, rfl, s2, _⟩
    exact sqT_ext (.of s2) p2
  · rintro j x σ H2 H3 hj ⟨y5, y6, y7, y8, as, rfl, s2, eL, pL, nL⟩ ⟨T, v1, v2, rfl, hT, rfl, e4, e5⟩
    cases e4
    have e5 : (bs2.map V.ref)[j]? = some v2 := e5
    rw [List.getElem?_map] at e5
    obtain ⟨c6, h6, rfl⟩ := Option.map_eq_some_iff.mp e5
    obtain ⟨b, hb, sb⟩ := Paired.idx r2 h6
    have sT := same_new (o := .tup [V.int (j : Nat), V.ref c6]) hT
    have s3 := s2.trans sT
    refine ⟨T, _, rfl, SqT.of upd_same, rfl, _, _, rfl, _, _, rfl, rfl, ?_⟩
    show tIl2 K _ (sI b1 b2 (some (.ref A)) (some (.ref c3)) (some (.ref L)) (some (.int (j : Nat))) (some (.ref c6)) y7 y8) _
    refine il2_run hz hu hb ha (lo.same s3) (sqT_ext (.of s3) sa) (sqT_ext (.of s3) sb) (sT _ _ eL) (Paired.mapP pL fun _ _ e => e.same sT) nL (sb0.trans s3) fun z7 z8 H4 z k4 e4 p4 n4 => ?_
    exact ⟨_, _, z7, z8, as ++ [z], rfl, fun d o hd => k4 d o (ne_of_none hd hL0) (s3 _ _ hd), e4, p4, n4⟩
  · rintro σ H2 ⟨y5, y6, y7, y8, as, rfl, s2, eL, pL, nL⟩
    rw [List.length_map, l2] at pL
    show tAsg (tVar 4) (gName 2) N _ H2
    exact asg1_ (t := tVar 4) ⟨_, rfl, q _ _ _ _ _ _ _ _ s2 ⟨as, eL, pL, fun a h => (nL a h).2⟩⟩
end
section
variable {P : Program} {w : World} {K : PySem.W.Frag} {mg : Str → Option Value} {base : Heap}
theorem ok_il {f : Addr} {fd : FuncData} (F : Fun K "interleaved" "interleaved" sIl f fd) (N : Nm mg) (mE : mg "enumerate" = none) : FnOk P w K mg base CX0 1 f fd ["one", "other"] (spIl K) := by
  refine F.ok scIl (fun vs H Q E h => ?_) fun cdv A outer s H vs Q E hr h => ?_
  · obtain ⟨b1, b2, u, v, rfl, _⟩ := h
    rfl
  · obtain ⟨b1, b2, u, v, rfl, h1, h2, hz, hl, q⟩ := h
    refine ⟨_, der_il N mE, ?_⟩
    obtain ⟨bs1, p1, r1⟩ := id h1
    obtain ⟨bs2, p2, r2⟩ := id h2
    have l1 : bs1.length = u.length := Paired.length r1
    have l2 : bs2.length = v.length := Paired.length r2
    unfold tIl
    refine asg_ (il0_run (x2 := none) (x3 := none) (x4 := none) (x6 := none) (x7 := none) (x8 := none) h2 p2 l2 (by omega) u fun A0 H1 s1 lo => ?_)
    refine ⟨_, rfl, b1, rfl, ⟨_, sqT_ext (.of s1) p1⟩, ?_⟩
    refine for_it (walk_tup (xs := bs1.map V.ref)) (fun i σ H' => ∃ A' x3 x4 x5 x6 x7 x8, σ = sI b1 b2 (some (.ref A')) x3 x4 x5 x6 x7 x8 ∧ Same H H' ∧ LoW K H H' A' (IL u v i (v.length + 1))) ?_ ?_ ?_ ?_
    · exact ⟨A0, _, _, _, _, _, _, rfl, s1, lo⟩
    · rintro i σ H2 _ ⟨A', _, _, _, _, _, _, rfl, s2, _⟩
      exact sqT_ext (.of s2) p1
    · rintro i x σ H2 H3 hi ⟨A', y3, y4, y5, y6, y7, y8, rfl, s2, lo2⟩ ⟨rfl, hx⟩
      rw [List.getElem?_map] at hx
      obtain ⟨c3, h3, rfl⟩ := Option.map_eq_some_iff.mp hx
      obtain ⟨a, hau, sa⟩ := Paired.idx r1 h3
      show tIl1 K _ (sI b1 b2 (some (.ref A')) (some (.ref c3)) y4 y5 y6 y7 y8) _
      exact il1_run hz hau (hl a (List.mem_of_getElem? hau)) (sqT_ext (.of s2) p2) (Paired.mapP r2 fun _ _ e => sqT_ext (.of s2) e) s2 lo2 (sqT_ext (.of s2) sa) fun z3 z4 z5 z6 z7 z8 A2 H4 s4 lo4 => ⟨A2, z3, z4, z5, z6, z7, z8, rfl, s2.trans s4, lo4⟩
    · rintro σ H2 ⟨A', y3, y4, y5, y6, y7, y8, rfl, s2, lo2⟩
      rw [List.length_map, l1] at lo2
      obtain ⟨as, a, e, i1, k0, na⟩ := low_last lo2 (IL_len u v u.length (v.length + 1)) (IL_get u v u.length (show v.length < v.length + 1 by omega))
      refine ⟨_, rfl, _, rfl, A', _, _, .ref a, rfl, rfl, SqL.of e, i1, q a H2 na s2 ?_⟩
      have : layAt u v u.length v.length = ilv u v := by
        show lay _ _ = _
        rw [List.take_length, List.take_length]
      rw [← this]
      exact k0
end
end L2.Fo

/-! # a clause's walk, read -/
namespace L2.Lb
open PySem PySem.Spec PyProof.Rows
theorem cl_it {J : It} {n : Nat} {G : Hp → Prop} {Y : Nat → Hp → V → Hp → Prop} (wk : Walk J n G Y) {g : TG} {tt : TT} {tb : TBd} {vs : List Nat} {σ : St} {Hs : Hp} {Qd : Hp → Prop} (Pv : Nat → Hp → Prop) (h0 : Pv 0 Hs) (hG : ∀ i H, i ≤ n → Pv i H → G H)
    (hs : ∀ i x H H', i < n → Pv i H → Y i H x H' → g x (wipe σ vs) H' fun σ2 H2 => wipe σ2 vs = wipe σ vs ∧ tt σ2 H2 fun b H3 => if b = true then tb σ2 H3 (Pv (i + 1)) else Pv (i + 1) H3) (hd : ∀ H, Pv n H → Qd H) :
    ∃ W : Nat → Nat → Hp → Prop, (∃ m, W 0 m Hs) ∧ ∀ i m H, W i m H →
      (J.stop i H ∧ Qd H) ∨ (J.go i H ∧ ∃ Nx : Hp → Prop, (∀ H', Nx H' → ∃ m', m' < m ∧ W (i + 1) m' H') ∧ ∀ x H', J.yld i H x H' → g x (wipe σ vs) H' fun σ2 H2 => wipe σ2 vs = wipe σ vs ∧ tt σ2 H2 fun b H3 => if b = true then tb σ2 H3 Nx else Nx H3) := by
  refine ⟨fun i m H => m = n - i ∧ i ≤ n ∧ Pv i H, ⟨n, by simp, Nat.zero_le _, h0⟩, ?_⟩
  rintro i m H ⟨rfl, hi, p⟩
  have q := hG i H hi p
  by_cases hlt : i < n
  · exact .inr ⟨wk.goes i H hlt q, Pv (i + 1), fun H' p' => ⟨n - (i + 1), by omega, rfl, hlt, p'⟩, fun x H' y => hs i x H H' hlt p (wk.yields i H x H' hlt q y)⟩
  · have e : i = n := by omega
    subst e
    exact .inl ⟨wk.stops H q, hd H p⟩
end L2.Lb

set_option exponentiation.threshold 2000
/-! # multiplied -/
namespace L2.Fo
open PySem PySem.Spec PyProof.Rows L2.Vf L2.Dw L2.Ch L2.Nk L2.Qs L2.Tdf L2.Lb RZ
abbrev sMu : Stmt := top 25
abbrev nMu : List Str := ["terms", "others", "coefficient", "one", "factor", "other", "letters"]
theorem scMu : FnScope nMu ["terms", "others"] (defScope sMu) := ⟨rfl, rfl, rfl, by decide +kernel, rfl, by decide +kernel, by decide +kernel⟩
abbrev eMu : Expr := match (defBody sMu).head? with
  | some (.Return (some e) _) => e
  | _ => .Name "" ⟨0, 0, 0, 0⟩
def iterAt (e : Expr) (i : Nat) : Expr := match e with
  | .ListComp _ gens _ _ => match gens[i]? with
    | some g => g.iter
    | none => e
  | _ => e
abbrev teMu : TE := tTup (tCons (tOp (rI CMulX fun i j => .int (i * j)) (tVar 2) (tVar 4)) (tCons (tVar 6) tNil))
abbrev tbMu2 (K : PySem.W.Frag) (D : Addr) : TBd := bClause (iList K (tCall (spIl K) [] E0 (tCons (tVar 3) (tCons (tVar 5) tNil)))) (gName 6) tYes (bEmit teMu D) [6]
abbrev tbMu (K : PySem.W.Frag) (D : Addr) : TBd := bClause (iList K (tVar 1)) (gTup K 2 (gCons (gName 4) (gCons (gName 5) gNil))) tYes (tbMu2 K D) [4, 5, 6]
abbrev tMu (K : PySem.W.Frag) : TE := tLcN (iList K (tVar 0)) (gTup K 2 (gCons (gName 2) (gCons (gName 3) gNil))) tYes (tbMu K) [2, 3, 4, 5, 6]
section
variable {P : Program} {w : World} {K : PySem.W.Frag} {mg : Str → Option Value} {base : Heap}
theorem der_mu {f fI : Addr} {dI : FuncData} {cdv : Value} {A : Around} {outer : List Env} {s : Shared} {H : Hp} {E : XK} (GI : FnOk P w K mg base CX0 1 fI dI ["one", "other"] (spIl K)) (mI : mg "interleaved" = some (.ref fI)) (kI : PySem.W.keepIn K (.ref fI) = true) (bI : Binds K dI ["one", "other"] [])
    (hr : Room 1 (A.deeper (envOfC "multiplied" (defScope sMu) s.heap.objs.size f cdv))) :
    PSs (cxOf CX0 P w K mg base nMu "multiplied" (defScope sMu) f cdv A outer s H E).nox (defBody sMu) (tRet (tMu K)) := by
  refine pss_one (ps_ret (pe_lcN (own := [("coefficient", 2), ("one", 3), ("factor", 4), ("other", 5), ("letters", 6)]) (vs' := [4, 5, 6]) (body := fun acc env => clauseB eMu 1 (iterAt eMu 1) acc env) rfl scMu.nd (pi_list (pv 0)) (blkOk_by (N := nMu) (sc := defScope sMu) (by decide +kernel)) (by decide)
    (fun _ _ _ _ _ => pg_tup rfl (pgs_cons (pg_name (i := 2) scMu.nd rfl (Or.inl rfl)) (pgs_cons (pg_name (i := 3) scMu.nd rfl (Or.inl rfl)) pgs_nil))) (fun _ _ _ _ _ => pts_nil) (fun s' H' C cl fp D => ?_) (fun _ _ _ => rfl) (fun _ => rfl)))
  refine pb_clause (vs' := [6]) (body := clauseB eMu 2 (iterAt eMu 2) (.ref D) (compEnvC _ cl C _)) rfl rfl (by decide) rfl (fun _ => rfl) (pi_list (pv 1)) (pg_tup rfl (pgs_cons (pg_name (i := 4) scMu.nd rfl (Or.inl rfl)) (pgs_cons (pg_name (i := 5) scMu.nd rfl (Or.inl rfl)) pgs_nil))) pts_nil ?_ (fun _ => rfl)
  refine pb_clause (vs' := []) (body := emitB _ (.ref D) (compEnvC _ cl C _)) rfl rfl (by decide) rfl (fun _ => rfl) (pi_list (pe_call GI hr rfl mI kI bI .nil pass0 (pa_cons (pv 3) (pa_cons (pv 5) pa_nil)))) (pg_name (i := 6) scMu.nd rfl (Or.inl rfl)) pts_nil ?_ (fun _ => rfl)
  exact pb_emit rfl (pe_tup (pa_cons (pe_op op_mulX (pv 2) (pv 4)) (pa_cons (pv 6) pa_nil)))
end
end L2.Fo

set_option exponentiation.threshold 2000
/-! # multiplied, promised -/
namespace L2.Fo
open PySem PySem.Spec PyProof.Rows L2.Vf L2.Dw L2.Ch L2.Nk L2.Qs L2.Tdf L2.Lb RZ
/-- each term times each other one, in a new list -/
def spMu (K : PySem.W.Frag) : Sp := fun vs H Q _ => ∃ (a b : Addr) (ts os : List Trm) (d : Nat), vs = [.ref a, .ref b] ∧ SqL K H a (ts.map fun t => V.ref t.1) ∧ SqL K H b (os.map fun t => V.ref t.1) ∧ (∀ t ∈ ts, TmAt K H t) ∧ (∀ t ∈ os, TmAt K H t) ∧
  (∀ t ∈ ts, ∀ s ∈ os, t.2.2.length + s.2.2.length ≤ d) ∧ d ≤ 12 ∧ ts.length * (os.length * 3 ^ d) < sizeLine ∧ (∀ t ∈ ts, t.2.1.natAbs ≤ 2 ^ 400) ∧ (∀ t ∈ os, t.2.1.natAbs ≤ 2 ^ 400) ∧ (∀ t ∈ ts, ∀ l ∈ t.2.2, l.length ≤ 1000) ∧
  ∀ (D : Addr) (rs : List Trm) (H' : Hp), H D = none → Same H H' → H' D = some (.lst (rs.map fun r => V.ref r.1)) → (∀ r ∈ rs, TmAt K H' r) → rs.map (·.2) = mulT (ts.map (·.2)) (os.map (·.2)) → Q (.ref D) H'
/-- at D: the terms c so far, at most n -/
def Cn (K : PySem.W.Frag) (H0 : Hp) (D : Addr) (H : Hp) (c : List (Int × Wd)) (n : Nat) : Prop := Same H0 H ∧ ∃ rs : List Trm, H D = some (.lst (rs.map fun r => V.ref r.1)) ∧ (∀ r ∈ rs, TmAt K H r) ∧ rs.map (·.2) = c ∧ rs.length ≤ n
theorem Cn.same {K : PySem.W.Frag} {H0 H H' : Hp} {D : Addr} {c : List (Int × Wd)} {n : Nat} (h : Cn K H0 D H c n) (s : Same H H') : Cn K H0 D H' c n := by
  obtain ⟨s0, rs, e, r, m, l⟩ := h
  exact ⟨s0.trans s, rs, s _ _ e, fun t ht => (r t ht).ext (.of s), m, l⟩
theorem Cn.eq {K : PySem.W.Frag} {H0 H : Hp} {D : Addr} {c c' : List (Int × Wd)} {n n' : Nat} (h : Cn K H0 D H c n) (e : c = c') (l : n ≤ n') : Cn K H0 D H c' n' := by
  obtain ⟨s0, rs, e1, r, m, l1⟩ := h
  exact ⟨s0, rs, e1, r, m.trans e, Nat.le_trans l1 l⟩
/-- a new term is laid at its end -/
theorem Cn.push {K : PySem.W.Frag} {H0 H : Hp} {D b : Addr} {c : List (Int × Wd)} {n : Nat} {i : Int} {k : Wd} (h : Cn K H0 D H c n) (h0 : H0 D = none) (hk : NKey K H k b) (hn : n < sizeLine) :
    ∀ y, H y = none → ∃ acc, (upd H y (.tup [V.int i, V.ref b])) D = some (.lst acc) ∧ acc.length < sizeLine ∧ Cn K H0 D (upd (upd H y (.tup [V.int i, V.ref b])) D (.lst (acc ++ [V.ref y]))) (c ++ [(i, k)]) (n + 1) := by
  obtain ⟨s0, rs, e, r, m, l⟩ := h
  intro y hy
  have sy := same_new (o := .tup [V.int i, V.ref b]) hy
  have eD := sy _ _ e
  refine ⟨_, eD, by rw [List.length_map]; omega, same_wr (s0.trans sy) h0, rs ++ [(y, i, k)], by rw [upd_same, List.map_append]; rfl, fun t ht => ?_, by rw [List.map_append, m]; rfl, by simp; omega⟩
  rcases List.mem_append.mp ht with z | z
  · exact tmAt_upd eD True.intro ((r t z).ext (.of sy))
  · rw [List.mem_singleton.mp z]
    exact tmAt_upd eD True.intro ⟨b, SqT.of upd_same, nKey_ext (.of sy) hk⟩
abbrev prW (t s : Int × Wd) : List (Int × Wd) := (ilv t.2 s.2).map fun k => (t.1 * s.1, k)
theorem mulT_snoc (us vs : List (Int × Wd)) (t : Int × Wd) : mulT (us ++ [t]) vs = mulT us vs ++ vs.flatMap (prW t) := by simp [mulT, List.flatMap_append]
section
variable {K : PySem.W.Frag} {H H2 : Hp} {D a b b1 b2 : Addr} {c0 : List (Int × Wd)} {n0 : Nat} {N : Hp → Prop}
/-- the words that come of two, each with the product -/
theorem mu2_run {t o : Int × Wd} {x6 : Option V} (hD : H D = none) (k1 : NKey K H2 t.2 b1) (k2 : NKey K H2 o.2 b2) (hz : t.2.length + o.2.length ≤ 12) (hl : ∀ l ∈ t.2, l.length ≤ 1000) (h1 : t.1.natAbs ≤ 2 ^ 400) (h2 : o.1.natAbs ≤ 2 ^ 400) (cn : Cn K H D H2 c0 n0) (hn : n0 + (ilv t.2 o.2).length ≤ sizeLine)
    (q : ∀ H3, (∀ z u, z ≠ D → H2 z = some u → H3 z = some u) → Cn K H D H3 (c0 ++ prW t o) (n0 + (ilv t.2 o.2).length) → N H3) :
    tbMu2 K D [some (.ref a), some (.ref b), some (.int t.1), some (.ref b1), some (.int o.1), some (.ref b2), x6] H2 N := by
  refine ⟨_, rfl, _, rfl, b1, b2, t.2, o.2, rfl, k1, k2, hz, hl, fun L H4 hL s4 wl => ?_⟩
  obtain ⟨cs, eL, pL⟩ := wl
  have c4 := cn.same s4
  have hcl : cs.length = (ilv t.2 o.2).length := Paired.length pL
  have nL : L ≠ D := fun z => by
    obtain ⟨_, rs, e, _⟩ := cn
    rw [z, e] at hL
    cases hL
  refine ⟨L, rfl, ⟨_, SqL.of eL⟩, ?_⟩
  refine cl_it (walk_list (xs := cs.map V.ref)) (fun m H5 => (∀ z u, z ≠ D → H4 z = some u → H5 z = some u) ∧ (∀ c k, NKey K H4 k c → NKey K H5 k c) ∧ Cn K H D H5 (c0 ++ ((ilv t.2 o.2).take m).map (fun k => (t.1 * o.1, k))) (n0 + m)) ?_ ?_ ?_ ?_
  · exact ⟨fun _ _ _ e => e, fun _ _ e => e, c4.eq (by simp) (by omega)⟩
  · rintro m H5 _ ⟨k5, _⟩
    exact SqL.of (k5 _ _ nL eL)
  · rintro m x H5 H5' hm ⟨k5, w5, c5⟩ ⟨rfl, hx⟩
    rw [List.getElem?_map] at hx
    obtain ⟨c, hcm, rfl⟩ := Option.map_eq_some_iff.mp hx
    obtain ⟨k, hkm, hk⟩ := Paired.idx pL hcm
    have hml : m < (ilv t.2 o.2).length := (List.getElem?_eq_some_iff.mp hkm).1
    refine ⟨rfl, _, rfl, _, rfl, _, _, rfl, rfl, mulX h1 h2 (by decide), _, rfl, by show 2 ≤ sizeLine; decide, fun y hy => ?_⟩
    obtain ⟨acc, e1, e2, e3⟩ := c5.push (i := t.1 * o.1) hD (w5 _ _ hk) (by omega) y hy
    refine ⟨acc, e1, e2, fun z u hz hu => ?_, fun c' k' h' => nKey_upd e1 True.intro (nKey_ext (.of (same_new hy)) (w5 _ _ h')), e3.eq ?_ (by omega)⟩
    · rw [upd_ne hz]
      exact same_new hy _ _ (k5 z u hz hu)
    · rw [List.take_add_one, hkm]
      simp
  · rintro H5 ⟨k5, _, c5⟩
    rw [List.length_map, hcl, List.take_length] at c5
    exact q H5 (fun z u hz hu => k5 z u hz (s4 _ _ hu)) c5
theorem mu1_run {t : Int × Wd} {os : List Trm} {B : Nat} (hD : H D = none) (hb : SqL K H b (os.map fun t => V.ref t.1)) (ho : ∀ t ∈ os, TmAt K H t) (k1 : NKey K H2 t.2 b1) (hz : ∀ o ∈ os, t.2.length + o.2.2.length ≤ 12) (hB : ∀ o ∈ os, (ilv t.2 o.2.2).length ≤ B) (hl : ∀ l ∈ t.2, l.length ≤ 1000)
    (h1 : t.1.natAbs ≤ 2 ^ 400) (h2 : ∀ o ∈ os, o.2.1.natAbs ≤ 2 ^ 400) (cn : Cn K H D H2 c0 n0) (hn : n0 + os.length * B < sizeLine) (q : ∀ H3, Cn K H D H3 (c0 ++ (os.map (·.2)).flatMap (prW t)) (n0 + os.length * B) → N H3) :
    tbMu K D [some (.ref a), some (.ref b), some (.int t.1), some (.ref b1), none, none, none] H2 N := by
  refine ⟨_, rfl, b, rfl, ⟨_, sqL_ext (.of cn.1) hb⟩, ?_⟩
  refine cl_it (walk_list (xs := os.map fun t => V.ref t.1)) (fun j H3 => NKey K H3 t.2 b1 ∧ Cn K H D H3 (c0 ++ ((os.take j).map (·.2)).flatMap (prW t)) (n0 + j * B)) ?_ ?_ ?_ ?_
  · exact ⟨k1, cn.eq (by simp) (by omega)⟩
  · rintro j H3 _ ⟨_, c3⟩
    exact sqL_ext (.of c3.1) hb
  · rintro j x H3 H3' hj ⟨k3, c3⟩ ⟨rfl, hx⟩
    rw [List.getElem?_map] at hx
    obtain ⟨o, hoj, rfl⟩ := Option.map_eq_some_iff.mp hx
    have hom := List.mem_of_getElem? hoj
    have hjl : j < os.length := (List.getElem?_eq_some_iff.mp hoj).1
    obtain ⟨b2, g2, k2⟩ := TmAt.ext (.of c3.1) (ho o hom)
    refine ⟨o.1, _, rfl, g2, rfl, _, _, rfl, _, _, rfl, rfl, rfl, ?_⟩
    have hj1 : (j + 1) * B ≤ os.length * B := Nat.mul_le_mul_right _ hjl
    rw [Nat.succ_mul] at hj1
    have hBo := hB o hom
    refine mu2_run (t := t) (o := o.2) hD k3 k2 (hz o hom) hl h1 (h2 o hom) c3 (by omega) fun H4 k4 c4 => ⟨?_, c4.eq ?_ (by rw [Nat.succ_mul]; omega)⟩
    · obtain ⟨_, rs, e, _⟩ := c3
      obtain ⟨bs, p1, p2⟩ := k3
      have st : ∀ c us, SqT K H3' c us → SqT K H4 c us := fun c us h => by
        rcases h with h | h
        · rcases h with h | ⟨od, h⟩
          · exact .inl (.inl (k4 _ _ (fun z => by rw [z, e] at h; cases h) h))
          · exact .inl (.inr ⟨od, k4 _ _ (fun z => by rw [z, e] at h; cases h) h⟩)
        · exact .inr h
      exact ⟨bs, st _ _ p1, Paired.mapP p2 fun _ _ h => st _ _ h⟩
    · rw [List.take_add_one, hoj]
      simp [List.flatMap_append]
  · rintro H3 ⟨_, c3⟩
    rw [List.length_map, List.take_length] at c3
    exact q H3 c3
end
section
variable {P : Program} {w : World} {K : PySem.W.Frag} {mg : Str → Option Value} {base : Heap}
theorem ok_mu {f fI : Addr} {fd dI : FuncData} (F : Fun K "multiplied" "multiplied" sMu f fd) (GI : FnOk P w K mg base CX0 1 fI dI ["one", "other"] (spIl K)) (mI : mg "interleaved" = some (.ref fI)) (kI : PySem.W.keepIn K (.ref fI) = true) (bI : Binds K dI ["one", "other"] []) :
    FnOk P w K mg base CX0 2 f fd ["terms", "others"] (spMu K) := by
  refine F.ok scMu (fun vs H Q E h => ?_) fun cdv A outer s H vs Q E hr h => ?_
  · obtain ⟨a, b, ts, os, d, rfl, _⟩ := h
    rfl
  · obtain ⟨a, b, ts, os, d, rfl, ha, hb, ht, ho, hd, hd12, hz, hc1, hc2, hl, q⟩ := h
    refine ⟨_, der_mu GI mI kI bI hr, ?_⟩
    have hB : ∀ t ∈ ts, ∀ s ∈ os, (ilv t.2.2 s.2.2).length ≤ 3 ^ d := fun t htm s hsm => by
      rw [(ilv_sh _ _).length_eq]
      exact Nat.le_trans (sh_len _ _) (Nat.pow_le_pow_right (by decide) (hd t htm s hsm))
    generalize 3 ^ d = B at hz hB
    refine ret_ ⟨_, rfl, a, rfl, ⟨_, ha⟩, fun D hD => ?_⟩
    refine cl_it (walk_list (xs := ts.map fun t => V.ref t.1)) (fun i H2 => Cn K H D H2 (mulT ((ts.take i).map (·.2)) (os.map (·.2))) (i * (os.length * B))) ?_ ?_ ?_ ?_
    · exact ⟨same_new hD, [], upd_same, fun r hr => absurd hr (by simp), by simp [mulT], by simp⟩
    · rintro i H2 _ ⟨s2, _⟩
      exact sqL_ext (.of s2) ha
    · rintro i x H2 H2' hi cn ⟨rfl, hx⟩
      rw [List.getElem?_map] at hx
      obtain ⟨t, hti, rfl⟩ := Option.map_eq_some_iff.mp hx
      have htm := List.mem_of_getElem? hti
      have hil : i < ts.length := (List.getElem?_eq_some_iff.mp hti).1
      obtain ⟨b1, g1, k1⟩ := TmAt.ext (.of cn.1) (ht t htm)
      refine ⟨t.1, _, rfl, g1, rfl, _, _, rfl, _, _, rfl, rfl, rfl, ?_⟩
      have hi1 : (i + 1) * (os.length * B) ≤ ts.length * (os.length * B) := Nat.mul_le_mul_right _ hil
      rw [Nat.succ_mul] at hi1
      refine mu1_run (t := t.2) (B := B) hD hb ho k1 (fun o hom => Nat.le_trans (hd t htm o hom) hd12) (hB t htm) (hl t htm) (hc1 t htm) hc2 cn (by omega) fun H3 c3 => c3.eq ?_ (by rw [Nat.succ_mul]; omega)
      rw [List.take_add_one, hti]
      show _ = mulT ((ts.take i ++ [t]).map (·.2)) _
      rw [List.map_append]
      exact (mulT_snoc _ _ _).symm
    · rintro H2 ⟨s2, rs, e2, r2, m2, _⟩
      rw [List.length_map, List.take_length] at m2
      exact q D rs H2 hD s2 e2 r2 m2
end
end L2.Fo

set_option exponentiation.threshold 2000
/-! # + - * of forms -/
namespace L2.Fo
open PySem PySem.Spec PyProof.Rows L2.Vf L2.Dw L2.Ch L2.Nk L2.Qs L2.Tdf RZ
/-- two promises of one def -/
theorem okOr {P : Program} {w : World} {K : PySem.W.Frag} {mg : Str → Option Value} {base : Heap} {CX : CXT} {k : Nat} {f : Addr} {fd : FuncData} {ps : List Str} {sp1 sp2 : Sp} (F1 : FnOk P w K mg base CX k f fd ps sp1) (F2 : FnOk P w K mg base CX k f fd ps sp2) : FnOk P w K mg base CX k f fd ps (fun vs H Q E => sp1 vs H Q E ∨ sp2 vs H Q E) :=
  ⟨fun vs H Q E h => h.elim (F1.len vs H Q E) (F2.len vs H Q E), fun A st s H c us vs Q E hr e0 hb r h => h.elim (F1.run A st s H c us vs Q E hr e0 hb r) (F2.run A st s H c us vs Q E hr e0 hb r)⟩
/-- asked of a form -/
def spWhF (K : PySem.W.Frag) (C : Addr) : Sp := fun vs H Q _ => ∃ (p : Addr) (n : Nat) (us : List (Int × Wd)) (D : Addr), vs = [.ref p] ∧ FoAt K C H p n us D ∧ Q (.bl false) H
abbrev spWhA (K : PySem.W.Frag) (C : Addr) : Sp := fun vs H Q E => spAsk K isI vs H Q E ∨ spWhF K C vs H Q E
/-- what the operation of two forms ends in -/
def OpRest (K : PySem.W.Frag) (T : List (Addr × Str)) (C CF : Addr) (n n2 : Nat) (p2 : Addr) (ts : List (Int × Wd)) (H : Hp) (Q : VK) (E : XK) : Prop :=
  (n2 ≠ n ∧ ∀ x, H x = none → E (.ref CF) (some x) (upd H x (.xd [("value", .ref p2)]))) ∨ (n2 = n ∧ ts.length < sizeLine ∧ ∀ q D' H', H q = none → NewN H D' → LamX.ExtN H H' → LamX.Tabs T H' → FoAt K C H' q n (together ts) D' → Q (.ref q) H')
def spAd (K : PySem.W.Frag) (T : List (Addr × Str)) (C CF : Addr) : Sp := fun vs H Q E => ∃ (p p2 : Addr) (n n2 : Nat) (us us2 : List (Int × Wd)) (D D2 : Addr), vs = [.ref p, .ref p2] ∧ FoAt K C H p n us D ∧ FoAt K C H p2 n2 us2 D2 ∧ widD (.int (n : Nat)) = true ∧ LamX.Tabs T H ∧ OpRest K T C CF n n2 p2 (us ++ us2) H Q E
def spSb (K : PySem.W.Frag) (T : List (Addr × Str)) (C CF : Addr) : Sp := fun vs H Q E => ∃ (p p2 : Addr) (n n2 : Nat) (us us2 : List (Int × Wd)) (D D2 : Addr), vs = [.ref p, .ref p2] ∧ FoAt K C H p n us D ∧ FoAt K C H p2 n2 us2 D2 ∧ widD (.int (n : Nat)) = true ∧ LamX.Tabs T H ∧ (∀ t ∈ us2, t.1.natAbs ≤ 2 ^ 400) ∧
  OpRest K T C CF n n2 p2 (us ++ timesT (-1) us2) H Q E
/-- c times a form -/
def TmRest (K : PySem.W.Frag) (T : List (Addr × Str)) (C : Addr) (n : Nat) (c : Int) (us : List (Int × Wd)) (H : Hp) (Q : VK) : Prop := c.natAbs ≤ 2 ^ 400 ∧ (∀ t ∈ us, t.1.natAbs ≤ 2 ^ 400) ∧ us.length < sizeLine ∧ ∀ q D' H', H q = none → NewN H D' → LamX.ExtN H H' → LamX.Tabs T H' → FoAt K C H' q n (together (timesT c us)) D' → Q (.ref q) H'
def spNg (K : PySem.W.Frag) (T : List (Addr × Str)) (C : Addr) : Sp := fun vs H Q _ => ∃ (p : Addr) (n : Nat) (us : List (Int × Wd)) (D : Addr), vs = [.ref p] ∧ FoAt K C H p n us D ∧ widD (.int (n : Nat)) = true ∧ LamX.Tabs T H ∧ TmRest K T C n (-1) us H Q
def spRm (K : PySem.W.Frag) (T : List (Addr × Str)) (C : Addr) : Sp := fun vs H Q _ => ∃ (p : Addr) (n : Nat) (us : List (Int × Wd)) (D : Addr) (c : Int), vs = [.ref p, .int c] ∧ FoAt K C H p n us D ∧ widD (.int (n : Nat)) = true ∧ LamX.Tabs T H ∧ TmRest K T C n c us H Q
def spMl (K : PySem.W.Frag) (T : List (Addr × Str)) (C CF : Addr) : Sp := fun vs H Q E => spRm K T C vs H Q E ∨ ∃ (p p2 : Addr) (n n2 d : Nat) (us us2 : List (Int × Wd)) (D D2 : Addr), vs = [.ref p, .ref p2] ∧ FoAt K C H p n us D ∧ FoAt K C H p2 n2 us2 D2 ∧ widD (.int (n : Nat)) = true ∧ LamX.Tabs T H ∧
  (∀ t ∈ us, ∀ s ∈ us2, t.2.length + s.2.length ≤ d) ∧ d ≤ 12 ∧ us.length * (us2.length * 3 ^ d) < sizeLine ∧ (∀ t ∈ us, t.1.natAbs ≤ 2 ^ 400) ∧ (∀ t ∈ us2, t.1.natAbs ≤ 2 ^ 400) ∧ (∀ t ∈ us, ∀ l ∈ t.2, l.length ≤ 1000) ∧ OpRest K T C CF n n2 p2 (mulT us us2) H Q E
abbrev sAd : Stmt := inClass sFo 7
abbrev sSb : Stmt := inClass sFo 8
abbrev sMl : Stmt := inClass sFo 9
abbrev sRm : Stmt := inClass sFo 10
abbrev sNg : Stmt := inClass sFo 11
theorem scAd : FnScope ["self", "other"] ["self", "other"] (defScope sAd) := ⟨rfl, rfl, rfl, by decide +kernel, rfl, by decide +kernel, by decide +kernel⟩
theorem scSb : FnScope ["self", "other"] ["self", "other"] (defScope sSb) := ⟨rfl, rfl, rfl, by decide +kernel, rfl, by decide +kernel, by decide +kernel⟩
theorem scMl : FnScope ["self", "other"] ["self", "other"] (defScope sMl) := ⟨rfl, rfl, rfl, by decide +kernel, rfl, by decide +kernel, by decide +kernel⟩
theorem scRm : FnScope ["self", "other"] ["self", "other"] (defScope sRm) := ⟨rfl, rfl, rfl, by decide +kernel, rfl, by decide +kernel, by decide +kernel⟩
theorem scNg : FnScope ["self"] ["self"] (defScope sNg) := ⟨rfl, rfl, rfl, by decide +kernel, rfl, by decide +kernel, by decide +kernel⟩
/-- a def by its name -/
structure Df (P : Program) (w : World) (K : PySem.W.Frag) (mg : Str → Option Value) (base : Heap) (x : Str) (k : Nat) (ps : List Str) (sp : Sp) (f : Addr) (fd : FuncData) : Prop where
  g : FnOk P w K mg base CX0 k f fd ps sp
  m : mg x = some (.ref f)
  k : PySem.W.keepIn K (.ref f) = true
  b : Binds K fd ps []
section
variable {P : Program} {w : World} {K : PySem.W.Frag} {mg : Str → Option Value} {base : Heap} {T : List (Addr × Str)} {C CF iF fM fT fU fW f : Addr} {fd dM dT dU dW dIF : FuncData}
theorem ok_whF (F : Fun K "is_whole" "is_whole" sWh f fd) (N : Nm mg) (FT : FoT K mg C) (I : IsT K C) (hki : PySem.W.kitOne K (.ref C) (.type "int") = some false) : FnOk P w K mg base CX0 1 f fd ["value"] (spWhF K C) := by
  refine F.ok scWh (fun vs H Q E h => ?_) fun cdv A outer s H vs Q E hr h => ?_
  · obtain ⟨p, n, us, D, rfl, _⟩ := h
    rfl
  · obtain ⟨p, n, us, D, rfl, ⟨dx, rs, hp, _⟩, q⟩ := h
    refine ⟨_, pss_one (ps_ret (pe_and (pe_callB call_isi (by rfl) N.isi boot_isi (pa_cons (pv 0) (pa_cons (pe_bltn (v := V.ty "int") (by rfl) N.int PyProof.Rows.boot_int (by rfl)) pa_nil)))
      (pe_one (pe_not (pe_callB call_isi (by rfl) N.isi boot_isi (pa_cons (pv 0) (pa_cons (pe_bltn (v := V.ty "bool") (by rfl) N.bool PyProof.Rows.Boot.«bool» (by rfl)) pa_nil))))))), ?_⟩
    exact ⟨_, rfl, .ref p, .ty "int", .ref C, .type "int", false, rfl, .ty "int", .base (.ins hp FT.cl I.ha I.hn I.ht I.hm), hki, false, rfl, iteF q⟩
/-- isinstance(other, Form), of a form -/
theorem is_form {H : Hp} {σ : St} {i : Nat} {p n : Nat} {us : List (Int × Wd)} {D : Addr} {Q : VK} (FT : FoT K mg C) (I : IsT K C) (fo : FoAt K C H p n us D) (hi : σ[i]? = some (some (.ref p))) (q : Q (.bl true) H) : tCB (rIsi K) (tCons (tVar i) (tCons (tC (.ref C)) tNil)) σ H Q := by
  obtain ⟨dx, rs, hp, _⟩ := fo
  exact ⟨_, hi, .ref p, .ref C, .ref C, .ref C, true, rfl, .own C, .base (.ins hp FT.cl I.ha I.hn I.ht I.hm), I.me, q⟩
theorem ok_ad (F : Fun K "__add__" "Form.__add__" sAd f fd) (N : Nm mg) (FT : FoT K mg C) (I : IsT K C) (EF : ErT P w K mg base "InvalidForm" CF iF dIF) (GM : Df P w K mg base "made_form" 8 ["width", "terms"] (spMf K T C) fM dM) : FnOk P w K mg base (L2.CX P w) 9 f fd ["self", "other"] (spAd K T C CF) := by
  refine F.okX scAd (fun vs H Q E h => ?_) fun cdv A outer s H vs Q E hr h => ?_
  · obtain ⟨p, p2, n, n2, us, us2, D, D2, rfl, _⟩ := h
    rfl
  · obtain ⟨p, p2, n, n2, us, us2, D, D2, rfl, fo1, fo2, wn, hT, q⟩ := h
    refine ⟨_, pss_cons (ps_if (pt_not (pt_val (pe_callB call_isi (by rfl) N.isi boot_isi (pa_cons (pv 1) (pa_cons (pe_glob (v := V.ref C) (by rfl) FT.mg_ (by rfl)) pa_nil))))) (pss_one ps_dead) pss_nil)
      (pss_cons (ps_if (pt_cmp (pc_neI (pe_fld (pv 1) rfl) (pe_fld (pv 0) rfl))) (pss_one (ps_raiseE rfl EF.cl EF.fi EF.b1 (hr.mono (show 2 ≤ 8 by decide)) (takes_of rfl rfl rfl rfl) (by rfl) EF.mg_ (pa_cons (pv 1) pa_nil))) pss_nil)
      (pss_one (ps_ret (pe_call GM.g hr rfl GM.m GM.k GM.b .nil pass0 (pa_cons (pe_fld (pv 0) rfl) (pa_cons (pe_op op_cat (pe_fld (pv 0) rfl) (pe_fld (pv 1) rfl)) pa_nil)))))), ?_⟩
    refine is_form (i := 1) FT I fo2 rfl ⟨_, rfl, iteF ?_⟩
    obtain ⟨dx, rs, hp, hD, tm, e⟩ := id fo1
    obtain ⟨dx2, rs2, hp2, hD2, tm2, e2⟩ := id fo2
    refine ⟨_, rfl, p2, C, dx2, _, .int n2, rfl, hp2, FT.cl, FT.nW, rfl, _, rfl, p, C, dx, _, .int n, rfl, hp, FT.cl, FT.nW, rfl, _, _, rfl, rfl, _, rfl, ?_⟩
    rcases q with ⟨hne, q⟩ | ⟨rfl, hz, q⟩
    · exact if_t (ne_int hne) ⟨_, rfl, q⟩
    · refine if_f (eq_int n2) ⟨_, rfl, p, C, dx, _, .int n2, rfl, hp, FT.cl, FT.nW, rfl, _, rfl, p, C, dx, _, .ref D, rfl, hp, FT.cl, FT.nT, rfl, _, rfl, p2, C, dx2, _, .ref D2, rfl, hp2, FT.cl, FT.nT, rfl, D, D2, _, _, rfl, rfl, hD, hD2, ?_, fun L hL => ?_⟩
      · rw [List.length_map, List.length_map]
        rw [← e, ← e2, List.length_append, List.length_map, List.length_map] at hz
        omega
      · have sL := same_new (o := .lst ((rs.map fun r => V.ref r.1) ++ rs2.map fun r => V.ref r.1)) hL
        rw [← List.map_append] at sL ⊢
        refine ⟨n2, L, rs ++ rs2, rfl, wn, SqL.of upd_same, fun t ht => ?_, ?_, hT.ext sL, fun q' D' H' hq nD eN T' fo => ?_⟩
        · rcases List.mem_append.mp ht with z | z
          · exact (tm t z).ext (.of sL)
          · exact (tm2 t z).ext (.of sL)
        · rw [← e, ← e2, ← List.map_append, List.length_map] at hz; exact hz
        · rw [List.map_append, e, e2] at fo
          exact q q' D' H' (sL.free hq) (fun o ho => nD o (sL _ _ ho)) (extN_tr (.of sL) eN) T' fo
end
end L2.Fo

set_option exponentiation.threshold 2000
/-! # - and * of forms -/
namespace L2.Fo
open PySem PySem.Spec PyProof.Rows L2.Vf L2.Dw L2.Ch L2.Nk L2.Qs L2.Tdf RZ
section
variable {P : Program} {w : World} {K : PySem.W.Frag} {mg : Str → Option Value} {base : Heap} {T : List (Addr × Str)} {C CF iF fM fT fU fW f : Addr} {fd dM dT dU dW dIF : FuncData}
/-- made_form(self.width, times(c, self._terms)), the number known -/
theorem times_run {H : Hp} {D : Addr} {n : Nat} {us : List (Int × Wd)} {c : Int} {rs : List Trm} {tw tc tt : TE} {σ : St} {Q : VK} (hc : ∀ R : VK, R (.int c) H → tc σ H R) (hw : ∀ R : VK, R (.int (n : Nat)) H → tw σ H R) (htt : ∀ R : VK, R (.ref D) H → tt σ H R)
    (hD : H D = some (.lst (rs.map fun r => V.ref r.1))) (tm : ∀ r ∈ rs, TmAt K H r) (e : rs.map (·.2) = us) (wn : widD (.int (n : Nat)) = true) (hT : LamX.Tabs T H) (q : TmRest K T C n c us H Q) :
    tCall (spMf K T C) [] E0 (tCons tw (tCons (tCall (spTi K) [] E0 (tCons tc (tCons tt tNil))) tNil)) σ H Q := by
  obtain ⟨h1, h2, h3, q⟩ := q
  have hl : rs.length = us.length := by rw [← e, List.length_map]
  refine call_ (hw _ (cons_ (call_ (cons_ (hc _ (htt _ ⟨c, D, rs, rfl, SqL.of hD, tm, by omega, h1, fun t ht => h2 t.2 (by rw [← e]; exact List.mem_map.mpr ⟨t, ht, rfl⟩), fun L rs2 H1 hL s1 eL tm1 e1 => ?_⟩))))))
  refine ⟨n, L, rs2, rfl, wn, SqL.of eL, tm1, ?_, hT.ext s1, fun q' D' H' hq nD eN T' fo => ?_⟩
  · have := congrArg List.length e1
    rw [List.length_map, List.length_map, List.length_map] at this
    omega
  · rw [e1, e] at fo
    exact q q' D' H' (s1.free hq) (fun o ho => nD o (s1 _ _ ho)) (extN_tr (.of s1) eN) T' fo
theorem ok_ng (F : Fun K "__neg__" "Form.__neg__" sNg f fd) (FT : FoT K mg C) (GM : Df P w K mg base "made_form" 8 ["width", "terms"] (spMf K T C) fM dM) (GT : Df P w K mg base "times" 1 ["factor", "terms"] (spTi K) fT dT) : FnOk P w K mg base CX0 9 f fd ["self"] (spNg K T C) := by
  refine F.ok scNg (fun vs H Q E h => ?_) fun cdv A outer s H vs Q E hr h => ?_
  · obtain ⟨p, n, us, D, rfl, _⟩ := h
    rfl
  · obtain ⟨p, n, us, D, rfl, ⟨dx, rs, hp, hD, tm, e⟩, wn, hT, q⟩ := h
    refine ⟨_, pss_one (ps_ret (pe_call GM.g hr rfl GM.m GM.k GM.b .nil pass0 (pa_cons (pe_fld (pv 0) rfl) (pa_cons (pe_call GT.g (hr.mono (by decide)) rfl GT.m GT.k GT.b .nil pass0 (pa_cons (pe_un un_neg pe_int) (pa_cons (pe_fld (pv 0) rfl) pa_nil))) pa_nil)))), ?_⟩
    exact ret_ (times_run (c := -1) (fun R r => ⟨_, rfl, r⟩) (fun R r => ⟨_, rfl, p, C, dx, _, .int n, rfl, hp, FT.cl, FT.nW, rfl, r⟩) (fun R r => ⟨_, rfl, p, C, dx, _, .ref D, rfl, hp, FT.cl, FT.nT, rfl, r⟩) hD tm e wn hT q)
theorem ok_rm (F : Fun K "__rmul__" "Form.__rmul__" sRm f fd) (FT : FoT K mg C) (GM : Df P w K mg base "made_form" 8 ["width", "terms"] (spMf K T C) fM dM) (GT : Df P w K mg base "times" 1 ["factor", "terms"] (spTi K) fT dT) (GW : Df P w K mg base "is_whole" 1 ["value"] (spWhA K C) fW dW) :
    FnOk P w K mg base CX0 9 f fd ["self", "other"] (spRm K T C) := by
  refine F.ok scRm (fun vs H Q E h => ?_) fun cdv A outer s H vs Q E hr h => ?_
  · obtain ⟨p, n, us, D, c, rfl, _⟩ := h
    rfl
  · obtain ⟨p, n, us, D, c, rfl, ⟨dx, rs, hp, hD, tm, e⟩, wn, hT, q⟩ := h
    refine ⟨_, pss_cons (ps_if (pt_not (pt_val (pe_call GW.g (hr.mono (by decide)) rfl GW.m GW.k GW.b .nil pass0 (pa_cons (pv 1) pa_nil)))) (pss_one ps_dead) pss_nil)
      (pss_one (ps_ret (pe_call GM.g hr rfl GM.m GM.k GM.b .nil pass0 (pa_cons (pe_fld (pv 0) rfl) (pa_cons (pe_call GT.g (hr.mono (by decide)) rfl GT.m GT.k GT.b .nil pass0 (pa_cons (pv 1) (pa_cons (pe_fld (pv 0) rfl) pa_nil))) pa_nil))))), ?_⟩
    refine ⟨_, rfl, .inl ⟨_, _, [], rfl, .int c, _, rfl, iteF ?_⟩⟩
    unfold tNext
    dsimp only
    exact ret_ (times_run (c := c) (fun R r => ⟨_, rfl, r⟩) (fun R r => ⟨_, rfl, p, C, dx, _, .int n, rfl, hp, FT.cl, FT.nW, rfl, r⟩) (fun R r => ⟨_, rfl, p, C, dx, _, .ref D, rfl, hp, FT.cl, FT.nT, rfl, r⟩) hD tm e wn hT q)
theorem ok_sb (F : Fun K "__sub__" "Form.__sub__" sSb f fd) (N : Nm mg) (FT : FoT K mg C) (I : IsT K C) (EF : ErT P w K mg base "InvalidForm" CF iF dIF) (GM : Df P w K mg base "made_form" 8 ["width", "terms"] (spMf K T C) fM dM) (GT : Df P w K mg base "times" 1 ["factor", "terms"] (spTi K) fT dT) :
    FnOk P w K mg base (L2.CX P w) 9 f fd ["self", "other"] (spSb K T C CF) := by
  refine F.okX scSb (fun vs H Q E h => ?_) fun cdv A outer s H vs Q E hr h => ?_
  · obtain ⟨p, p2, n, n2, us, us2, D, D2, rfl, _⟩ := h
    rfl
  · obtain ⟨p, p2, n, n2, us, us2, D, D2, rfl, fo1, fo2, wn, hT, hc2, q⟩ := h
    refine ⟨_, pss_cons (ps_if (pt_not (pt_val (pe_callB call_isi (by rfl) N.isi boot_isi (pa_cons (pv 1) (pa_cons (pe_glob (v := V.ref C) (by rfl) FT.mg_ (by rfl)) pa_nil))))) (pss_one ps_dead) pss_nil)
      (pss_cons (ps_if (pt_cmp (pc_neI (pe_fld (pv 1) rfl) (pe_fld (pv 0) rfl))) (pss_one (ps_raiseE rfl EF.cl EF.fi EF.b1 (hr.mono (show 2 ≤ 8 by decide)) (takes_of rfl rfl rfl rfl) (by rfl) EF.mg_ (pa_cons (pv 1) pa_nil))) pss_nil)
      (pss_one (ps_ret (pe_call GM.g hr rfl GM.m GM.k GM.b .nil pass0 (pa_cons (pe_fld (pv 0) rfl) (pa_cons (pe_op op_cat (pe_fld (pv 0) rfl) (pe_call GT.g (hr.mono (by decide)) rfl GT.m GT.k GT.b .nil pass0 (pa_cons (pe_un un_neg pe_int) (pa_cons (pe_fld (pv 1) rfl) pa_nil)))) pa_nil)))))), ?_⟩
    refine is_form (i := 1) FT I fo2 rfl ⟨_, rfl, iteF ?_⟩
    obtain ⟨dx, rs, hp, hD, tm, e⟩ := id fo1
    obtain ⟨dx2, rs2, hp2, hD2, tm2, e2⟩ := id fo2
    refine ⟨_, rfl, p2, C, dx2, _, .int n2, rfl, hp2, FT.cl, FT.nW, rfl, _, rfl, p, C, dx, _, .int n, rfl, hp, FT.cl, FT.nW, rfl, _, _, rfl, rfl, _, rfl, ?_⟩
    rcases q with ⟨hne, q⟩ | ⟨rfl, hz, q⟩
    · exact if_t (ne_int hne) ⟨_, rfl, q⟩
    · have hz' : rs.length + rs2.length < sizeLine := by
        have : (timesT (-1) us2).length = us2.length := by simp [timesT]
        rw [List.length_append, this, ← e, ← e2, List.length_map, List.length_map] at hz
        exact hz
      refine if_f (eq_int n2) ⟨_, rfl, p, C, dx, _, .int n2, rfl, hp, FT.cl, FT.nW, rfl, _, rfl, p, C, dx, _, .ref D, rfl, hp, FT.cl, FT.nT, rfl, _, rfl, _, rfl, p2, C, dx2, _, .ref D2, rfl, hp2, FT.cl, FT.nT, rfl, ?_⟩
      refine ⟨-1, D2, rs2, rfl, SqL.of hD2, tm2, by omega, by decide, fun t ht => hc2 t.2 (by rw [← e2]; exact List.mem_map.mpr ⟨t, ht, rfl⟩), fun L2 rs3 H1 hL2 s1 eL2 tm3 e3 => ?_⟩
      have l3 : rs3.length = rs2.length := by
        have := congrArg List.length e3
        rwa [List.length_map, List.length_map, List.length_map] at this
      refine ⟨D, L2, _, _, rfl, rfl, s1 _ _ hD, eL2, by rw [List.length_map, List.length_map]; omega, fun L hL => ?_⟩
      have sL := same_new (o := .lst ((rs.map fun r => V.ref r.1) ++ rs3.map fun r => V.ref r.1)) hL
      rw [← List.map_append] at sL ⊢
      have s2 := s1.trans sL
      refine ⟨n2, L, rs ++ rs3, rfl, wn, SqL.of upd_same, fun t ht => ?_, by rw [List.length_append]; omega, hT.ext s2, fun q' D' H' hq nD eN T' fo => ?_⟩
      · rcases List.mem_append.mp ht with z | z
        · exact (tm t z).ext (.of s2)
        · exact (tm3 t z).ext (.of sL)
      · rw [List.map_append, e, e3, e2] at fo
        exact q q' D' H' (s2.free hq) (fun o ho => nD o (s2 _ _ ho)) (extN_tr (.of s2) eN) T' fo
theorem ok_ml (F : Fun K "__mul__" "Form.__mul__" sMl f fd) (N : Nm mg) (FT : FoT K mg C) (I : IsT K C) (EF : ErT P w K mg base "InvalidForm" CF iF dIF) (GM : Df P w K mg base "made_form" 8 ["width", "terms"] (spMf K T C) fM dM) (GT : Df P w K mg base "times" 1 ["factor", "terms"] (spTi K) fT dT)
    (GU : Df P w K mg base "multiplied" 2 ["terms", "others"] (spMu K) fU dU) (GW : Df P w K mg base "is_whole" 1 ["value"] (spWhA K C) fW dW) : FnOk P w K mg base (L2.CX P w) 9 f fd ["self", "other"] (spMl K T C CF) := by
  refine F.okX scMl (fun vs H Q E h => ?_) fun cdv A outer s H vs Q E hr h => ?_
  · rcases h with ⟨p, n, us, D, c, rfl, _⟩ | ⟨p, p2, n, n2, d, us, us2, D, D2, rfl, _⟩ <;> rfl
  · have hr1 := hr.mono (show 1 ≤ 8 by decide)
    have hr2 := hr.mono (show 2 ≤ 8 by decide)
    refine ⟨_, pss_cons (ps_if (pt_val (pe_call GW.g hr1 rfl GW.m GW.k GW.b .nil pass0 (pa_cons (pv 1) pa_nil))) (pss_one (ps_ret (pe_call GM.g hr rfl GM.m GM.k GM.b .nil pass0 (pa_cons (pe_fld (pv 0) rfl) (pa_cons (pe_call GT.g hr1 rfl GT.m GT.k GT.b .nil pass0 (pa_cons (pv 1) (pa_cons (pe_fld (pv 0) rfl) pa_nil))) pa_nil))))) pss_nil)
      (pss_cons (ps_if (pt_not (pt_val (pe_callB call_isi (by rfl) N.isi boot_isi (pa_cons (pv 1) (pa_cons (pe_glob (v := V.ref C) (by rfl) FT.mg_ (by rfl)) pa_nil))))) (pss_one ps_dead) pss_nil)
      (pss_cons (ps_if (pt_cmp (pc_neI (pe_fld (pv 1) rfl) (pe_fld (pv 0) rfl))) (pss_one (ps_raiseE rfl EF.cl EF.fi EF.b1 hr2 (takes_of rfl rfl rfl rfl) (by rfl) EF.mg_ (pa_cons (pv 1) pa_nil))) pss_nil)
      (pss_one (ps_ret (pe_call GM.g hr rfl GM.m GM.k GM.b .nil pass0 (pa_cons (pe_fld (pv 0) rfl) (pa_cons (pe_call GU.g hr2 rfl GU.m GU.k GU.b .nil pass0 (pa_cons (pe_fld (pv 0) rfl) (pa_cons (pe_fld (pv 1) rfl) pa_nil))) pa_nil))))))), ?_⟩
    rcases h with ⟨p, n, us, D, c, rfl, ⟨dx, rs, hp, hD, tm, e⟩, wn, hT, q⟩ | ⟨p, p2, n, n2, d, us, us2, D, D2, rfl, fo1, fo2, wn, hT, hd, hd12, hz, hc1, hc2, hl, q⟩
    · refine ⟨_, rfl, .inl ⟨_, _, [], rfl, .int c, _, rfl, iteT ?_⟩⟩
      show tRet _ _ _ _
      exact ret_ (times_run (c := c) (fun R r => ⟨_, rfl, r⟩) (fun R r => ⟨_, rfl, p, C, dx, _, .int n, rfl, hp, FT.cl, FT.nW, rfl, r⟩) (fun R r => ⟨_, rfl, p, C, dx, _, .ref D, rfl, hp, FT.cl, FT.nT, rfl, r⟩) hD tm e wn hT q)
    · refine ⟨_, rfl, .inr ⟨p2, n2, us2, D2, rfl, fo2, _, rfl, iteF ?_⟩⟩
      refine is_form (i := 1) FT I fo2 rfl ⟨_, rfl, iteF ?_⟩
      obtain ⟨dx, rs, hp, hD, tm, e⟩ := id fo1
      obtain ⟨dx2, rs2, hp2, hD2, tm2, e2⟩ := id fo2
      refine ⟨_, rfl, p2, C, dx2, _, .int n2, rfl, hp2, FT.cl, FT.nW, rfl, _, rfl, p, C, dx, _, .int n, rfl, hp, FT.cl, FT.nW, rfl, _, _, rfl, rfl, _, rfl, ?_⟩
      rcases q with ⟨hne, q⟩ | ⟨rfl, hzz, q⟩
      · exact if_t (ne_int hne) ⟨_, rfl, q⟩
      · have m1 : ∀ t ∈ rs, t.2 ∈ us := fun t ht => by rw [← e]; exact List.mem_map.mpr ⟨t, ht, rfl⟩
        have m2 : ∀ t ∈ rs2, t.2 ∈ us2 := fun t ht => by rw [← e2]; exact List.mem_map.mpr ⟨t, ht, rfl⟩
        have l1 : rs.length = us.length := by rw [← e, List.length_map]
        have l2 : rs2.length = us2.length := by rw [← e2, List.length_map]
        refine if_f (eq_int n2) ⟨_, rfl, p, C, dx, _, .int n2, rfl, hp, FT.cl, FT.nW, rfl, _, rfl, p, C, dx, _, .ref D, rfl, hp, FT.cl, FT.nT, rfl, _, rfl, p2, C, dx2, _, .ref D2, rfl, hp2, FT.cl, FT.nT, rfl, ?_⟩
        refine ⟨D, D2, rs, rs2, d, rfl, SqL.of hD, SqL.of hD2, tm, tm2, fun t ht s hs => hd t.2 (m1 t ht) s.2 (m2 s hs), hd12, by rw [l1, l2]; exact hz, fun t ht => hc1 t.2 (m1 t ht), fun t ht => hc2 t.2 (m2 t ht), fun t ht => hl t.2 (m1 t ht), fun L rs3 H1 hL s1 eL tm3 e3 => ?_⟩
        rw [e, e2] at e3
        have l3 : rs3.length = (mulT us us2).length := by rw [← e3, List.length_map]
        refine ⟨n2, L, rs3, rfl, wn, SqL.of eL, tm3, by rw [l3]; exact hzz, hT.ext s1, fun q' D' H' hq nD eN T' fo => ?_⟩
        rw [e3] at fo
        exact q q' D' H' (s1.free hq) (fun o ho => nD o (s1 _ _ ho)) (extN_tr (.of s1) eN) T' fo
end
end L2.Fo

/-! # dict(xs) of pairs (word, value) -/
namespace L2.Nk
open PySem PySem.Spec PyProof.Rows
theorem nest_stay {prog : Program} {w : World} {h h' : Heap} {k : Wd} {b : Addr} (kp : ∀ c o, h.get? c = some o → h'.get? c = some o) (x : (knd prog w).is h k b) : (knd prog w).is h' k b := by
  obtain ⟨o, items, n, e, c, d, hi⟩ := x
  refine ⟨o, items, n, kp _ _ e, c, d, ?_⟩
  clear d c e
  generalize items.toList = vs at hi
  induction hi with
  | nil => exact .nil
  | cons h1 _ ih =>
    obtain ⟨o1, i1, n1, e1, c1, d1, q1⟩ := h1
    exact .cons ⟨o1, i1, n1, kp _ _ e1, c1, d1, q1⟩ ih
/-- the entries that come of pairs -/
def putAll (es : List Ent) : List Ent := es.foldl (fun xs e => putN xs e.1 e.2.1 e.2.2) []
theorem KN.all {es : List Ent} {us : List (Wd × Addr × Value)} (r : KN es us) : ∀ {xs : List Ent} {vs : List (Wd × Addr × Value)}, KN xs vs → KN (es.foldl (fun xs e => putN xs e.1 e.2.1 e.2.2) xs) (storedAllH vs us) := by
  induction r with
  | nil => intro xs vs q; exact q
  | @cons p q ps qs h _ ih =>
    intro xs vs k
    obtain ⟨h1, h2, h3⟩ := h
    have := k.put p.1 (b := p.2.1) h3
    rw [List.foldl_cons]
    show KN _ (storedAllH (storedH vs q.1 q.2.1 q.2.2) qs)
    rw [← h1, ← h2]
    exact ih this
theorem putAll_len (es : List Ent) : (putAll es).length ≤ es.length := by
  suffices h : ∀ (es xs : List Ent), (es.foldl (fun xs e => putN xs e.1 e.2.1 e.2.2) xs).length ≤ xs.length + es.length by simpa [putAll] using h es []
  intro es
  induction es with
  | nil => intro xs; simp
  | cons e es ih =>
    intro xs
    have h1 := ih (putN xs e.1 e.2.1 e.2.2)
    have h2 := length_putN xs e.1 e.2.1 e.2.2
    simp only [List.foldl_cons, List.length_cons]
    omega
/-- dict(xs): at each of the pairs' places its word, the word's tuple, the value -/
def rDictN (P : Program) (w : World) (K : PySem.W.Frag) (vs : List V) (H : Hp) (Q : VK) : Prop := ∃ (a : Addr) (es : List (Addr × Ent)), vs = [.ref a] ∧ SqL K H a (es.map fun e => V.ref e.1) ∧ (∀ e ∈ es, SqT K H e.1 [.ref e.2.2.1, e.2.2.2] ∧ NKey K H e.2.1 e.2.2.1) ∧
  ∀ p, H p = none → Q (.ref p) (upd H p (NtO P w p (putAll (es.map (·.2)))))
section
variable {X : Cx} {pins : List (Addr × Obj)} {σ : St} {H : Hp} {s : Shared}
theorem dn_pairs (I : Inv X pins σ H s) : ∀ es : List (Addr × Ent), (∀ e ∈ es, SqT X.K H e.1 [.ref e.2.2.1, e.2.2.2] ∧ NKey X.K H e.2.1 e.2.2.1) →
    ∃ us : List (Wd × Addr × Value), KN (es.map (·.2)) us ∧ us.length = es.length ∧ (∀ u ∈ us, (knd X.prog X.w).is s.heap u.1 u.2.1) ∧ ∀ (j : Nat) (u : Wd × Addr × Value), us[j]? = some u → ∃ e, es[j]? = some e ∧ IsTup s.heap e.1 #[.ref u.2.1, u.2.2]
  | [], _ => ⟨[], .nil, rfl, fun u h => absurd h (by simp), fun j u h => by simp at h⟩
  | e :: es, h => by
    obtain ⟨us, r, l, q1, q2⟩ := dn_pairs I es fun x hx => h x (List.mem_cons_of_mem _ hx)
    obtain ⟨h1, h2⟩ := h e List.mem_cons_self
    obtain ⟨its, rv, it, _⟩ := I.tuple h1
    obtain ⟨v0, v1, rfl, r0, r1⟩ := vals2 rv
    cases r0
    refine ⟨(e.2.1, e.2.2.1, v1) :: us, .cons ⟨rfl, rfl, r1⟩ r, by rw [List.length_cons, List.length_cons, l], fun u hu => ?_, fun j u hu => ?_⟩
    · rcases List.mem_cons.mp hu with rfl | hu
      · exact nkey_at I h2
      · exact q1 u hu
    · cases j with
      | zero =>
        have : (e.2.1, e.2.2.1, v1) = u := Option.some.inj hu
        subst this
        exact ⟨e, rfl, it⟩
      | succ j =>
        obtain ⟨e', a1, a2⟩ := q2 j u (by simpa using hu)
        exact ⟨e', by simpa using a1, a2⟩
theorem call_dictN (hcalm : X.calm = true) (hu : X.A.units + 4 < cLine) : CallR X (.type "dict") (rDictN X.prog X.w X.K) := by
  intro pins s σ H vs us Q I r h
  obtain ⟨a, es, rfl, hq, he, q⟩ := h
  obtain ⟨u, rfl, rx⟩ := vals1 r
  cases rx
  obtain ⟨its, rv, pl, hz⟩ := I.list hq
  have ei : its = (es.map (·.1)).map Value.ref := by
    have : (es.map fun e => V.ref e.1) = (es.map (·.1)).map V.ref := by rw [List.map_map]; rfl
    rw [this] at rv
    exact refs_at rv
  subst ei
  rw [List.length_map] at hz
  obtain ⟨us, rel, hl, hk, hp⟩ := dn_pairs I es he
  obtain ⟨o, n, ho, hc, hd, hdat⟩ := pl
  have hm : (s.heap.objs.size == sysModules) = false := beq_eq_false_iff_ne.mpr (Nat.ne_of_gt I.big)
  refine call_dict_pairsH (knd := knd X.prog X.w) (ps := us) (PairArg.list a ((es.map (·.1)).map Value.ref).toArray (fun j => (es.map (·.1)).getD j 0) (us.map fun u => (Value.ref u.2.1, u.2.2))) (I.ok.hd hcalm) (by show X.A.units + 1 + 1 + 1 < cLine; omega)
    ⟨⟨o, n, ho, hc, hd, hdat⟩, by simp [hl], fun j k v e => ?_⟩ ⟨by simp, fun i key v e => ?_⟩ (fun h' k x hx => nest_stay (fun c ob e => k c ob (Nat.ne_of_lt (Heap.lt_size e)) (by simp) e) (hk x hx)) (by simp; omega) fun h' tk hd' k => ?_
  · rw [List.getElem?_map] at e
    obtain ⟨u, hu', e2⟩ := Option.map_eq_some_iff.mp e
    obtain ⟨ee, a1, a2⟩ := hp j u hu'
    cases e2
    refine ⟨by simp [a1], .inl ?_⟩
    have : (es.map (·.1)).getD j 0 = ee.1 := by rw [List.getD_eq_getElem?_getD, List.getElem?_map, a1]; rfl
    show s.heap.IsTuple ((es.map (·.1)).getD j 0) _
    rw [this]
    exact a2
  · have e : (us.map fun u : Wd × Addr × Value => (Value.ref u.2.1, u.2.2))[i]? = some (key, v) := e
    rw [List.getElem?_map] at e
    obtain ⟨u, hu', e2⟩ := Option.map_eq_some_iff.mp e
    cases e2
    exact ⟨u.1, u.2.1, hu', rfl⟩
  · obtain ⟨o', es', ep, h1, h2, h3, h4, _, h5⟩ := hd'
    have hlen : (putAll (es.map (·.2))).length ≤ sizeLine := by
      refine Nat.le_trans (putAll_len _) ?_
      rw [List.length_map]
      exact hz
    have rel2 : KN (putAll (es.map (·.2))) (storedAllH [] us) := KN.all rel .nil
    exact ⟨.ref s.heap.objs.size, upd H s.heap.objs.size (NtO X.prog X.w s.heap.objs.size (putAll (es.map (·.2)))), I.laid (t' := tk) (fun b ob e => k b ob (by simp) e) (Nat.le_refl _) (nt_mk hlen hm rel2 h1 h2 h3 h4 h5), rfl, q _ (I.hok.fresh (Nat.le_refl _))⟩
end
end L2.Nk

set_option exponentiation.threshold 2000
/-! # the law's own merging of words -/
namespace L2.Fo
open PySem PySem.Spec PyProof.Rows L2.Vf L2.Dw L2.Ch L2.Nk L2.Qs L2.Tdf RZ
abbrev sMg : Stmt := top 39
abbrev nMg : List Str := ["_law_one", "_law_other", "_law_both", "_law_found", "_law_first", "_law_second", "_law_rest"]
theorem scMg : FnScope nMg ["_law_one", "_law_other"] (defScope sMg) := ⟨rfl, rfl, rfl, by decide +kernel, rfl, by decide +kernel, by decide +kernel⟩
/-- of fewer than d letters together -/
def spMg (K : PySem.W.Frag) : Nat → Sp
  | 0 => fun _ _ _ _ => False
  | d + 1 => fun vs H Q _ => ∃ (b1 b2 : Addr) (u v : Wd), vs = [.ref b1, .ref b2] ∧ NKey K H u b1 ∧ NKey K H v b2 ∧ u.length + v.length ≤ d ∧ d ≤ 12 ∧ (∀ l ∈ u, l.length ≤ 1000) ∧ ∀ (D : Addr) (H' : Hp), H D = none → Same H H' → WlAt K H' D (sh u v) → Q (.ref D) H'
/-- what a list comprehension does with its list -/
def LcB (K : PySem.W.Frag) (g : TG) (tt : TT) (te : TE) (vs : List Nat) (σ : St) (Q : VK) : VK := fun x H1 => ∃ a, x = .ref a ∧ (∃ xs, SqL K H1 a xs) ∧ ∀ D, H1 D = none → ∃ W : Nat → Nat → Hp → Prop, (∃ m, W 0 m (upd H1 D (.lst []))) ∧ ∀ i m H, W i m H →
  ((Itl K a).stop i H ∧ Q (.ref D) H) ∨ ((Itl K a).go i H ∧ ∃ Nx : Hp → Prop, (∀ H', Nx H' → ∃ m', m' < m ∧ W (i + 1) m' H') ∧ ∀ x H', (Itl K a).yld i H x H' → g x (wipe σ vs) H' fun σ2 H2 => wipe σ2 vs = wipe σ vs ∧ tt σ2 H2 fun b H3 =>
    if b = true then te σ2 H3 fun y H4 => ∃ acc, H4 D = some (.lst acc) ∧ acc.length < sizeLine ∧ Nx (upd H4 D (.lst (acc ++ [y]))) else Nx H3)
theorem lcB_ {K : PySem.W.Frag} {tI : TE} {g : TG} {tt : TT} {te : TE} {vs : List Nat} {σ : St} {H : Hp} {Q : VK} (h : tI σ H (LcB K g tt te vs σ Q)) : tLc (iList K tI) g tt te vs σ H Q := h
/-- a letter is put ahead of a word -/
theorem put_word {K : PySem.W.Frag} {H : Hp} {b c t : Addr} {k : Wd} {l : List Int} {Q : VK} (ht : H t = some (.tup [.ref c])) (hk : NKey K H k b) (hc : SqT K H c (l.map V.int)) (hz : k.length < 1000) (q : ∀ d H', Same H H' → NKey K H' (l :: k) d → Q (.ref d) H') :
    rCatA K (.ref t) (.ref b) H Q := by
  obtain ⟨bs, h1, h2⟩ := hk
  have hl : bs.length = k.length := Paired.length h2
  refine ⟨t, b, [V.ref c], bs.map V.ref, rfl, rfl, SqT.of ht, h1, by rw [List.length_map, sizeLine_eq]; simp; omega, fun e => absurd e (by simp), fun _ e => ?_, fun _ _ d hd => ?_⟩
  · have : bs = [] := by cases bs <;> simp_all
    subst this
    cases h2
    exact q t H (.refl _) ⟨[c], SqT.of ht, .cons hc .nil⟩
  · have sd := same_new (o := .tup ([V.ref c] ++ bs.map V.ref)) hd
    exact q d _ sd ⟨c :: bs, SqT.of upd_same, .cons (sqT_ext (.of sd) hc) (Paired.mapP h2 fun _ _ e => sqT_ext (.of sd) e)⟩
/-- [(letter,) + rest for rest in ..] -/
theorem lc_put {K : PySem.W.Frag} {tX : TE} {σ : St} {H : Hp} {m : Nat} {a cl : Addr} {ws : List Wd} {l : List Int} {Q : VK} (hm : m < σ.length) (hX : ∀ (x : V) (H2 : Hp) (R : VK), Same H H2 → R (.ref cl) H2 → tX ((σ.set m none).set m (some x)) H2 R) (hl : SqT K H cl (l.map V.int)) (wl : WlAt K H a ws) (hz : ws.length < sizeLine) (hw : ∀ k ∈ ws, k.length < 1000)
    (q : ∀ D H', H D = none → Same H H' → WlAt K H' D (ws.map (l :: ·)) → Q (.ref D) H') : LcB K (gName m) tYes (tOp (rCatA K) (tTup (tCons tX tNil)) (tVar m)) [m] σ Q (.ref a) H := by
  obtain ⟨cs, h1, h2⟩ := wl
  have hcl : cs.length = ws.length := Paired.length h2
  refine ⟨a, rfl, ⟨_, SqL.of h1⟩, fun D hD => ?_⟩
  refine lc_list (xs := cs.map V.ref) (fun i H2 => Same H H2 ∧ WlAt K H2 D ((ws.take i).map (l :: ·))) ?_ ?_ ?_ ?_
  · exact ⟨same_new hD, [], upd_same, .nil⟩
  · rintro i H2 _ ⟨s2, _⟩
    exact SqL.of (s2 _ _ h1)
  · rintro i x H2 hx ⟨s2, ds, e2, p2⟩
    rw [List.getElem?_map] at hx
    obtain ⟨c, hci, rfl⟩ := Option.map_eq_some_iff.mp hx
    obtain ⟨k, hki, hk⟩ := Paired.idx h2 hci
    have hil : i < ws.length := (List.getElem?_eq_some_iff.mp hki).1
    have hdl : ds.length ≤ i := by rw [Paired.length p2, List.length_map, List.length_take]; omega
    show wipe ((σ.set m none).set m (some (.ref c))) [m] = σ.set m none ∧ _
    refine ⟨by show ((σ.set m none).set m (some (V.ref c))).set m none = σ.set m none; rw [List.set_set, List.set_set], ?_⟩
    refine hX (.ref c) H2 _ s2 ⟨by show 1 ≤ sizeLine; decide, fun t ht => ?_⟩
    have st := same_new (o := .tup [V.ref cl]) ht
    have s3 := s2.trans st
    refine ⟨.ref c, by rw [List.getElem?_set_self (by rw [wipe_length]; exact hm)], ?_⟩
    refine put_word upd_same (nKey_ext (.of s3) hk) (sqT_ext (.of s3) hl) (hw k (List.mem_of_getElem? hki)) fun d H4 s4 hd4 => ?_
    have e4 := s4 _ _ (st _ _ e2)
    refine ⟨_, e4, by rw [List.length_map]; omega, same_wr (s3.trans s4) hD, ds ++ [d], by rw [upd_same, List.map_append]; rfl, ?_⟩
    rw [List.take_add_one, hki, List.map_append]
    exact Paired.snoc (Paired.mapP p2 fun _ _ e => nKey_upd e4 True.intro (nKey_ext (.of (st.trans s4)) e)) (nKey_upd e4 True.intro hd4)
  · rintro H2 ⟨s2, w2⟩
    rw [List.length_map, hcl, List.take_length] at w2
    exact q D H2 hD s2 w2
/-- a word without its first letter -/
theorem tail_word {K : PySem.W.Frag} {H : Hp} {b : Addr} {l : List Int} {k : Wd} {Q : VK} (hk : NKey K H (l :: k) b) (q : ∀ c H', Same H H' → NKey K H' k c → Q (.ref c) H') : rSlA K (.ref b) (some 1) none H Q := by
  obtain ⟨bs, h1, h2⟩ := hk
  cases h2 with
  | @cons b0 _ br _ hb0 hbr =>
    refine ⟨b, _, rfl, h1, fun e => ?_, fun _ c hc => ?_⟩
    · have e1 : HT.sIx ((b0 :: br).map V.ref).length 0 (some 1) = min 1 ((b0 :: br).map V.ref).length := HT.sIx_nat _ _ 1
      rw [e1] at e
      simp at e
    · have eT : cutV ((b0 :: br).map V.ref) (some 1) none = br.map V.ref := by rw [show (1 : Int) = ((1 : Nat) : Int) from rfl, cut_drop _ 1 (by simp)]; rfl
      rw [eT]
      have sc := same_new (o := .tup (br.map V.ref)) hc
      exact q c _ sc ⟨br, SqT.of upd_same, Paired.mapP hbr fun _ _ e => sqT_ext (.of sc) e⟩
abbrev tTl (K : PySem.W.Frag) (i : Nat) : TE := tSl (rSlA K) (tVar i) (tPart (tC (.int 1))) tNoPart
abbrev tHd (K : PySem.W.Frag) (i : Nat) : TE := tOp (rIxT K) (tVar i) (tC (.int 0))
abbrev tMgC (K : PySem.W.Frag) (d : Nat) (a b : TE) : TE := tCall (spMg K d) [] E0 (tCons a (tCons b tNil))
abbrev tRs (K : PySem.W.Frag) (tI tX : TE) : TE := tLc (iList K tI) (gName 6) tYes (tOp (rCatA K) (tTup (tCons tX tNil)) (tVar 6)) [6]
def tMgA (K : PySem.W.Frag) : TE := tCB (rTup K) (tCons (tLc (iZipA K (tCons (tHd K 0) (tCons (tHd K 1) tNil))) (gTup K 2 (gCons (gName 4) (gCons (gName 5) gNil))) tYes (tPl (tVar 4) (tVar 5)) [4, 5]) tNil)
def tMgB (K : PySem.W.Frag) (d : Nat) : TS := tSeq (tAsg (tMgA K) (gName 2)) (tSeq (tAsg (tRs K (tMgC K d (tTl K 0) (tVar 1)) (tHd K 0)) (gName 3)) (tSeq (tAsg (tOp rCat (tVar 3) (tRs K (tMgC K d (tVar 0) (tTl K 1)) (tHd K 1))) (gName 3)) (tRet (tOp rCat (tVar 3) (tRs K (tMgC K d (tTl K 0) (tTl K 1)) (tVar 2))))))
def tMg (K : PySem.W.Frag) (d : Nat) : TS := tSeq (tIfS (tOr (tTest (tOp (Vf.rEqD K false) (tVar 0) (tTup tNil))) (tTest (tOp (Vf.rEqD K false) (tVar 1) (tTup tNil)))) (tRet (tLst (tCons (tOp (rCatA K) (tVar 0) (tVar 1)) tNil))) tNext) (tMgB K d)
section
variable {P : Program} {w : World} {K : PySem.W.Frag} {mg : Str → Option Value} {base : Heap}
theorem der_mg {f fS : Addr} {dS : FuncData} {cdv : Value} {A : Around} {outer : List Env} {s : Shared} {H : Hp} {E : XK} {d : Nat} (N : Nm mg) (GS : FnOk P w K mg base CX0 (1 + d) fS dS ["_law_one", "_law_other"] (spMg K d)) (mS : mg "_law_merged" = some (.ref fS)) (kS : PySem.W.keepIn K (.ref fS) = true) (bS : Binds K dS ["_law_one", "_law_other"] [])
    (hr : Room (1 + d) (A.deeper (envOfC "_law_merged" (defScope sMg) s.heap.objs.size f cdv))) : PSs (cxOf CX0 P w K mg base nMg "_law_merged" (defScope sMg) f cdv A outer s H E).nox (defBody sMg) (tMg K d) := by
  have hu := hr.units
  refine pss_cons (ps_if (PW.pt (pw_or (pt_cmpR (Vf.op_eqD hu) (pv 0) (pe_tup pa_nil) (nomark _)) (pw_or1 (pt_cmpR (Vf.op_eqD hu) (pv 1) (pe_tup pa_nil) (nomark _))))) (pss_one (ps_ret (pe_lst (pa_cons (pe_op op_catA (pv 0) (pv 1)) pa_nil)))) pss_nil) ?_
  refine pss_cons (ps_set (i := 2) scMg.nd rfl (.inr rfl) (pe_callTy call_tuple_of (by rfl) N.tup PyProof.Rows.boot_tuple (pa_cons (pe_lc (own := [("_law_first", 4), ("_law_second", 5)]) (g := gTup K 2 (gCons (gName 4) (gCons (gName 5) gNil))) (tt := tYes) (te := tPl (tVar 4) (tVar 5)) rfl scMg.nd
    (pi_zipA (by rfl) N.zip (pa_cons (pe_ix ix_tup (pv 0) pe_int (fun _ _ => rfl)) (pa_cons (pe_ix ix_tup (pv 1) pe_int (fun _ _ => rfl)) pa_nil))) (blkOk_by (N := nMg) (sc := defScope sMg) (by decide +kernel)) (fun _ _ _ _ _ => pg_tup rfl (pgs_cons (pg_name (i := 4) scMg.nd rfl (Or.inl rfl)) (pgs_cons (pg_name (i := 5) scMg.nd rfl (Or.inl rfl)) pgs_nil))) (fun _ _ _ _ _ => pts_nil) (fun _ _ _ _ _ => pe_op op_add (pv 4) (pv 5))) pa_nil))) ?_
  refine pss_cons (ps_setLc (i := 3) (own := [("_law_rest", 6)]) (g := gName 6) (tt := tYes) (te := tOp (rCatA K) (tTup (tCons (tHd K 0) tNil)) (tVar 6)) rfl scMg.nd rfl rfl (sw_true rfl rfl rfl (by decide +kernel)) (pi_list (pe_call GS hr rfl mS kS bS .nil pass0 (pa_cons (pe_slice sl_tupA (pv 0) (po_some pe_int) po_none) (pa_cons (pv 1) pa_nil)))) (blkOk_by (N := nMg) (sc := defScope sMg) (by decide +kernel))
    (fun _ _ _ _ _ => pg_name (i := 6) scMg.nd rfl (Or.inl rfl)) (fun _ _ _ _ _ => pts_nil) (fun _ _ _ _ _ => pe_op op_catA (pe_tup (pa_cons (pe_ix ix_tup (pv 0) pe_int (fun _ _ => rfl)) pa_nil)) (pv 6))) ?_
  refine pss_cons (ps_set (i := 3) scMg.nd rfl (.inl rfl) (pe_op op_cat (pv 3) (pe_lc (own := [("_law_rest", 6)]) (g := gName 6) (tt := tYes) (te := tOp (rCatA K) (tTup (tCons (tHd K 1) tNil)) (tVar 6)) rfl scMg.nd (pi_list (pe_call GS hr rfl mS kS bS .nil pass0 (pa_cons (pv 0) (pa_cons (pe_slice sl_tupA (pv 1) (po_some pe_int) po_none) pa_nil)))) (blkOk_by (N := nMg) (sc := defScope sMg) (by decide +kernel))
    (fun _ _ _ _ _ => pg_name (i := 6) scMg.nd rfl (Or.inl rfl)) (fun _ _ _ _ _ => pts_nil) (fun _ _ _ _ _ => pe_op op_catA (pe_tup (pa_cons (pe_ix ix_tup (pv 1) pe_int (fun _ _ => rfl)) pa_nil)) (pv 6))))) ?_
  exact pss_one (ps_ret (pe_op op_cat (pv 3) (pe_lc (own := [("_law_rest", 6)]) (g := gName 6) (tt := tYes) (te := tOp (rCatA K) (tTup (tCons (tVar 2) tNil)) (tVar 6)) rfl scMg.nd (pi_list (pe_call GS hr rfl mS kS bS .nil pass0 (pa_cons (pe_slice sl_tupA (pv 0) (po_some pe_int) po_none) (pa_cons (pe_slice sl_tupA (pv 1) (po_some pe_int) po_none) pa_nil)))) (blkOk_by (N := nMg) (sc := defScope sMg) (by decide +kernel))
    (fun _ _ _ _ _ => pg_name (i := 6) scMg.nd rfl (Or.inl rfl)) (fun _ _ _ _ _ => pts_nil) (fun _ _ _ _ _ => pe_op op_catA (pe_tup (pa_cons (pv 2) pa_nil)) (pv 6)))))
end
end L2.Fo

set_option exponentiation.threshold 2000
/-! # the law's own merging, promised -/
namespace L2.Fo
open PySem PySem.Spec PyProof.Rows L2.Vf L2.Dw L2.Ch L2.Nk L2.Qs L2.Tdf RZ
section
variable {K : PySem.W.Frag} {H : Hp}
theorem is_nil {σ : St} {i : Nat} {b : Addr} {k : Wd} {Qb : Bool → Hp → Prop} (hi : σ[i]? = some (some (.ref b))) (hk : NKey K H k b) (q : ∀ H', Same H H' → Qb (decide (k = [])) H') : tTest (tOp (Vf.rEqD K false) (tVar i) (tTup tNil)) σ H Qb := by
  refine ⟨_, hi, by show 0 ≤ sizeLine; omega, fun e0 he0 => ?_⟩
  have s0 := same_new (o := .tup []) he0
  refine ⟨dWord k, .tuple [], [], [], word_sh (nKey_ext (.of s0) hk), .tup (SqT.of upd_same) .nil, shaped_word k, rfl, _, rfl, ?_⟩
  have ee : PyData.eqv (dWord k) (.tuple []) = decide (k = []) := eqv_word k []
  rw [if_neg Bool.false_ne_true, ee]
  exact q _ s0
theorem tl_run {σ : St} {i : Nat} {b : Addr} {l : List Int} {k : Wd} {Q : VK} (hi : σ[i]? = some (some (.ref b))) (hk : NKey K H (l :: k) b) (q : ∀ c H', Same H H' → NKey K H' k c → Q (.ref c) H') : tTl K i σ H Q :=
  ⟨_, hi, 1, rfl, tail_word hk q⟩
theorem sh_short {u v : Wd} (h : u.length + v.length ≤ 12) : (sh u v).length ≤ 531441 ∧ ∀ k ∈ sh u v, k.length < 1000 := by
  have p3 : 3 ^ (u.length + v.length) ≤ 3 ^ 12 := Nat.pow_le_pow_right (by decide) h
  have e : 3 ^ 12 = 531441 := by decide
  have := sh_len u v
  refine ⟨by omega, fun k hk => ?_⟩
  have := sh_long u v k hk
  omega
theorem mg_shared {b1 b2 c d : Addr} {x y : List Int} {br br2 : List Addr} {o2 o3 : Option V} {Q : VK} (h1 : SqT K H b1 ((c :: br).map V.ref)) (h2 : SqT K H b2 ((d :: br2).map V.ref)) (hc : SqT K H c (x.map V.int)) (hd : SqT K H d (y.map V.int)) (hx : x.length ≤ 1000)
    (q : ∀ t H', Same H H' → SqT K H' t ((addL x y).map V.int) → Q (.ref t) H') : tMgA K [some (.ref b1), some (.ref b2), o2, o3, none, none, none] H Q := by
  unfold tMgA
  refine ⟨_, rfl, b1, _, 0, .ref c, rfl, rfl, h1, at0 _ _, _, rfl, b2, _, 0, .ref d, rfl, rfl, h2, at0 _ _, c, d, _, _, rfl, .inr ⟨hc, hd, fun D hD => ?_⟩⟩
  refine lc_it (walk_zipT (xs := x.map V.int) (ys := y.map V.int) (n := min x.length y.length) (by rw [List.length_map, List.length_map])) (fun i H2 => Same H H2 ∧ H2 D = some (.lst (((addL x y).take i).map V.int))) ?_ ?_ ?_ ?_
  · exact ⟨same_new hD, upd_same⟩
  · rintro i H2 _ ⟨s2, _⟩
    exact ⟨sqT_ext (.of s2) hc, sqT_ext (.of s2) hd⟩
  · rintro i z H2 H3 hi ⟨s2, e2⟩ ⟨t, v1, v2, rfl, ht, rfl, e4, e5⟩
    have e4 : (x.map V.int)[i]? = some v1 := e4
    have e5 : (y.map V.int)[i]? = some v2 := e5
    rw [List.getElem?_map] at e4 e5
    obtain ⟨p, hp, rfl⟩ := Option.map_eq_some_iff.mp e4
    obtain ⟨r, hr, rfl⟩ := Option.map_eq_some_iff.mp e5
    have sT := same_new (o := .tup [.int p, .int r]) ht
    refine ⟨t, _, rfl, SqT.of upd_same, rfl, _, _, rfl, _, _, rfl, rfl, rfl, ?_⟩
    refine ⟨_, rfl, _, rfl, _, _, rfl, rfl, ?_⟩
    refine ⟨_, sT _ _ e2, by rw [List.length_map, List.length_take, sizeLine_eq]; unfold addL; rw [List.length_zipWith]; omega, same_wr (s2.trans sT) hD, ?_⟩
    rw [upd_same, List.take_add_one]
    have : (addL x y)[i]? = some (p + r) := by unfold addL; rw [List.getElem?_zipWith, hp, hr]
    rw [this]
    simp
  · rintro H2 ⟨s2, e2⟩
    rw [List.take_of_length_le (by unfold addL; rw [List.length_zipWith]; omega)] at e2
    exact ⟨D, _, rfl, .inl ⟨SqL.of e2, fun l hl => q l _ (s2.trans (same_new hl)) (SqT.of upd_same)⟩⟩
/-- both words have a first letter -/
theorem mgB_run {d : Nat} {b1 b2 : Addr} {a b : List Int} {u v : Wd} {N : Ends} (h1 : NKey K H (a :: u) b1) (h2 : NKey K H (b :: v) b2) (hd : (a :: u).length + (b :: v).length ≤ d) (hd12 : d ≤ 12) (hl : ∀ l ∈ a :: u, l.length ≤ 1000)
    (q : ∀ D H', H D = none → Same H H' → WlAt K H' D (sh (a :: u) (b :: v)) → N.rt (.ref D) H') : tMgB K d N [some (.ref b1), some (.ref b2), none, none, none, none, none] H := by
  unfold tMgB
  obtain ⟨d', rfl⟩ : ∃ d', d = d' + 1 := ⟨d - 1, by simp only [List.length_cons] at hd; omega⟩
  simp only [List.length_cons] at hd
  obtain ⟨z1, w1⟩ := sh_short (u := u) (v := b :: v) (by simp only [List.length_cons]; omega)
  obtain ⟨z2, w2⟩ := sh_short (u := a :: u) (v := v) (by simp only [List.length_cons]; omega)
  obtain ⟨z3, w3⟩ := sh_short (u := u) (v := v) (by omega)
  obtain ⟨bs1, p1, r1⟩ := id h1
  obtain ⟨bs2, p2, r2⟩ := id h2
  cases r1 with
  | @cons c _ br _ sa ra =>
  cases r2 with
  | @cons c2 _ br2 _ sb rb =>
  refine asg_ (mg_shared p1 p2 sa sb (hl a List.mem_cons_self) fun t H1 s1 st => ?_)
  refine asg_ (lcB_ (call_ (cons_ (tl_run rfl (nKey_ext (.of s1) h1) fun t1 H2 s2 k2 => ?_))))
  have s02 := s1.trans s2
  refine cons_ (t := tVar 1) ⟨_, rfl, t1, b2, u, b :: v, rfl, k2, nKey_ext (.of s02) h2, by simp only [List.length_cons]; omega, by omega, fun l h => hl l (List.mem_cons_of_mem _ h), fun L1 H3 _ s3 wl1 => ?_⟩
  have s03 := s02.trans s3
  refine lc_put (by show 6 < 7; decide) (fun x H2 R s r => ⟨_, rfl, b1, _, 0, .ref c, rfl, rfl, sqT_ext (.of (s03.trans s)) p1, at0 _ _, r⟩) (sqT_ext (.of s03) sa) wl1 (by rw [sizeLine_eq]; omega) w1 fun D1 H4 n4 s4 d1 => ?_
  have s04 := s03.trans s4
  refine asg_ (op_ ⟨_, rfl, lcB_ (call_ (cons_ (t := tVar 0) ⟨_, rfl, cons_ (tl_run rfl (nKey_ext (.of s04) h2) fun t2 H5 s5 k5 => ?_)⟩))⟩)
  have s05 := s04.trans s5
  refine ⟨b1, t2, a :: u, v, rfl, nKey_ext (.of s05) h1, k5, by simp only [List.length_cons]; omega, by omega, hl, fun L2 H6 _ s6 wl2 => ?_⟩
  have s06 := s05.trans s6
  refine lc_put (by show 6 < 7; decide) (fun x H2 R s r => ⟨_, rfl, b2, _, 0, .ref c2, rfl, rfl, sqT_ext (.of (s06.trans s)) p2, at0 _ _, r⟩) (sqT_ext (.of s06) sb) wl2 (by rw [sizeLine_eq]; omega) w2 fun D2 H7 n7 s7 d2 => ?_
  have s07 := s06.trans s7
  refine cat_wl (d1.same ((s5.trans s6).trans s7)) d2 (by rw [List.length_map, List.length_map, sizeLine_eq]; omega) fun D3 H8 s8 n8 d3 => ?_
  have s08 := s07.trans s8
  refine ret_ (op_ ⟨_, rfl, lcB_ (call_ (cons_ (tl_run rfl (nKey_ext (.of s08) h1) fun t3 H9 s9 k9 => cons_ (tl_run rfl (nKey_ext (.of (s08.trans s9)) h2) fun t4 H10 s10 k10 => ?_))))⟩)
  have s010 := (s08.trans s9).trans s10
  refine ⟨t3, t4, u, v, rfl, nKey_ext (.of s10) k9, k10, by omega, by omega, fun l h => hl l (List.mem_cons_of_mem _ h), fun L3 H11 _ s11 wl3 => ?_⟩
  have s011 := s010.trans s11
  refine lc_put (by show 6 < 7; decide) (fun x H2 R s r => ⟨_, rfl, r⟩) (sqT_ext (.of ((((((((s2.trans s3).trans s4).trans s5).trans s6).trans s7).trans s8).trans (s9.trans s10)).trans s11)) st) wl3 (by rw [sizeLine_eq]; omega) w3 fun D4 H12 n12 s12 d4 => ?_
  refine cat_wl (d3.same (((s9.trans s10).trans s11).trans s12)) d4 (by rw [List.length_append, List.length_map, List.length_map, List.length_map, sizeLine_eq]; omega) fun D5 H13 s13 n13 d5 => ?_
  refine q D5 H13 ((s011.trans s12).free n13) ((s011.trans s12).trans s13) ?_
  rw [sh_cons]
  exact d5
end
section
variable {P : Program} {w : World} {K : PySem.W.Frag} {mg : Str → Option Value} {base : Heap}
theorem ok_mg {f : Addr} {fd : FuncData} (F : Fun K "_law_merged" "_law_merged" sMg f fd) (N : Nm mg) (mS : mg "_law_merged" = some (.ref f)) (kS : PySem.W.keepIn K (.ref f) = true) (bS : Binds K fd ["_law_one", "_law_other"] []) :
    ∀ d : Nat, FnOk P w K mg base CX0 (1 + d) f fd ["_law_one", "_law_other"] (spMg K d)
  | 0 => ⟨fun _ _ _ _ h => h.elim, fun _ _ _ _ _ _ _ _ _ _ _ _ _ h => h.elim⟩
  | d + 1 => by
    have GS := ok_mg F N mS kS bS d
    refine F.ok scMg (fun vs H Q E h => ?_) fun cdv A outer s H vs Q E hr h => ?_
    · obtain ⟨b1, b2, u, v, rfl, _⟩ := h
      rfl
    · obtain ⟨b1, b2, u, v, rfl, h1, h2, hd, hd12, hl, q⟩ := h
      refine ⟨_, der_mg N GS mS kS bS hr, ?_⟩
      unfold tMg
      have both : ∀ H1, Same H H1 → (u = [] ∨ v = []) → tRet (tLst (tCons (tOp (rCatA K) (tVar 0) (tVar 1)) tNil)) { nx := tMgB K d { nx := fun _ H' => Q .non H', rt := Q }, rt := Q } (start nMg [.ref b1, .ref b2]) H1 := fun H1 s1 hn => by
        obtain ⟨bs1, p1, r1⟩ := nKey_ext (.of s1) h1
        obtain ⟨bs2, p2, r2⟩ := nKey_ext (.of s1) h2
        have l1 : bs1.length = u.length := Paired.length r1
        have l2 : bs2.length = v.length := Paired.length r2
        have fin : ∀ c H2, Same H1 H2 → NKey K H2 (u ++ v) c → (∀ L, H2 L = none → Q (.ref L) (upd H2 L (.lst [.ref c]))) := fun c H2 s2 hc L hL => by
          have sL := same_new (o := .lst [V.ref c]) hL
          refine q L _ ((s1.trans s2).free hL) ((s1.trans s2).trans sL) ⟨[c], upd_same, ?_⟩
          have e : sh u v = [u ++ v] := by
            rcases hn with rfl | rfl
            · rw [nil_sh]; rfl
            · rw [sh_nil, List.append_nil]
          rw [e]
          exact .cons (nKey_ext (.of sL) hc) .nil
        refine ret_ (lst_ (op_ ⟨_, rfl, _, rfl, b1, b2, _, _, rfl, rfl, p1, p2, by rw [List.length_map, List.length_map, sizeLine_eq]; omega, fun e => ?_, fun e1 e2 => ?_, fun e1 e2 => ?_⟩))
        · refine ⟨by show 1 ≤ sizeLine; decide, fun L hL => fin b2 H1 (.refl _) ?_ L hL⟩
          have : u = [] := by cases u with | nil => rfl | cons x y => rw [List.map_eq_nil_iff.mp e] at l1; simp at l1
          subst this
          exact ⟨bs2, p2, r2⟩
        · refine ⟨by show 1 ≤ sizeLine; decide, fun L hL => fin b1 H1 (.refl _) ?_ L hL⟩
          have : v = [] := by cases v with | nil => rfl | cons x y => rw [List.map_eq_nil_iff.mp e2] at l2; simp at l2
          subst this
          rw [List.append_nil]
          exact ⟨bs1, p1, r1⟩
        · exfalso
          rcases hn with rfl | rfl
          · cases r1; exact e1 rfl
          · cases r2; exact e2 rfl
      refine seqIf_ (or_ (is_nil rfl h1 fun H1 s1 => ?_))
      cases u with
      | nil => exact if_t rfl (if_t rfl (both H1 s1 (.inl rfl)))
      | cons a u =>
        refine if_f rfl (is_nil rfl (nKey_ext (.of s1) h2) fun H2 s2 => ?_)
        cases v with
        | nil => exact if_t rfl (both H2 (s1.trans s2) (.inr rfl))
        | cons b v =>
          refine if_f rfl (mgB_run (nKey_ext (.of (s1.trans s2)) h1) (nKey_ext (.of (s1.trans s2)) h2) hd (by omega) hl fun D H' nD s' wl => q D H' ((s1.trans s2).free nD) ((s1.trans s2).trans s') wl)
end
end L2.Fo

set_option exponentiation.threshold 2000
/-! # the law's own putting together: as data -/
namespace L2.Fo
open PySem PySem.Spec PyProof.Rows PySem.W L2.Vf L2.Dw L2.Ch L2.Nk L2.Qs L2.Tdf RZ
abbrev swp (p : Wd × Int) : Int × Wd := (p.2, p.1)
theorem addS_new {ys : Sm} {k : Wd} {c : Int} (h : k ∉ ys.map (·.1)) : addS ys c k = ys ++ [(k, c)] := by
  have e : (ys.any fun p => decide (p.1 = k)) = false := by
    rw [Bool.eq_false_iff]
    intro q
    obtain ⟨p, hp, e⟩ := List.any_eq_true.mp q
    exact h (List.mem_map.mpr ⟨p, hp, by simpa using e⟩)
  unfold addS
  rw [e, getS_no e, Int.zero_add]
  simp
theorem sumsOf_swp {ys : Sm} (h : (ys.map (·.1)).Nodup) : sumsOf (ys.map swp) = ys := by
  suffices q : ∀ (zs xs : Sm), ((xs ++ zs).map (·.1)).Nodup → (zs.map swp).foldl (fun ys t => addS ys t.1 t.2) xs = xs ++ zs from (q ys [] (by simpa using h)).trans (by simp)
  intro zs
  induction zs with
  | nil => intro xs _; simp
  | cons z zs ih =>
    intro xs hn
    rw [List.map_cons, List.foldl_cons]
    have hz : z.1 ∉ xs.map (·.1) := by
      rw [List.map_append, List.map_cons, List.nodup_append] at hn
      intro q
      exact hn.2.2 _ q _ List.mem_cons_self rfl
    show (zs.map swp).foldl _ (addS xs z.2 z.1) = _
    rw [addS_new hz, ih _ (by rw [List.append_assoc]; exact hn), List.append_assoc]
    rfl
/-- terms in the order of their words, those that count -/
def ordT (ts : List (Int × Wd)) : List (Int × Wd) := (((ts.map (·.2)).mergeSort (dataLe false fun k => dKey k)).map fun k => (getS (ts.map fun t => (t.2, t.1)) k, k)).filter fun t => !decide (t.1 = 0)
theorem ordT_eq {ts : List (Int × Wd)} (h : (ts.map (·.2)).Nodup) : ordT ts = together ts := by
  generalize hys : (ts.map fun t : Int × Wd => (t.2, t.1)) = ys
  have nd : (ys.map (·.1)).Nodup := by rw [← hys, List.map_map]; exact h
  have ets : ts = ys.map swp := by rw [← hys, List.map_map]; simp [Function.comp_def]
  have e1 : sumsOf ts = ys := by rw [ets]; exact sumsOf_swp nd
  have tot := sortLe_total (listOrd itemOrd) false fun t : Int × Wd => keyToks (dKey t.2)
  have tot2 := sortLe_total (listOrd itemOrd) false fun k : Wd => keyToks (dKey k)
  unfold ordT together
  rw [e1, hys]
  refine List.Perm.eq_of_pairwise (le := fun a b => dataLe false (fun t : Int × Wd => dKey t.2) a b = true) (fun a b ha hb h1 h2 => ?_) ?_ (sort_pairwise tot _) ?_
  · have e := le_anti h1 h2
    obtain ⟨k, hk, rfl⟩ := List.mem_map.mp (List.mem_filter.mp ha).1
    have mb := (mem_some nd b).mp (List.mem_mergeSort.mp hb)
    refine Prod.ext ?_ e
    show getS ys k = b.1
    rw [show k = b.2 from e, mb.2]
  · refine List.Pairwise.filter _ ?_
    rw [List.pairwise_map]
    exact sort_pairwise tot2 _
  · refine List.Perm.trans ?_ (List.mergeSort_perm _ _).symm
    refine List.Perm.trans (((List.mergeSort_perm (ts.map (·.2)) _).map _).filter _) ?_
    have : (ts.map (·.2)).map (fun k => (getS ys k, k)) = ys.map swp := by
      rw [ets, List.map_map, List.map_map]
      refine List.map_congr_left fun p hp => ?_
      show (getS ys p.1, p.1) = (p.2, p.1)
      rw [getS_mem nd hp]
    rw [this]
    unfold someOf
    rw [List.filter_map]
    exact List.Perm.refl _
/-- dict entries whose words are all unlike -/
theorem putAll_new {es : List Ent} (h : (es.map (·.1)).Nodup) : putAll es = es := by
  suffices q : ∀ (zs xs : List Ent), ((xs ++ zs).map (·.1)).Nodup → zs.foldl (fun xs e => Nk.putN xs e.1 e.2.1 e.2.2) xs = xs ++ zs from (q es [] (by simpa using h)).trans (by simp)
  intro zs
  induction zs with
  | nil => intro xs _; simp
  | cons z zs ih =>
    intro xs hn
    have hz : z.1 ∉ xs.map (·.1) := by
      rw [List.map_append, List.map_cons, List.nodup_append] at hn
      intro q
      exact hn.2.2 _ q _ List.mem_cons_self rfl
    have e : (xs.any fun x => decide (x.1 = z.1)) = false := by
      rw [Bool.eq_false_iff]
      intro q
      obtain ⟨p, hp, e⟩ := List.any_eq_true.mp q
      exact hz (List.mem_map.mpr ⟨p, hp, by simpa using e⟩)
    rw [List.foldl_cons]
    have : Nk.putN xs z.1 z.2.1 z.2.2 = xs ++ [z] := by unfold Nk.putN; rw [e]; rfl
    rw [this, ih _ (by rw [List.append_assoc]; exact hn), List.append_assoc]
    rfl
/-- the words of the sums -/
theorem sums_words (c : Int) (ws : List Wd) : ((sumsOf (ws.map fun k => (c, k))).map (·.1)).Nodup := sums_nodup _
/-- the law's sums put in order are the terms put together -/
theorem ord_sums (ts : List (Int × Wd)) : ordT ((sumsOf ts).map swp) = together ts := by
  have nd := sums_nodup ts
  rw [ordT_eq (by rw [List.map_map]; exact nd)]
  refine together_eq fun k => ?_
  rw [← get_sums, sumsOf_swp nd, get_sums]
end L2.Fo

set_option exponentiation.threshold 2000
/-! # the law's own putting together: its terms -/
namespace L2.Fo
open PySem PySem.Spec PyProof.Rows L2.Vf L2.Dw L2.Ch L2.Nk L2.Qs L2.Tdf RZ
abbrev sPq : Stmt := top 41
abbrev nPq : List Str := ["_law_factor", "_law_words", "_law_found", "_law_letters"]
theorem scPq : FnScope nPq ["_law_factor", "_law_words"] (defScope sPq) := ⟨rfl, rfl, rfl, by decide +kernel, rfl, by decide +kernel, by decide +kernel⟩
/-- the words, each with the factor, put together in the order of their coming -/
def spPq (K : PySem.W.Frag) : Sp := fun vs H Q _ => ∃ (c : Int) (a : Addr) (ws : List Wd), vs = [.int c, .ref a] ∧ WlAt K H a ws ∧ ws.length < sizeLine ∧
  ∀ (D : Addr) (rs : List Trm) (H' : Hp), H D = none → Same H H' → H' D = some (.lst (rs.map fun r => V.ref r.1)) → (∀ r ∈ rs, TmAt K H' r) → rs.map (·.2) = (sumsOf (ws.map fun k => (c, k))).map swp → Q (.ref D) H'
abbrev tNg (P : Program) (w : World) (K : PySem.W.Frag) (i j : Nat) : TE := tNGet P w K (tVar i) (tVar j)
abbrev tPqE (P : Program) (w : World) (K : PySem.W.Frag) : TE := tLc (iKeysN P w (tVar 2)) (gName 3) tYes (tTup (tCons (tNg P w K 2 3) (tCons (tVar 3) tNil))) [3]
def tPq (P : Program) (w : World) (K : PySem.W.Frag) : TS := tSeq (tAsg (tNNew P w) (gName 2)) (tSeq (tFor (iList K (tVar 1)) (gName 3) (sNPut P w K (tVar 2) (tVar 3) (tAdd (tNGet2 P w K (tVar 2) (tVar 3) (tC (.int 0))) (tVar 0)))) (tLock (tRet (tPqE P w K))))
abbrev sOr : Stmt := top 42
abbrev nOr : List Str := ["_law_terms_here", "_law_rows", "_law_found", "_law_factor", "_law_letters", "_law_size"]
theorem scOr : FnScope nOr ["_law_terms_here"] (defScope sOr) := ⟨rfl, rfl, rfl, by decide +kernel, rfl, by decide +kernel, by decide +kernel⟩
/-- terms with unlike words, in order -/
def spOr (K : PySem.W.Frag) : Sp := fun vs H Q _ => ∃ (a : Addr) (ts : List Trm), vs = [.ref a] ∧ SqL K H a (ts.map fun t => V.ref t.1) ∧ (∀ t ∈ ts, TmAt K H t) ∧ ts.length < sizeLine ∧ ((ts.map (·.2)).map (·.2)).Nodup ∧
  ∀ (D : Addr) (rs : List Trm) (H' : Hp), H D = none → Same H H' → H' D = some (.lst (rs.map fun r => V.ref r.1)) → (∀ r ∈ rs, TmAt K H' r) → rs.map (·.2) = ordT (ts.map (·.2)) → Q (.ref D) H'
abbrev tOrA (K : PySem.W.Frag) : TE := tCB (rSortP K) (tCons (tLc (iList K (tVar 0)) (gTup K 2 (gCons (gName 3) (gCons (gName 4) gNil))) tYes (tTup (tCons (tLenS K 4) (tCons (tVar 4) tNil))) [3, 4]) tNil)
abbrev tOrB (P : Program) (w : World) (K : PySem.W.Frag) : TE := tCB (rDictN P w K) (tCons (tLc (iList K (tVar 0)) (gTup K 2 (gCons (gName 3) (gCons (gName 4) gNil))) tYes (tTup (tCons (tVar 4) (tCons (tVar 3) tNil))) [3, 4]) tNil)
abbrev tOrC (P : Program) (w : World) (K : PySem.W.Frag) : TE := tLc (iList K (tVar 1)) (gTup K 2 (gCons (gName 5) (gCons (gName 4) gNil))) (L2.tB (tNeI (tNg P w K 2 4) (tC (.int 0)))) (tTup (tCons (tNg P w K 2 4) (tCons (tVar 4) tNil))) [5, 4]
def tOr_ (P : Program) (w : World) (K : PySem.W.Frag) : TS := tSeq (tAsg (tOrA K) (gName 1)) (tSeq (tAsg (tOrB P w K) (gName 2)) (tRet (tOrC P w K)))
section
variable {P : Program} {w : World} {K : PySem.W.Frag} {mg : Str → Option Value} {base : Heap}
theorem boot_srt : bootBuiltins "sorted" = some (.builtin "sorted") := by decide +kernel
theorem boot_dct : bootBuiltins "dict" = some (.type "dict") := by decide +kernel
theorem der_pq {f : Addr} {cdv : Value} {A : Around} {outer : List Env} {s : Shared} {H : Hp} {E : XK} (N : Nm mg) (hr : Room 0 (A.deeper (envOfC "_law_put" (defScope sPq) s.heap.objs.size f cdv))) :
    PSs (cxOf CX0 P w K mg base nPq "_law_put" (defScope sPq) f cdv A outer s H E).nox (defBody sPq) (tPq P w K) := by
  have h2 : (A.deeper (envOfC "_law_put" (defScope sPq) s.heap.objs.size f cdv)).units + 2 < cLine := by have := hr.units; omega
  refine pss_cons (ps_asg pe_nnew (pg_name (i := 2) scPq.nd rfl (Or.inr rfl))) ?_
  refine pss_cons (ps_for PassesOwn.never rfl (pi_list (pv 1)) (pg_name (i := 3) scPq.nd rfl (Or.inl rfl)) (pss_one (ps_nput h2 (pv 2) (pv 3) (pe_add (pe_nget2 h2 (pv 2) (pv 3) pe_int ⟨by rfl, by rfl, by rfl, by rfl⟩) (pv 0)) (by rfl)))) ?_
  exact pss_one (ps_lock (ps_ret (pe_lc (own := [("_law_letters", 3)]) (g := gName 3) (tt := tYes) (te := tTup (tCons (tNg P w K 2 3) (tCons (tVar 3) tNil))) rfl scPq.nd (pi_keysN (pv 2)) (blkOk_by (N := nPq) (sc := defScope sPq) (by decide +kernel))
    (fun _ _ _ _ _ => pg_name (i := 3) scPq.nd rfl (Or.inl rfl)) (fun _ _ _ _ _ => pts_nil) (fun _ _ _ _ _ => pe_tup (pa_cons (pe_nget h2 (pv 2) (pv 3) (fun _ _ => rfl)) (pa_cons (pv 3) pa_nil))))))
theorem der_or {f : Addr} {cdv : Value} {A : Around} {outer : List Env} {s : Shared} {H : Hp} {E : XK} (N : Nm mg) (mS : mg "sorted" = none) (mD : mg "dict" = none) (hr : Room 0 (A.deeper (envOfC "_law_ordered" (defScope sOr) s.heap.objs.size f cdv))) :
    PSs (cxOf CX0 P w K mg base nOr "_law_ordered" (defScope sOr) f cdv A outer s H E).nox (defBody sOr) (tOr_ P w K) := by
  have hu := hr.units
  have h2 : (A.deeper (envOfC "_law_ordered" (defScope sOr) s.heap.objs.size f cdv)).units + 2 < cLine := by omega
  have h4 : (A.deeper (envOfC "_law_ordered" (defScope sOr) s.heap.objs.size f cdv)).units + 4 < cLine := by omega
  refine pss_cons (ps_set (i := 1) scOr.nd rfl (.inl rfl) (pe_callB (L2.Nk.cr_sortedP hu) (by rfl) mS boot_srt (pa_cons (pe_lc (own := [("_law_factor", 3), ("_law_letters", 4)]) (g := gTup K 2 (gCons (gName 3) (gCons (gName 4) gNil))) (tt := tYes) (te := tTup (tCons (tLenS K 4) (tCons (tVar 4) tNil))) rfl scOr.nd
    (pi_list (pv 0)) (blkOk_by (N := nOr) (sc := defScope sOr) (by decide +kernel)) (fun _ _ _ _ _ => pg_tup rfl (pgs_cons (pg_name (i := 3) scOr.nd rfl (Or.inl rfl)) (pgs_cons (pg_name (i := 4) scOr.nd rfl (Or.inl rfl)) pgs_nil))) (fun _ _ _ _ _ => pts_nil)
    (fun _ _ _ _ _ => pe_tup (pa_cons (pe_callB call_len_seq (by rfl) N.len PySem.boot_len (pa_cons (pv 4) pa_nil)) (pa_cons (pv 4) pa_nil)))) pa_nil))) ?_
  refine pss_cons (ps_set (i := 2) scOr.nd rfl (.inr rfl) (pe_callTy (L2.Nk.call_dictN rfl h4) (by rfl) mD boot_dct (pa_cons (pe_lc (own := [("_law_factor", 3), ("_law_letters", 4)]) (g := gTup K 2 (gCons (gName 3) (gCons (gName 4) gNil))) (tt := tYes) (te := tTup (tCons (tVar 4) (tCons (tVar 3) tNil))) rfl scOr.nd
    (pi_list (pv 0)) (blkOk_by (N := nOr) (sc := defScope sOr) (by decide +kernel)) (fun _ _ _ _ _ => pg_tup rfl (pgs_cons (pg_name (i := 3) scOr.nd rfl (Or.inl rfl)) (pgs_cons (pg_name (i := 4) scOr.nd rfl (Or.inl rfl)) pgs_nil))) (fun _ _ _ _ _ => pts_nil)
    (fun _ _ _ _ _ => pe_tup (pa_cons (pv 4) (pa_cons (pv 3) pa_nil)))) pa_nil))) ?_
  exact pss_one (ps_ret (pe_lc (own := [("_law_size", 5), ("_law_letters", 4)]) (g := gTup K 2 (gCons (gName 5) (gCons (gName 4) gNil))) (tt := L2.tB (tNeI (tNg P w K 2 4) (tC (.int 0)))) (te := tTup (tCons (tNg P w K 2 4) (tCons (tVar 4) tNil))) rfl scOr.nd
    (pi_list (pv 1)) (blkOk_by (N := nOr) (sc := defScope sOr) (by decide +kernel)) (fun _ _ _ _ _ => pg_tup rfl (pgs_cons (pg_name (i := 5) scOr.nd rfl (Or.inl rfl)) (pgs_cons (pg_name (i := 4) scOr.nd rfl (Or.inl rfl)) pgs_nil))) (fun _ _ _ _ _ => pts_one (pt_cmp (pc_neI (pe_nget h2 (pv 2) (pv 4) (fun _ _ => rfl)) pe_int)))
    (fun _ _ _ _ _ => pe_tup (pa_cons (pe_nget h2 (pv 2) (pv 4) (fun _ _ => rfl)) (pa_cons (pv 4) pa_nil)))))
end
end L2.Fo

set_option exponentiation.threshold 2000
/-! # the law's own putting together, promised -/
namespace L2.Fo
open PySem PySem.Spec PyProof.Rows L2.Vf L2.Dw L2.Ch L2.Nk L2.Qs L2.Tdf RZ
section
variable {P : Program} {w : World} {K : PySem.W.Frag} {mg : Str → Option Value} {base : Heap}
theorem ass_val {xs : List Ent} {ys : Sm} (hs : AsS xs ys) {y : Wd × Int} (h : y ∈ ys) : valN xs y.1 = some (.int (getS ys y.1)) := by
  rw [hs.val]
  unfold getS
  cases z : ys.find? (fun q => decide (q.1 = y.1)) with
  | none => exact absurd (List.find?_eq_none.mp z y h) (by simp)
  | some r => rfl
theorem ok_pq {f : Addr} {fd : FuncData} (F : Fun K "_law_put" "_law_put" sPq f fd) (N : Nm mg) : FnOk P w K mg base CX0 1 f fd ["_law_factor", "_law_words"] (spPq K) := by
  refine F.ok scPq (fun vs H Q E h => ?_) fun cdv A outer s H vs Q E hr h => ?_
  · obtain ⟨c, a, ws, rfl, _⟩ := h
    rfl
  · obtain ⟨c, a, ws, rfl, ⟨cs, ha, hp⟩, hz, q⟩ := h
    refine ⟨_, der_pq N hr, ?_⟩
    unfold tPq
    have hcl : cs.length = ws.length := Paired.length hp
    intro D0 h0
    have sl : ∀ {o : HO}, Same H (upd H D0 o) := same_new h0
    refine ⟨_, rfl, a, rfl, ⟨_, SqL.of (sl _ _ ha)⟩, ?_⟩
    refine for_it (walk_list (xs := cs.map V.ref)) (fun j σ H' => ∃ xs, H' = upd H D0 (NtO P w D0 xs) ∧ AsS xs (sumsOf ((ws.take j).map fun k => (c, k))) ∧ NKeys K H xs ∧ ∃ o3, σ = [some (.int c), some (.ref a), some (.ref D0), o3]) ?_ ?_ ?_ ?_
    · exact ⟨[], rfl, .nil, fun x hx => absurd hx (by simp), none, rfl⟩
    · rintro i σ H' _ ⟨xs, rfl, _⟩
      exact SqL.of (sl _ _ ha)
    · rintro i x σ H1 H1' hi ⟨xs, rfl, hs, hk, o3, rfl⟩ ⟨rfl, hx⟩
      rw [List.getElem?_map] at hx
      obtain ⟨b, hbi, rfl⟩ := Option.map_eq_some_iff.mp hx
      obtain ⟨k, hki, h2⟩ := Paired.idx hp hbi
      have h2' : NKey K (upd H D0 (NtO P w D0 xs)) k b := nKey_ext (.of sl) h2
      have hk' : NKeys K (upd H D0 (NtO P w D0 xs)) xs := hk.ext (.of sl)
      have hil : i < ws.length := (List.getElem?_eq_some_iff.mp hki).1
      have hln : xs.length < sizeLine := by
        have l1 := Paired.length hs
        have l2 := sums_len ((ws.take i).map fun k => (c, k))
        rw [List.length_map, List.length_take] at l2
        omega
      refine ⟨_, rfl, D0, rfl, ⟨xs, .inl upd_same⟩, _, rfl, _, ⟨xs, k, b, .inl upd_same, hk', rfl, h2', rfl⟩, _, rfl, _, _, hs.get _, rfl, ?_⟩
      refine ⟨_, rfl, _, rfl, D0, _, rfl, ⟨xs, k, b, upd_same, hk', rfl, h2', hln, rfl⟩, ?_⟩
      refine ⟨_, upd_two, ?_, hk.put h2, _, rfl⟩
      have e : (ws.take (i + 1)).map (fun k => (c, k)) = (ws.take i).map (fun k => (c, k)) ++ [(c, k)] := by rw [List.take_add_one, hki]; simp
      rw [e, sums_snoc]
      exact hs.put _ _ _
    · rintro σ H' ⟨xs, rfl, hs, hk, o3, rfl⟩
      rw [List.length_map, hcl, List.take_length] at hs
      generalize hys : sumsOf (ws.map fun k => (c, k)) = ys at hs q
      have nd : (ys.map (·.1)).Nodup := by rw [← hys]; exact sums_nodup _
      have hln : xs.length < sizeLine := by
        have l1 := Paired.length hs
        have l2 := sums_len (ws.map fun k => (c, k))
        rw [List.length_map, hys] at l2
        omega
      refine ⟨D0, NtO P w D0 xs, upd_same, True.intro, fun od => ?_⟩
      rw [upd_two]
      have sf : Same H (upd H D0 (.frz od (NtO P w D0 xs))) := same_new h0
      refine ⟨_, rfl, D0, od, xs, rfl, upd_same, fun D hD => ?_⟩
      have nDD : D0 ≠ D := fun e => by rw [← e, upd_same] at hD; cases hD
      refine lc_it walk_keysN (fun i H' => ∃ rs : List Trm, Same (upd H D0 (.frz od (NtO P w D0 xs))) H' ∧ H' D = some (.lst (rs.map fun r => V.ref r.1)) ∧ (∀ r ∈ rs, TmAt K H' r) ∧ rs.map (·.2) = (ys.take i).map swp) ?_ ?_ ?_ ?_
      · exact ⟨[], same_new hD, upd_same, fun r hr => absurd hr (by simp), by simp⟩
      · rintro i H' _ ⟨rs, s1, _⟩
        exact s1 _ _ upd_same
      · rintro i x H' H'' hi ⟨rs, s1, e1, r1, m1⟩ ⟨rfl, e, he, rfl⟩
        obtain ⟨p, hp, ek, ev⟩ := hs.at he
        have hm := List.mem_of_getElem? hp
        have eD0 : H'' D0 = some (.frz od (NtO P w D0 xs)) := s1 _ _ upd_same
        have hk1 : NKeys K H'' xs := hk.ext (.of (sf.trans s1))
        have hke : NKey K H'' e.1 e.2.1 := hk1 e (List.mem_of_getElem? he)
        have hget : NGet P w K H'' D0 (.ref e.2.1) (some (.int p.2)) := ⟨xs, e.1, e.2.1, .inr ⟨od, eD0⟩, hk1, rfl, hke, by rw [ek, ass_val hs hm, getS_mem nd hm]⟩
        have hrl : rs.length ≤ i := by have := congrArg List.length m1; rw [List.length_map, List.length_map, List.length_take] at this; omega
        refine ⟨rfl, _, rfl, _, rfl, D0, _, rfl, hget, _, rfl, by show 2 ≤ _; rw [sizeLine_eq]; omega, fun t hq => ?_⟩
        have s2 := same_new (o := .tup [.int p.2, .ref e.2.1]) hq
        have e2 := s2 _ _ e1
        refine ⟨_, e2, by rw [List.length_map]; omega, rs ++ [(t, p.2, e.1)], same_wr (s1.trans s2) hD, by rw [upd_same, List.map_append]; rfl, fun r hr => ?_, ?_⟩
        · rcases List.mem_append.mp hr with hr | hr
          · exact tmAt_upd e2 True.intro ((r1 r hr).ext (.of s2))
          · rw [List.mem_singleton.mp hr]
            exact tmAt_upd e2 True.intro ⟨e.2.1, SqT.of upd_same, nKey_ext (.of s2) hke⟩
        · rw [List.map_append, m1, List.take_add_one, hp, ek, List.map_append]
          rfl
      · rintro H' ⟨rs, s1, e1, r1, m1⟩
        have eD0 : H' D0 = some (.frz od (NtO P w D0 xs)) := s1 _ _ upd_same
        refine ⟨eD0, ?_⟩
        have s0 : Same H (upd H' D0 (NtO P w D0 xs)) := fun b o hb => by
          rw [upd_ne (ne_of_none hb h0)]
          exact s1 _ _ (sf _ _ hb)
        have eD : (upd H' D0 (NtO P w D0 xs)) D = some (.lst (rs.map fun r => V.ref r.1)) := by rw [upd_ne nDD.symm]; exact e1
        refine q D rs _ (sf.free hD) s0 eD (fun r hr => ?_) ?_
        · obtain ⟨b, h1, h2⟩ := r1 r hr
          exact ⟨b, sqT_thaw eD0 h1, nKey_thaw eD0 h2⟩
        · have : ys.take xs.length = ys := by rw [Paired.length hs]; exact List.take_length
          rw [m1, this]
end
end L2.Fo

set_option exponentiation.threshold 2000
/-! # terms put in order, promised -/
namespace L2.Fo
open PySem PySem.Spec PyProof.Rows L2.Vf L2.Dw L2.Ch L2.Nk L2.Qs L2.Tdf RZ
section
variable {K : PySem.W.Frag} {H : Hp} {P : Program} {w : World}
/-- the pairs of sizes and words -/
theorem orA_run {a : Addr} {ts : List Trm} {o1 o2 : Option V} {Q : VK} (ha : SqL K H a (ts.map fun t => V.ref t.1)) (ht : ∀ t ∈ ts, TmAt K H t) (hz : ts.length < sizeLine)
    (q : ∀ (D : Addr) (bs : List (Addr × Wd)) (H' : Hp), Same H H' → H' D = some (.lst (bs.map fun p => V.ref p.1)) → (∀ p ∈ bs, PairAt K H' p) → bs.map (·.2) = (ts.map (·.2.2)).mergeSort (PySem.W.dataLe false fun k => dKey k) → Q (.ref D) H') :
    tOrA K [some (.ref a), o1, o2, none, none, none] H Q := by
  refine ⟨_, rfl, a, rfl, ⟨_, ha⟩, fun D hD => ?_⟩
  refine lc_list (xs := ts.map fun t => V.ref t.1) (fun i H2 => Same H H2 ∧ ∃ bs : List (Addr × Wd), H2 D = some (.lst (bs.map fun p => V.ref p.1)) ∧ (∀ p ∈ bs, PairAt K H2 p) ∧ bs.map (·.2) = (ts.take i).map (·.2.2)) ?_ ?_ ?_ ?_
  · exact ⟨same_new hD, [], upd_same, fun p hp => absurd hp (by simp), by simp⟩
  · rintro i H2 _ ⟨s2, _⟩
    exact sqL_ext (.of s2) ha
  · rintro i x H2 hx ⟨s2, bs, e2, r2, m2⟩
    rw [List.getElem?_map] at hx
    obtain ⟨t, hti, rfl⟩ := Option.map_eq_some_iff.mp hx
    have hil : i < ts.length := (List.getElem?_eq_some_iff.mp hti).1
    obtain ⟨b, g1, g2⟩ := TmAt.ext (.of s2) (ht t (List.mem_of_getElem? hti))
    obtain ⟨bs0, hb1, hb2⟩ := id g2
    have hl0 : (bs0.map V.ref).length = t.2.2.length := by rw [List.length_map]; exact Paired.length hb2
    have hbl : bs.length ≤ i := by have := congrArg List.length m2; rw [List.length_map, List.length_map, List.length_take] at this; omega
    refine ⟨t.1, _, rfl, g1, rfl, _, _, rfl, _, _, rfl, rfl, rfl, ?_⟩
    refine ⟨_, rfl, b, _, rfl, .inr hb1, _, rfl, by show 2 ≤ _; rw [sizeLine_eq]; omega, fun y hy => ?_⟩
    rw [hl0]
    have sy := same_new (o := .tup [.int (t.2.2.length : Nat), .ref b]) hy
    have e3 := sy _ _ e2
    refine ⟨_, e3, by rw [List.length_map]; omega, same_wr (s2.trans sy) hD, bs ++ [(y, t.2.2)], by rw [upd_same, List.map_append]; rfl, fun p hp => ?_, ?_⟩
    · rcases List.mem_append.mp hp with z | z
      · obtain ⟨b', h1, h2⟩ := r2 p z
        exact ⟨b', sqT_upd e3 True.intro (sqT_ext (.of sy) h1), nKey_upd e3 True.intro (nKey_ext (.of sy) h2)⟩
      · rw [List.mem_singleton.mp z]
        exact ⟨b, sqT_upd e3 True.intro (SqT.of upd_same), nKey_upd e3 True.intro (nKey_ext (.of sy) g2)⟩
    · rw [List.map_append, m2, List.take_add_one, hti, List.map_append]
      rfl
  · rintro H2 ⟨s2, bs, e2, r2, m2⟩
    rw [List.length_map, List.take_length] at m2
    refine ⟨D, bs, rfl, SqL.of e2, r2, fun S hS => ?_⟩
    have sS := same_new (o := .lst ((sortW bs).map fun p => V.ref p.1)) hS
    refine q S (sortW bs) _ (s2.trans sS) upd_same (fun p hp => ?_) ?_
    · obtain ⟨b, h1, h2⟩ := r2 p (by unfold sortW at hp; exact List.mem_mergeSort.mp hp)
      exact ⟨b, sqT_ext (.of sS) h1, nKey_ext (.of sS) h2⟩
    · rw [← m2]
      unfold sortW
      exact PySem.W.sort_maps (fun p : Addr × Wd => p.2) fun a _ b _ => rfl
/-- the dict of the terms -/
theorem orB_run {a : Addr} {ts : List Trm} {o1 o2 : Option V} {Q : VK} (ha : SqL K H a (ts.map fun t => V.ref t.1)) (ht : ∀ t ∈ ts, TmAt K H t) (hz : ts.length < sizeLine) (nd : ((ts.map (·.2)).map (·.2)).Nodup)
    (q : ∀ (D : Addr) (xs : List Ent) (H' : Hp), Same H H' → H D = none → H' D = some (NtO P w D xs) → NKeys K H' xs → AsS xs (ts.map fun t => (t.2.2, t.2.1)) → Q (.ref D) H') :
    tOrB P w K [some (.ref a), o1, o2, none, none, none] H Q := by
  refine ⟨_, rfl, a, rfl, ⟨_, ha⟩, fun D hD => ?_⟩
  refine lc_list (xs := ts.map fun t => V.ref t.1) (fun i H2 => Same H H2 ∧ ∃ es : List (Addr × Ent), H2 D = some (.lst (es.map fun e => V.ref e.1)) ∧ (∀ e ∈ es, SqT K H2 e.1 [.ref e.2.2.1, e.2.2.2] ∧ NKey K H2 e.2.1 e.2.2.1) ∧ AsS (es.map (·.2)) ((ts.take i).map fun t => (t.2.2, t.2.1))) ?_ ?_ ?_ ?_
  · exact ⟨same_new hD, [], upd_same, fun p hp => absurd hp (by simp), by simp; exact .nil⟩
  · rintro i H2 _ ⟨s2, _⟩
    exact sqL_ext (.of s2) ha
  · rintro i x H2 hx ⟨s2, es, e2, r2, m2⟩
    rw [List.getElem?_map] at hx
    obtain ⟨t, hti, rfl⟩ := Option.map_eq_some_iff.mp hx
    have hil : i < ts.length := (List.getElem?_eq_some_iff.mp hti).1
    obtain ⟨b, g1, g2⟩ := TmAt.ext (.of s2) (ht t (List.mem_of_getElem? hti))
    have hel : es.length ≤ i := by have := Paired.length m2; rw [List.length_map, List.length_map, List.length_take] at this; omega
    refine ⟨t.1, _, rfl, g1, rfl, _, _, rfl, _, _, rfl, rfl, rfl, ?_⟩
    refine ⟨_, rfl, _, rfl, by show 2 ≤ _; rw [sizeLine_eq]; omega, fun y hy => ?_⟩
    have sy := same_new (o := .tup [.ref b, .int t.2.1]) hy
    have e3 := sy _ _ e2
    refine ⟨_, e3, by rw [List.length_map]; omega, same_wr (s2.trans sy) hD, es ++ [(y, t.2.2, b, .int t.2.1)], by rw [upd_same, List.map_append]; rfl, fun p hp => ?_, ?_⟩
    · rcases List.mem_append.mp hp with z | z
      · obtain ⟨h1, h2⟩ := r2 p z
        exact ⟨sqT_upd e3 True.intro (sqT_ext (.of sy) h1), nKey_upd e3 True.intro (nKey_ext (.of sy) h2)⟩
      · rw [List.mem_singleton.mp z]
        exact ⟨sqT_upd e3 True.intro (SqT.of upd_same), nKey_upd e3 True.intro (nKey_ext (.of sy) g2)⟩
    · rw [List.map_append, List.take_add_one, hti, List.map_append]
      exact Paired.snoc m2 ⟨rfl, rfl⟩
  · rintro H2 ⟨s2, es, e2, r2, m2⟩
    rw [List.length_map, List.take_length] at m2
    refine ⟨D, es, rfl, SqL.of e2, r2, fun d hd => ?_⟩
    have ek : ∀ {xs : List Ent} {ys : Sm}, AsS xs ys → xs.map (·.1) = ys.map (·.1) := fun {xs ys} h => by
      induction h with
      | nil => rfl
      | cons h _ ih => rw [List.map_cons, List.map_cons, ih, h.1]
    have nd2 : ((es.map (·.2)).map (·.1)).Nodup := by
      rw [ek m2, List.map_map]
      rw [List.map_map] at nd
      exact nd
    rw [putAll_new nd2]
    have sd := same_new (o := NtO P w d (es.map (·.2))) hd
    refine q d _ _ (s2.trans sd) (s2.free hd) upd_same (fun x hx => ?_) m2
    obtain ⟨e, he, rfl⟩ := List.mem_map.mp hx
    exact nKey_ext (.of sd) (r2 e he).2
end
section
variable {P : Program} {w : World} {K : PySem.W.Frag} {mg : Str → Option Value} {base : Heap}
theorem ok_or {f : Addr} {fd : FuncData} (F : Fun K "_law_ordered" "_law_ordered" sOr f fd) (N : Nm mg) (mS : mg "sorted" = none) (mD : mg "dict" = none) : FnOk P w K mg base CX0 1 f fd ["_law_terms_here"] (spOr K) := by
  refine F.ok scOr (fun vs H Q E h => ?_) fun cdv A outer s H vs Q E hr h => ?_
  · obtain ⟨a, ts, rfl, _⟩ := h
    rfl
  · obtain ⟨a, ts, rfl, ha, ht, hz, nd, q⟩ := h
    refine ⟨_, der_or N mS mD hr, ?_⟩
    unfold tOr_
    refine asg_ (orA_run ha ht hz fun S bs H1 s1 eS pS mS => ?_)
    refine asg_ (orB_run (sqL_ext (.of s1) ha) (fun t h => (ht t h).ext (.of s1)) hz nd fun D0 xs H2 s2 hD0 eD hk hs => ?_)
    have s12 := s1.trans s2
    generalize hys : (ts.map fun t : Trm => (t.2.2, t.2.1)) = ys at hs
    have ey : ((ts.map (·.2)).map fun t : Int × Wd => (t.2, t.1)) = ys := by rw [← hys, List.map_map]; rfl
    have hbw : ∀ p ∈ bs, ∃ y ∈ ys, y.1 = p.2 := fun p hp => by
      have : p.2 ∈ ts.map (·.2.2) := by
        have h0 : p.2 ∈ bs.map (·.2) := List.mem_map.mpr ⟨p, hp, rfl⟩
        rw [mS] at h0
        exact List.mem_mergeSort.mp h0
      obtain ⟨t, htm, e⟩ := List.mem_map.mp this
      exact ⟨(t.2.2, t.2.1), by rw [← hys]; exact List.mem_map.mpr ⟨t, htm, rfl⟩, e⟩
    have lb : bs.length = ts.length := by
      have := congrArg List.length mS
      rwa [List.length_map, List.length_mergeSort, List.length_map] at this
    refine ret_ ⟨_, rfl, S, rfl, ⟨_, SqL.of (s2 _ _ eS)⟩, fun D hD => ?_⟩
    refine lc_list (xs := bs.map fun p => V.ref p.1) (fun i H3 => Same H2 H3 ∧ ∃ rs : List Trm, H3 D = some (.lst (rs.map fun r => V.ref r.1)) ∧ (∀ r ∈ rs, TmAt K H3 r) ∧ rs.map (·.2) = (((bs.take i).map (·.2)).map fun k => (getS ys k, k)).filter (fun t => !decide (t.1 = 0)) ∧ rs.length ≤ i) ?_ ?_ ?_ ?_
    · exact ⟨same_new hD, [], upd_same, fun r hr => absurd hr (by simp), by simp, by simp⟩
    · rintro i H3 _ ⟨s3, _⟩
      exact SqL.of (s3 _ _ (s2 _ _ eS))
    · rintro i x H3 hx ⟨s3, rs, e3, r3, m3, l3⟩
      rw [List.getElem?_map] at hx
      obtain ⟨p, hpi, rfl⟩ := Option.map_eq_some_iff.mp hx
      have hil : i < bs.length := (List.getElem?_eq_some_iff.mp hpi).1
      have hpm := List.mem_of_getElem? hpi
      obtain ⟨y, hy, ey1⟩ := hbw p hpm
      obtain ⟨b, g1, g2⟩ := pS p hpm
      have g1 := sqT_ext (.of (s2.trans s3)) g1
      have g2 := nKey_ext (.of (s2.trans s3)) g2
      have hget : NGet P w K H3 D0 (.ref b) (some (.int (getS ys p.2))) := ⟨xs, p.2, b, .inl (s3 _ _ eD), hk.ext (.of s3), rfl, g2, by rw [← ey1, ass_val hs hy]⟩
      have em : (((bs.take (i + 1)).map (·.2)).map fun k => (getS ys k, k)).filter (fun t => !decide (t.1 = 0)) = (((bs.take i).map (·.2)).map fun k => (getS ys k, k)).filter (fun t => !decide (t.1 = 0)) ++ (if getS ys p.2 = 0 then [] else [(getS ys p.2, p.2)]) := by
        rw [List.take_add_one, hpi]
        by_cases z : getS ys p.2 = 0 <;> simp [List.filter_append, z]
      refine ⟨p.1, _, rfl, g1, rfl, _, _, rfl, _, _, rfl, rfl, rfl, ?_⟩
      refine ⟨_, rfl, _, rfl, D0, _, rfl, hget, _, _, rfl, rfl, _, rfl, ?_⟩
      show (if (!decide (getS ys p.2 = 0)) = true then _ else _)
      by_cases z : getS ys p.2 = 0
      · rw [decide_eq_true z]
        exact iteF ⟨s3, rs, e3, r3, by rw [em, if_pos z, List.append_nil]; exact m3, by omega⟩
      · rw [decide_eq_false z]
        refine iteT ⟨_, rfl, _, rfl, D0, _, rfl, hget, _, rfl, by show 2 ≤ _; rw [sizeLine_eq]; omega, fun t hq => ?_⟩
        have s4 := same_new (o := .tup [.int (getS ys p.2), .ref b]) hq
        have e4 := s4 _ _ e3
        refine ⟨_, e4, by rw [List.length_map]; omega, same_wr (s3.trans s4) hD, rs ++ [(t, getS ys p.2, p.2)], by rw [upd_same, List.map_append]; rfl, fun r hr => ?_, by rw [List.map_append, m3, em, if_neg z]; rfl, by simp; omega⟩
        rcases List.mem_append.mp hr with hr | hr
        · exact tmAt_upd e4 True.intro ((r3 r hr).ext (.of s4))
        · rw [List.mem_singleton.mp hr]
          exact tmAt_upd e4 True.intro ⟨b, SqT.of upd_same, nKey_ext (.of s4) g2⟩
    · rintro H3 ⟨s3, rs, e3, r3, m3, l3⟩
      rw [List.length_map, List.take_length] at m3
      refine q D rs H3 (s12.free hD) (s12.trans s3) e3 r3 ?_
      rw [m3, mS]
      unfold ordT
      rw [ey, List.map_map]
      rfl
end
end L2.Fo

set_option exponentiation.threshold 2000
/-! # the law: what its turns lean on -/
namespace L2.Fo
open PySem PySem.Spec PyProof.Rows L2.Vf L2.Dw L2.Ch L2.Nk L2.Lt L2.Qs L2.Tdf RZ
def rd (rows : List (List Int)) : List PyData := rows.map dLine
theorem wid_yes {n : Nat} (n1 : 1 ≤ n) (n2 : n ≤ 2) : widD (.int (n : Nat)) = true := by
  show (decide (1 ≤ (n : Int)) && decide ((n : Int) ≤ 2)) = true
  rw [decide_eq_true (by omega), decide_eq_true (by omega)]
  rfl
theorem let_yes {n : Nat} {l : List Int} (h : Ltr n l) : letD n (dLine l) = true := by
  show (((l.map PyData.int).length == n && (l.map PyData.int).all isI) && (l.map PyData.int).all nonD) = true
  rw [Bool.and_eq_true, Bool.and_eq_true]
  refine ⟨⟨by rw [List.length_map, h.1]; simp, ?_⟩, ?_⟩
  · rw [List.all_eq_true]
    intro d hd
    obtain ⟨i, _, rfl⟩ := List.mem_map.mp hd
    rfl
  · rw [List.all_eq_true]
    intro d hd
    obtain ⟨i, hi, rfl⟩ := List.mem_map.mp hd
    exact decide_eq_true (h.2 i hi).1
theorem sml_term {n : Nat} {t : Int × Wd} (h : ∀ l ∈ t.2, Ltr n l) : termD n (dTrm t) = true := by
  show (isI (.int t.1) && (t.2.map dLine).all (letD n)) = true
  rw [Bool.and_eq_true]
  refine ⟨rfl, ?_⟩
  rw [List.all_eq_true]
  intro d hd
  obtain ⟨l, hl, rfl⟩ := List.mem_map.mp hd
  exact let_yes (h l hl)
theorem sml_all {n : Nat} {us : List (Int × Wd)} (h : ∀ t ∈ us, ∀ l ∈ t.2, Ltr n l) : (us.map dTrm).all (termD n) = true := by
  rw [List.all_eq_true]
  intro d hd
  obtain ⟨t, ht, rfl⟩ := List.mem_map.mp hd
  exact sml_term (h t ht)
theorem extN_trans {H H1 H2 : Hp} (a : LamX.ExtN H H1) (b : LamX.ExtN H1 H2) : LamX.ExtN H H2 := fun c o e n => b c o (a c o e n) n
theorem coef_bound {B : Nat} : ∀ {ts : List (Int × Wd)}, (∀ t ∈ ts, t.1.natAbs ≤ B) → ∀ k, (coef ts k).natAbs ≤ ts.length * B
  | [], _, k => by simp [coef]
  | t :: ts, h, k => by
    have h1 := coef_bound (fun u hu => h u (List.mem_cons_of_mem _ hu)) k (ts := ts)
    have h2 := h t List.mem_cons_self
    rw [coef, List.length_cons, Nat.succ_mul]
    by_cases z : t.2 = k
    · rw [if_pos z]; omega
    · rw [if_neg z]; omega
theorem coef_none {ts : List (Int × Wd)} {k : Wd} (h : ∀ t ∈ ts, t.2 ≠ k) : coef ts k = 0 := by
  induction ts with
  | nil => rfl
  | cons t ts ih => rw [coef, if_neg (h t List.mem_cons_self), ih fun u hu => h u (List.mem_cons_of_mem _ hu)]; rfl
theorem together_word {U : List (Int × Wd)} {t : Int × Wd} (h : t ∈ together U) : ∃ u ∈ U, u.2 = t.2 := by
  obtain ⟨h1, h2⟩ := mem_together h
  by_cases z : ∃ u ∈ U, u.2 = t.2
  · exact z
  · exact absurd (h2.symm.trans (coef_none fun u hu e => z ⟨u, hu, e⟩)) h1
/-- the terms, at a list of their own -/
def TsAt (K : PySem.W.Frag) (H : Hp) (a : Addr) (rs : List Trm) : Prop := SqL K H a (rs.map fun r => V.ref r.1) ∧ ∀ r ∈ rs, TmAt K H r
section
variable {K : PySem.W.Frag} {T : List (Addr × Str)} {C CN CL CT : Addr} {H H' : Hp} {n : Nat} {a : Addr} {rs : List Trm} {σ : St}
theorem ts_sh (h : TsAt K H a rs) : Sh K H (.ref a) (.list ((rs.map fun r : Trm => r.2).map dTrm)) [a] := trms_sh (us := rs.map fun r : Trm => r.2) h.1 h.2 rfl
/-- a form is made, its list new -/
theorem kmake_formG {gb : V → List V} {E : XK} {Q : VK} (hg : ∀ x, gb x = [x, .int (n : Nat), .ref a]) (wn : widD (.int (n : Nat)) = true) (ts : TsAt K H a rs) (tm : ((rs.map fun r : Trm => r.2).map dTrm).all (termD n) = true) (hl : rs.length < sizeLine) (hT : LamX.Tabs T H)
    (q : ∀ p D H', H p = none → (∀ b xs, H b = some (.lst xs) → b ≠ D) → LamX.ExtN H H' → LamX.Tabs T H' → FoAt K C H' p n (together (rs.map fun r : Trm => r.2)) D → Q (.ref p) H') : KMake C (spFi K T C CN CL CT) gb E Q H := by
  intro x dx hx hdx ne
  rw [hg]
  have sd : Same H (upd H dx (.own x)) := same_new hdx
  have sM : Same H (upd (upd H dx (.own x)) x (.ins C dx [])) := sd.trans (same_new (by rw [upd_ne ne.symm]; exact hx))
  refine ⟨x, dx, .int (n : Nat), .ref a, .int (n : Nat), .list ((rs.map fun r : Trm => r.2).map dTrm), [], [a], rfl, upd_same, .int _, sh_mono (ts_sh ts) sM, hT.ext sM, .inr ⟨n, rfl, wn, .inr ⟨_, rfl, .inr ⟨rs.map fun r : Trm => r.2, rfl, tm, by rw [List.length_map, List.length_map]; exact hl, fun H' D kN T' nD fo => ⟨rfl, q x D H' hx (fun b xs hb z => ?_) (fun b o hb ho => kN b o (ne_of_none hb hx) ho (sM _ _ hb)) T' fo⟩⟩⟩⟩⟩
  obtain ⟨ps, e⟩ := nD _ (sM _ _ (z ▸ hb))
  cases e
end
theorem cell_yes {n : Nat} {c : List Int} (h : c.length = n) : cellD n (dLine c) = true := by
  show ((c.map PyData.int).length == n && (c.map PyData.int).all isI) = true
  rw [Bool.and_eq_true]
  refine ⟨by rw [List.length_map, h]; simp, ?_⟩
  rw [List.all_eq_true]
  intro d hd
  obtain ⟨i, _, rfl⟩ := List.mem_map.mp hd
  rfl
theorem row_yes {n : Nat} {rows : List (List Int)} (h : RwOk n rows) : rowD n (.list (rd rows)) = true := by
  show (rd rows).all (cellD n) = true
  rw [List.all_eq_true]
  intro d hd
  obtain ⟨c, hc, rfl⟩ := List.mem_map.mp hd
  exact cell_yes (h.2 c hc).1
theorem row_sh {K : PySem.W.Frag} {H : Hp} {r : Addr} {rows : List (List Int)} (h : RwAt K H r rows) : Sh K H (.ref r) (.list (rd rows)) [r] := by
  obtain ⟨cs, h1, h2⟩ := h
  exact .lst (as := []) (SqL.of h1) (word_shs h2)
theorem rwAt_ext {K : PySem.W.Frag} {H H' : Hp} {r : Addr} {rows : List (List Int)} (b : RwAt K H r rows) (e : LamX.ExtN H H') : RwAt K H' r rows := by
  obtain ⟨cs, h1, h2⟩ := b
  exact ⟨cs, e _ _ h1 (fun ps z => by cases z), Paired.mapP h2 fun _ _ q => sqT_ext e q⟩
theorem foAt_ext {K : PySem.W.Frag} {C : Addr} {H H' : Hp} {p : Addr} {n : Nat} {us : List (Int × Wd)} {D : Addr} (h : FoAt K C H p n us D) (e : LamX.ExtN H H') : FoAt K C H' p n us D := by
  obtain ⟨dx, rs, h1, h2, h3, h4⟩ := h
  exact ⟨dx, rs, e _ _ h1 (fun ps z => by cases z), e _ _ h2 (fun ps z => by cases z), fun r hr => (h3 r hr).ext e, h4⟩
section
variable {K : PySem.W.Frag} {T : List (Addr × Str)} {H H' : Hp} {r g : Addr} {rows : List (List Int)}
theorem tmAt_keep {t : Trm} {gl : List V} (h : TmAt K H t) (eg : H g = some (.lst gl)) (k : Keep g H H') : TmAt K H' t := by
  obtain ⟨b, h1, h2⟩ := h
  exact ⟨b, sqT_keep h1 eg k, h2.mono fun c us h => sqT_keep h eg k⟩
theorem tabs_keep {gl : List V} (t : LamX.Tabs T H) (eg : H g = some (.lst gl)) (k : Keep g H H') : LamX.Tabs T H' := fun x hx => by
  obtain ⟨ps, g1, g2, g3⟩ := t x hx
  refine ⟨ps, k _ _ (fun z => by rw [z, eg] at g1; cases g1) g1, g2, fun pos cv hc => ?_⟩
  obtain ⟨c0, c1, c2⟩ := g3 pos cv hc
  exact ⟨c0, c1, by unfold LamX.CodeO at c2 ⊢; exact k _ _ (fun z => by rw [z, eg] at c2; cases c2) c2⟩
theorem rwAt_keep {gl : List V} (h : RwAt K H r rows) (eg : H g = some (.lst gl)) (ne : r ≠ g) (k : Keep g H H') : RwAt K H' r rows := by
  obtain ⟨cs, h1, h2⟩ := h
  exact ⟨cs, k _ _ ne h1, Paired.mapP h2 fun _ _ q => sqT_keep q eg k⟩
end
end L2.Fo

set_option exponentiation.threshold 2000
/-! # forms of unlike widths -/
namespace L2.Fo
open PySem PySem.Spec PyProof.Rows L2.Vf L2.Dw L2.Ch L2.Nk L2.Qs L2.Tdf RZ
abbrev sUn : Stmt := top 40
abbrev nUn : List Str := ["_law_one", "_law_other", "_law_told", "_law_door", "_law_caught", "e"]
theorem scUn : FnScope nUn ["_law_one", "_law_other"] (defScope sUn) := ⟨rfl, rfl, rfl, by decide +kernel, rfl, by decide +kernel, by decide +kernel⟩
/-- the class's == -/
structure EqT (K : PySem.W.Frag) (C fE : Addr) : Prop where
  at_ : PySem.W.findIn K (.ref C) "__eq__" = some (some (.ref fE))
  ne : PySem.W.findIn K (.ref C) "__ne__" = some (some (.builtin "object.__ne__"))
  sub : PySem.W.subIn K (.ref C) (.type "object") = some true
  fn : PySem.W.isFn K (.ref fE) = true
  nf : PySem.W.notFirst K C (.ref C) = true
/-- an operator of the class -/
structure Om (P : Program) (w : World) (K : PySem.W.Frag) (mg : Str → Option Value) (base : Heap) (CX : CXT) (C : Addr) (nm : Str) (k : Nat) (ps : List Str) (sp : Sp) (f : Addr) (fd : FuncData) : Prop where
  o : OpF K C f nm
  g : FnOk P w K mg base CX k f fd ps sp
  b : Binds K fd ps []
abbrev tI (i : Nat) (k : Int) : TT := L2.tB (tEqI (tVar i) (tC (.int k)))
abbrev tEqF (K : PySem.W.Frag) (C : Addr) : TE → TE → TE := tOp (rEqO K C (spEqF K C) V.bl)
abbrev tNeF (K : PySem.W.Frag) (C : Addr) : TE → TE → TE := tOp (rEqO K C (spEqF K C) fun b => .bl (!b))
def tUnB (K : PySem.W.Frag) (T : List (Addr × Str)) (C CF : Addr) (W : WX) : TS := tIfS (tI 3 0) (tDrop (tOwn2 C (spAd K T C CF) (WE W) (tVar 0) (tVar 1))) (tIfS (tI 3 1) (tDrop (tOwn2 C (spSb K T C CF) (WE W) (tVar 0) (tVar 1))) (tDrop (tOwn2 C (spMl K T C CF) (WE W) (tVar 0) (tVar 1))))
abbrev tUnA (K : PySem.W.Frag) (C : Addr) : TS := tDrop (tBM K "list" rAppend (tVar 2) (tCons (tAndV (tOp (fun x y H Q => y = .non ∧ Q (.bl (!decide (x = .non))) H) (tVar 4) (tC .non)) (tEqF K C (tErG K "value" (tVar 4)) (tVar 1))) tNil))
def tUnT (K : PySem.W.Frag) (T : List (Addr × Str)) (C CF : Addr) : TS := tSeq (tAsg (tC .non) (gName 4)) (tSeq (fun D σ H => tUnB K T C CF (wHold K (.ref CF) 5 (fun _ _ _ => tAsg (tVar 5) (gName 4)) D) D σ H)
  (tUnA K C))
abbrev tUnE (K : PySem.W.Frag) : TS := tRet (tOp (Vf.rEqD K false) (tVar 2) (tLst (tCons (tC (.bl true)) (tCons (tC (.bl true)) (tCons (tC (.bl true)) tNil)))))
def tUn (K : PySem.W.Frag) (T : List (Addr × Str)) (C CF : Addr) : TS := tSeq (tAsg (tLst tNil) (gName 2)) (tSeq (tFor (iRng1 (tCons (tC (.int 3)) tNil)) (gName 3) (tUnT K T C CF)) (tUnE K))
section
variable {P : Program} {w : World} {K : PySem.W.Frag} {mg : Str → Option Value} {base : Heap} {T : List (Addr × Str)} {C CF iF fE fAd fSb fMl f : Addr} {dIF dE dAd dSb dMl : FuncData}
theorem der_un {cdv : Value} {A : Around} {outer : List Env} {s : Shared} {H : Hp} {E : XK} (N : Nm mg) (EF : ErT P w K mg base "InvalidForm" CF iF dIF) (Q : EqT K C fE) (GE : FnOk P w K mg base CX0 1 fE dE ["self", "other"] (spEqF K C)) (bE : Binds K dE ["self", "other"] [])
    (OA : Om P w K mg base (L2.CX P w) C "__add__" 9 ["self", "other"] (spAd K T C CF) fAd dAd) (OS : Om P w K mg base (L2.CX P w) C "__sub__" 9 ["self", "other"] (spSb K T C CF) fSb dSb) (OM : Om P w K mg base (L2.CX P w) C "__mul__" 9 ["self", "other"] (spMl K T C CF) fMl dMl)
    (hr : Room 9 (A.deeper (envOfC "_law_unlike" (defScope sUn) s.heap.objs.size f cdv))) : PSs (cxOf CX0 P w K mg base nUn "_law_unlike" (defScope sUn) f cdv A outer s H E).nox (defBody sUn) (tUn K T C CF) := by
  have hu := hr.units
  have hr1 := hr.mono (show 1 ≤ 9 by decide)
  refine pss_cons (ps_set (i := 2) scUn.nd rfl (.inl rfl) (pe_lst pa_nil)) ?_
  refine pss_cons (ps_for PassesOwn.never rfl (pi_range1 (by rfl) N.rng (pa_cons pe_int pa_nil)) (pg_name (i := 3) scUn.nd rfl (Or.inl rfl)) ?_) (pss_one (ps_ret (pe_cmpR (Vf.op_eqD hu) (pv 2) (pe_lst (pa_cons pe_bl (pa_cons pe_bl (pa_cons pe_bl pa_nil)))) (nomark _))))
  refine pss_cons (ps_set (i := 4) scUn.nd rfl (.inl rfl) pe_non) ?_
  refine pss_cons (ps_hold (i := 5) (c := .ref CF) (tb := fun W => tUnB K T C CF W) (ts := fun _ _ _ => tAsg (tVar 5) (gName 4)) rfl rfl rfl scUn.nd rfl rfl ⟨rfl, by decide, .inl EF.mg_⟩ (fun W pn xe tk _ => ?_) (fun a oe cls d pn hz hf => pss_one (ps_set (i := 4) scUn.nd rfl (.inl rfl) (pv 5)))) ?_
  · refine pss_one (ps_if (pt_cmp (pc_eqI (pv 3) pe_int)) (pss_one (ps_expr (pe_own2 (op := .Add) OA.o OA.g hr OA.b (fun σ => passAt tk σ) (pv 0) (pv 1)))) (pss_one (ps_if (pt_cmp (pc_eqI (pv 3) pe_int)) (pss_one (ps_expr (pe_own2 (op := .Sub) OS.o OS.g hr OS.b (fun σ => passAt tk σ) (pv 0) (pv 1)))) (pss_one (ps_expr (pe_own2 (op := .Mult) OM.o OM.g hr OM.b (fun σ => passAt tk σ) (pv 0) (pv 1)))))))
  · exact pss_one (ps_expr (pe_bm PySem.F.plainAttrs_list PySem.F.slot_list_append PySem.F.type_list_append mt_append (pv 2) (pa_cons (pe_and (pe_cmpR op_notN (pv 4) pe_non (nomark _)) (pe_one (pe_cmpR (op_eqO GE hr1 bE Q.at_ Q.fn) (pe_erG (pv 4)) (pv 1) (nomark _)))) pa_nil)))
end
end L2.Fo

set_option exponentiation.threshold 2000
/-! # forms of unlike widths, promised -/
namespace L2.Fo
open PySem PySem.Spec PyProof.Rows L2.Vf L2.Dw L2.Ch L2.Nk L2.Qs L2.Tdf RZ
/-- what a product wants -/
def MulOk (d : Nat) (us us2 : List (Int × Wd)) : Prop := (∀ t ∈ us, ∀ s ∈ us2, t.2.length + s.2.length ≤ d) ∧ d ≤ 12 ∧ us.length * (us2.length * 3 ^ d) < sizeLine ∧ (∀ t ∈ us, t.1.natAbs ≤ 2 ^ 400) ∧ (∀ t ∈ us2, t.1.natAbs ≤ 2 ^ 400) ∧ (∀ t ∈ us, ∀ l ∈ t.2, l.length ≤ 1000)
def spUn (K : PySem.W.Frag) (T : List (Addr × Str)) (C : Addr) : Sp := fun vs H Q _ => ∃ (p p2 : Addr) (n n2 d : Nat) (us us2 : List (Int × Wd)) (D D2 : Addr), vs = [.ref p, .ref p2] ∧ FoAt K C H p n us D ∧ FoAt K C H p2 n2 us2 D2 ∧ widD (.int (n : Nat)) = true ∧ LamX.Tabs T H ∧ n2 ≠ n ∧ MulOk d us us2 ∧ ∀ H', Same H H' → Q (.bl true) H'
section
variable {P : Program} {w : World} {K : PySem.W.Frag} {mg : Str → Option Value} {base : Heap} {T : List (Addr × Str)} {C CF iF fE fAd fSb fMl f : Addr} {dIF dE dAd dSb dMl fd : FuncData}
theorem fo_ty (T : FoT K mg C) (I : IsT K C) {H : Hp} {p n : Nat} {us : List (Int × Wd)} {D0 : Addr} (h : FoAt K C H p n us D0) : TyX K H (.ref p) (.ref C) := by
  obtain ⟨dx, rs, h1, _⟩ := h
  exact .base (.ins h1 T.cl I.ha I.hn I.ht I.hm)
/-- one == other, both forms -/
theorem eqF_run (T : FoT K mg C) (I : IsT K C) (Q : EqT K C fE) {H : Hp} {σ : St} {p p2 n n2 : Nat} {us us2 : List (Int × Wd)} {D D2 : Addr} {g : Bool → V} {R : VK} (fo : FoAt K C H p n us D) (fo2 : FoAt K C H p2 n2 us2 D2) (q : R (g (decide (n = n2 ∧ us = us2))) H) :
    rEqO K C (spEqF K C) g (.ref p) (.ref p2) H R := by
  obtain ⟨dx, rs, hp, _⟩ := id fo
  exact ⟨p, dx, _, .ref C, rfl, hp, fo_ty T I fo2, Q.nf, p, n, us, D, .ref p2, rfl, fo, .inr ⟨p2, n2, us2, D2, rfl, fo2, _, rfl, q⟩⟩
theorem rep_three : SeqAt.shaped (.list [.bool true, .bool true, .bool true]) = true ∧ PyData.eqv (.list [.bool true, .bool true, .bool true]) (.list [.bool true, .bool true, .bool true]) = true := by
  constructor
  · simp [SeqAt.shaped, PyData.canLay0, PyData.canLayAll0, PyData.depth, PyData.depthAll]
  · simp [PyData.eqv, PyData.eqvAll]
theorem un_turn (FT : FoT K mg C) (I : IsT K C) (EF : ErT P w K mg base "InvalidForm" CF iF dIF) (eR : PySem.W.exmOne K (.ref CF) (.ref CF) = some true) (EQ : EqT K C fE) {H : Hp} {N : Ends} {p p2 n n2 d i L : Nat} {us us2 : List (Int × Wd)} {D D2 : Addr} {o4 o5 : Option V} (fo : FoAt K C H p n us D) (fo2 : FoAt K C H p2 n2 us2 D2)
    (wn : widD (.int (n : Nat)) = true) (hT : LamX.Tabs T H) (ne : n2 ≠ n) (mo : MulOk d us us2) (eL : H L = some (.lst (List.replicate i (.bl true)))) (hi : i < 3)
    (q : ∀ H1 o4, Same H H1 → N.nx [some (.ref p), some (.ref p2), some (.ref L), some (.int (0 + (i : Nat))), o4, none] (upd H1 L (.lst (List.replicate (i + 1) (.bl true))))) : tUnT K T C CF N [some (.ref p), some (.ref p2), some (.ref L), some (.int (0 + (i : Nat))), o4, o5] H := by
  obtain ⟨dx, rs, hp, _⟩ := id fo
  obtain ⟨dx2, rs2, hp2, _⟩ := id fo2
  obtain ⟨m1, m2, m3, m4, m5, m6⟩ := id mo
  unfold tUnT
  refine asg_ (t := tC .non) ?_
  show tUnB K T C CF _ _ [some (.ref p), some (.ref p2), some (.ref L), some (.int (0 + (i : Nat))), some .non, o5] H
  generalize hW : wHold K (.ref CF) 5 (fun _ _ _ => tAsg (tVar 5) (gName 4)) _ = W
  have fly : ∀ x, H x = none → WE W [some (.ref p), some (.ref p2), some (.ref L), some (.int (0 + (i : Nat))), some .non, o5] (.ref CF) (some x) (upd H x (.xd [("value", .ref p2)])) := fun x hx => by
    rw [← hW]
    refine ⟨eR, fun a ha => ⟨_, rfl, ?_⟩⟩
    have sd := same_new (o := .xd [("value", V.ref p2)]) hx
    have s2 := sd.trans (same_new (o := exoG a (.ref CF) (some x)) ha)
    have ea : (upd (upd H x (.xd [("value", .ref p2)])) a (exoG a (.ref CF) (some x))) a = some (exoG a (.ref CF) (some x)) := upd_same
    have ed : (upd (upd H x (.xd [("value", .ref p2)])) a (exoG a (.ref CF) (some x))) x = some (.xd [("value", .ref p2)]) := by
      rw [upd_ne (ne_of_none upd_same ha), upd_same]
    show tUnA K C N [some (.ref p), some (.ref p2), some (.ref L), some (.int (0 + (i : Nat))), some (.ref a), none] (upd (upd H x (.xd [("value", .ref p2)])) a (exoG a (.ref CF) (some x)))
    generalize upd (upd H x (.xd [("value", .ref p2)])) a (exoG a (.ref CF) (some x)) = H2 at *
    have e2 := s2 _ _ eL
    refine drop1_ (D := N) ⟨_, rfl, .inl ⟨rfl, _, SqL.of e2⟩, ?_⟩
    refine cons_ (andV_ ⟨_, rfl, rfl, _, rfl, if_t rfl ?_⟩)
    refine ⟨_, rfl, a, CF, x, _, .ref p2, rfl, ea, ed, rfl, EF.cl.xc, EF.cl.no, _, rfl, ?_⟩
    refine eqF_run (σ := []) (g := V.bl) FT I EQ (foAt_ext fo2 (.of s2)) (foAt_ext fo2 (.of s2)) ?_
    refine ⟨L, _, _, rfl, rfl, e2, by rw [List.length_replicate, sizeLine_eq]; omega, ?_⟩
    have := q H2 (some (.ref a)) s2
    rw [List.replicate_succ'] at this
    rw [decide_eq_true ⟨rfl, rfl⟩]
    exact this
  unfold tUnB
  refine if_ (b_ (eqI_ ⟨_, rfl, _, _, rfl, rfl, _, rfl, ?_⟩))
  rcases (show i = 0 ∨ i = 1 ∨ i = 2 by omega) with rfl | rfl | rfl
  · refine if_t rfl (drop1_ ⟨_, rfl, _, rfl, p, dx, p2, dx2, _, _, rfl, rfl, hp, hp2, ?_⟩)
    exact ⟨p, p2, n, n2, us, us2, D, D2, rfl, fo, fo2, wn, hT, .inl ⟨ne, fly⟩⟩
  · refine if_f rfl (if_ (b_ (eqI_ ⟨_, rfl, _, _, rfl, rfl, _, rfl, if_t rfl (drop1_ ⟨_, rfl, _, rfl, p, dx, p2, dx2, _, _, rfl, rfl, hp, hp2, ?_⟩)⟩)))
    exact ⟨p, p2, n, n2, us, us2, D, D2, rfl, fo, fo2, wn, hT, m5, .inl ⟨ne, fly⟩⟩
  · refine if_f rfl (if_ (b_ (eqI_ ⟨_, rfl, _, _, rfl, rfl, _, rfl, if_f rfl (drop1_ ⟨_, rfl, _, rfl, p, dx, p2, dx2, _, _, rfl, rfl, hp, hp2, ?_⟩)⟩)))
    exact .inr ⟨p, p2, n, n2, d, us, us2, D, D2, rfl, fo, fo2, wn, hT, m1, m2, m3, m4, m5, m6, .inl ⟨ne, fly⟩⟩
theorem ok_un (F : Fun K "_law_unlike" "_law_unlike" sUn f fd) (N : Nm mg) (FT : FoT K mg C) (I : IsT K C) (EF : ErT P w K mg base "InvalidForm" CF iF dIF) (eR : PySem.W.exmOne K (.ref CF) (.ref CF) = some true) (EQ : EqT K C fE) (GE : FnOk P w K mg base CX0 1 fE dE ["self", "other"] (spEqF K C)) (bE : Binds K dE ["self", "other"] [])
    (OA : Om P w K mg base (L2.CX P w) C "__add__" 9 ["self", "other"] (spAd K T C CF) fAd dAd) (OS : Om P w K mg base (L2.CX P w) C "__sub__" 9 ["self", "other"] (spSb K T C CF) fSb dSb) (OM : Om P w K mg base (L2.CX P w) C "__mul__" 9 ["self", "other"] (spMl K T C CF) fMl dMl) :
    FnOk P w K mg base CX0 10 f fd ["_law_one", "_law_other"] (spUn K T C) := by
  refine F.ok scUn (fun vs H Q E h => ?_) fun cdv A outer s H vs Q E hr h => ?_
  · obtain ⟨p, p2, n, n2, d, us, us2, D, D2, rfl, _⟩ := h
    rfl
  · obtain ⟨p, p2, n, n2, d, us, us2, D, D2, rfl, fo, fo2, wn, hT, ne, mo, q⟩ := h
    refine ⟨_, der_un N EF EQ GE bE OA OS OM hr, ?_⟩
    unfold tUn
    refine asg_ (t := tLst tNil) ⟨by show 0 ≤ sizeLine; omega, fun L hL => ?_⟩
    have sL := same_new (o := .lst []) hL
    refine ⟨3, rfl, by decide, by decide, ?_⟩
    refine for_range (D := { nx := tUnE K { nx := fun _ H' => Q .non H', rt := Q }, rt := Q }) (lo := 0) (n := 3) (fun i σ H1 => Same H H1 ∧ H1 L = some (.lst (List.replicate i (.bl true))) ∧ ∃ o3 o4 : Option V, σ = [some (.ref p), some (.ref p2), some (.ref L), o3, o4, none]) ⟨sL, upd_same, _, _, rfl⟩ (fun i σ H1 hi hP => ?_) fun σ H1 hP => ?_
    · obtain ⟨s1, e1, o3, o4, rfl⟩ := hP
      refine un_turn FT I EF eR EQ (foAt_ext fo (.of s1)) (foAt_ext fo2 (.of s1)) wn (hT.ext s1) ne mo e1 hi fun H2 o4 s2 => ?_
      exact ⟨same_wr (s1.trans s2) hL, upd_same, _, _, rfl⟩
    · obtain ⟨s1, e1, o3, o4, rfl⟩ := hP
      show tUnE K { nx := fun _ H' => Q .non H', rt := Q } _ H1
      refine ret_ (op_ ⟨_, rfl, by show 3 ≤ sizeLine; decide, fun D1 hD1 => ?_⟩)
      have s2 := same_new (o := .lst [V.bl true, V.bl true, V.bl true]) hD1
      refine ⟨.list [.bool true, .bool true, .bool true], .list [.bool true, .bool true, .bool true], [L], [D1], ?_, ?_, rep_three.1, rep_three.1, ?_⟩
      · exact .lst (as := []) (SqL.of (s2 _ _ e1)) (.cons (as := []) (bs := []) (.bl _) (.cons (as := []) (bs := []) (.bl _) (.cons (as := []) (bs := []) (.bl _) .nil)))
      · exact .lst (as := []) (SqL.of upd_same) (.cons (as := []) (bs := []) (.bl _) (.cons (as := []) (bs := []) (.bl _) (.cons (as := []) (bs := []) (.bl _) .nil)))
      · rw [if_neg Bool.false_ne_true, rep_three.2]
        exact q _ (s1.trans s2)
end
end L2.Fo

set_option exponentiation.threshold 2000
/-! # terms: bounds, products, worths -/
namespace L2.Fo
open PySem PySem.Spec PyProof.Rows L2.Vf L2.Dw L2.Ch L2.Nk L2.Qs L2.Tdf RZ
theorem tog_idem (ts : List (Int × Wd)) : together (together ts) = together ts := together_eq fun k => coef_together ts k
theorem coef_times (c : Int) : ∀ (us : List (Int × Wd)) (k : Wd), coef (timesT c us) k = c * coef us k
  | [], k => by simp [timesT, coef]
  | u :: us, k => by
    have ih := coef_times c us k
    unfold timesT at ih ⊢
    rw [List.map_cons, coef, coef, ih]
    by_cases z : u.2 = k
    · simp [z]; grind
    · simp [z]
/-! ### worths -/
theorem lwA_mul : ∀ (cs ls : List Int) (w : Int), lwA w cs ls = w * lwA 1 cs ls
  | [], ls, w => by cases ls <;> simp [lwA]
  | c :: cs, [], w => by simp [lwA]
  | c :: cs, e :: ls, w => by
    rw [lwA, lwA, lwA_mul cs ls (w * _), lwA_mul cs ls (1 * _)]
    grind
theorem lw_add : ∀ (a b cs : List Int), a.length = b.length → (∀ x ∈ a, 0 ≤ x) → (∀ x ∈ b, 0 ≤ x) → lwA 1 cs (addL a b) = lwA 1 cs a * lwA 1 cs b
  | [], [], cs, _, _, _ => by cases cs <;> simp [addL, lwA]
  | x :: a, y :: b, [], _, _, _ => by simp [addL, lwA]
  | x :: a, y :: b, c :: cs, h, ha, hb => by
    have ih := lw_add a b cs (by simpa using h) (fun z hz => ha z (List.mem_cons_of_mem _ hz)) fun z hz => hb z (List.mem_cons_of_mem _ hz)
    have hx := ha x List.mem_cons_self
    have hy := hb y List.mem_cons_self
    have e : addL (x :: a) (y :: b) = (x + y) :: addL a b := rfl
    rw [e, lwA, lwA, lwA, lwA_mul, lwA_mul cs a, lwA_mul cs b, ih]
    have e2 : (x + y).toNat = x.toNat + y.toNat := by omega
    rw [e2, Int.pow_add]
    grind
/-- letters of width n, of entries up to e -/
def LtE (n e : Nat) (l : List Int) : Prop := l.length = n ∧ ∀ x ∈ l, 0 ≤ x ∧ x ≤ (e : Int)
theorem LtE.ex {n e : Nat} {l : List Int} (h : LtE n e l) (n2 : n ≤ 2) (he : e ≤ 6) : ExOk l := ⟨by rw [h.1]; exact n2, fun x hx => ⟨(h.2 x hx).1, by have := (h.2 x hx).2; omega⟩⟩
theorem addL_mem {a b : List Int} {S : Int → Prop} (h : ∀ x ∈ a, ∀ y ∈ b, S (x + y)) : ∀ z ∈ addL a b, S z := fun z hz => by
  unfold addL at hz
  obtain ⟨i, hi, rfl⟩ := List.getElem_of_mem hz
  rw [List.getElem_zipWith]
  exact h _ (List.getElem_mem _) _ (List.getElem_mem _)
theorem LtE.add {n e e' : Nat} {a b : List Int} (ha : LtE n e a) (hb : LtE n e' b) : LtE n (e + e') (addL a b) := by
  refine ⟨by unfold addL; rw [List.length_zipWith, ha.1, hb.1]; simp, addL_mem fun x hx y hy => ?_⟩
  have := ha.2 x hx
  have := hb.2 y hy
  omega
theorem LtE.mono {n e e' : Nat} {a : List Int} (h : LtE n e a) (le : e ≤ e') : LtE n e' a := ⟨h.1, fun x hx => ⟨(h.2 x hx).1, by have := (h.2 x hx).2; omega⟩⟩
theorem wOf_add {n : Nat} {a b : List Int} (rows : List (List Int)) (ha : LtE n 3 a) (hb : LtE n 3 b) (n2 : n ≤ 2) (j : Nat) : wOf rows (addL a b) j = wOf rows a j * wOf rows b j := by
  unfold wOf
  rw [if_pos ((ha.add hb).ex n2 (by omega)), if_pos (ha.ex n2 (by omega)), if_pos (hb.ex n2 (by omega))]
  exact lw_add a b _ (by rw [ha.1, hb.1]) (fun x hx => (ha.2 x hx).1) fun x hx => (hb.2 x hx).1
/-! ### bounds -/
/-- at most m terms of width n, coefficients up to c, words up to d letters, entries up to e -/
def Tb (n m c d e : Nat) (us : List (Int × Wd)) : Prop := us.length ≤ m ∧ ∀ u ∈ us, u.1.natAbs ≤ c ∧ u.2.length ≤ d ∧ ∀ l ∈ u.2, LtE n e l
section
variable {n m m' c c' d d' e e' : Nat} {us vs : List (Int × Wd)}
theorem Tb.mono (h : Tb n m c d e us) (hm : m ≤ m') (hc : c ≤ c') (hd : d ≤ d') (he : e ≤ e') : Tb n m' c' d' e' us :=
  ⟨Nat.le_trans h.1 hm, fun u hu => ⟨Nat.le_trans (h.2 u hu).1 hc, Nat.le_trans (h.2 u hu).2.1 hd, fun l hl => ((h.2 u hu).2.2 l hl).mono he⟩⟩
theorem Tb.tog (h : Tb n m c d e us) : Tb n m (m * c) d e (together us) := by
  refine ⟨Nat.le_trans (together_len us) h.1, fun t ht => ?_⟩
  obtain ⟨h1, h2⟩ := mem_together ht
  obtain ⟨u, hu, e⟩ := together_word ht
  have hb := coef_bound (fun u hu => (h.2 u hu).1) t.2
  rw [h2] at hb
  refine ⟨Nat.le_trans hb (Nat.mul_le_mul_right _ h.1), ?_⟩
  rw [← e]
  exact (h.2 u hu).2
theorem Tb.app (h : Tb n m c d e us) (g : Tb n m' c d e vs) : Tb n (m + m') c d e (us ++ vs) := by
  refine ⟨by rw [List.length_append]; have := h.1; have := g.1; omega, fun u hu => ?_⟩
  rcases List.mem_append.mp hu with hu | hu
  · exact h.2 u hu
  · exact g.2 u hu
theorem Tb.times {k : Int} (h : Tb n m c d e us) (hk : k.natAbs ≤ c') : Tb n m (c' * c) d e (timesT k us) := by
  refine ⟨by unfold timesT; rw [List.length_map]; exact h.1, fun u hu => ?_⟩
  unfold timesT at hu
  obtain ⟨t, ht, rfl⟩ := List.mem_map.mp hu
  exact ⟨by rw [Int.natAbs_mul]; exact Nat.mul_le_mul hk (h.2 t ht).1, (h.2 t ht).2⟩
theorem len_flat {α β : Type} (f : α → List β) (m : Nat) : ∀ xs : List α, (∀ x ∈ xs, (f x).length ≤ m) → (xs.flatMap f).length ≤ xs.length * m
  | [], _ => by simp
  | x :: xs, h => by
    have := len_flat f m xs fun y hy => h y (List.mem_cons_of_mem _ hy)
    have := h x List.mem_cons_self
    rw [List.flatMap_cons, List.length_append, List.length_cons, Nat.succ_mul]
    omega
theorem Tb.mul (h : Tb n m c d e us) (g : Tb n m' c' d' e vs) : Tb n (m * (m' * 3 ^ (d + d'))) (c * c') (d + d') (e + e) (mulT us vs) := by
  refine ⟨?_, fun u hu => ?_⟩
  · unfold mulT
    refine Nat.le_trans (len_flat _ (m' * 3 ^ (d + d')) us fun t ht => ?_) (Nat.mul_le_mul_right _ h.1)
    refine Nat.le_trans (len_flat _ (3 ^ (d + d')) vs fun s hs => ?_) (Nat.mul_le_mul_right _ g.1)
    rw [List.length_map, (ilv_sh t.2 s.2).length_eq]
    have := (h.2 t ht).2.1
    have := (g.2 s hs).2.1
    exact Nat.le_trans (sh_len t.2 s.2) (Nat.pow_le_pow_right (by decide) (by omega))
  · unfold mulT at hu
    obtain ⟨t, ht, hu⟩ := List.mem_flatMap.mp hu
    obtain ⟨s, hs, hu⟩ := List.mem_flatMap.mp hu
    obtain ⟨k, hk, rfl⟩ := List.mem_map.mp hu
    have hk := (ilv_sh t.2 s.2).mem_iff.mp hk
    obtain ⟨t1, t2, t3⟩ := h.2 t ht
    obtain ⟨s1, s2, s3⟩ := g.2 s hs
    refine ⟨by rw [Int.natAbs_mul]; exact Nat.mul_le_mul t1 s1, by have := sh_long _ _ k hk; show k.length ≤ _; omega, fun l hl => ?_⟩
    exact sh_mem (S := LtE n (e + e)) t.2 s.2 (fun l hl => (t3 l hl).mono (by omega)) (fun l hl => (s3 l hl).mono (by omega)) (fun a ha b hb => (t3 a ha).add (s3 b hb)) k hk l hl
theorem Tb.ok (h : Tb n m c d e us) (n2 : n ≤ 2) (hm : m ≤ 4000 := by decide) (hc : c ≤ 2 ^ 200 := by decide) (hd : d ≤ 8 := by decide) (he : e ≤ 6 := by decide) : TmOk n us :=
  ⟨Nat.le_trans h.1 hm, fun u hu => ⟨Nat.le_trans (h.2 u hu).1 hc, Nat.le_trans (h.2 u hu).2.1 hd, fun l hl => ⟨((h.2 u hu).2.2 l hl).1, ((h.2 u hu).2.2 l hl).ex n2 he⟩⟩⟩
theorem Tb.c400 (h : Tb n m c d e us) (hc : c ≤ 2 ^ 400 := by decide) : ∀ t ∈ us, t.1.natAbs ≤ 2 ^ 400 := fun t ht => Nat.le_trans (h.2 t ht).1 hc
theorem Tb.mo {n' : Nat} (h : Tb n m c d e us) (g : Tb n' m' c' d' e' vs) (hd : d + d' ≤ 12 := by decide) (hz : m * (m' * 3 ^ (d + d')) < 1000000 := by decide) (hc : c ≤ 2 ^ 400 := by decide) (hc' : c' ≤ 2 ^ 400 := by decide) (n2 : n ≤ 2) : MulOk (d + d') us vs := by
  refine ⟨fun t ht s hs => ?_, hd, ?_, fun t ht => Nat.le_trans (h.2 t ht).1 hc, fun t ht => Nat.le_trans (g.2 t ht).1 hc', fun t ht l hl => by rw [((h.2 t ht).2.2 l hl).1]; omega⟩
  · have := (h.2 t ht).2.1
    have := (g.2 s hs).2.1
    omega
  · have : us.length * (vs.length * 3 ^ (d + d')) ≤ m * (m' * 3 ^ (d + d')) := Nat.mul_le_mul h.1 (Nat.mul_le_mul_right _ g.1)
    rw [sizeLine_eq]
    omega
theorem atW_mul {n m m' c c' d d' : Nat} {us vs : List (Int × Wd)} (rows : List (List Int)) (h : Tb n m c d 3 us) (g : Tb n m' c' d' 3 vs) (n2 : n ≤ 2) : atW (mulT us vs) rows = atW us rows * atW vs rows :=
  tv_mul _ _ _ vs us fun t ht s hs a ha b hb j => wOf_add rows ((h.2 t ht).2.2 a ha) ((g.2 s hs).2.2 b hb) n2 j
end
theorem coef_zero {ts : List (Int × Wd)} (h : ∀ t ∈ ts, t.1 = 0) (k : Wd) : coef ts k = 0 := by
  induction ts with
  | nil => rfl
  | cons t ts ih =>
    rw [coef, ih fun u hu => h u (List.mem_cons_of_mem _ hu), h t List.mem_cons_self]
    simp
theorem tog_nil : together [] = [] := by
  have := together_len []
  exact List.length_eq_zero_iff.mp (by simpa using this)
theorem tog_one {t : Int × Wd} : (t.1 = 0 ∧ together [t] = []) ∨ (t.1 ≠ 0 ∧ together [t] = [t]) := by
  by_cases z : t.1 = 0
  · refine .inl ⟨z, ?_⟩
    have h : together [t] = together [] := together_eq fun k => coef_zero (fun u hu => by rw [List.mem_singleton.mp hu]; exact z) k
    exact h.trans tog_nil
  · refine .inr ⟨z, ?_⟩
    have hm : ∀ x ∈ together [t], x = t := fun x hx => by
      obtain ⟨h1, h2⟩ := mem_together hx
      obtain ⟨u, hu, e⟩ := together_word hx
      rw [List.mem_singleton.mp hu] at e
      rw [coef, if_pos e] at h2
      refine Prod.ext ?_ e.symm
      rw [← h2]
      simp [coef]
    have hl := together_len [t]
    cases hq : together [t] with
    | nil =>
      have := coef_together [t] t.2
      rw [hq] at this
      simp [coef] at this
      exact absurd this.symm z
    | cons x xs =>
      rw [hq] at hl hm
      have : xs = [] := List.length_eq_zero_iff.mp (by simpa using hl)
      rw [this, hm x List.mem_cons_self]
/-- a product of two terms -/
theorem one_mul (t s : Int × Wd) : together (mulT (together [t]) (together [s])) = together ((sh t.2 s.2).map fun k => (t.1 * s.1, k)) := by
  have zero : t.1 = 0 ∨ s.1 = 0 → together ((sh t.2 s.2).map fun k => (t.1 * s.1, k)) = [] := fun z => by
    refine (together_eq (us := []) fun k => (coef_zero (fun u hu => ?_) k)).trans tog_nil
    obtain ⟨k, _, rfl⟩ := List.mem_map.mp hu
    rcases z with z | z <;> simp [z]
  rcases tog_one (t := t) with ⟨z, e⟩ | ⟨z, e⟩
  · rw [e, zero (.inl z)]
    exact tog_nil
  · rcases tog_one (t := s) with ⟨z2, e2⟩ | ⟨z2, e2⟩
    · rw [e, e2, zero (.inr z2)]
      exact tog_nil
    · rw [e, e2]
      refine together_eq fun k => ?_
      have : mulT [t] [s] = (ilv t.2 s.2).map fun k => (t.1 * s.1, k) := by simp [mulT]
      rw [this]
      exact coef_perm ((ilv_sh t.2 s.2).map _) k
end L2.Fo

/-! # numbers, terms: that they can be shown -/
namespace L2.Fo
open PySem PySem.Spec PyProof.Rows L2.Vf L2.Dw L2.Ch L2.Nk L2.Lt
/-- numbers of at most fifty digits -/
def Dg (ns : List Int) : Prop := ∀ x ∈ ns, x.natAbs < 10 ^ 50
/-- what can be shown, of so much bulk, so deep -/
structure Sw (d : PyData) (b k : Nat) : Prop where
  short : d.leavesShort 51 = true
  bulk : d.bulk ≤ b
  show_ : d.showable = true
  deep : d.depth ≤ k
  dct : d.hasDict = false
structure Sws (ds : List PyData) (b k : Nat) : Prop where
  short : PyData.leavesShortAll 51 ds = true
  bulk : PyData.bulkAll ds ≤ b
  show_ : PyData.showableAll ds = true
  deep : PyData.depthAll ds ≤ k
  dct : PyData.hasDictAll ds = false
theorem Sws.nil {k : Nat} : Sws [] 0 k := ⟨by simp [PyData.leavesShortAll], by simp [PyData.bulkAll], by simp [PyData.showableAll], by simp [PyData.depthAll], by simp [PyData.hasDictAll]⟩
theorem Sws.cons {d : PyData} {ds : List PyData} {a b k : Nat} (h : Sw d a k) (t : Sws ds b k) : Sws (d :: ds) (a + 1 + b) k := by
  refine ⟨?_, ?_, ?_, ?_, ?_⟩
  · simp [PyData.leavesShortAll, h.short, t.short]
  · have := h.bulk; have := t.bulk; simp only [PyData.bulkAll]; omega
  · simp [PyData.showableAll, h.show_, t.show_]
  · have := h.deep; have := t.deep; simp only [PyData.depthAll]; omega
  · simp [PyData.hasDictAll, h.dct, t.dct]
theorem Sw.lst {ds : List PyData} {b k : Nat} (t : Sws ds b k) : Sw (.list ds) b (k + 1) := by
  refine ⟨?_, ?_, ?_, ?_, ?_⟩
  · simp only [PyData.leavesShort]; exact t.short
  · simp only [PyData.bulk]; exact t.bulk
  · simp only [PyData.showable]; exact t.show_
  · have := t.deep; simp only [PyData.depth]; omega
  · simp only [PyData.hasDict]; exact t.dct
theorem Sw.tup {ds : List PyData} {b k : Nat} (t : Sws ds b k) : Sw (.tuple ds) b (k + 1) := by
  refine ⟨?_, ?_, ?_, ?_, ?_⟩
  · simp only [PyData.leavesShort]; exact t.short
  · simp only [PyData.bulk]; exact t.bulk
  · simp only [PyData.showable]; exact t.show_
  · have := t.deep; simp only [PyData.depth]; omega
  · simp only [PyData.hasDict]; exact t.dct
theorem Sw.int {x : Int} {k : Nat} (h : x.natAbs < 10 ^ 50) : Sw (.int x) 0 k := by
  refine ⟨?_, ?_, ?_, ?_, ?_⟩
  · refine decide_eq_true ?_
    have e := int_text_length_le10 (k := 50) (by decide) h
    show (Str.ofString (toString x)).length ≤ 51
    rw [PySem.ofString_length]; exact e
  · simp [PyData.bulk]
  · refine decide_eq_true ?_
    by_cases z : x.natAbs = 0
    · rw [z]; decide
    · exact (Nat.log2_lt z).mpr (Nat.lt_of_lt_of_le h (by decide +kernel))
  · simp [PyData.depth]
  · simp [PyData.hasDict]
theorem Sw.bool {b : Bool} {k : Nat} : Sw (.bool b) 0 k := ⟨by simp [PyData.leavesShort], by simp [PyData.bulk], by simp [PyData.showable], by simp [PyData.depth], by simp [PyData.hasDict]⟩
theorem Sws.of {α : Type} {f : α → PyData} {b k : Nat} : ∀ {xs : List α}, (∀ x ∈ xs, Sw (f x) b k) → Sws (xs.map f) ((b + 1) * xs.length) k
  | [], _ => by simpa using Sws.nil
  | x :: xs, h => by
    have t := Sws.of (xs := xs) fun y hy => h y (List.mem_cons_of_mem _ hy)
    have := Sws.cons (h x List.mem_cons_self) t
    rw [List.map_cons, List.length_cons, Nat.mul_succ, Nat.add_comm]
    exact this
theorem Sw.wr {d : PyData} {b k : Nat} {as : List Addr} (h : Sw d b k) (hb : b ≤ 100000) (hk : k ≤ 50) : Wr d as := by
  refine ⟨h.show_, Nat.le_trans h.deep hk, ?_, fun z => ?_⟩
  · have z := PyData.shown_le_bulk 51 (by decide) d h.short
    have : (51 + 2) * d.bulk ≤ 53 * 100000 := Nat.mul_le_mul_left 53 (Nat.le_trans h.bulk hb)
    rw [sizeLine_eq]
    omega
  · rw [h.dct] at z
    cases z
theorem Sw.ints {ns : List Int} (h : Dg ns) : Sws (ns.map .int) ns.length 0 := by
  have := Sws.of (f := PyData.int) (b := 0) (k := 0) (xs := ns) fun x hx => .int (h x hx)
  simpa using this
theorem Sw.le {d : PyData} {b c k : Nat} (h : Sw d b k) (l : b ≤ c) : Sw d c k := ⟨h.short, Nat.le_trans h.bulk l, h.show_, h.deep, h.dct⟩
theorem Sw.deeper {d : PyData} {b k k' : Nat} (h : Sw d b k) (l : k ≤ k') : Sw d b k' := ⟨h.short, h.bulk, h.show_, Nat.le_trans h.deep l, h.dct⟩
theorem Tb.sws {n m c d e : Nat} {us : List (Int × Wd)} (h : Tb n m c d e us) (n2 : n ≤ 2) (hc : c < 10 ^ 50) (he : e < 10 ^ 50) (b : Nat) (hb : (3 * d + 2 + 1) * m ≤ b) : Sw (.list (us.map dTrm)) b 5 := by
  refine (Sw.lst (k := 4) ?_)
  have one : ∀ t ∈ us, Sw (dTrm t) (3 * d + 2) 3 := fun t ht => by
    obtain ⟨t1, t2, t3⟩ := h.2 t ht
    have wd : Sw (dWord t.2) (3 * d) 2 := by
      refine (Sw.tup (Sws.of (f := dLine) (b := 2) (k := 1) fun l hl => ?_)).le (Nat.mul_le_mul_left 3 t2)
      refine (Sw.tup (Sw.ints fun x hx => ?_)).le (by rw [(t3 l hl).1]; exact n2)
      have := (t3 l hl).2 x hx
      omega
    exact (Sw.tup (Sws.cons (Sw.int (k := 2) (Nat.lt_of_le_of_lt t1 hc)) (Sws.cons wd Sws.nil))).le (by omega)
  have := Sws.of (f := dTrm) (b := 3 * d + 2) (k := 3) one
  exact ⟨this.short, Nat.le_trans this.bulk (Nat.le_trans (Nat.mul_le_mul_left _ h.1) hb), this.show_, by have := this.deep; omega, this.dct⟩
theorem Tb.wr {n m c d e : Nat} {us : List (Int × Wd)} {as : List Addr} (h : Tb n m c d e us) (n2 : n ≤ 2) (hc : c < 10 ^ 50 := by decide +kernel) (he : e < 10 ^ 50 := by decide +kernel) (hb : (3 * d + 2 + 1) * m ≤ 100000 := by decide) : Wr (.list (us.map dTrm)) as := Sw.wr (h.sws n2 hc he 100000 hb) (Nat.le_refl _) (by decide)
end L2.Fo

set_option exponentiation.threshold 2000
/-! # terms that name forms, numbers, lists of terms: from a heap on -/
namespace L2.Fo
open PySem PySem.Spec PyProof.Rows L2.Vf L2.Dw L2.Ch L2.Nk L2.Lt L2.Qs L2.Tdf RZ
structure Cls5 where
  C : Addr
  CN : Addr
  CL : Addr
  CT : Addr
  CR : Addr
  CF : Addr
/-- nothing is wished for an error -/
abbrev WF : WX := fun _ _ _ _ => False
abbrev tMk (K : PySem.W.Frag) (T : List (Addr × Str)) (c : Cls5) (tw tx : TE) : TE := tMakeS (ps := ["self", "width", "terms"]) c.C (spFi K T c.C c.CN c.CL c.CT) [] (WE WF) (tCons tw (tCons tx tNil))
abbrev tAtE (K : PySem.W.Frag) (c : Cls5) (tf tr : TE) : TE := tMethSD c.C "at" (spAt K c.C c.CR) (WE WF) tf (tCons tr tNil)
abbrev tWo (K : PySem.W.Frag) (ta tr : TE) : TE := tCall (spWo K) [] E0 (tCons ta (tCons tr tNil))
abbrev tTs (K : PySem.W.Frag) (C : Addr) (tf : TE) : TE := tMeth C "terms" (spTs K C) [] E0 tf tNil
abbrev tOd (K : PySem.W.Frag) (ta : TE) : TE := tCall (spOr K) [] E0 (tCons ta tNil)
abbrev tRq (K : PySem.W.Frag) (t : TE) : TE := tCB (rRepr K) (tCons t tNil)
abbrev tAd (K : PySem.W.Frag) (T : List (Addr × Str)) (c : Cls5) : TE → TE → TE := tOwn2 c.C (spAd K T c.C c.CF) (WE WF)
abbrev tSb (K : PySem.W.Frag) (T : List (Addr × Str)) (c : Cls5) : TE → TE → TE := tOwn2 c.C (spSb K T c.C c.CF) (WE WF)
abbrev tMl (K : PySem.W.Frag) (T : List (Addr × Str)) (c : Cls5) : TE → TE → TE := tOwn2 c.C (spMl K T c.C c.CF) (WE WF)
abbrev tMi (K : PySem.W.Frag) (T : List (Addr × Str)) (c : Cls5) : TE → TE → TE := tOwnI c.C (spMl K T c.C c.CF) (WE WF)
abbrev tRi (K : PySem.W.Frag) (T : List (Addr × Str)) (c : Cls5) : TE → TE → TE := tROwn c.C (spRm K T c.C) (WE WF)
abbrev tNg1 (K : PySem.W.Frag) (T : List (Addr × Str)) (c : Cls5) : TE → TE := tOwn1 c.C (spNg K T c.C) (WE WF)
def FS (K : PySem.W.Frag) (T : List (Addr × Str)) (C : Addr) (σ : St) (H : Hp) (b : Bool) (t : TE) (n : Nat) (us : List (Int × Wd)) : Prop := ∀ H1, LamX.ExtN H H1 → LamX.Tabs T H1 → ∀ Q : VK, (∀ p D H', LamX.ExtN H1 H' → LamX.Tabs T H' → (b = true → NewN H1 D) → FoAt K C H' p n us D → Q (.ref p) H') → t σ H1 Q
def IS (T : List (Addr × Str)) (σ : St) (H : Hp) (t : TE) (v : V) : Prop := ∀ H1, LamX.ExtN H H1 → LamX.Tabs T H1 → ∀ Q : VK, (∀ H', LamX.ExtN H1 H' → LamX.Tabs T H' → Q v H') → t σ H1 Q
def LS (K : PySem.W.Frag) (T : List (Addr × Str)) (σ : St) (H : Hp) (t : TE) (us : List (Int × Wd)) : Prop := ∀ H1, LamX.ExtN H H1 → LamX.Tabs T H1 → ∀ Q : VK, (∀ (a : Addr) (rs : List Trm) (H' : Hp), LamX.ExtN H1 H' → LamX.Tabs T H' → H' a = some (.lst (rs.map fun r => V.ref r.1)) → (∀ r ∈ rs, TmAt K H' r) → rs.map (·.2) = us → Q (.ref a) H') → t σ H1 Q
theorem ext_refl (H : Hp) : LamX.ExtN H H := fun _ _ o _ => o
theorem lst_ext {H H' : Hp} {a : Addr} {xs : List V} (e : H a = some (.lst xs)) (x : LamX.ExtN H H') : H' a = some (.lst xs) := x _ _ e (fun ps z => by cases z)
theorem newN_ext {H H1 : Hp} {D : Addr} (e : LamX.ExtN H H1) (h : NewN H1 D) : NewN H D := fun o ho => by
  cases o with
  | tbl ps => exact ⟨ps, rfl⟩
  | _ => exact h _ (e _ _ ho (fun ps z => by cases z))
section
variable {K : PySem.W.Frag} {T : List (Addr × Str)} {c : Cls5} {C : Addr} {σ : St} {H H' : Hp} {b b2 : Bool} {t t1 t2 tf tx tw tr : TE} {n i j : Nat} {us us2 : List (Int × Wd)} {v : V}
theorem FS.ext (h : FS K T C σ H b t n us) (e : LamX.ExtN H H') : FS K T C σ H' b t n us := fun H1 e1 => h H1 (extN_trans e e1)
theorem IS.ext (h : IS T σ H t v) (e : LamX.ExtN H H') : IS T σ H' t v := fun H1 e1 => h H1 (extN_trans e e1)
theorem LS.ext (h : LS K T σ H t us) (e : LamX.ExtN H H') : LS K T σ H' t us := fun H1 e1 => h H1 (extN_trans e e1)
theorem FS.var {p D : Addr} (hi : σ[i]? = some (some (.ref p))) (fo : FoAt K C H p n us D) : FS K T C σ H false (tVar i) n us := fun H1 e1 T1 Q q => ⟨_, hi, q p D H1 (ext_refl _) T1 (fun z => by cases z) (foAt_ext fo e1)⟩
theorem IS.var (hi : σ[i]? = some (some v)) : IS T σ H (tVar i) v := fun H1 e1 T1 Q q => ⟨_, hi, q H1 (ext_refl _) T1⟩
theorem LS.var {a : Addr} {rs : List Trm} (hi : σ[i]? = some (some (.ref a))) (ha : H a = some (.lst (rs.map fun r => V.ref r.1))) (tm : ∀ r ∈ rs, TmAt K H r) (e : rs.map (·.2) = us) : LS K T σ H (tVar i) us :=
  fun H1 e1 T1 Q q => ⟨_, hi, q a rs H1 (ext_refl _) T1 (lst_ext ha e1) (fun r hr => (tm r hr).ext e1) e⟩
theorem LS.sl {a : Addr} {rs : List Trm} {k : Nat} (hi : σ[i]? = some (some (.ref a))) (ha : H a = some (.lst (rs.map fun r => V.ref r.1))) (tm : ∀ r ∈ rs, TmAt K H r) (e : rs.map (·.2) = us) : LS K T σ H (tSl (rSlL K) (tVar i) tNoPart (tPart (tC (.int (k : Nat))))) (us.take k) :=
  fun H1 e1 T1 Q q => ⟨_, hi, (k : Int), rfl, a, _, rfl, SqL.of (lst_ext ha e1), fun p hp => by
    have s := same_new (o := .lst ((rs.take k).map fun r => V.ref r.1)) hp
    rw [cut_take, ← List.map_take]
    exact q p (rs.take k) _ (.of s) (T1.ext s) upd_same (fun r hr => ((tm r (List.mem_of_mem_take hr)).ext e1).ext (.of s)) (by rw [List.map_take, e])⟩
theorem LS.one {r : Trm} (hi : σ[i]? = some (some (.ref r.1))) (hr : TmAt K H r) : LS K T σ H (tLst (tCons (tVar i) tNil)) [r.2] :=
  fun H1 e1 T1 Q q => ⟨_, hi, by show 1 ≤ sizeLine; decide, fun p hp => by
    have s := same_new (o := .lst [V.ref r.1]) hp
    exact q p [r] _ (.of s) (T1.ext s) upd_same (fun x hx => by rw [List.mem_singleton.mp hx]; exact (hr.ext e1).ext (.of s)) rfl⟩
theorem LS.nil : LS K T σ H (tLst tNil) [] :=
  fun H1 e1 T1 Q q => ⟨by show 0 ≤ sizeLine; omega, fun p hp => by
    have s := same_new (o := .lst []) hp
    exact q p [] _ (.of s) (T1.ext s) upd_same (fun x hx => absurd hx (by simp)) rfl⟩
theorem LS.unit : LS K T σ H (tLst (tCons (tTup (tCons (tC (.int 1)) (tCons (tTup tNil) tNil))) tNil)) [(1, [])] :=
  fun H1 e1 T1 Q q => lst_ ⟨by show 0 ≤ sizeLine; omega, fun w hw => ⟨by show 2 ≤ sizeLine; decide, fun y hy => ⟨by show 1 ≤ sizeLine; decide, fun p hp => by
    have s1 := same_new (o := .tup []) hw
    have s2 := same_new (o := .tup [V.int 1, V.ref w]) hy
    have s3 := same_new (o := .lst [V.ref y]) hp
    have s := (s1.trans s2).trans s3
    refine q p [(y, 1, [])] _ (.of s) (T1.ext s) upd_same (fun x hx => ?_) rfl
    rw [List.mem_singleton.mp hx]
    exact ⟨w, SqT.of (s3 _ _ upd_same), ⟨[], SqT.of ((s2.trans s3) _ _ upd_same), .nil⟩⟩⟩⟩⟩
theorem LS.ts (h : FS K T C σ H b tf n us) : LS K T σ H (tTs K C tf) us := fun H1 e1 T1 Q q => h H1 e1 T1 _ fun p D H2 e2 T2 _ fo => by
  obtain ⟨dx, rs, hp, _⟩ := id fo
  refine ⟨p, dx, _, rfl, hp, rfl, ?_⟩
  exact ⟨p, n, us, D, rfl, fo, fun l rs H' hl s el tm e => q l rs H' (extN_trans e2 (.of s)) (T2.ext s) el tm e⟩
theorem LS.od (h : LS K T σ H t us) (nd : (us.map (·.2)).Nodup) (hz : us.length < sizeLine) : LS K T σ H (tOd K t) (ordT us) := fun H1 e1 T1 Q q => call_ (cons_ (h H1 e1 T1 _ fun a rs H2 e2 T2 ea tm e => by
  refine ⟨a, rs, rfl, SqL.of ea, tm, by rw [← e, List.length_map] at hz; exact hz, by rw [e]; exact nd, fun D rs2 H' hD s eD tm2 e3 => ?_⟩
  exact q D rs2 H' (extN_trans e2 (.of s)) (T2.ext s) eD tm2 (by rw [e3, e])))
theorem LS.to {us' : List (Int × Wd)} (h : LS K T σ H t us) (e : us = us') : LS K T σ H t us' := e ▸ h
theorem FS.to {us' : List (Int × Wd)} (h : FS K T C σ H b t n us) (e : us = us') : FS K T C σ H b t n us' := e ▸ h
/-! ### comparisons -/
theorem ls_ne {Qb : Bool → Hp → Prop} (h1 : LS K T σ H t1 us) (h2 : LS K T σ H t2 us) (hT : LamX.Tabs T H) (q : ∀ H', LamX.ExtN H H' → LamX.Tabs T H' → Qb false H') : tTest (tOp (Vf.rEqD K true) t1 t2) σ H Qb := by
  refine test_ (h1 H (ext_refl _) hT _ fun a rs H1 e1 T1 ea tm e => h2 H1 e1 T1 _ fun a2 rs2 H2 e2 T2 ea2 tm2 e3 => ?_)
  refine ⟨_, _, _, _, trms_sh (SqL.of (lst_ext ea e2)) (fun r hr => (tm r hr).ext e2) e, trms_sh (SqL.of ea2) tm2 e3, shaped_trms us, shaped_trms us, _, rfl, ?_⟩
  rw [if_pos rfl, eqv_trms, decide_eq_true rfl]
  exact q H2 (extN_trans e1 e2) T2
theorem fs_cmp {mg : Str → Option Value} {fE : Addr} {g : Bool → V} {Q : VK} (FT : FoT K mg C) (I : IsT K C) (EQ : EqT K C fE) (h1 : FS K T C σ H b t1 n us) (h2 : FS K T C σ H b2 t2 n us) (hT : LamX.Tabs T H) (q : ∀ H', LamX.ExtN H H' → LamX.Tabs T H' → Q (g true) H') :
    tOp (rEqO K C (spEqF K C) g) t1 t2 σ H Q := by
  refine op_ (h1 H (ext_refl _) hT _ fun p D H1 e1 T1 _ fo => h2 H1 e1 T1 _ fun p2 D2 H2 e2 T2 _ fo2 => ?_)
  refine eqF_run (σ := σ) FT I EQ (foAt_ext fo e2) fo2 ?_
  rw [decide_eq_true ⟨rfl, rfl⟩]
  exact q H2 (extN_trans e1 e2) T2
theorem is_neI {k : Int} {Q : VK} (h1 : IS T σ H t1 (.int k)) (h2 : IS T σ H t2 (.int k)) (hT : LamX.Tabs T H) (q : ∀ H', LamX.ExtN H H' → LamX.Tabs T H' → Q (.bl false) H') : tNeI t1 t2 σ H Q := by
  refine neI_ (h1 H (ext_refl _) hT _ fun H1 e1 T1 => h2 H1 e1 T1 _ fun H2 e2 T2 => ⟨_, _, rfl, rfl, ?_⟩)
  rw [decide_eq_true rfl]
  exact q H2 (extN_trans e1 e2) T2
/-- repr of terms -/
theorem IS.rq (h : LS K T σ H t us) (wr : ∀ as, Wr (.list (us.map dTrm)) as) : IS T σ H (tRq K t) (.str (PyData.shown (dTrms us))) := fun H1 e1 T1 Q q => cb_ (cons_ (h H1 e1 T1 _ fun a rs H2 e2 T2 ea tm e =>
  ⟨_, dTrms us, [a], rfl, trms_sh (SqL.of ea) tm e, wr _, q H2 e2 T2⟩))
theorem is_strs {r : R2} {z : Str} {Q : VK} (h1 : IS T σ H t1 (.str z)) (h2 : IS T σ H t2 (.str z)) (hT : LamX.Tabs T H) (q : ∀ H', LamX.ExtN H H' → LamX.Tabs T H' → r (.str z) (.str z) H' Q) : tOp r t1 t2 σ H Q :=
  op_ (h1 H (ext_refl _) hT _ fun H1 e1 T1 => h2 H1 e1 T1 _ fun H2 e2 T2 => q H2 (extN_trans e1 e2) T2)
/-! ### forms made -/
theorem FS.mk (htw : IS T σ H tw (.int (n : Nat))) (htx : LS K T σ H tx us) (wn : widD (.int (n : Nat)) = true) (hd : (us.map dTrm).all (termD n) = true) (hz : us.length < sizeLine) : FS K T c.C σ H true (tMk K T c tw tx) n (together us) := fun H1 e1 T1 Q q => by
  refine htw H1 e1 T1 _ fun H2 e2 T2 => htx H2 (extN_trans e1 e2) T2 _ fun a rs H3 e3 T3 ea tm e => ⟨rfl, ?_⟩
  intro x dx hx hdx ne
  have sd : Same H3 (upd H3 dx (.own x)) := same_new hdx
  have sM : Same H3 (upd (upd H3 dx (.own x)) x (.ins c.C dx [])) := sd.trans (same_new (by rw [upd_ne ne.symm]; exact hx))
  have hl : rs.length = us.length := by rw [← e, List.length_map]
  refine ⟨x, dx, .int (n : Nat), .ref a, .int (n : Nat), .list ((rs.map fun r : Trm => r.2).map dTrm), [], [a], rfl, upd_same, .int _, sh_mono (ts_sh ⟨SqL.of ea, tm⟩) sM, T3.ext sM, .inr ⟨n, rfl, wn, .inr ⟨_, rfl, .inr ⟨rs.map fun r : Trm => r.2, rfl, by rw [e]; exact hd, by rw [List.length_map, List.length_map, hl]; exact hz, fun H' D kN T' nD fo => ⟨rfl, ?_⟩⟩⟩⟩⟩
  have x3 : LamX.ExtN H3 H' := fun b o hb ho => kN b o (ne_of_none hb hx) ho (sM _ _ hb)
  refine q x D H' (extN_trans (extN_trans e2 e3) x3) T' (fun _ => newN_ext (extN_trans (extN_trans e2 e3) (.of sM)) nD) ?_
  rw [← e]
  exact fo
theorem ins_of {H : Hp} {p D : Addr} (fo : FoAt K C H p n us D) : ∃ dx fs, H p = some (.ins C dx fs) := by
  obtain ⟨dx, rs, hp, _⟩ := fo
  exact ⟨dx, _, hp⟩
theorem FS.ad (h1 : FS K T c.C σ H b t1 n us) (h2 : FS K T c.C σ H b2 t2 n us2) (wn : widD (.int (n : Nat)) = true) (hz : (us ++ us2).length < sizeLine) : FS K T c.C σ H true (tAd K T c t1 t2) n (together (us ++ us2)) := fun H1 e1 T1 Q q => by
  refine h1 H1 e1 T1 _ fun p D H2 e2 T2 _ fo => h2 H2 (extN_trans e1 e2) T2 _ fun p2 D2 H3 e3 T3 _ fo2 => ?_
  obtain ⟨dx, fs, hp⟩ := ins_of (foAt_ext fo e3)
  obtain ⟨dx2, fs2, hp2⟩ := ins_of fo2
  refine ⟨p, dx, p2, dx2, fs, fs2, rfl, rfl, hp, hp2, ?_⟩
  exact ⟨p, p2, n, n, us, us2, D, D2, rfl, foAt_ext fo e3, fo2, wn, T3, .inr ⟨rfl, hz, fun x D' H' _ nD eN T' fo => q x D' H' (extN_trans (extN_trans e2 e3) eN) T' (fun _ => newN_ext (extN_trans e2 e3) nD) fo⟩⟩
theorem FS.sb (h1 : FS K T c.C σ H b t1 n us) (h2 : FS K T c.C σ H b2 t2 n us2) (wn : widD (.int (n : Nat)) = true) (hc : ∀ t ∈ us2, t.1.natAbs ≤ 2 ^ 400) (hz : (us ++ timesT (-1) us2).length < sizeLine) : FS K T c.C σ H true (tSb K T c t1 t2) n (together (us ++ timesT (-1) us2)) := fun H1 e1 T1 Q q => by
  refine h1 H1 e1 T1 _ fun p D H2 e2 T2 _ fo => h2 H2 (extN_trans e1 e2) T2 _ fun p2 D2 H3 e3 T3 _ fo2 => ?_
  obtain ⟨dx, fs, hp⟩ := ins_of (foAt_ext fo e3)
  obtain ⟨dx2, fs2, hp2⟩ := ins_of fo2
  refine ⟨p, dx, p2, dx2, fs, fs2, rfl, rfl, hp, hp2, ?_⟩
  exact ⟨p, p2, n, n, us, us2, D, D2, rfl, foAt_ext fo e3, fo2, wn, T3, hc, .inr ⟨rfl, hz, fun x D' H' _ nD eN T' fo => q x D' H' (extN_trans (extN_trans e2 e3) eN) T' (fun _ => newN_ext (extN_trans e2 e3) nD) fo⟩⟩
theorem FS.ml {d : Nat} (h1 : FS K T c.C σ H b t1 n us) (h2 : FS K T c.C σ H b2 t2 n us2) (wn : widD (.int (n : Nat)) = true) (mo : MulOk d us us2) (hz : (mulT us us2).length < sizeLine) : FS K T c.C σ H true (tMl K T c t1 t2) n (together (mulT us us2)) := fun H1 e1 T1 Q q => by
  obtain ⟨m1, m2, m3, m4, m5, m6⟩ := mo
  refine h1 H1 e1 T1 _ fun p D H2 e2 T2 _ fo => h2 H2 (extN_trans e1 e2) T2 _ fun p2 D2 H3 e3 T3 _ fo2 => ?_
  obtain ⟨dx, fs, hp⟩ := ins_of (foAt_ext fo e3)
  obtain ⟨dx2, fs2, hp2⟩ := ins_of fo2
  refine ⟨p, dx, p2, dx2, fs, fs2, rfl, rfl, hp, hp2, ?_⟩
  exact .inr ⟨p, p2, n, n, d, us, us2, D, D2, rfl, foAt_ext fo e3, fo2, wn, T3, m1, m2, m3, m4, m5, m6, .inr ⟨rfl, hz, fun x D' H' _ nD eN T' fo => q x D' H' (extN_trans (extN_trans e2 e3) eN) T' (fun _ => newN_ext (extN_trans e2 e3) nD) fo⟩⟩
theorem FS.mi {k : Int} (h1 : FS K T c.C σ H b t1 n us) (h2 : IS T σ H t2 (.int k)) (wn : widD (.int (n : Nat)) = true) (hk : k.natAbs ≤ 2 ^ 400) (hc : ∀ t ∈ us, t.1.natAbs ≤ 2 ^ 400) (hz : us.length < sizeLine) : FS K T c.C σ H true (tMi K T c t1 t2) n (together (timesT k us)) := fun H1 e1 T1 Q q => by
  refine h1 H1 e1 T1 _ fun p D H2 e2 T2 _ fo => h2 H2 (extN_trans e1 e2) T2 _ fun H3 e3 T3 => ?_
  obtain ⟨dx, fs, hp⟩ := ins_of (foAt_ext fo e3)
  refine ⟨p, dx, k, fs, rfl, rfl, hp, ?_⟩
  exact .inl ⟨p, n, us, D, k, rfl, foAt_ext fo e3, wn, T3, hk, hc, hz, fun x D' H' _ nD eN T' fo => q x D' H' (extN_trans (extN_trans e2 e3) eN) T' (fun _ => newN_ext (extN_trans e2 e3) nD) fo⟩
theorem FS.ri {k : Int} (h1 : IS T σ H t1 (.int k)) (h2 : FS K T c.C σ H b t2 n us) (wn : widD (.int (n : Nat)) = true) (hk : k.natAbs ≤ 2 ^ 400) (hc : ∀ t ∈ us, t.1.natAbs ≤ 2 ^ 400) (hz : us.length < sizeLine) : FS K T c.C σ H true (tRi K T c t1 t2) n (together (timesT k us)) := fun H1 e1 T1 Q q => by
  refine h1 H1 e1 T1 _ fun H2 e2 T2 => h2 H2 (extN_trans e1 e2) T2 _ fun p D H3 e3 T3 _ fo => ?_
  obtain ⟨dx, fs, hp⟩ := ins_of fo
  refine ⟨p, dx, k, fs, rfl, rfl, hp, ?_⟩
  exact ⟨p, n, us, D, k, rfl, fo, wn, T3, hk, hc, hz, fun x D' H' _ nD eN T' fo => q x D' H' (extN_trans (extN_trans e2 e3) eN) T' (fun _ => newN_ext (extN_trans e2 e3) nD) fo⟩
theorem FS.ng (h1 : FS K T c.C σ H b t n us) (wn : widD (.int (n : Nat)) = true) (hc : ∀ t ∈ us, t.1.natAbs ≤ 2 ^ 400) (hz : us.length < sizeLine) : FS K T c.C σ H true (tNg1 K T c t) n (together (timesT (-1) us)) := fun H1 e1 T1 Q q => by
  refine h1 H1 e1 T1 _ fun p D H2 e2 T2 _ fo => ?_
  obtain ⟨dx, fs, hp⟩ := ins_of fo
  refine ⟨p, dx, fs, rfl, hp, ?_⟩
  exact ⟨p, n, us, D, rfl, fo, wn, T2, by decide, hc, hz, fun x D' H' _ nD eN T' fo => q x D' H' (extN_trans e2 eN) T' (fun _ => newN_ext e2 nD) fo⟩
/-! ### worths -/
theorem IS.at_ {r : Addr} {rows : List (List Int)} (h : FS K T c.C σ H b tf n us) (hi : σ[j]? = some (some (.ref r))) (rw_ : RwAt K H r rows) (ro : RwOk n rows) (tm : TmOk n us) : IS T σ H (tAtE K c tf (tVar j)) (.int (atW us rows)) := fun H1 e1 T1 Q q => by
  refine h H1 e1 T1 _ fun p D H2 e2 T2 _ fo => ?_
  obtain ⟨dx, rs', f1, _⟩ := id fo
  have rw2 := rwAt_ext rw_ (extN_trans e1 e2)
  refine ⟨p, dx, _, rfl, f1, rfl, _, hi, p, .ref r, n, us, D, .list (rd rows), _, rfl, fo, row_sh rw2, .inr ⟨row_yes ro, r, rows, rfl, rw2, ro, tm, fun H3 s3 => ?_⟩⟩
  exact q H3 (extN_trans e2 (.of s3)) (T2.ext s3)
theorem IS.wo {r : Addr} {rows : List (List Int)} (h : LS K T σ H t us) (hi : σ[j]? = some (some (.ref r))) (rw_ : RwAt K H r rows) (ro : RwOk n rows) (tm : TmOk n us) : IS T σ H (tWo K t (tVar j)) (.int (atW us rows)) := fun H1 e1 T1 Q q => call_ (cons_ (h H1 e1 T1 _ fun a rs H2 e2 T2 ea tma e =>
  ⟨_, hi, a, r, rs, rows, n, rfl, ea, tma, rwAt_ext rw_ (extN_trans e1 e2), ro, by rw [e]; exact tm, fun H3 s3 => by rw [e]; exact q H3 (extN_trans e2 (.of s3)) (T2.ext s3)⟩))
theorem IS.op {r : R2} {v1 v2 v3 : V} (h1 : IS T σ H t1 v1) (h2 : IS T σ H t2 v2) (hr : ∀ (H : Hp) (Q : VK), Q v3 H → r v1 v2 H Q) : IS T σ H (tOp r t1 t2) v3 := fun H1 e1 T1 Q q =>
  op_ (h1 H1 e1 T1 _ fun H2 e2 T2 => h2 H2 (extN_trans e1 e2) T2 _ fun H3 e3 T3 => hr H3 _ (q H3 (extN_trans e2 e3) T3))
end
end L2.Fo

set_option exponentiation.threshold 2000
/-! # the class and its methods; products of long words, as read -/
namespace L2.Fo
open PySem PySem.Spec PyProof.Rows L2.Vf L2.Dw L2.Ch L2.Nk L2.Lt L2.Qs L2.Tdf RZ
structure FmA where
  fI : Addr
  fA : Addr
  fS : Addr
  fE : Addr
  fAd : Addr
  fSb : Addr
  fMl : Addr
  fRm : Addr
  fNg : Addr
  dI : FuncData
  dA : FuncData
  dS : FuncData
  dE : FuncData
  dAd : FuncData
  dSb : FuncData
  dMl : FuncData
  dRm : FuncData
  dNg : FuncData
/-- the class Form and its methods -/
structure FmT (P : Program) (w : World) (K : PySem.W.Frag) (mg : Str → Option Value) (base : Heap) (T : List (Addr × Str)) (c : Cls5) (a : FmA) : Prop where
  ft : FoT K mg c.C
  is_ : IsT K c.C
  mkd : Mk K c.C a.fI
  gI : FnOk P w K mg base (L2.CX P w) 6 a.fI a.dI ["self", "width", "terms"] (spFi K T c.C c.CN c.CL c.CT)
  bI : Binds K a.dI ["self", "width", "terms"] []
  mA : Meth K c.C "at" a.fA
  gA : FnOk P w K mg base (L2.CX P w) 13 a.fA a.dA ["self", "row"] (spAt K c.C c.CR)
  bA : Binds K a.dA ["self", "row"] []
  mS : Meth K c.C "terms" a.fS
  gS : FnOk P w K mg base CX0 1 a.fS a.dS ["self"] (spTs K c.C)
  bS : Binds K a.dS ["self"] []
  eq : EqT K c.C a.fE
  gE : FnOk P w K mg base CX0 1 a.fE a.dE ["self", "other"] (spEqF K c.C)
  bE : Binds K a.dE ["self", "other"] []
  oA : Om P w K mg base (L2.CX P w) c.C "__add__" 9 ["self", "other"] (spAd K T c.C c.CF) a.fAd a.dAd
  oS : Om P w K mg base (L2.CX P w) c.C "__sub__" 9 ["self", "other"] (spSb K T c.C c.CF) a.fSb a.dSb
  oM : Om P w K mg base (L2.CX P w) c.C "__mul__" 9 ["self", "other"] (spMl K T c.C c.CF) a.fMl a.dMl
  oR : Om P w K mg base CX0 c.C "__rmul__" 9 ["self", "other"] (spRm K T c.C) a.fRm a.dRm
  oN : Om P w K mg base CX0 c.C "__neg__" 9 ["self"] (spNg K T c.C) a.fNg a.dNg
  iA : InF K c.C "__iadd__"
  iS : InF K c.C "__isub__"
  iM : InF K c.C "__imul__"
  oI : OpI K c.C "mul"
  oJ : OpJ K c.C
structure DfG (P : Program) (w : World) (K : PySem.W.Frag) (mg : Str → Option Value) (base : Heap) (x : Str) (k : Nat) (ps : List Str) (sp : Sp) (f : Addr) (fd : FuncData) : Prop where
  g : FnG P w K mg base CX0 k f fd ps sp
  m : mg x = some (.ref f)
  k : PySem.W.keepIn K (.ref f) = true
  b : Binds K fd ps []
abbrev tX (K : PySem.W.Frag) (i : Nat) (k : Int) : TE := tOp (rIxT K) (tVar i) (tC (.int k))
abbrev tOneL (i : Nat) : TE := tLst (tCons (tVar i) tNil)
abbrev tMulI : TE → TE → TE := tOp (rI CMulX fun i j => .int (i * j))
abbrev tDue (K : PySem.W.Frag) (t m : Nat) : TE := tCall (spPq K) [] E0 (tCons (tMulI (tX K t 0) (tX K m 0)) (tCons (tCall (spMg K 7) [] E0 (tCons (tX K t 1) (tCons (tX K m 1) tNil))) tNil))
abbrev tF1 (K : PySem.W.Frag) (T : List (Addr × Str)) (c : Cls5) (i : Nat) : TE := tMk K T c (tVar 1) (tOneL i)
def tTM (K : PySem.W.Frag) (T : List (Addr × Str)) (c : Cls5) (t m d : Nat) : TS := tSeq (tAsg (tDue K t m) (gName d)) (tIfS (tTest (tOp (Vf.rEqD K true) (tTs K c.C (tMl K T c (tF1 K T c t) (tF1 K T c m))) (tOd K (tVar d)))) (tRet (tC (.bl false))) tNext)
abbrev tTk (K : PySem.W.Frag) (i : Nat) (k : Int) : TE := tSl (rSlL K) (tVar i) tNoPart (tPart (tC (.int k)))
def tTMs (K : PySem.W.Frag) (T : List (Addr × Str)) (c : Cls5) (f s t m d : Nat) : TS := tFor (iList K (tTk K f 1)) (gName t) (tFor (iList K (tTk K s 1)) (gName m) (tTM K T c t m d))
abbrev sLg : Stmt := top 43
abbrev nLg : List Str := ["_law_purse_here", "_law_width", "_law_first", "_law_second", "_law_term", "_law_more", "_law_due", "_law_one", "_law_other", "_law_row_here", "_law_both", "_law_found"]
theorem scLg : FnScope nLg ["_law_purse_here", "_law_width", "_law_first", "_law_second"] (defScope sLg) := ⟨rfl, rfl, rfl, by decide +kernel, rfl, by decide +kernel, by decide +kernel⟩
abbrev tF2 (K : PySem.W.Frag) (T : List (Addr × Str)) (c : Cls5) (i : Nat) : TE := tMk K T c (tVar 1) (tTk K i 2)
abbrev tLg2 (K : PySem.W.Frag) (T : List (Addr × Str)) (c : Cls5) : TA := tCons (tF2 K T c 2) (tCons (tF2 K T c 3) (tCons (tCall spRo [] E0 (tCons (tVar 0) (tCons (tVar 1) (tCons (tC (.int 6)) (tCons (tC (.int 2)) tNil))))) tNil))
abbrev tRetF : TS := tRet (tC (.bl false))
abbrev tEnd (K : PySem.W.Frag) (C : Addr) (i : Nat) : TS := tRet (tOp rEq (tRq K (tTs K C (tVar i))) (tRq K (tOd K (tTs K C (tVar i)))))
def tLgE (K : PySem.W.Frag) (T : List (Addr × Str)) (c : Cls5) : TS := tSeq (tAug 11 (tVar 8) (rOwnIn c.C (spMl K T c.C c.CF))) (tSeq (tIfS (tOr (tTest (tNeF K c.C (tVar 11) (tMl K T c (tVar 7) (tVar 8)))) (tTest (tNeF K c.C (tVar 7) (tF2 K T c 2)))) tRetF tNext) (tEnd K c.C 10))
def tLgD (K : PySem.W.Frag) (T : List (Addr × Str)) (c : Cls5) : TS := tSeq (tAug 11 (tVar 8) (rOwnIn c.C (spSb K T c.C c.CF))) (tSeq (tIfS (tTest (tNeF K c.C (tVar 11) (tVar 7))) tRetF tNext) (tLgE K T c))
def tLgC (K : PySem.W.Frag) (T : List (Addr × Str)) (c : Cls5) : TS := tSeq (tAsg (tVar 7) (gName 11)) (tSeq (tAug 11 (tVar 8) (rOwnIn c.C (spAd K T c.C c.CF)))
  (tSeq (tIfS (tOr (tTest (tNeF K c.C (tVar 11) (tAd K T c (tVar 7) (tVar 8)))) (tOr (tTest (tNeF K c.C (tVar 7) (tF2 K T c 2))) (tTest (tNeF K c.C (tVar 8) (tF2 K T c 3))))) tRetF tNext) (tLgD K T c)))
def tLgB (K : PySem.W.Frag) (T : List (Addr × Str)) (c : Cls5) : TS := tSeq (tAsg (tMl K T c (tVar 7) (tVar 8)) (gName 10)) (tSeq (tIfS (L2.tB (tNeI (tAtE K c (tVar 10) (tVar 9)) (tMulI (tWo K (tTk K 2 2) (tVar 9)) (tWo K (tTk K 3 2) (tVar 9))))) tRetF tNext) (tLgC K T c))
def tLg_ (K : PySem.W.Frag) (T : List (Addr × Str)) (c : Cls5) : TS := tSeq (tTMs K T c 2 3 4 5 6) (tSeq (tPar3 7 8 9 (tLg2 K T c)) (tLgB K T c))
section
variable {P : Program} {w : World} {K : PySem.W.Frag} {mg : Str → Option Value} {base : Heap} {T : List (Addr × Str)} {c : Cls5} {a : FmA}
theorem der_lg {fM fP fO fR fW f : Addr} {dM dP dO dR dW : FuncData} {cdv : Value} {A : Around} {outer : List Env} {s : Shared} {H : Hp} {E : XK} (N : Nm mg) (F : FmT P w K mg base T c a)
    (GM : Df P w K mg base "_law_merged" 8 ["_law_one", "_law_other"] (spMg K 7) fM dM) (GP : Df P w K mg base "_law_put" 1 ["_law_factor", "_law_words"] (spPq K) fP dP) (GO : Df P w K mg base "_law_ordered" 1 ["_law_terms_here"] (spOr K) fO dO) (GR : Df P w K mg base "_law_row" 5 ["_law_purse_here", "_law_width", "_law_cells_to", "_law_most"] spRo fR dR)
    (GW : Df P w K mg base "_law_worth" 11 ["_law_terms_here", "_law_row_here"] (spWo K) fW dW) (hg : (A.deeper (envOfC "_law_long_right" (defScope sLg) s.heap.objs.size f cdv)).guards = some []) (hr : Room 13 (A.deeper (envOfC "_law_long_right" (defScope sLg) s.heap.objs.size f cdv))) :
    PSs (cxOf CX0 P w K mg base nLg "_law_long_right" (defScope sLg) f cdv A outer s H E).nox (defBody sLg) (tLg_ K T c) := by
  have hu := hr.units
  have hr1 := hr.mono (show 1 ≤ 13 by decide)
  have hr2 := hr.mono (show 2 ≤ 13 by decide)
  have hr5 := hr.mono (show 5 ≤ 13 by decide)
  have hr7 := hr.mono (show 7 ≤ 13 by decide)
  have hr8 := hr.mono (show 8 ≤ 13 by decide)
  have hr9 := hr.mono (show 9 ≤ 13 by decide)
  have hr11 := hr.mono (show 11 ≤ 13 by decide)
  refine pss_cons (ps_for PassesOwn.never rfl (pi_list (pe_slice sl_list (pv 2) po_none (po_some pe_int))) (pg_name (i := 4) scLg.nd rfl (Or.inl rfl)) (pss_one (ps_for PassesOwn.never rfl (pi_list (pe_slice sl_list (pv 3) po_none (po_some pe_int))) (pg_name (i := 5) scLg.nd rfl (Or.inl rfl)) ?_))) ?_
  · refine pss_cons (ps_set (i := 6) scLg.nd rfl (.inl rfl) (pe_call GP.g hr1 rfl GP.m GP.k GP.b .nil pass0 (pa_cons (pe_op op_mulX (pe_ix ix_tup (pv 4) pe_int (fun _ _ => rfl)) (pe_ix ix_tup (pv 5) pe_int (fun _ _ => rfl))) (pa_cons (pe_call GM.g hr8 rfl GM.m GM.k GM.b .nil pass0 (pa_cons (pe_ix ix_tup (pv 4) pe_int (fun _ _ => rfl)) (pa_cons (pe_ix ix_tup (pv 5) pe_int (fun _ _ => rfl)) pa_nil))) pa_nil)))) ?_
    exact pss_one (ps_if (pt_cmpR (Vf.op_neD hu) (pe_meth0 (pe_own2 (op := .Mult) F.oM.o F.oM.g hr9 F.oM.b (fun σ => passAt takes0 σ) (pe_makeS F.mkd F.gI hr7 rfl F.ft.mg_ F.bI .nil (fun σ => passAt takes0 σ) (pa_cons (pv 1) (pa_cons (pe_lst (pa_cons (pv 4) pa_nil)) pa_nil))) (pe_makeS F.mkd F.gI hr7 rfl F.ft.mg_ F.bI .nil (fun σ => passAt takes0 σ) (pa_cons (pv 1) (pa_cons (pe_lst (pa_cons (pv 5) pa_nil)) pa_nil)))) F.ft.cl F.mS F.gS hr1 F.bS .nil pass0) (pe_call GO.g hr1 rfl GO.m GO.k GO.b .nil pass0 (pa_cons (pv 6) pa_nil)) (nomark _)) (pss_one (ps_ret pe_bl)) pss_nil)
  refine pss_cons (ps_par3 (i := 7) (j := 8) (l := 9) rfl scLg.nd rfl rfl rfl (by decide) (by decide) (by decide) rfl rfl rfl (pa_cons (pe_makeS F.mkd F.gI hr7 rfl F.ft.mg_ F.bI .nil (fun σ => passAt takes0 σ) (pa_cons (pv 1) (pa_cons (pe_slice sl_list (pv 2) po_none (po_some pe_int)) pa_nil))) (pa_cons (pe_makeS F.mkd F.gI hr7 rfl F.ft.mg_ F.bI .nil (fun σ => passAt takes0 σ) (pa_cons (pv 1) (pa_cons (pe_slice sl_list (pv 3) po_none (po_some pe_int)) pa_nil))) (pa_cons (pe_call GR.g hr5 rfl GR.m GR.k GR.b .nil pass0 (pa_cons (pv 0) (pa_cons (pv 1) (pa_cons pe_int (pa_cons pe_int pa_nil))))) pa_nil))) rfl) ?_
  refine pss_cons (ps_set (i := 10) scLg.nd rfl (.inl rfl) (pe_own2 (op := .Mult) F.oM.o F.oM.g hr9 F.oM.b (fun σ => passAt takes0 σ) (pv 7) (pv 8))) ?_
  refine pss_cons (ps_if (pt_cmp (pc_neI (pe_methSD (pv 10) F.ft.cl F.mA F.gA hr F.bA (fun σ => passAt takes0 σ) (pa_cons (pv 9) pa_nil)) (pe_op op_mulX (pe_call GW.g hr11 rfl GW.m GW.k GW.b .nil pass0 (pa_cons (pe_slice sl_list (pv 2) po_none (po_some pe_int)) (pa_cons (pv 9) pa_nil))) (pe_call GW.g hr11 rfl GW.m GW.k GW.b .nil pass0 (pa_cons (pe_slice sl_list (pv 3) po_none (po_some pe_int)) (pa_cons (pv 9) pa_nil)))))) (pss_one (ps_ret pe_bl)) pss_nil) ?_
  refine pss_cons (ps_set (i := 11) scLg.nd rfl (.inl rfl) (pv 7)) ?_
  refine pss_cons (ps_aug (i := 11) scLg.nd rfl (.inl rfl) (pv 8) (ip_own (op := .Add) F.oA.o F.iA F.oA.g hr9 F.oA.b (fun σ => passAt takes0 σ))) ?_
  refine pss_cons (ps_if (PW.pt (pw_or (pt_cmpR (op_neO F.gE hr2 F.bE F.eq.at_ F.eq.ne F.eq.sub F.eq.fn) (pv 11) (pe_own2 (op := .Add) F.oA.o F.oA.g hr9 F.oA.b (fun σ => passAt takes0 σ) (pv 7) (pv 8)) (nomark _)) (pw_or (pt_cmpR (op_neO F.gE hr2 F.bE F.eq.at_ F.eq.ne F.eq.sub F.eq.fn) (pv 7) (pe_makeS F.mkd F.gI hr7 rfl F.ft.mg_ F.bI .nil (fun σ => passAt takes0 σ) (pa_cons (pv 1) (pa_cons (pe_slice sl_list (pv 2) po_none (po_some pe_int)) pa_nil))) (nomark _)) (pw_or1 (pt_cmpR (op_neO F.gE hr2 F.bE F.eq.at_ F.eq.ne F.eq.sub F.eq.fn) (pv 8) (pe_makeS F.mkd F.gI hr7 rfl F.ft.mg_ F.bI .nil (fun σ => passAt takes0 σ) (pa_cons (pv 1) (pa_cons (pe_slice sl_list (pv 3) po_none (po_some pe_int)) pa_nil))) (nomark _)))))) (pss_one (ps_ret pe_bl)) pss_nil) ?_
  refine pss_cons (ps_aug (i := 11) scLg.nd rfl (.inl rfl) (pv 8) (ip_own (op := .Sub) F.oS.o F.iS F.oS.g hr9 F.oS.b (fun σ => passAt takes0 σ))) ?_
  refine pss_cons (ps_if (pt_cmpR (op_neO F.gE hr2 F.bE F.eq.at_ F.eq.ne F.eq.sub F.eq.fn) (pv 11) (pv 7) (nomark _)) (pss_one (ps_ret pe_bl)) pss_nil) ?_
  refine pss_cons (ps_aug (i := 11) scLg.nd rfl (.inl rfl) (pv 8) (ip_own (op := .Mult) F.oM.o F.iM F.oM.g hr9 F.oM.b (fun σ => passAt takes0 σ))) ?_
  refine pss_cons (ps_if (PW.pt (pw_or (pt_cmpR (op_neO F.gE hr2 F.bE F.eq.at_ F.eq.ne F.eq.sub F.eq.fn) (pv 11) (pe_own2 (op := .Mult) F.oM.o F.oM.g hr9 F.oM.b (fun σ => passAt takes0 σ) (pv 7) (pv 8)) (nomark _)) (pw_or1 (pt_cmpR (op_neO F.gE hr2 F.bE F.eq.at_ F.eq.ne F.eq.sub F.eq.fn) (pv 7) (pe_makeS F.mkd F.gI hr7 rfl F.ft.mg_ F.bI .nil (fun σ => passAt takes0 σ) (pa_cons (pv 1) (pa_cons (pe_slice sl_list (pv 2) po_none (po_some pe_int)) pa_nil))) (nomark _))))) (pss_one (ps_ret pe_bl)) pss_nil) ?_
  exact pss_one (ps_ret (pe_cmpR op_eq (pe_callB (call_reprD hg hu) (by rfl) N.rep boot_repr (pa_cons (pe_meth0 (pv 10) F.ft.cl F.mS F.gS hr1 F.bS .nil pass0) pa_nil)) (pe_callB (call_reprD hg hu) (by rfl) N.rep boot_repr (pa_cons (pe_call GO.g hr1 rfl GO.m GO.k GO.b .nil pass0 (pa_cons (pe_meth0 (pv 10) F.ft.cl F.mS F.gS hr1 F.bS .nil pass0) pa_nil)) pa_nil)) (nomark _)))
end
end L2.Fo

set_option exponentiation.threshold 2000
/-! # products of short words, the law: as read -/
namespace L2.Fo
open PySem PySem.Spec PyProof.Rows L2.Vf L2.Dw L2.Ch L2.Nk L2.Lt L2.Qs L2.Tdf RZ
abbrev sPd : Stmt := top 44
abbrev nPd : List Str := ["_law_purse_here", "_law_width", "_law_rows", "_law_first", "_law_second", "_law_left", "_law_right", "_law_row_here", "_law_term", "_law_more", "_law_due"]
theorem scPd : FnScope nPd ["_law_purse_here", "_law_width", "_law_rows"] (defScope sPd) := ⟨rfl, rfl, rfl, by decide +kernel, rfl, by decide +kernel, by decide +kernel⟩
abbrev tDr (K : PySem.W.Frag) (g w : Nat) (m t : Int) : TE := tCall (spTr K) [] E0 (tCons (tVar g) (tCons (tVar w) (tCons (tC (.int m)) (tCons (tC (.int t)) tNil))))
abbrev tF0 (K : PySem.W.Frag) (T : List (Addr × Str)) (c : Cls5) (w i : Nat) : TE := tMk K T c (tVar w) (tVar i)
def tPdR (K : PySem.W.Frag) (T : List (Addr × Str)) (c : Cls5) : TS := tIfS (L2.tB (tNeI (tAtE K c (tMl K T c (tVar 5) (tVar 6)) (tVar 7)) (tMulI (tWo K (tVar 3) (tVar 7)) (tWo K (tVar 4) (tVar 7))))) tRetF tNext
abbrev tPdE (K : PySem.W.Frag) (T : List (Addr × Str)) (c : Cls5) : TS := tRet (tAndV (tEqF K c.C (tVar 5) (tF0 K T c 1 3)) (tEqF K c.C (tVar 6) (tF0 K T c 1 4)))
def tPd (K : PySem.W.Frag) (T : List (Addr × Str)) (c : Cls5) : TS := tSeq (tPar 3 4 (tCons (tDr K 0 1 3 2) (tCons (tDr K 0 1 3 2) tNil))) (tSeq (tPar 5 6 (tCons (tF0 K T c 1 3) (tCons (tF0 K T c 1 4) tNil)))
  (tSeq (tFor (iList K (tVar 2)) (gName 7) (tPdR K T c)) (tSeq (tTMs K T c 3 4 8 9 10) (tPdE K T c))))
abbrev sLa : Stmt := top 45
abbrev nLa : List Str := ["_law_script", "_law_cell_here", "_law_purse_here", "_law_width", "_law_first", "_law_second", "_law_one", "_law_other", "_law_times", "_law_rows", "_law_turn", "_law_row_here", "_law_amounts", "_law_told", "_law_some"]
theorem scLa : FnScope nLa ["_law_script"] (defScope sLa) := ⟨rfl, rfl, rfl, by decide +kernel, rfl, by decide +kernel, by decide +kernel⟩
abbrev tRw5 : TE := tCall spRo [] E0 (tCons (tVar 2) (tCons (tVar 3) (tCons (tC (.int 5)) (tCons (tC (.int 4)) tNil))))
abbrev tRws (K : PySem.W.Frag) : TE := tOp rCat (tLc (iRng1 (tCons (tC (.int 3)) tNil)) (gName 10) tYes tRw5 [10]) (tLst (tCons (tLst tNil) tNil))
abbrev tAm (K : PySem.W.Frag) (k : Int) : TE := tOp (rIxL K) (tVar 12) (tC (.int k))
abbrev taSm (K : PySem.W.Frag) (T : List (Addr × Str)) (c : Cls5) : TA := tCons (tAd K T c (tVar 6) (tVar 7)) (tCons (tSb K T c (tVar 6) (tVar 7)) (tCons (tNg1 K T c (tVar 6)) (tCons (tRi K T c (tVar 8) (tVar 6)) (tCons (tMi K T c (tVar 6) (tVar 8)) tNil))))
abbrev tT4 (K : PySem.W.Frag) (T : List (Addr × Str)) (c : Cls5) : TE := tLst (tCons (tAtE K c (tAd K T c (tVar 6) (tVar 7)) (tVar 11)) (tCons (tAtE K c (tSb K T c (tVar 6) (tVar 7)) (tVar 11)) (tCons (tAtE K c (tNg1 K T c (tVar 6)) (tVar 11)) (tCons (tAtE K c (tRi K T c (tVar 8) (tVar 6)) (tVar 11)) tNil))))
abbrev tT5 (K : PySem.W.Frag) : TE := tLst (tCons (tCB (rSum K) (tCons (tVar 12) tNil)) (tCons (tOp (rI0 fun i j => .int (i - j)) (tAm K 0) (tAm K 1)) (tCons (tOp (rI0 fun i j => .int (i - j)) (tC (.int 0)) (tAm K 0)) (tCons (tMulI (tVar 8) (tAm K 0)) (tCons (tMulI (tVar 8) (tAm K 0)) tNil)))))
def tRowB (K : PySem.W.Frag) (T : List (Addr × Str)) (c : Cls5) : TS := tSeq (tAsg (tLst (tCons (tWo K (tVar 4) (tVar 11)) (tCons (tWo K (tVar 5) (tVar 11)) tNil))) (gName 12)) (tSeq (tAsg (tT4 K T c) (gName 13))
  (tSeq (tAsg (tOp rCat (tVar 13) (tLst (tCons (tAtE K c (tMi K T c (tVar 6) (tVar 8)) (tVar 11)) tNil))) (gName 13)) (tIfS (tTest (tOp (Vf.rEqD K true) (tVar 13) (tT5 K))) tRetF tNext)))
def tSmB (K : PySem.W.Frag) (c : Cls5) : TS := tIfS (tTest (tOp rNe (tRq K (tTs K c.C (tVar 14))) (tRq K (tOd K (tTs K c.C (tVar 14)))))) tRetF tNext
abbrev tW3 : TE := tOp (rI0 fun i j => .int (i - j)) (tC (.int 3)) (tVar 3)
def spLg (K : PySem.W.Frag) (T : List (Addr × Str)) : Sp := fun vs H Q _ => ∃ (g a1 a2 : Addr) (n k : Nat) (rs1 rs2 : List Trm), vs = [.ref g, .int (n : Nat), .ref a1, .ref a2] ∧ 1 ≤ n ∧ n ≤ 2 ∧ Pu H g k ∧ k ≤ 50000 ∧ a1 ≠ g ∧ a2 ≠ g ∧ H a1 = some (.lst (rs1.map fun r => V.ref r.1)) ∧ (∀ r ∈ rs1, TmAt K H r) ∧ Tb n 4 (10 ^ 6) 3 3 (rs1.map (·.2)) ∧
  H a2 = some (.lst (rs2.map fun r => V.ref r.1)) ∧ (∀ r ∈ rs2, TmAt K H r) ∧ Tb n 4 (10 ^ 6) 3 3 (rs2.map (·.2)) ∧ LamX.Tabs T H ∧ ∀ H' k', (∀ b o, b ≠ g → (∀ ps, o ≠ .tbl ps) → H b = some o → H' b = some o) → LamX.Tabs T H' → Pu H' g k' → k' ≤ k + 100 → Q (.bl true) H'
def spPd (K : PySem.W.Frag) (T : List (Addr × Str)) : Sp := fun vs H Q _ => ∃ (g R : Addr) (n k : Nat) (ads : List Addr) (rws : List (List (List Int))), vs = [.ref g, .int (n : Nat), .ref R] ∧ 1 ≤ n ∧ n ≤ 2 ∧ Pu H g k ∧ k ≤ 50000 ∧ R ≠ g ∧ H R = some (.lst (ads.map V.ref)) ∧ Paired (fun a rw => RwAt K H a rw ∧ RwOk n rw ∧ a ≠ g) ads rws ∧ LamX.Tabs T H ∧
  ∀ H' k', (∀ b o, b ≠ g → (∀ ps, o ≠ .tbl ps) → H b = some o → H' b = some o) → LamX.Tabs T H' → Pu H' g k' → k' ≤ k + 200 → Q (.bl true) H'
abbrev tUq (K : PySem.W.Frag) (T : List (Addr × Str)) (c : Cls5) (ta tb : TE) : TE := tCall (spUn K T c.C) [] E0 (tCons ta (tCons tb tNil))
abbrev tUnit : TE := tLst (tCons (tTup (tCons (tC (.int 1)) (tCons (tTup tNil) tNil))) tNil)
def tLawE (K : PySem.W.Frag) (T : List (Addr × Str)) (c : Cls5) : TS := tSeq (tIfS (tNot (L2.tB (tCall (spLg K T) [] E0 (tCons (tVar 2) (tCons (tVar 3) (tCons (tVar 4) (tCons (tVar 5) tNil))))))) tRetF tNext) (tSeq (tIfS (tNot (L2.tB (tCall (spPd K T) [] E0 (tCons (tVar 2) (tCons (tVar 3) (tCons (tVar 9) tNil)))))) tRetF tNext)
  (tSeq (tIfS (tOr (tNot (L2.tB (tUq K T c (tVar 6) (tMk K T c tW3 tUnit)))) (tNot (L2.tB (tUq K T c (tMk K T c tW3 (tLst tNil)) (tVar 7))))) tRetF tNext) (tIfS (tTest (tNeF K c.C (tSb K T c (tVar 6) (tVar 6)) (tMk K T c (tVar 3) (tLst tNil)))) tRetF tNext)))
def tLawD (K : PySem.W.Frag) (T : List (Addr × Str)) (c : Cls5) : TS := tSeq (tFor (iList K (tVar 9)) (gName 11) (tRowB K T c)) (tSeq (tFor (iList K (tLst (taSm K T c))) (gName 14) (tSmB K c)) (tLawE K T c))
abbrev tPw : TE := tOp (rI (fun i j => 0 ≤ j ∧ (Builtin.Int.intBits i : Int) * j ≤ 2 ^ 27) fun i j => .int (i ^ j.toNat)) (tC (.int 10)) (tC (.int 19))
def tLawC (K : PySem.W.Frag) (T : List (Addr × Str)) (c : Cls5) : TS := tSeq (tPar3 6 7 8 (tCons (tF0 K T c 3 4) (tCons (tF0 K T c 3 5) (tCons (tCall spSi [] E0 (tCons (tVar 2) (tCons tPw tNil))) tNil)))) (tSeq (tAsg (tRws K) (gName 9)) (tLawD K T c))
def tLawB (K : PySem.W.Frag) (T : List (Addr × Str)) (c : Cls5) : TS := tSeq (tAsg (tCall (spPu K) [] E0 (tCons (tVar 0) (tCons (tVar 1) tNil))) (gName 2)) (tSeq (tAsg (tOp (rI0 fun i j => .int (i + j)) (tC (.int 1)) (tCall spDr [] E0 (tCons (tVar 2) (tCons (tC (.int 2)) tNil)))) (gName 3)) (tSeq (tPar 4 5 (tCons (tDr K 2 3 4 3) (tCons (tDr K 2 3 4 3) tNil))) (tLawC K T c)))
def tLaw (K : PySem.W.Frag) (T : List (Addr × Str)) (c : Cls5) : TS := tSeq (tFor (iRng1 (tCons (tC (.int 4)) tNil)) (gName 1) (tLawB K T c)) (tRet (tC (.bl true)))
section
variable {P : Program} {w : World} {K : PySem.W.Frag} {mg : Str → Option Value} {base : Heap} {T : List (Addr × Str)} {c : Cls5} {a : FmA}
theorem der_pd {fM fP fO fR fW f : Addr} {dM dP dO dR dW : FuncData} {cdv : Value} {A : Around} {outer : List Env} {s : Shared} {H : Hp} {E : XK} (N : Nm mg) (F : FmT P w K mg base T c a)
    (GM : Df P w K mg base "_law_merged" 8 ["_law_one", "_law_other"] (spMg K 7) fM dM) (GP : Df P w K mg base "_law_put" 1 ["_law_factor", "_law_words"] (spPq K) fP dP) (GO : Df P w K mg base "_law_ordered" 1 ["_law_terms_here"] (spOr K) fO dO) (GR : Df P w K mg base "_law_terms" 4 ["_law_purse_here", "_law_width", "_law_most", "_law_letters_to"] (spTr K) fR dR)
    (GW : Df P w K mg base "_law_worth" 11 ["_law_terms_here", "_law_row_here"] (spWo K) fW dW) (hr : Room 13 (A.deeper (envOfC "_law_products_right" (defScope sPd) s.heap.objs.size f cdv))) :
    PSs (cxOf CX0 P w K mg base nPd "_law_products_right" (defScope sPd) f cdv A outer s H E).nox (defBody sPd) (tPd K T c) := by
  have hu := hr.units
  have hr1 := hr.mono (show 1 ≤ 13 by decide)
  have hr2 := hr.mono (show 2 ≤ 13 by decide)
  have hr4 := hr.mono (show 4 ≤ 13 by decide)
  have hr7 := hr.mono (show 7 ≤ 13 by decide)
  have hr8 := hr.mono (show 8 ≤ 13 by decide)
  have hr9 := hr.mono (show 9 ≤ 13 by decide)
  have hr11 := hr.mono (show 11 ≤ 13 by decide)
  refine pss_cons (ps_par (i := 3) (j := 4) rfl scPd.nd rfl rfl (by decide) rfl rfl (pa_cons (pe_call GR.g hr4 rfl GR.m GR.k GR.b .nil pass0 (pa_cons (pv 0) (pa_cons (pv 1) (pa_cons pe_int (pa_cons pe_int pa_nil))))) (pa_cons (pe_call GR.g hr4 rfl GR.m GR.k GR.b .nil pass0 (pa_cons (pv 0) (pa_cons (pv 1) (pa_cons pe_int (pa_cons pe_int pa_nil))))) pa_nil)) rfl) ?_
  refine pss_cons (ps_par (i := 5) (j := 6) rfl scPd.nd rfl rfl (by decide) rfl rfl (pa_cons (pe_makeS F.mkd F.gI hr7 rfl F.ft.mg_ F.bI .nil (fun σ => passAt takes0 σ) (pa_cons (pv 1) (pa_cons (pv 3) pa_nil))) (pa_cons (pe_makeS F.mkd F.gI hr7 rfl F.ft.mg_ F.bI .nil (fun σ => passAt takes0 σ) (pa_cons (pv 1) (pa_cons (pv 4) pa_nil))) pa_nil)) rfl) ?_
  refine pss_cons (ps_for PassesOwn.never rfl (pi_list (pv 2)) (pg_name (i := 7) scPd.nd rfl (Or.inl rfl)) (pss_one (ps_if (pt_cmp (pc_neI (pe_methSD (pe_own2 (op := .Mult) F.oM.o F.oM.g hr9 F.oM.b (fun σ => passAt takes0 σ) (pv 5) (pv 6)) F.ft.cl F.mA F.gA hr F.bA (fun σ => passAt takes0 σ) (pa_cons (pv 7) pa_nil)) (pe_op op_mulX (pe_call GW.g hr11 rfl GW.m GW.k GW.b .nil pass0 (pa_cons (pv 3) (pa_cons (pv 7) pa_nil))) (pe_call GW.g hr11 rfl GW.m GW.k GW.b .nil pass0 (pa_cons (pv 4) (pa_cons (pv 7) pa_nil)))))) (pss_one (ps_ret pe_bl)) pss_nil))) ?_
  refine pss_cons (ps_for PassesOwn.never rfl (pi_list (pe_slice sl_list (pv 3) po_none (po_some pe_int))) (pg_name (i := 8) scPd.nd rfl (Or.inl rfl)) (pss_one (ps_for PassesOwn.never rfl (pi_list (pe_slice sl_list (pv 4) po_none (po_some pe_int))) (pg_name (i := 9) scPd.nd rfl (Or.inl rfl)) ?_))) ?_
  · refine pss_cons (ps_set (i := 10) scPd.nd rfl (.inl rfl) (pe_call GP.g hr1 rfl GP.m GP.k GP.b .nil pass0 (pa_cons (pe_op op_mulX (pe_ix ix_tup (pv 8) pe_int (fun _ _ => rfl)) (pe_ix ix_tup (pv 9) pe_int (fun _ _ => rfl))) (pa_cons (pe_call GM.g hr8 rfl GM.m GM.k GM.b .nil pass0 (pa_cons (pe_ix ix_tup (pv 8) pe_int (fun _ _ => rfl)) (pa_cons (pe_ix ix_tup (pv 9) pe_int (fun _ _ => rfl)) pa_nil))) pa_nil)))) ?_
    exact pss_one (ps_if (pt_cmpR (Vf.op_neD hu) (pe_meth0 (pe_own2 (op := .Mult) F.oM.o F.oM.g hr9 F.oM.b (fun σ => passAt takes0 σ) (pe_makeS F.mkd F.gI hr7 rfl F.ft.mg_ F.bI .nil (fun σ => passAt takes0 σ) (pa_cons (pv 1) (pa_cons (pe_lst (pa_cons (pv 8) pa_nil)) pa_nil))) (pe_makeS F.mkd F.gI hr7 rfl F.ft.mg_ F.bI .nil (fun σ => passAt takes0 σ) (pa_cons (pv 1) (pa_cons (pe_lst (pa_cons (pv 9) pa_nil)) pa_nil)))) F.ft.cl F.mS F.gS hr1 F.bS .nil pass0) (pe_call GO.g hr1 rfl GO.m GO.k GO.b .nil pass0 (pa_cons (pv 10) pa_nil)) (nomark _)) (pss_one (ps_ret pe_bl)) pss_nil)
  exact pss_one (ps_ret (pe_and (pe_cmpR (op_eqO F.gE hr1 F.bE F.eq.at_ F.eq.fn) (pv 5) (pe_makeS F.mkd F.gI hr7 rfl F.ft.mg_ F.bI .nil (fun σ => passAt takes0 σ) (pa_cons (pv 1) (pa_cons (pv 3) pa_nil))) (nomark _)) (pe_one (pe_cmpR (op_eqO F.gE hr1 F.bE F.eq.at_ F.eq.fn) (pv 6) (pe_makeS F.mkd F.gI hr7 rfl F.ft.mg_ F.bI .nil (fun σ => passAt takes0 σ) (pa_cons (pv 1) (pa_cons (pv 4) pa_nil))) (nomark _)))))
end
end L2.Fo

set_option exponentiation.threshold 2000
/-! # the law: its reading bears -/
namespace L2.Fo
open PySem PySem.Spec PyProof.Rows L2.Vf L2.Dw L2.Ch L2.Nk L2.Lt L2.Qs L2.Tdf RZ
section
variable {P : Program} {w : World} {K : PySem.W.Frag} {mg : Str → Option Value} {base : Heap} {T : List (Addr × Str)} {c : Cls5} {a : FmA}
/-- the defs that the law calls -/
structure LaT (P : Program) (w : World) (K : PySem.W.Frag) (mg : Str → Option Value) (base : Heap) (T : List (Addr × Str)) (c : Cls5) (fP fD fR fS fW fO fV fL fQ fU : Addr) (dP dD dR dS dW dO dV dL dQ dU : FuncData) : Prop where
  gp : Df P w K mg base "_law_purse" 1 ["_law_script", "_law_at"] (spPu K) fP dP
  gd : Df P w K mg base "_law_draw" 2 ["_law_purse_here", "_law_out_of"] spDr fD dD
  gr : Df P w K mg base "_law_terms" 4 ["_law_purse_here", "_law_width", "_law_most", "_law_letters_to"] (spTr K) fR dR
  gs : Df P w K mg base "_law_signed" 3 ["_law_purse_here", "_law_most"] spSi fS dS
  gw : Df P w K mg base "_law_worth" 11 ["_law_terms_here", "_law_row_here"] (spWo K) fW dW
  go : Df P w K mg base "_law_ordered" 1 ["_law_terms_here"] (spOr K) fO dO
  gv : Df P w K mg base "_law_row" 5 ["_law_purse_here", "_law_width", "_law_cells_to", "_law_most"] spRo fV dV
  gl : DfG P w K mg base "_law_long_right" 14 ["_law_purse_here", "_law_width", "_law_first", "_law_second"] (spLg K T) fL dL
  gq : Df P w K mg base "_law_products_right" 14 ["_law_purse_here", "_law_width", "_law_rows"] (spPd K T) fQ dQ
  gu : Df P w K mg base "_law_unlike" 10 ["_law_one", "_law_other"] (spUn K T c.C) fU dU
variable {fP fD fR fS fW fO fV fL fQ fU f : Addr} {dP dD dR dS dW dO dV dL dQ dU : FuncData} {cdv : Value} {A : Around} {outer : List Env} {s : Shared} {H : Hp} {E : XK}
theorem der_laE (N : Nm mg) (F : FmT P w K mg base T c a) (G : LaT P w K mg base T c fP fD fR fS fW fO fV fL fQ fU dP dD dR dS dW dO dV dL dQ dU)
    (hg : (A.deeper (envOfC "law" (defScope sLa) s.heap.objs.size f cdv)).guards = some []) (hr : Room 14 (A.deeper (envOfC "law" (defScope sLa) s.heap.objs.size f cdv))) {st : List Stmt} (hst : (match (defBody sLa)[0]! with | .For _ _ b _ _ => b.drop 7 | _ => []) = st) :
    PSs (cxOf CX0 P w K mg base nLa "law" (defScope sLa) f cdv A outer s H E).nox st (tLawE K T c) := by
  subst hst
  have hu := hr.units
  have hr2 := hr.mono (show 2 ≤ 14 by decide)
  have hr7 := hr.mono (show 7 ≤ 14 by decide)
  have hr9 := hr.mono (show 9 ≤ 14 by decide)
  have hr10 := hr.mono (show 10 ≤ 14 by decide)
  refine pss_cons (ps_if (pt_not (pt_val (pe_callG G.gl.g hg hr rfl G.gl.m G.gl.k G.gl.b .nil pass0 (pa_cons (pv 2) (pa_cons (pv 3) (pa_cons (pv 4) (pa_cons (pv 5) pa_nil))))))) (pss_one (ps_ret pe_bl)) pss_nil) ?_
  refine pss_cons (ps_if (pt_not (pt_val (pe_call G.gq.g hr rfl G.gq.m G.gq.k G.gq.b .nil pass0 (pa_cons (pv 2) (pa_cons (pv 3) (pa_cons (pv 9) pa_nil)))))) (pss_one (ps_ret pe_bl)) pss_nil) ?_
  refine pss_cons (ps_if (PW.pt (pw_or (pt_not (pt_val (pe_call G.gu.g hr10 rfl G.gu.m G.gu.k G.gu.b .nil pass0 (pa_cons (pv 6) (pa_cons (pe_makeS F.mkd F.gI hr7 rfl F.ft.mg_ F.bI .nil (fun σ => passAt takes0 σ) (pa_cons (pe_op op_sub pe_int (pv 3)) (pa_cons (pe_lst (pa_cons (pe_tup (pa_cons pe_int (pa_cons (pe_tup pa_nil) pa_nil))) pa_nil)) pa_nil))) pa_nil)))))
    (pw_or1 (pt_not (pt_val (pe_call G.gu.g hr10 rfl G.gu.m G.gu.k G.gu.b .nil pass0 (pa_cons (pe_makeS F.mkd F.gI hr7 rfl F.ft.mg_ F.bI .nil (fun σ => passAt takes0 σ) (pa_cons (pe_op op_sub pe_int (pv 3)) (pa_cons (pe_lst pa_nil) pa_nil))) (pa_cons (pv 7) pa_nil)))))))) (pss_one (ps_ret pe_bl)) pss_nil) ?_
  exact pss_one (ps_if (pt_cmpR (op_neO F.gE hr2 F.bE F.eq.at_ F.eq.ne F.eq.sub F.eq.fn) (pe_own2 (op := .Sub) F.oS.o F.oS.g hr9 F.oS.b (fun σ => passAt takes0 σ) (pv 6) (pv 6)) (pe_makeS F.mkd F.gI hr7 rfl F.ft.mg_ F.bI .nil (fun σ => passAt takes0 σ) (pa_cons (pv 3) (pa_cons (pe_lst pa_nil) pa_nil))) (nomark _)) (pss_one (ps_ret pe_bl)) pss_nil)
theorem pass0At {X : Cx} {E : XK} (σ : St) : PassesAt CX0 X σ E := fun pins H s e s' I h => pass0 pins σ H s e s' I h
theorem der_laD (N : Nm mg) (F : FmT P w K mg base T c a) (G : LaT P w K mg base T c fP fD fR fS fW fO fV fL fQ fU dP dD dR dS dW dO dV dL dQ dU)
    (hg : (A.deeper (envOfC "law" (defScope sLa) s.heap.objs.size f cdv)).guards = some []) (hr : Room 14 (A.deeper (envOfC "law" (defScope sLa) s.heap.objs.size f cdv))) {st : List Stmt} (hst : (match (defBody sLa)[0]! with | .For _ _ b _ _ => b.drop 5 | _ => []) = st) :
    PSs (cxOf CX0 P w K mg base nLa "law" (defScope sLa) f cdv A outer s H E).nox st (tLawD K T c) := by
  subst hst
  have hu := hr.units
  have hr1 := hr.mono (show 1 ≤ 14 by decide)
  have hr9 := hr.mono (show 9 ≤ 14 by decide)
  have hr11 := hr.mono (show 11 ≤ 14 by decide)
  have hr13 := hr.mono (show 13 ≤ 14 by decide)
  refine pss_cons (ps_for PassesOwn.never rfl (pi_list (pv 9)) (pg_name (i := 11) scLa.nd rfl (Or.inl rfl)) ?_) ?_
  · refine pss_cons (ps_set (i := 12) scLa.nd rfl (.inl rfl) (pe_lst (pa_cons (pe_call G.gw.g hr11 rfl G.gw.m G.gw.k G.gw.b .nil pass0 (pa_cons (pv 4) (pa_cons (pv 11) pa_nil))) (pa_cons (pe_call G.gw.g hr11 rfl G.gw.m G.gw.k G.gw.b .nil pass0 (pa_cons (pv 5) (pa_cons (pv 11) pa_nil))) pa_nil)))) ?_
    refine pss_cons (ps_set (i := 13) scLa.nd rfl (.inl rfl) (pe_lst (pa_cons (pe_methSD (pe_own2 (op := .Add) F.oA.o F.oA.g hr9 F.oA.b (fun σ => passAt takes0 σ) (pv 6) (pv 7)) F.ft.cl F.mA F.gA hr13 F.bA (fun σ => passAt takes0 σ) (pa_cons (pv 11) pa_nil))
      (pa_cons (pe_methSD (pe_own2 (op := .Sub) F.oS.o F.oS.g hr9 F.oS.b (fun σ => passAt takes0 σ) (pv 6) (pv 7)) F.ft.cl F.mA F.gA hr13 F.bA (fun σ => passAt takes0 σ) (pa_cons (pv 11) pa_nil))
      (pa_cons (pe_methSD (pe_ownN F.oN.o F.oN.g hr9 F.oN.b (fun σ => pass0At σ) (pv 6)) F.ft.cl F.mA F.gA hr13 F.bA (fun σ => passAt takes0 σ) (pa_cons (pv 11) pa_nil))
      (pa_cons (pe_methSD (pe_rown F.oR.o F.oJ F.oR.g hr9 F.oR.b (fun σ => pass0At σ) (pv 8) (pv 6)) F.ft.cl F.mA F.gA hr13 F.bA (fun σ => passAt takes0 σ) (pa_cons (pv 11) pa_nil)) pa_nil)))))) ?_
    refine pss_cons (ps_set (i := 13) scLa.nd rfl (.inl rfl) (pe_op op_cat (pv 13) (pe_lst (pa_cons (pe_methSD (pe_ownI (op := .Mult) F.oM.o F.oI F.oM.g hr9 F.oM.b (fun σ => passAt takes0 σ) (pv 6) (pv 8)) F.ft.cl F.mA F.gA hr13 F.bA (fun σ => passAt takes0 σ) (pa_cons (pv 11) pa_nil)) pa_nil)))) ?_
    exact pss_one (ps_if (pt_cmpR (Vf.op_neD hu) (pv 13) (pe_lst (pa_cons (pe_callB (cr_sum rfl) (by rfl) N.sum Dw.boot_sum (pa_cons (pv 12) pa_nil)) (pa_cons (pe_op op_sub (pe_ix ix_list (pv 12) pe_int (fun _ _ => rfl)) (pe_ix ix_list (pv 12) pe_int (fun _ _ => rfl))) (pa_cons (pe_op op_sub pe_int (pe_ix ix_list (pv 12) pe_int (fun _ _ => rfl))) (pa_cons (pe_op op_mulX (pv 8) (pe_ix ix_list (pv 12) pe_int (fun _ _ => rfl))) (pa_cons (pe_op op_mulX (pv 8) (pe_ix ix_list (pv 12) pe_int (fun _ _ => rfl))) pa_nil)))))) (nomark _)) (pss_one (ps_ret pe_bl)) pss_nil)
  refine pss_cons (ps_for PassesOwn.never rfl (pi_list (pe_lst (pa_cons (pe_own2 (op := .Add) F.oA.o F.oA.g hr9 F.oA.b (fun σ => passAt takes0 σ) (pv 6) (pv 7)) (pa_cons (pe_own2 (op := .Sub) F.oS.o F.oS.g hr9 F.oS.b (fun σ => passAt takes0 σ) (pv 6) (pv 7)) (pa_cons (pe_ownN F.oN.o F.oN.g hr9 F.oN.b (fun σ => pass0At σ) (pv 6))
    (pa_cons (pe_rown F.oR.o F.oJ F.oR.g hr9 F.oR.b (fun σ => pass0At σ) (pv 8) (pv 6)) (pa_cons (pe_ownI (op := .Mult) F.oM.o F.oI F.oM.g hr9 F.oM.b (fun σ => passAt takes0 σ) (pv 6) (pv 8)) pa_nil))))))) (pg_name (i := 14) scLa.nd rfl (Or.inl rfl)) (pss_one (ps_if (pt_cmpR op_ne (pe_callB (call_reprD hg hu) (by rfl) N.rep boot_repr (pa_cons (pe_meth0 (pv 14) F.ft.cl F.mS F.gS hr1 F.bS .nil pass0) pa_nil)) (pe_callB (call_reprD hg hu) (by rfl) N.rep boot_repr (pa_cons (pe_call G.go.g hr1 rfl G.go.m G.go.k G.go.b .nil pass0 (pa_cons (pe_meth0 (pv 14) F.ft.cl F.mS F.gS hr1 F.bS .nil pass0) pa_nil)) pa_nil)) (nomark _)) (pss_one (ps_ret pe_bl)) pss_nil))) ?_
  exact der_laE N F G hg hr rfl
theorem der_la (N : Nm mg) (F : FmT P w K mg base T c a) (G : LaT P w K mg base T c fP fD fR fS fW fO fV fL fQ fU dP dD dR dS dW dO dV dL dQ dU)
    (hg : (A.deeper (envOfC "law" (defScope sLa) s.heap.objs.size f cdv)).guards = some []) (hr : Room 14 (A.deeper (envOfC "law" (defScope sLa) s.heap.objs.size f cdv))) :
    PSs (cxOf CX0 P w K mg base nLa "law" (defScope sLa) f cdv A outer s H E).nox (defBody sLa) (tLaw K T c) := by
  have hr1 := hr.mono (show 1 ≤ 14 by decide)
  have hr2 := hr.mono (show 2 ≤ 14 by decide)
  have hr3 := hr.mono (show 3 ≤ 14 by decide)
  have hr4 := hr.mono (show 4 ≤ 14 by decide)
  have hr5 := hr.mono (show 5 ≤ 14 by decide)
  have hr7 := hr.mono (show 7 ≤ 14 by decide)
  refine pss_cons (ps_for PassesOwn.never rfl (pi_range1 (by rfl) N.rng (pa_cons pe_int pa_nil)) (pg_name (i := 1) scLa.nd rfl (Or.inl rfl)) ?_) (pss_one (ps_ret pe_bl))
  refine pss_cons (ps_set (i := 2) scLa.nd rfl (.inr rfl) (pe_call G.gp.g hr1 rfl G.gp.m G.gp.k G.gp.b .nil pass0 (pa_cons (pv 0) (pa_cons (pv 1) pa_nil)))) ?_
  refine pss_cons (ps_set (i := 3) scLa.nd rfl (.inr rfl) (pe_op op_add pe_int (pe_call G.gd.g hr2 rfl G.gd.m G.gd.k G.gd.b .nil pass0 (pa_cons (pv 2) (pa_cons pe_int pa_nil))))) ?_
  refine pss_cons (ps_par (i := 4) (j := 5) rfl scLa.nd rfl rfl (by decide) rfl rfl (pa_cons (pe_call G.gr.g hr4 rfl G.gr.m G.gr.k G.gr.b .nil pass0 (pa_cons (pv 2) (pa_cons (pv 3) (pa_cons pe_int (pa_cons pe_int pa_nil))))) (pa_cons (pe_call G.gr.g hr4 rfl G.gr.m G.gr.k G.gr.b .nil pass0 (pa_cons (pv 2) (pa_cons (pv 3) (pa_cons pe_int (pa_cons pe_int pa_nil))))) pa_nil)) rfl) ?_
  refine pss_cons (ps_par3 (i := 6) (j := 7) (l := 8) rfl scLa.nd rfl rfl rfl (by decide) (by decide) (by decide) rfl rfl rfl (pa_cons (pe_makeS F.mkd F.gI hr7 rfl F.ft.mg_ F.bI .nil (fun σ => passAt takes0 σ) (pa_cons (pv 3) (pa_cons (pv 4) pa_nil))) (pa_cons (pe_makeS F.mkd F.gI hr7 rfl F.ft.mg_ F.bI .nil (fun σ => passAt takes0 σ) (pa_cons (pv 3) (pa_cons (pv 5) pa_nil)))
    (pa_cons (pe_call G.gs.g hr3 rfl G.gs.m G.gs.k G.gs.b .nil pass0 (pa_cons (pv 2) (pa_cons (pe_op op_powW pe_int pe_int) pa_nil))) pa_nil))) rfl) ?_
  refine pss_cons (ps_set (i := 9) scLa.nd rfl (.inl rfl) (pe_op op_cat (pe_lc (own := [("_law_turn", 10)]) (g := gName 10) (tt := tYes) (te := tRw5) rfl scLa.nd (pi_range1 (by rfl) N.rng (pa_cons pe_int pa_nil)) (blkOk_by (N := nLa) (sc := defScope sLa) (by decide +kernel)) (fun _ _ _ _ _ => pg_name (i := 10) scLa.nd rfl (Or.inl rfl)) (fun _ _ _ _ _ => pts_nil)
    (fun _ _ _ _ _ => pe_call G.gv.g hr5 rfl G.gv.m G.gv.k G.gv.b .nil pass0 (pa_cons (pv 2) (pa_cons (pv 3) (pa_cons pe_int (pa_cons pe_int pa_nil)))))) (pe_lst (pa_cons (pe_lst pa_nil) pa_nil)))) ?_
  exact der_laD N F G hg hr rfl
end
end L2.Fo

set_option exponentiation.threshold 2000
/-! # the product of a first term and a first term -/
namespace L2.Fo
open PySem PySem.Spec PyProof.Rows L2.Vf L2.Dw L2.Ch L2.Nk L2.Lt L2.Qs L2.Tdf RZ
theorem for1_ {K : PySem.W.Frag} {te : TE} {g : TG} {tbo : TS} {D : Ends} {σ : St} {H : Hp} (h : te σ H fun x H1 => ∃ a, x = .ref a ∧ (∃ xs, SqL K H1 a xs) ∧ ∃ W : Nat → Nat → St → Hp → Prop, (∃ m, W 0 m σ H1) ∧ ∀ i m σ H, W i m σ H →
    ((Itl K a).stop i H ∧ D.nx σ H) ∨ ((Itl K a).go i H ∧ ∃ N : St → Hp → Prop, (∀ σ' H', N σ' H' → ∃ m', m' < m ∧ W (i + 1) m' σ' H') ∧ ∀ x H', (Itl K a).yld i H x H' → g x σ H' fun σ2 H2 => tbo { D with nx := N, ct := N, bk := D.nx } σ2 H2)) : tFor (iList K te) g tbo D σ H := h
/-- slots that the loops write, slots that stay -/
structure Slt3 (mk : Option V → Option V → Option V → St) (f s t m d : Nat) (n : Nat) (a1 a2 : Addr) : Prop where
  wt : ∀ x y z v, (mk x y z).set t v = mk v y z
  wm : ∀ x y z v, (mk x y z).set m v = mk x v z
  wd : ∀ x y z v, (mk x y z).set d v = mk x y v
  rt : ∀ x y z, (mk x y z)[t]? = some x
  rm : ∀ x y z, (mk x y z)[m]? = some y
  rd : ∀ x y z, (mk x y z)[d]? = some z
  rw : ∀ x y z, (mk x y z)[1]? = some (some (.int (n : Nat)))
  rf : ∀ x y z, (mk x y z)[f]? = some (some (.ref a1))
  rs : ∀ x y z, (mk x y z)[s]? = some (some (.ref a2))
section
variable {K : PySem.W.Frag} {T : List (Addr × Str)} {c : Cls5} {mg : Str → Option Value} {fE : Addr} {mk : Option V → Option V → Option V → St} {f s t m d n : Nat} {a1 a2 : Addr} {H : Hp} {D : Ends} {x y z : Option V}
theorem tdAll {n m c d e : Nat} {us : List (Int × Wd)} (h : Tb n m c d e us) : (us.map dTrm).all (termD n) = true := by
  rw [List.all_eq_true]
  intro dd hd
  obtain ⟨t, ht, rfl⟩ := List.mem_map.mp hd
  show (isI (.int t.1) && (t.2.map dLine).all (letD n)) = true
  rw [Bool.and_eq_true]
  refine ⟨rfl, ?_⟩
  rw [List.all_eq_true]
  intro dd hd
  obtain ⟨l, hl, rfl⟩ := List.mem_map.mp hd
  have hl := (h.2 t ht).2.2 l hl
  show (((l.map PyData.int).length == n && (l.map PyData.int).all isI) && (l.map PyData.int).all nonD) = true
  rw [Bool.and_eq_true, Bool.and_eq_true]
  refine ⟨⟨by rw [List.length_map, hl.1]; simp, ?_⟩, ?_⟩
  · rw [List.all_eq_true]
    intro d hd
    obtain ⟨i, _, rfl⟩ := List.mem_map.mp hd
    rfl
  · rw [List.all_eq_true]
    intro d hd
    obtain ⟨i, hi, rfl⟩ := List.mem_map.mp hd
    exact decide_eq_true (hl.2 i hi).1
theorem Tb.one {n m c d e : Nat} {us : List (Int × Wd)} {u : Int × Wd} (h : Tb n m c d e us) (hu : u ∈ us) : Tb n 1 c d e [u] := ⟨Nat.le_refl _, fun v hv => by rw [List.mem_singleton.mp hv]; exact h.2 u hu⟩
theorem Tb.take {n m c d e k : Nat} {us : List (Int × Wd)} (h : Tb n m c d e us) : Tb n k c d e (us.take k) := ⟨by rw [List.length_take]; omega, fun v hv => h.2 v (List.mem_of_mem_take hv)⟩
theorem tm_run {r r2 : Trm} (FT : FoT K mg c.C) (I : IsT K c.C) (EQ : EqT K c.C fE) (S : Slt3 mk f s t m d n a1 a2) (n1 : 1 ≤ n) (n2 : n ≤ 2) (hT : LamX.Tabs T H) (hr : TmAt K H r) (hr2 : TmAt K H r2) (b1 : Tb n 1 (10 ^ 6) 3 3 [r.2]) (b2 : Tb n 1 (10 ^ 6) 3 3 [r2.2])
    (q : ∀ z H', LamX.ExtN H H' → LamX.Tabs T H' → D.nx (mk (some (.ref r.1)) (some (.ref r2.1)) z) H') : tTM K T c t m d D (mk (some (.ref r.1)) (some (.ref r2.1)) z) H := by
  obtain ⟨k1, g1, g2⟩ := id hr
  obtain ⟨k2, g3, g4⟩ := id hr2
  obtain ⟨c1, c2, c3⟩ := b1.2 _ List.mem_cons_self
  obtain ⟨e1, e2, e3⟩ := b2.2 _ List.mem_cons_self
  have wn := wid_yes n1 n2
  unfold tTM
  refine asg_ (call_ (cons_ (op_ (op_ ⟨_, S.rt _ _ _, r.1, _, 0, .int r.2.1, rfl, rfl, g1, rfl, op_ ⟨_, S.rm _ _ _, r2.1, _, 0, .int r2.2.1, rfl, rfl, g3, rfl, r.2.1, r2.2.1, rfl, rfl, ?_, ?_⟩⟩))))
  · exact mulX (a := 20) (b := 20) (Nat.le_trans c1 (by decide)) (Nat.le_trans e1 (by decide)) (by decide)
  refine cons_ (call_ (cons_ (op_ ⟨_, S.rt _ _ _, r.1, _, 1, .ref k1, rfl, rfl, g1, rfl, cons_ (op_ ⟨_, S.rm _ _ _, r2.1, _, 1, .ref k2, rfl, rfl, g3, rfl, ?_⟩)⟩)))
  have hl : (sh r.2.2 r2.2.2).length ≤ 3 ^ 6 := Nat.le_trans (sh_len _ _) (Nat.pow_le_pow_right (by decide) (by omega))
  refine ⟨k1, k2, r.2.2, r2.2.2, rfl, g2, g4, (by show r.2.2.length + r2.2.2.length ≤ 6; omega), (by show 6 ≤ 12; decide), fun l h => by rw [(c3 l h).1]; omega, fun L H1 hL s1 wl => ?_⟩
  refine ⟨r.2.1 * r2.2.1, L, sh r.2.2 r2.2.2, rfl, wl, Nat.lt_of_le_of_lt hl (by rw [sizeLine_eq]; decide), fun D1 ds H2 hD1 s2 eD tmD eq => ?_⟩
  have s12 := s1.trans s2
  have hT2 := hT.ext s12
  show tIfS _ _ _ _ ((mk (some (.ref r.1)) (some (.ref r2.1)) z).set d (some (.ref D1))) H2
  rw [S.wd]
  refine if_ (ls_ne (us := together (mulT (together [r.2]) (together [r2.2]))) ?_ ?_ hT2 fun H3 x3 T3 => iteF (q _ H3 (extN_trans (.of s12) x3) T3))
  · have t1 := b1.tog
    have t2 := b2.tog
    have mo := Tb.mo (n' := n) t1 t2 (n2 := n2)
    have tm := t1.mul t2
    refine LS.ts (FS.ml (d := 3 + 3) (FS.mk (IS.var (S.rw _ _ _)) (LS.one (S.rt _ _ _) (hr.ext (.of s12))) wn (tdAll b1) (by show 1 < sizeLine; decide)) (FS.mk (IS.var (S.rw _ _ _)) (LS.one (S.rm _ _ _) (hr2.ext (.of s12))) wn (tdAll b2) (by show 1 < sizeLine; decide)) wn mo ?_)
    exact Nat.lt_of_le_of_lt tm.1 (by rw [sizeLine_eq]; decide)
  · have nd : (((sumsOf ((sh r.2.2 r2.2.2).map fun k => (r.2.1 * r2.2.1, k))).map swp).map (·.2)).Nodup := by
      have := sums_nodup ((sh r.2.2 r2.2.2).map fun k => (r.2.1 * r2.2.1, k))
      rw [List.map_map]
      exact this
    have hz : ((sumsOf ((sh r.2.2 r2.2.2).map fun k => (r.2.1 * r2.2.1, k))).map swp).length < sizeLine := by
      rw [List.length_map]
      refine Nat.lt_of_le_of_lt (sums_len _) ?_
      rw [List.length_map]
      exact Nat.lt_of_le_of_lt hl (by rw [sizeLine_eq]; decide)
    refine (LS.od (LS.var (S.rd _ _ _) eD tmD eq) nd hz).to ?_
    rw [ord_sums, one_mul]
theorem take_mem {rs rs1 : List Trm} {us : List (Int × Wd)} {k : Nat} (e1 : rs1.map (·.2) = us.take k) {r : Trm} (hr : r ∈ rs1) : r.2 ∈ us := by
  have : r.2 ∈ rs1.map (·.2) := List.mem_map.mpr ⟨r, hr, rfl⟩
  rw [e1] at this
  exact List.mem_of_mem_take this
/-- the two loops over the first terms -/
theorem tms_run {rs1 rs2 : List Trm} {M1 M2 : Nat} (FT : FoT K mg c.C) (I : IsT K c.C) (EQ : EqT K c.C fE) (S : Slt3 mk f s t m d n a1 a2) (n1 : 1 ≤ n) (n2 : n ≤ 2) (hT : LamX.Tabs T H) (h1 : H a1 = some (.lst (rs1.map fun r => V.ref r.1))) (t1 : ∀ r ∈ rs1, TmAt K H r) (b1 : Tb n M1 (10 ^ 6) 3 3 (rs1.map (·.2)))
    (h2 : H a2 = some (.lst (rs2.map fun r => V.ref r.1))) (t2 : ∀ r ∈ rs2, TmAt K H r) (b2 : Tb n M2 (10 ^ 6) 3 3 (rs2.map (·.2))) (q : ∀ x y z H', LamX.ExtN H H' → LamX.Tabs T H' → D.nx (mk x y z) H') : tTMs K T c f s t m d D (mk x y z) H := by
  unfold tTMs
  refine for1_ ((LS.sl (T := T) (k := 1) (S.rf _ _ _) h1 t1 rfl) H (ext_refl _) hT _ fun p1 ps1 H1 e1 T1 ep1 tp1 ed1 => ⟨p1, rfl, ⟨_, SqL.of ep1⟩, ?_⟩)
  refine for_list (D := D) (K := K) (xs := ps1.map fun r => V.ref r.1) (fun k σ H' => (∃ x y z, σ = mk x y z) ∧ LamX.ExtN H1 H' ∧ LamX.Tabs T H') ⟨⟨_, _, _, rfl⟩, ext_refl _, T1⟩ (fun k σ H' _ hP => SqL.of (lst_ext ep1 hP.2.1)) (fun k v σ H2 hx hP => ?_) fun σ H2 hP => ?_
  · obtain ⟨⟨x2, y2, z2, rfl⟩, e2, T2⟩ := hP
    rw [List.getElem?_map] at hx
    obtain ⟨r, hr, rfl⟩ := Option.map_eq_some_iff.mp hx
    have hr := List.mem_of_getElem? hr
    have er := (tp1 r hr).ext e2
    have br := b1.one (take_mem (rs := rs1) ed1 hr)
    have e02 := extN_trans e1 e2
    show tFor _ _ _ _ ((mk x2 y2 z2).set t (some (.ref r.1))) H2
    rw [S.wt]
    refine for1_ ((LS.sl (T := T) (k := 1) (S.rs _ _ _) (lst_ext h2 e02) (fun r hr => (t2 r hr).ext e02) rfl) H2 (ext_refl _) T2 _ fun p2 ps2 H3 e3 T3 ep2 tp2 ed2 => ⟨p2, rfl, ⟨_, SqL.of ep2⟩, ?_⟩)
    refine for_list (K := K) (xs := ps2.map fun r => V.ref r.1) (fun k σ H' => (∃ y z, σ = mk (some (.ref r.1)) y z) ∧ LamX.ExtN H3 H' ∧ LamX.Tabs T H') ⟨⟨_, _, rfl⟩, ext_refl _, T3⟩ (fun k σ H' _ hP => SqL.of (lst_ext ep2 hP.2.1)) (fun k v σ H4 hx hP => ?_) fun σ H4 hP => ?_
    · obtain ⟨⟨y3, z3, rfl⟩, e4, T4⟩ := hP
      rw [List.getElem?_map] at hx
      obtain ⟨r2, hr2, rfl⟩ := Option.map_eq_some_iff.mp hx
      have hr2 := List.mem_of_getElem? hr2
      show tTM K T c t m d _ ((mk (some (.ref r.1)) y3 z3).set m (some (.ref r2.1))) H4
      rw [S.wm]
      exact tm_run FT I EQ S n1 n2 T4 (er.ext (extN_trans e3 e4)) ((tp2 r2 hr2).ext e4) br (b2.one (take_mem (rs := rs2) ed2 hr2)) fun z H5 e5 T5 => ⟨⟨_, _, rfl⟩, extN_trans e4 e5, T5⟩
    · obtain ⟨⟨y3, z3, rfl⟩, e4, T4⟩ := hP
      exact ⟨⟨_, _, _, rfl⟩, extN_trans e2 (extN_trans e3 e4), T4⟩
  · obtain ⟨⟨x2, y2, z2, rfl⟩, e2, T2⟩ := hP
    exact q x2 y2 z2 H2 (extN_trans e1 e2) T2
end
end L2.Fo

set_option exponentiation.threshold 2000
/-! # what stays while the purse is drawn from; products of long words, promised -/
namespace L2.Fo
open PySem PySem.Spec PyProof.Rows L2.Vf L2.Dw L2.Ch L2.Nk L2.Lt L2.Qs L2.Tdf RZ
section
variable {K : PySem.W.Frag} {T : List (Addr × Str)} {C g : Addr} {H H1 H' : Hp} {gl : List V}
theorem keepN_ext (e : LamX.ExtN H H') : KeepN g H H' := fun b o _ ho h => e b o h ho
theorem keepN_keep (k : Keep g H H') : KeepN g H H' := fun b o hb _ h => k b o hb h
theorem keepN_trans (a : KeepN g H H1) (b : KeepN g H1 H') : KeepN g H H' := fun x o hx ho h => b x o hx ho (a x o hx ho h)
theorem foAt_keep {p n D : Nat} {us : List (Int × Wd)} (h : FoAt K C H p n us D) (eg : H g = some (.lst gl)) (ne : D ≠ g) (k : Keep g H H') : FoAt K C H' p n us D := by
  obtain ⟨dx, rs, h1, h2, h3, h4⟩ := h
  exact ⟨dx, rs, k _ _ (fun z => by rw [z, eg] at h1; cases h1) h1, k _ _ ne h2, fun r hr => tmAt_keep (h3 r hr) eg k, h4⟩
theorem pu_ext {k : Nat} (p : Pu H g k) (e4 : LamX.ExtN H H') : Pu H' g k := by
  obtain ⟨x, y, z, e, h1, h2, h3, h4⟩ := p
  exact ⟨x, y, z, e4 _ _ e (fun ps w => by cases w), h1, h2, h3, h4⟩
theorem newN_ne {D : Nat} (h : NewN H D) (eg : H g = some (.lst gl)) : D ≠ g := fun z => by
  obtain ⟨ps, e⟩ := h _ (z ▸ eg)
  cases e
theorem rows_of {n : Nat} {m : Int} (hm : m.natAbs ≤ 2 ^ 64) : ∀ {xs : List V}, (∀ v ∈ xs, RCell n m v H) → ∃ (cs : List Addr) (rows : List (List Int)), xs = cs.map V.ref ∧ Paired (fun c l => SqT K H c (l.map V.int)) cs rows ∧ ∀ l ∈ rows, l.length = n ∧ PaOk l
  | [], _ => ⟨[], [], rfl, .nil, fun l hl => absurd hl (by simp)⟩
  | v :: xs, h => by
    obtain ⟨cs, rows, e, p, q⟩ := rows_of hm (xs := xs) fun v hv => h v (List.mem_cons_of_mem _ hv)
    obtain ⟨a, l, e1, e2, e3, e4⟩ := h v List.mem_cons_self
    refine ⟨a :: cs, l :: rows, by rw [e1, e]; rfl, .cons (SqT.of e4) p, fun l' hl' => ?_⟩
    rcases List.mem_cons.mp hl' with rfl | hl'
    · exact ⟨e2, fun x hx => by have := e3 x hx; omega⟩
    · exact q l' hl'
end
section
variable {K : PySem.W.Frag} {T : List (Addr × Str)} {C : Addr} {c : Cls5} {σ : St} {H H' : Hp} {b b2 : Bool} {t t1 t2 te : TE} {n i : Nat} {us us2 : List (Int × Wd)} {v v2 : V} {D : Ends} {w : TS} {Q : VK} {sp : Sp}
theorem IS.to (h : IS T σ H t v) (e : v = v2) : IS T σ H t v2 := e ▸ h
theorem seqAug_ (h : tOwn2 C sp (WE WF) (tVar i) te σ H fun z H2 => w D (σ.set i (some z)) H2) : tSeq (tAug i te (rOwnIn C sp)) w D σ H := h
theorem ne_forms {mg : Str → Option Value} {fE : Addr} {Qb : Bool → Hp → Prop} (FT : FoT K mg C) (I : IsT K C) (EQ : EqT K C fE) (h1 : FS K T C σ H b t1 n us) (h2 : FS K T C σ H b2 t2 n us) (hT : LamX.Tabs T H) (q : ∀ H', LamX.ExtN H H' → LamX.Tabs T H' → Qb false H') : tTest (tNeF K C t1 t2) σ H Qb :=
  testV_ (fs_cmp (g := fun b => .bl (!b)) FT I EQ h1 h2 hT fun H' e T' => ⟨_, rfl, q H' e T'⟩)
theorem or_ff {Qb : Bool → Hp → Prop} {x y : TT} (h : ∀ R : Bool → Hp → Prop, (∀ H', LamX.ExtN H H' → LamX.Tabs T H' → R false H') → x σ H R) (h2 : ∀ H', LamX.ExtN H H' → LamX.Tabs T H' → y σ H' Qb) : tOr x y σ H Qb :=
  or_ (h _ fun H' e T' => if_f rfl (h2 H' e T'))
end
theorem atW_abs {n : Nat} {us : List (Int × Wd)} {rows : List (List Int)} (h : TmOk n us) (ro : RwOk n rows) : (atW us rows).natAbs ≤ 2 ^ (220 + 777 * 8) :=
  tv_abs2 ro.1 (wOf_abs ro) (Nat.le_trans h.1 (by decide)) (fun t ht => ⟨(h.2 t ht).1, (h.2 t ht).2.1⟩) 0
/-- taken away again -/
theorem back_sub (A B : List (Int × Wd)) : together (together (together A ++ together B) ++ timesT (-1) (together B)) = together A := by
  refine together_eq fun k => ?_
  rw [coef_app, coef_together, coef_app, coef_times, coef_together, coef_together]
  omega
theorem ord_tog (X : List (Int × Wd)) : ordT (together X) = together X := by rw [ordT_eq (nodup_together X), tog_idem]
end L2.Fo

set_option exponentiation.threshold 2000
/-! # products of long words, promised -/
namespace L2.Fo
open PySem PySem.Spec PyProof.Rows L2.Vf L2.Dw L2.Ch L2.Nk L2.Lt L2.Qs L2.Tdf RZ
abbrev sg (g a1 a2 : Addr) (n : Nat) (x y z p1 p2 r pb pf : Option V) : St := [some (.ref g), some (.int (n : Nat)), some (.ref a1), some (.ref a2), x, y, z, p1, p2, r, pb, pf]
section
variable {K : PySem.W.Frag} {T : List (Addr × Str)} {c : Cls5} {mg : Str → Option Value} {fE : Addr} {H : Hp} {D : Ends} {n a1 a2 g p1 p2 r D1 D2 : Nat} {rs1 rs2 : List Trm} {rows : List (List Int)} {x y z : Option V}
/-- what stands when the products are asked -/
structure LgC (K : PySem.W.Frag) (T : List (Addr × Str)) (C : Addr) (H : Hp) (n : Nat) (a1 a2 p1 p2 D1 D2 r : Addr) (rs1 rs2 : List Trm) (rows : List (List Int)) : Prop where
  n1 : 1 ≤ n
  n2 : n ≤ 2
  e1 : H a1 = some (.lst (rs1.map fun r => V.ref r.1))
  t1 : ∀ r ∈ rs1, TmAt K H r
  b1 : Tb n 4 (10 ^ 6) 3 3 (rs1.map (·.2))
  e2 : H a2 = some (.lst (rs2.map fun r => V.ref r.1))
  t2 : ∀ r ∈ rs2, TmAt K H r
  b2 : Tb n 4 (10 ^ 6) 3 3 (rs2.map (·.2))
  f1 : FoAt K C H p1 n (together ((rs1.map (·.2)).take 2)) D1
  f2 : FoAt K C H p2 n (together ((rs2.map (·.2)).take 2)) D2
  rw : RwAt K H r rows
  ro : RwOk n rows
  hT : LamX.Tabs T H
theorem lgB (FT : FoT K mg c.C) (I : IsT K c.C) (EQ : EqT K c.C fE) (h : LgC K T c.C H n a1 a2 p1 p2 D1 D2 r rs1 rs2 rows) (q : ∀ H', LamX.ExtN H H' → LamX.Tabs T H' → D.rt (.bl true) H') : tLgB K T c D (sg g a1 a2 n x y z (some (.ref p1)) (some (.ref p2)) (some (.ref r)) none none) H := by
  obtain ⟨n1, n2, e1, t1, b1, e2, t2, b2, f1, f2, rw_, ro, hT⟩ := h
  have wn := wid_yes n1 n2
  generalize hA : (rs1.map (·.2)).take 2 = A at *
  generalize hB : (rs2.map (·.2)).take 2 = B at *
  have bA : Tb n 2 (10 ^ 6) 3 3 A := hA ▸ b1.take
  have bB : Tb n 2 (10 ^ 6) 3 3 B := hB ▸ b2.take
  have tA := bA.tog
  have tB := bB.tog
  have tM := tA.mul tB
  have mo := Tb.mo tA tB (n2 := n2)
  have zM : (mulT (together A) (together B)).length < sizeLine := Nat.lt_of_le_of_lt tM.1 (by rw [sizeLine_eq]; decide)
  have zS : (together A ++ together B).length < sizeLine := Nat.lt_of_le_of_lt (tA.app tB).1 (by rw [sizeLine_eq]; decide)
  unfold tLgB
  -- both
  refine asg_ (FS.ml (d := 3 + 3) (FS.var rfl f1) (FS.var rfl f2) wn mo zM H (ext_refl _) hT _ fun pb Db H1 x1 T1 _ fb => ?_)
  show tSeq (tIfS _ tRetF tNext) _ D (sg g a1 a2 n x y z (some (.ref p1)) (some (.ref p2)) (some (.ref r)) (some (.ref pb)) none) H1
  have LA : ∀ {σ : St} {H2 : Hp}, σ[2]? = some (some (.ref a1)) → LamX.ExtN H H2 → LS K T σ H2 (tTk K 2 2) A := fun hi e => hA ▸ LS.sl (k := 2) hi (lst_ext e1 e) (fun r hr => (t1 r hr).ext e) rfl
  have LB : ∀ {σ : St} {H2 : Hp}, σ[3]? = some (some (.ref a2)) → LamX.ExtN H H2 → LS K T σ H2 (tTk K 3 2) B := fun hi e => hB ▸ LS.sl (k := 2) hi (lst_ext e2 e) (fun r hr => (t2 r hr).ext e) rfl
  have okA := bA.ok n2
  have okB := bB.ok n2
  have eW : atW (together (mulT (together A) (together B))) rows = atW A rows * atW B rows := by rw [atW_together, atW_mul rows tA tB n2, atW_together, atW_together]
  have zl4 : 4 < sizeLine := by decide
  refine seqIf_ (b_ (is_neI ((IS.at_ (FS.var rfl fb) rfl (rwAt_ext rw_ x1) ro (tM.tog.ok n2)).to (congrArg V.int eW)) (IS.op (IS.wo (LA rfl x1) rfl (rwAt_ext rw_ x1) ro okA) (IS.wo (LB rfl x1) rfl (rwAt_ext rw_ x1) ro okB) fun H Q q => ⟨_, _, rfl, rfl, mulX (atW_abs okA ro) (atW_abs okB ro) (by decide), q⟩) T1 fun H2 x2 T2 => ⟨_, rfl, iteF ?_⟩))
  -- found
  have x02 := extN_trans x1 x2
  show tLgC K T c D (sg g a1 a2 n x y z (some (.ref p1)) (some (.ref p2)) (some (.ref r)) (some (.ref pb)) none) H2
  unfold tLgC
  refine asg_ ⟨_, rfl, ?_⟩
  refine seqAug_ (FS.ad (FS.var (i := 11) rfl (foAt_ext f1 x02)) (FS.var rfl (foAt_ext f2 x02)) wn zS H2 (ext_refl _) T2 _ fun pf Df H3 x3 T3 _ ff => ?_)
  have x03 := extN_trans x02 x3
  show tSeq (tIfS _ tRetF tNext) _ D (sg g a1 a2 n x y z (some (.ref p1)) (some (.ref p2)) (some (.ref r)) (some (.ref pb)) (some (.ref pf))) H3
  have mk1 : ∀ {σ : St} {H2 : Hp}, σ[1]? = some (some (.int (n : Nat))) → σ[2]? = some (some (.ref a1)) → LamX.ExtN H H2 → FS K T c.C σ H2 true (tF2 K T c 2) n (together A) := fun h1 hi e => FS.mk (IS.var h1) (LA hi e) wn (tdAll bA) (Nat.lt_of_le_of_lt bA.1 (by decide))
  have mk2 : ∀ {σ : St} {H2 : Hp}, σ[1]? = some (some (.int (n : Nat))) → σ[3]? = some (some (.ref a2)) → LamX.ExtN H H2 → FS K T c.C σ H2 true (tF2 K T c 3) n (together B) := fun h1 hi e => FS.mk (IS.var h1) (LB hi e) wn (tdAll bB) (Nat.lt_of_le_of_lt bB.1 (by decide))
  refine seqIf_ (or_ (ne_forms FT I EQ (FS.var rfl ff) (FS.ad (FS.var rfl (foAt_ext f1 x03)) (FS.var rfl (foAt_ext f2 x03)) wn zS) T3 fun H4 x4 T4 => if_f rfl ?_))
  have x04 := extN_trans x03 x4
  refine or_ (ne_forms FT I EQ (FS.var rfl (foAt_ext f1 x04)) (mk1 rfl rfl x04) T4 fun H5 x5 T5 => if_f rfl ?_)
  have x05 := extN_trans x04 x5
  refine ne_forms FT I EQ (FS.var rfl (foAt_ext f2 x05)) (mk2 rfl rfl x05) T5 fun H6 x6 T6 => iteF ?_
  have x06 := extN_trans x05 x6
  show tLgD K T c D (sg g a1 a2 n x y z (some (.ref p1)) (some (.ref p2)) (some (.ref r)) (some (.ref pb)) (some (.ref pf))) H6
  unfold tLgD
  have tS := (tA.app tB).tog
  have zN : (together (together A ++ together B) ++ timesT (-1) (together B)).length < sizeLine := by
    have h1 := tS.1
    have h2 := (tB.times (k := -1) (c' := 1) (by decide)).1
    rw [List.length_append, sizeLine_eq]
    omega
  refine seqAug_ ((FS.sb (FS.var (i := 11) rfl (foAt_ext ff (extN_trans x4 (extN_trans x5 x6)))) (FS.var rfl (foAt_ext f2 x06)) wn (Tb.c400 tB) zN).to (back_sub A B) H6 (ext_refl _) T6 _ fun pf Df H7 x7 T7 _ ff => ?_)
  have x07 := extN_trans x06 x7
  show tSeq (tIfS _ tRetF tNext) _ D (sg g a1 a2 n x y z (some (.ref p1)) (some (.ref p2)) (some (.ref r)) (some (.ref pb)) (some (.ref pf))) H7
  refine seqIf_ (ne_forms FT I EQ (FS.var rfl ff) (FS.var rfl (foAt_ext f1 x07)) T7 fun H8 x8 T8 => iteF ?_)
  have x08 := extN_trans x07 x8
  show tLgE K T c D (sg g a1 a2 n x y z (some (.ref p1)) (some (.ref p2)) (some (.ref r)) (some (.ref pb)) (some (.ref pf))) H8
  unfold tLgE
  refine seqAug_ (FS.ml (d := 3 + 3) (FS.var (i := 11) rfl (foAt_ext ff x8)) (FS.var rfl (foAt_ext f2 x08)) wn mo zM H8 (ext_refl _) T8 _ fun pf Df H9 x9 T9 _ ff => ?_)
  have x09 := extN_trans x08 x9
  show tSeq (tIfS _ tRetF tNext) _ D (sg g a1 a2 n x y z (some (.ref p1)) (some (.ref p2)) (some (.ref r)) (some (.ref pb)) (some (.ref pf))) H9
  refine seqIf_ (or_ (ne_forms FT I EQ (FS.var rfl ff) (FS.ml (d := 3 + 3) (FS.var rfl (foAt_ext f1 x09)) (FS.var rfl (foAt_ext f2 x09)) wn mo zM) T9 fun H10 x10 T10 => if_f rfl ?_))
  have x010 := extN_trans x09 x10
  refine ne_forms FT I EQ (FS.var rfl (foAt_ext f1 x010)) (mk1 rfl rfl x010) T10 fun H11 x11 T11 => iteF ?_
  have x011 := extN_trans x010 x11
  have fb2 := foAt_ext fb (extN_trans x2 (extN_trans x3 (extN_trans x4 (extN_trans x5 (extN_trans x6 (extN_trans x7 (extN_trans x8 (extN_trans x9 (extN_trans x10 x11)))))))))
  have wr : ∀ as, Wr (.list ((together (mulT (together A) (together B))).map dTrm)) as := fun as => tM.tog.wr n2
  have zT : (together (mulT (together A) (together B))).length < sizeLine := Nat.lt_of_le_of_lt (together_len _) zM
  refine ret_ (is_strs (IS.rq (LS.ts (FS.var rfl fb2)) wr) (IS.rq ((LS.od (LS.ts (FS.var rfl fb2)) (nodup_together _) zT).to (ord_tog _)) wr) T11 fun H12 x12 T12 => ⟨rfl, ?_⟩)
  rw [decide_eq_true rfl]
  exact q H12 (extN_trans x011 x12) T12
end
end L2.Fo

set_option exponentiation.threshold 2000
/-! # products of long words, of short words: promised -/
namespace L2.Fo
open PySem PySem.Spec PyProof.Rows L2.Vf L2.Dw L2.Ch L2.Nk L2.Lt L2.Qs L2.Tdf RZ
theorem par3_ {i j l : Nat} {ta : TA} {w : TS} {D : Ends} {σ : St} {H : Hp} (h : ta σ H fun vs H1 => ∃ u v x, vs = [u, v, x] ∧ w D (((σ.set i (some u)).set j (some v)).set l (some x)) H1) : tSeq (tPar3 i j l ta) w D σ H := h
theorem par_ {i j : Nat} {ta : TA} {w : TS} {D : Ends} {σ : St} {H : Hp} (h : ta σ H fun vs H1 => ∃ u v, vs = [u, v] ∧ w D ((σ.set i (some u)).set j (some v)) H1) : tSeq (tPar i j ta) w D σ H := h
section
variable {P : Program} {w : World} {K : PySem.W.Frag} {mg : Str → Option Value} {base : Heap} {T : List (Addr × Str)} {c : Cls5} {a : FmA}
theorem ok_lg {fM fP fO fR fW f : Addr} {dM dP dO dR dW fd : FuncData} (Fn : Fun K "_law_long_right" "_law_long_right" sLg f fd) (N : Nm mg) (F : FmT P w K mg base T c a)
    (GM : Df P w K mg base "_law_merged" 8 ["_law_one", "_law_other"] (spMg K 7) fM dM) (GP : Df P w K mg base "_law_put" 1 ["_law_factor", "_law_words"] (spPq K) fP dP) (GO : Df P w K mg base "_law_ordered" 1 ["_law_terms_here"] (spOr K) fO dO) (GR : Df P w K mg base "_law_row" 5 ["_law_purse_here", "_law_width", "_law_cells_to", "_law_most"] spRo fR dR)
    (GW : Df P w K mg base "_law_worth" 11 ["_law_terms_here", "_law_row_here"] (spWo K) fW dW) : FnG P w K mg base CX0 14 f fd ["_law_purse_here", "_law_width", "_law_first", "_law_second"] (spLg K T) := by
  refine okG Fn scLg (fun vs H Q E h => ?_) fun cdv A outer s H vs Q E hg hr h => ?_
  · obtain ⟨g, a1, a2, n, k, rs1, rs2, rfl, _⟩ := h
    rfl
  · obtain ⟨g, a1, a2, n, k, rs1, rs2, rfl, n1, n2, pu, hk, ne1, ne2, e1, t1, b1, e2, t2, b2, hT, q⟩ := h
    refine ⟨tLg_ K T c, der_lg N F GM GP GO GR GW hg hr, ?_⟩
    have wn := wid_yes n1 n2
    unfold tLg_
    show tTMs K T c 2 3 4 5 6 _ (sg g a1 a2 n none none none none none none none none) H
    refine tms_run (mk := fun x y z => sg g a1 a2 n x y z none none none none none) F.ft F.is_ F.eq ⟨fun _ _ _ _ => rfl, fun _ _ _ _ => rfl, fun _ _ _ _ => rfl, fun _ _ _ => rfl, fun _ _ _ => rfl, fun _ _ _ => rfl, fun _ _ _ => rfl, fun _ _ _ => rfl, fun _ _ _ => rfl⟩ n1 n2 hT e1 t1 b1 e2 t2 b2 fun x y z H1 x1 T1 => ?_
    have LA : ∀ {H2 : Hp}, LamX.ExtN H H2 → LS K T (sg g a1 a2 n x y z none none none none none) H2 (tTk K 2 2) ((rs1.map (·.2)).take 2) := fun e => LS.sl (k := 2) rfl (lst_ext e1 e) (fun r hr => (t1 r hr).ext e) rfl
    have LB : ∀ {H2 : Hp}, LamX.ExtN H H2 → LS K T (sg g a1 a2 n x y z none none none none none) H2 (tTk K 3 2) ((rs2.map (·.2)).take 2) := fun e => LS.sl (k := 2) rfl (lst_ext e2 e) (fun r hr => (t2 r hr).ext e) rfl
    have bA : Tb n 2 (10 ^ 6) 3 3 ((rs1.map (·.2)).take 2) := b1.take
    have bB : Tb n 2 (10 ^ 6) 3 3 ((rs2.map (·.2)).take 2) := b2.take
    show tSeq (tPar3 7 8 9 (tLg2 K T c)) (tLgB K T c) _ (sg g a1 a2 n x y z none none none none none) H1
    refine par3_ (cons_ (FS.mk (IS.var (i := 1) rfl) (LA x1) wn (tdAll bA) (Nat.lt_of_le_of_lt bA.1 (by decide)) H1 (ext_refl _) T1 _ fun p1 D1 H2 x2 T2 nD1 f1 => ?_))
    have x02 := extN_trans x1 x2
    refine cons_ (FS.mk (IS.var (i := 1) rfl) (LB x02) wn (tdAll bB) (Nat.lt_of_le_of_lt bB.1 (by decide)) H2 (ext_refl _) T2 _ fun p2 D2 H3 x3 T3 nD2 f2 => ?_)
    have x03 := extN_trans x02 x3
    have pu3 := pu_ext pu x03
    obtain ⟨gl1, eg1⟩ := (pu_ext pu x1).lst
    obtain ⟨gl2, eg2⟩ := (pu_ext pu x02).lst
    obtain ⟨gl3, eg3⟩ := pu3.lst
    refine cons_ (call_ ⟨_, rfl, _, rfl, g, n, 6, 2, k, rfl, n1, n2, by decide, by decide, by decide, pu3, by omega, fun R xs H4 hR k4 p4 l4 r4 e4 => ?_⟩)
    obtain ⟨cs, rows, rfl, hpr, hro⟩ := rows_of (m := 2) (by decide) fun v hv => (r4 v hv).1
    have hcl : rows.length ≤ 6 := by rw [← Paired.length hpr]; simpa using l4
    have tm4 : ∀ t : Trm, TmAt K H t → TmAt K H4 t := fun t h => tmAt_keep (h.ext x03) eg3 k4
    have T4 := tabs_keep T3 eg3 k4
    refine ⟨_, _, _, rfl, ?_⟩
    show tLgB K T c _ (sg g a1 a2 n x y z (some (.ref p1)) (some (.ref p2)) (some (.ref R)) none none) H4
    refine lgB F.ft F.is_ F.eq (D1 := D1) (D2 := D2) (rs1 := rs1) (rs2 := rs2) (rows := rows) ⟨n1, n2, k4 _ _ ne1 (lst_ext e1 x03), fun r hr => tm4 r (t1 r hr), b1, k4 _ _ ne2 (lst_ext e2 x03), fun r hr => tm4 r (t2 r hr), b2, foAt_keep (foAt_ext f1 x3) eg3 (newN_ne (nD1 rfl) eg1) k4, foAt_keep f2 eg3 (newN_ne (nD2 rfl) eg2) k4, ⟨cs, e4, hpr⟩, ⟨by omega, hro⟩, T4⟩ fun H5 x5 T5 => ?_
    exact q H5 (k + 3 + 6 * 6) (keepN_trans (keepN_trans (keepN_ext x03) (keepN_keep k4)) (keepN_ext x5)) T5 (pu_ext p4 x5) (by omega)
theorem drawn_tb {n m t : Nat} {rs : List Trm} (h : ∀ r ∈ rs, TmAt K H r ∧ Drawn n t r.2) (hl : rs.length ≤ m) (ht : t ≤ 3) : Tb n m (10 ^ 6) t 3 (rs.map (·.2)) := by
  refine ⟨by rw [List.length_map]; exact hl, fun u hu => ?_⟩
  obtain ⟨r, hr, rfl⟩ := List.mem_map.mp hu
  obtain ⟨h1, h2, h3, h4⟩ := (h r hr).2
  exact ⟨by omega, h3, fun l hl => ⟨(h4 l hl).1, fun x hx => by have := (h4 l hl).2 x hx; omega⟩⟩
abbrev sp (g R a1 a2 p1 p2 : Addr) (n : Nat) (x7 x y z : Option V) : St := [some (.ref g), some (.int (n : Nat)), some (.ref R), some (.ref a1), some (.ref a2), some (.ref p1), some (.ref p2), x7, x, y, z]
theorem rws_ext {H H' : Hp} {n g : Nat} {ads : List Addr} {rws : List (List (List Int))} (h : Paired (fun a rw => RwAt K H a rw ∧ RwOk n rw ∧ a ≠ g) ads rws) (e : LamX.ExtN H H') : Paired (fun a rw => RwAt K H' a rw ∧ RwOk n rw ∧ a ≠ g) ads rws :=
  Paired.mapP h fun _ _ q => ⟨rwAt_ext q.1 e, q.2⟩
theorem rws_keep {H H' : Hp} {n g : Nat} {gl : List V} {ads : List Addr} {rws : List (List (List Int))} (h : Paired (fun a rw => RwAt K H a rw ∧ RwOk n rw ∧ a ≠ g) ads rws) (eg : H g = some (.lst gl)) (k : Keep g H H') : Paired (fun a rw => RwAt K H' a rw ∧ RwOk n rw ∧ a ≠ g) ads rws :=
  Paired.mapP h fun _ _ q => ⟨rwAt_keep q.1 eg q.2.2 k, q.2⟩
theorem ok_pd {fM fP fO fR fW f : Addr} {dM dP dO dR dW fd : FuncData} (Fn : Fun K "_law_products_right" "_law_products_right" sPd f fd) (N : Nm mg) (F : FmT P w K mg base T c a)
    (GM : Df P w K mg base "_law_merged" 8 ["_law_one", "_law_other"] (spMg K 7) fM dM) (GP : Df P w K mg base "_law_put" 1 ["_law_factor", "_law_words"] (spPq K) fP dP) (GO : Df P w K mg base "_law_ordered" 1 ["_law_terms_here"] (spOr K) fO dO) (GR : Df P w K mg base "_law_terms" 4 ["_law_purse_here", "_law_width", "_law_most", "_law_letters_to"] (spTr K) fR dR)
    (GW : Df P w K mg base "_law_worth" 11 ["_law_terms_here", "_law_row_here"] (spWo K) fW dW) : FnOk P w K mg base CX0 14 f fd ["_law_purse_here", "_law_width", "_law_rows"] (spPd K T) := by
  refine Fn.ok scPd (fun vs H Q E h => ?_) fun cdv A outer s H vs Q E hr h => ?_
  · obtain ⟨g, R, n, k, ads, rws, rfl, _⟩ := h
    rfl
  · obtain ⟨g, R, n, k, ads, rws, rfl, n1, n2, pu, hk, neR, eR, hp, hT, q⟩ := h
    refine ⟨tPd K T c, der_pd N F GM GP GO GR GW hr, ?_⟩
    have wn := wid_yes n1 n2
    unfold tPd
    obtain ⟨gl0, eg0⟩ := pu.lst
    show tSeq (tPar 3 4 _) _ _ [some (.ref g), some (.int (n : Nat)), some (.ref R), none, none, none, none, none, none, none, none] H
    refine par_ (cons_ (call_ ⟨_, rfl, _, rfl, g, n, 3, 2, k, rfl, n1, n2, by decide, by decide, pu, by omega, fun A1 rs1 H1 nA1 k1 pu1 l1 tm1 e1 => ?_⟩))
    have T1 := tabs_keep hT eg0 k1
    have gA1 := pu.ne nA1
    obtain ⟨gl1, eg1⟩ := pu1.lst
    refine cons_ (call_ ⟨_, rfl, _, rfl, g, n, 3, 2, _, rfl, n1, n2, by decide, by decide, pu1, by omega, fun A2 rs2 H2 nA2 k2 pu2 l2 tm2 e2 => ?_⟩)
    have T2 := tabs_keep T1 eg1 k2
    have b1 := drawn_tb tm1 l1 (by decide)
    have b2 := drawn_tb tm2 l2 (by decide)
    have k02 : Keep g H H2 := fun b o hb ho => k2 b o hb (k1 b o hb ho)
    have e1' := k2 _ _ gA1.symm e1
    have t1' : ∀ r ∈ rs1, TmAt K H2 r := fun r hr => tmAt_keep (tm1 r hr).1 eg1 k2
    have t2' : ∀ r ∈ rs2, TmAt K H2 r := fun r hr => (tm2 r hr).1
    have hp2 := rws_keep hp eg0 k02
    have eR2 := k02 _ _ neR eR
    clear k1 k2 e1 tm1 tm2 T1 hp eR pu1 eg1 gl1
    refine ⟨_, _, rfl, ?_⟩
    show tSeq (tPar 5 6 _) _ _ [some (.ref g), some (.int (n : Nat)), some (.ref R), some (.ref A1), some (.ref A2), none, none, none, none, none, none] H2
    refine par_ (cons_ (FS.mk (IS.var (i := 1) rfl) (LS.var rfl e1' t1' rfl) wn (tdAll b1) (Nat.lt_of_le_of_lt b1.1 (by decide)) H2 (ext_refl _) T2 _ fun p1 D1 H3 x3 T3 _ f1 => ?_))
    refine cons_ (FS.mk (IS.var (i := 1) rfl) (LS.var rfl (lst_ext e2 x3) (fun r hr => (t2' r hr).ext x3) rfl) wn (tdAll b2) (Nat.lt_of_le_of_lt b2.1 (by decide)) H3 (ext_refl _) T3 _ fun p2 D2 H4 x4 T4 _ f2 => ?_)
    have x24 := extN_trans x3 x4
    refine ⟨_, _, rfl, ?_⟩
    have tA := b1.tog
    have tB := b2.tog
    have tM := tA.mul tB
    have mo := Tb.mo tA tB (n2 := n2)
    have zM : (mulT (together (rs1.map (·.2))) (together (rs2.map (·.2)))).length < sizeLine := Nat.lt_of_le_of_lt tM.1 (by rw [sizeLine_eq]; decide)
    show tSeq (tFor (iList K (tVar 2)) (gName 7) (tPdR K T c)) _ _ (sp g R A1 A2 p1 p2 n none none none none) H4
    refine forL_ ⟨_, rfl, R, rfl, ⟨_, SqL.of (lst_ext eR2 x24)⟩, ?_⟩
    refine for_list (D := { nx := tSeq (tTMs K T c 3 4 8 9 10) (tPdE K T c) { nx := fun _ H' => Q .non H', rt := Q }, rt := Q }) (K := K) (xs := ads.map V.ref) (fun k σ H' => (∃ x7, σ = sp g R A1 A2 p1 p2 n x7 none none none) ∧ LamX.ExtN H4 H' ∧ LamX.Tabs T H') ⟨⟨_, rfl⟩, ext_refl _, T4⟩ (fun k σ H' _ hP => SqL.of (lst_ext eR2 (extN_trans x24 hP.2.1))) (fun k v σ H5 hx hP => ?_) fun σ H5 hP => ?_
    · obtain ⟨⟨x7, rfl⟩, x5, T5⟩ := hP
      have x25 := extN_trans x24 x5
      rw [List.getElem?_map] at hx
      obtain ⟨ad, had, rfl⟩ := Option.map_eq_some_iff.mp hx
      obtain ⟨rw', _, hrw, hro, _⟩ := Paired.idx hp2 had
      show tPdR K T c _ (sp g R A1 A2 p1 p2 n (some (.ref ad)) none none none) H5
      unfold tPdR
      have okA := b1.ok n2
      have okB := b2.ok n2
      have eW : atW (together (mulT (together (rs1.map (·.2))) (together (rs2.map (·.2))))) rw' = atW (rs1.map (·.2)) rw' * atW (rs2.map (·.2)) rw' := by rw [atW_together, atW_mul rw' tA tB n2, atW_together, atW_together]
      have rw5 := rwAt_ext hrw x25
      refine if_ (b_ (is_neI ((IS.at_ (FS.ml (d := 2 + 2) (FS.var rfl (foAt_ext f1 (extN_trans x4 x5))) (FS.var rfl (foAt_ext f2 x5)) wn mo zM) rfl rw5 hro (tM.tog.ok n2)).to (congrArg V.int eW)) (IS.op (IS.wo (LS.var rfl (lst_ext e1' x25) (fun r hr => (t1' r hr).ext x25) rfl) rfl rw5 hro okA) (IS.wo (LS.var rfl (lst_ext e2 x25) (fun r hr => (t2' r hr).ext x25) rfl) rfl rw5 hro okB) fun H Q q => ⟨_, _, rfl, rfl, mulX (atW_abs okA hro) (atW_abs okB hro) (by decide), q⟩) T5 fun H6 x6 T6 => ⟨_, rfl, iteF ?_⟩))
      exact ⟨⟨_, rfl⟩, extN_trans x5 x6, T6⟩
    · obtain ⟨⟨x7, rfl⟩, x5, T5⟩ := hP
      have x25 := extN_trans x24 x5
      have b1' : Tb n 3 (10 ^ 6) 3 3 (rs1.map (·.2)) := b1.mono (Nat.le_refl _) (Nat.le_refl _) (by decide) (Nat.le_refl _)
      have b2' : Tb n 3 (10 ^ 6) 3 3 (rs2.map (·.2)) := b2.mono (Nat.le_refl _) (Nat.le_refl _) (by decide) (Nat.le_refl _)
      show tTMs K T c 3 4 8 9 10 _ (sp g R A1 A2 p1 p2 n x7 none none none) H5
      refine tms_run (mk := fun x y z => sp g R A1 A2 p1 p2 n x7 x y z) F.ft F.is_ F.eq ⟨fun _ _ _ _ => rfl, fun _ _ _ _ => rfl, fun _ _ _ _ => rfl, fun _ _ _ => rfl, fun _ _ _ => rfl, fun _ _ _ => rfl, fun _ _ _ => rfl, fun _ _ _ => rfl, fun _ _ _ => rfl⟩ n1 n2 T5 (lst_ext e1' x25) (fun r hr => (t1' r hr).ext x25) b1' (lst_ext e2 x25) (fun r hr => (t2' r hr).ext x25) b2' fun x y z H6 x6 T6 => ?_
      have x26 := extN_trans x25 x6
      show tPdE K T c _ (sp g R A1 A2 p1 p2 n x7 x y z) H6
      refine ret_ (andV_ (fs_cmp (g := V.bl) F.ft F.is_ F.eq (FS.var rfl (foAt_ext f1 (extN_trans x4 (extN_trans x5 x6)))) (FS.mk (IS.var (i := 1) rfl) (LS.var rfl (lst_ext e1' x26) (fun r hr => (t1' r hr).ext x26) rfl) wn (tdAll b1) (Nat.lt_of_le_of_lt b1.1 (by decide))) T6 fun H7 x7 T7 => ⟨true, rfl, if_t rfl ?_⟩))
      have x27 := extN_trans x26 x7
      refine fs_cmp (g := V.bl) F.ft F.is_ F.eq (FS.var rfl (foAt_ext f2 (extN_trans x5 (extN_trans x6 x7)))) (FS.mk (IS.var (i := 1) rfl) (LS.var rfl (lst_ext e2 x27) (fun r hr => (t2' r hr).ext x27) rfl) wn (tdAll b2) (Nat.lt_of_le_of_lt b2.1 (by decide))) T7 fun H8 x8 T8 => ?_
      exact q H8 _ (keepN_trans (keepN_keep k02) (keepN_ext (extN_trans x27 x8))) T8 (pu_ext pu2 (extN_trans x27 x8)) (by omega)
end
end L2.Fo

set_option exponentiation.threshold 2000
/-! # lists of numbers, lists of forms, rows drawn -/
namespace L2.Fo
open PySem PySem.Spec PyProof.Rows L2.Vf L2.Dw L2.Ch L2.Nk L2.Lt L2.Qs L2.Tdf RZ
def ILs (T : List (Addr × Str)) (σ : St) (H : Hp) (ta : TA) (ns : List Int) : Prop := ∀ H1, LamX.ExtN H H1 → LamX.Tabs T H1 → ∀ Q : List V → Hp → Prop, (∀ H', LamX.ExtN H1 H' → LamX.Tabs T H' → Q (ns.map V.int) H') → ta σ H1 Q
def FLs (K : PySem.W.Frag) (T : List (Addr × Str)) (C : Addr) (σ : St) (H : Hp) (n : Nat) (ta : TA) (ls : List (List (Int × Wd))) : Prop := ∀ H1, LamX.ExtN H H1 → LamX.Tabs T H1 → ∀ Q : List V → Hp → Prop, (∀ (ps : List Addr) H', LamX.ExtN H1 H' → LamX.Tabs T H' → Paired (fun p us => ∃ D, FoAt K C H' p n (together us) D) ps ls → Q (ps.map V.ref) H') → ta σ H1 Q
section
variable {K : PySem.W.Frag} {T : List (Addr × Str)} {C : Addr} {σ : St} {H H' : Hp} {b : Bool} {n : Nat} {t : TE} {ta : TA} {i : Int} {ns ms : List Int} {us : List (Int × Wd)} {ls : List (List (Int × Wd))} {Q : VK}
theorem ILs.nil : ILs T σ H tNil [] := fun H1 e1 T1 Q q => q H1 (ext_refl _) T1
theorem ILs.cons (h : IS T σ H t (.int i)) (g : ILs T σ H ta ns) : ILs T σ H (tCons t ta) (i :: ns) := fun H1 e1 T1 Q q => cons_ (h H1 e1 T1 _ fun H2 e2 T2 => g H2 (extN_trans e1 e2) T2 _ fun H3 e3 T3 => q H3 (extN_trans e2 e3) T3)
theorem FLs.nil : FLs K T C σ H n tNil [] := fun H1 e1 T1 Q q => q [] H1 (ext_refl _) T1 .nil
theorem FLs.cons (h : FS K T C σ H b t n (together us)) (g : FLs K T C σ H n ta ls) : FLs K T C σ H n (tCons t ta) (us :: ls) := fun H1 e1 T1 Q q => cons_ (h H1 e1 T1 _ fun p D H2 e2 T2 _ fo => g H2 (extN_trans e1 e2) T2 _ fun ps H3 e3 T3 hp => q (p :: ps) H3 (extN_trans e2 e3) T3 (.cons ⟨D, foAt_ext fo e3⟩ hp))
theorem ILs.lst (h : ILs T σ H ta ns) (hz : ns.length ≤ 1000) (hT : LamX.Tabs T H) (q : ∀ p H', LamX.ExtN H H' → LamX.Tabs T H' → H' p = some (.lst (ns.map V.int)) → Q (.ref p) H') : tLst ta σ H Q :=
  h H (ext_refl _) hT _ fun H1 e1 T1 => ⟨by rw [List.length_map, sizeLine_eq]; omega, fun p hp => by
    have s := same_new (o := .lst (ns.map V.int)) hp
    exact q p _ (extN_trans e1 (.of s)) (T1.ext s) upd_same⟩
theorem ints_eqv : ∀ ns : List Int, PyData.eqv (.list (ns.map .int)) (.list (ns.map .int)) = true := fun ns => by rw [PyData.eqv, eqv_intsF]; simp
theorem deep_ints : ∀ ns : List Int, PyData.depthAll (ns.map .int) ≤ 1
  | [] => by simp [PyData.depthAll]
  | n :: ns => by
    have := deep_ints ns
    simp only [List.map_cons, PyData.depthAll, PyData.depth]
    omega
theorem ints_shaped (ns : List Int) : SeqAt.shaped (.list (ns.map .int)) = true := by
  unfold SeqAt.shaped
  have := deep_ints ns
  simp [PyData.canLay0, PyData.depth, lay_intsF]
  omega
theorem ints_ne {Qb : Bool → Hp → Prop} {j : Nat} {p : Addr} (hj : σ[j]? = some (some (.ref p))) (e : H p = some (.lst (ns.map V.int))) (h : ILs T σ H ta ns) (hz : ns.length ≤ 1000) (hT : LamX.Tabs T H) (q : ∀ H', LamX.ExtN H H' → LamX.Tabs T H' → Qb false H') : tTest (tOp (Vf.rEqD K true) (tVar j) (tLst ta)) σ H Qb := by
  refine test_ ⟨_, hj, h.lst hz hT fun p2 H2 e2 T2 e3 => ?_⟩
  refine ⟨_, _, _, _, .lst (as := []) (SqL.of (lst_ext e e2)) (ints_shF ns), .lst (as := []) (SqL.of e3) (ints_shF ns), ints_shaped ns, ints_shaped ns, _, rfl, ?_⟩
  rw [if_pos rfl, ints_eqv]
  exact q H2 e2 T2
theorem IS.sum {j : Nat} {p : Addr} (hj : σ[j]? = some (some (.ref p))) (e : H p = some (.lst (ns.map V.int))) : IS T σ H (tCB (rSum K) (tCons (tVar j) tNil)) (.int ns.sum) := fun H1 e1 T1 Q q => cb_ (cons_ ⟨_, hj, p, ns, rfl, SqL.of (lst_ext e e1), q H1 (ext_refl _) T1⟩)
theorem IS.ix {j : Nat} {p : Addr} {k i : Int} (hj : σ[j]? = some (some (.ref p))) (e : H p = some (.lst (ns.map V.int))) (hk : atI (ns.map V.int) k = some (.int i)) : IS T σ H (tOp (rIxL K) (tVar j) (tC (.int k))) (.int i) := fun H1 e1 T1 Q q => op_ ⟨_, hj, p, _, k, .int i, rfl, rfl, SqL.of (lst_ext e e1), hk, q H1 (ext_refl _) T1⟩
theorem IS.c {v : V} : IS T σ H (tC v) v := fun H1 e1 T1 Q q => q H1 (ext_refl _) T1
end
/-! ### rows drawn -/
section
variable {K : PySem.W.Frag} {T : List (Addr × Str)} {H : Hp} {n g k : Nat} {gl : List V} {ads : List Addr} {rws : List (List (List Int))}
def RwD (K : PySem.W.Frag) (H : Hp) (n g D : Nat) (a : Addr) (rw : List (List Int)) : Prop := RwAt K H a rw ∧ RwOk n rw ∧ a ≠ g ∧ a ≠ D
theorem rwd_keep {H' : Hp} {D : Nat} (h : Paired (RwD K H n g D) ads rws) (eg : H g = some (.lst gl)) (k : Keep g H H') : Paired (RwD K H' n g D) ads rws := Paired.mapP h fun _ _ q => ⟨rwAt_keep q.1 eg q.2.2.1 k, q.2⟩
theorem rwd_upd {D : Nat} {zs : List V} (h : Paired (RwD K H n g D) ads rws) (eD : H D = some (.lst gl)) : Paired (RwD K (upd H D (.lst zs)) n g D) ads rws := Paired.mapP h fun _ _ q => ⟨rwAt_keep q.1 eD q.2.2.2 keep_upd, q.2⟩
theorem rws_run {σ : St} {Q : VK} (hw : ∀ x, wipe ((wipe σ [10]).set 10 (some x)) [10] = wipe σ [10]) (h2 : ∀ x, ((wipe σ [10]).set 10 (some x))[2]? = some (some (.ref g))) (h3 : ∀ x, ((wipe σ [10]).set 10 (some x))[3]? = some (some (.int (n : Nat)))) (n1 : 1 ≤ n) (n2 : n ≤ 2) (pu : Pu H g k) (hk : k ≤ 50000)
    (q : ∀ R ads rws H', Keep g H H' → Pu H' g (k + 99) → R ≠ g → H' R = some (.lst (ads.map V.ref)) → Paired (fun a rw => RwAt K H' a rw ∧ RwOk n rw ∧ a ≠ g) ads rws → Q (.ref R) H') : tRws K σ H Q := by
  refine op_ ⟨3, rfl, by decide, by decide, fun D hD => ?_⟩
  have hgD : g ≠ D := pu.ne hD
  refine lc_range (lo := 0) (n := 3) (fun j H1 => Keep g H H1 ∧ Pu H1 g (k + 33 * j) ∧ ∃ (ads : List Addr) (rws : List (List (List Int))), ads.length = j ∧ Paired (RwD K H1 n g D) ads rws ∧ H1 D = some (.lst (ads.map V.ref))) ?_ (fun j H1 hj hP => ?_) fun H1 hP => ?_
  · exact ⟨.new .refl hD, (pu.mono (same_new hD)).le (Nat.le_add_right _ _), [], [], rfl, .nil, upd_same⟩
  · obtain ⟨k1, p1, ads, rws, l1, r1, e1⟩ := hP
    obtain ⟨gl1, eg1⟩ := p1.lst
    refine ⟨hw _, _, h2 _, _, h3 _, g, n, 5, 4, _, rfl, n1, n2, by decide, by decide, by decide, p1, by omega, fun R xs H2 hR k2 p2 l2 r2 e2 => ?_⟩
    obtain ⟨cs, rows, rfl, hpr, hro⟩ := rows_of (K := K) (m := 4) (by decide) fun v hv => (r2 v hv).1
    have hcl : rows.length ≤ 5 := by rw [← Paired.length hpr]; simpa using l2
    have e1' := k2 _ _ hgD.symm e1
    have hRD : R ≠ D := fun z => by rw [z, e1] at hR; cases hR
    have hRg : R ≠ g := (p1.ne hR).symm
    refine ⟨_, e1', by rw [List.length_map, l1, sizeLine_eq]; omega, fun b o hb e => ?_, pu_upd (p2.le (by omega)) hgD, ads ++ [R], rws ++ [rows], by simp [l1], ?_, by rw [upd_same, List.map_append]; rfl⟩
    · rw [upd_ne (ne_of_none e hD)]
      exact k2 _ _ hb (k1 _ _ hb e)
    · refine rwd_upd (Paired.snoc (rwd_keep r1 eg1 k2) ⟨⟨cs, e2, hpr⟩, ⟨by omega, hro⟩, hRg, hRD⟩) e1'
  · obtain ⟨k1, p1, ads, rws, l1, r1, e1⟩ := hP
    refine lst_ ⟨by show 0 ≤ sizeLine; omega, fun E hE => ⟨by show 1 ≤ sizeLine; decide, fun L hL => ?_⟩⟩
    have s2 := same_new (o := .lst []) hE
    have s3 := same_new (o := .lst [V.ref E]) hL
    have s23 := s2.trans s3
    have pE := p1.mono s2
    refine ⟨D, L, _, _, rfl, rfl, s23 _ _ e1, upd_same, by rw [List.length_map, l1, sizeLine_eq]; show 3 + 1 ≤ _; omega, fun R hR => ?_⟩
    have s4 := same_new (o := .lst (ads.map V.ref ++ [V.ref E])) hR
    have s24 := s23.trans s4
    have hgE : E ≠ g := (p1.ne hE).symm
    have hgR : R ≠ g := ((p1.mono s23).ne hR).symm
    refine q R (ads ++ [E]) (rws ++ [[]]) _ (k1.trans (Keep.of s24)) (p1.mono s24) hgR (by rw [upd_same, List.map_append]; rfl) ?_
    refine Paired.snoc (Paired.mapP r1 fun _ _ z => ⟨RwAt.same z.1 s24, z.2.1, z.2.2.1⟩) ⟨⟨[], (s3.trans s4) _ _ upd_same, .nil⟩, ⟨by show 0 ≤ 512; omega, fun x hx => absurd hx (by simp)⟩, hgE⟩
end
end L2.Fo

set_option exponentiation.threshold 2000
/-! # the law: sums, differences, multiples -/
namespace L2.Fo
open PySem PySem.Spec PyProof.Rows L2.Vf L2.Dw L2.Ch L2.Nk L2.Lt L2.Qs L2.Tdf RZ
abbrev sw (a i g : Addr) (n : Nat) (A1 A2 p1 p2 : Addr) (t : Int) (R : Addr) (y1 x10 x11 x12 x13 x14 : Option V) : St := [some (.ref a), y1, some (.ref g), some (.int (n : Nat)), some (.ref A1), some (.ref A2), some (.ref p1), some (.ref p2), some (.int t), some (.ref R), x10, x11, x12, x13, x14]
section
variable {K : PySem.W.Frag} {T : List (Addr × Str)} {c : Cls5} {C : Addr} {mg : Str → Option Value} {fE : Addr} {H H' : Hp} {D : Ends} {a i g n A1 A2 p1 p2 D1 D2 R k : Nat} {t : Int} {rs1 rs2 : List Trm} {ads : List Addr} {rws : List (List (List Int))} {y1 x10 x11 x12 x13 x14 : Option V} {gl : List V}
theorem sqT_kn {a : Addr} {xs : List V} (h : SqT K H a xs) (eg : H g = some (.lst gl)) (k : KeepN g H H') : SqT K H' a xs := by
  rcases h with (h | ⟨o, h⟩) | h
  · exact .inl (.inl (k _ _ (fun z => by rw [z, eg] at h; cases h) (fun ps z => by cases z) h))
  · exact .inl (.inr ⟨o, k _ _ (fun z => by rw [z, eg] at h; cases h) (fun ps z => by cases z) h⟩)
  · exact .inr h
theorem tmAt_kn {t : Trm} (h : TmAt K H t) (eg : H g = some (.lst gl)) (k : KeepN g H H') : TmAt K H' t := by
  obtain ⟨b, h1, h2⟩ := h
  exact ⟨b, sqT_kn h1 eg k, h2.mono fun c us h => sqT_kn h eg k⟩
theorem foAt_kn {p n D : Nat} {us : List (Int × Wd)} (h : FoAt K C H p n us D) (eg : H g = some (.lst gl)) (ne : D ≠ g) (k : KeepN g H H') : FoAt K C H' p n us D := by
  obtain ⟨dx, rs, h1, h2, h3, h4⟩ := h
  exact ⟨dx, rs, k _ _ (fun z => by rw [z, eg] at h1; cases h1) (fun ps z => by cases z) h1, k _ _ ne (fun ps z => by cases z) h2, fun r hr => tmAt_kn (h3 r hr) eg k, h4⟩
theorem rwAt_kn {r : Addr} {rows : List (List Int)} (h : RwAt K H r rows) (eg : H g = some (.lst gl)) (ne : r ≠ g) (k : KeepN g H H') : RwAt K H' r rows := by
  obtain ⟨cs, h1, h2⟩ := h
  exact ⟨cs, k _ _ ne (fun ps z => by cases z) h1, Paired.mapP h2 fun _ _ q => sqT_kn q eg k⟩
/-- what stands in a turn of the law -/
structure LwC (K : PySem.W.Frag) (T : List (Addr × Str)) (C : Addr) (H : Hp) (g n A1 A2 p1 p2 D1 D2 R k : Nat) (t : Int) (rs1 rs2 : List Trm) (ads : List Addr) (rws : List (List (List Int))) : Prop where
  n1 : 1 ≤ n
  n2 : n ≤ 2
  ht : t.natAbs ≤ 10 ^ 19
  e1 : H A1 = some (.lst (rs1.map fun r => V.ref r.1))
  t1 : ∀ r ∈ rs1, TmAt K H r
  b1 : Tb n 4 (10 ^ 6) 3 3 (rs1.map (·.2))
  e2 : H A2 = some (.lst (rs2.map fun r => V.ref r.1))
  t2 : ∀ r ∈ rs2, TmAt K H r
  b2 : Tb n 4 (10 ^ 6) 3 3 (rs2.map (·.2))
  f1 : FoAt K C H p1 n (together (rs1.map (·.2))) D1
  f2 : FoAt K C H p2 n (together (rs2.map (·.2))) D2
  eR : H R = some (.lst (ads.map V.ref))
  hp : Paired (fun a rw => RwAt K H a rw ∧ RwOk n rw ∧ a ≠ g) ads rws
  pu : Pu H g k
  hT : LamX.Tabs T H
  n3 : A1 ≠ g
  n4 : A2 ≠ g
  n5 : D1 ≠ g
  n6 : D2 ≠ g
  n7 : R ≠ g
theorem LwC.ext (h : LwC K T C H g n A1 A2 p1 p2 D1 D2 R k t rs1 rs2 ads rws) (e : LamX.ExtN H H') (hT : LamX.Tabs T H') : LwC K T C H' g n A1 A2 p1 p2 D1 D2 R k t rs1 rs2 ads rws :=
  ⟨h.n1, h.n2, h.ht, lst_ext h.e1 e, fun r hr => (h.t1 r hr).ext e, h.b1, lst_ext h.e2 e, fun r hr => (h.t2 r hr).ext e, h.b2, foAt_ext h.f1 e, foAt_ext h.f2 e, lst_ext h.eR e, rws_ext h.hp e, pu_ext h.pu e, hT, h.n3, h.n4, h.n5, h.n6, h.n7⟩
theorem LwC.kn {k' : Nat} (h : LwC K T C H g n A1 A2 p1 p2 D1 D2 R k t rs1 rs2 ads rws) (e : KeepN g H H') (hT : LamX.Tabs T H') (pu : Pu H' g k') : LwC K T C H' g n A1 A2 p1 p2 D1 D2 R k' t rs1 rs2 ads rws := by
  obtain ⟨gl, eg⟩ := h.pu.lst
  have nl : ∀ {xs : List V}, ∀ ps, HO.lst xs ≠ .tbl ps := fun ps z => by cases z
  exact ⟨h.n1, h.n2, h.ht, e _ _ h.n3 nl h.e1, fun r hr => tmAt_kn (h.t1 r hr) eg e, h.b1, e _ _ h.n4 nl h.e2, fun r hr => tmAt_kn (h.t2 r hr) eg e, h.b2, foAt_kn h.f1 eg h.n5 e, foAt_kn h.f2 eg h.n6 e, e _ _ h.n7 nl h.eR,
    Paired.mapP h.hp fun _ _ q => ⟨rwAt_kn q.1 eg q.2.2 e, q.2⟩, pu, hT, h.n3, h.n4, h.n5, h.n6, h.n7⟩
/-- the five forms -/
abbrev us5 (A B : List (Int × Wd)) (t : Int) : List (List (Int × Wd)) := [together A ++ together B, together A ++ timesT (-1) (together B), timesT (-1) (together A), timesT t (together A), timesT t (together A)]
theorem us5_tb {A B : List (Int × Wd)} (h : Tb n 4 (10 ^ 6) 3 3 A) (h2 : Tb n 4 (10 ^ 6) 3 3 B) (ht : t.natAbs ≤ 10 ^ 19) : ∀ us ∈ us5 A B t, Tb n 8 (10 ^ 27) 3 3 us := fun us hu => by
  have a := h.tog
  have b := h2.tog
  have big : ∀ {us : List (Int × Wd)} {m c : Nat}, Tb n m c 3 3 us → m ≤ 8 → c ≤ 10 ^ 27 → Tb n 8 (10 ^ 27) 3 3 us := fun h hm hc => h.mono hm hc (Nat.le_refl _) (Nat.le_refl _)
  have m1 : ∀ {us : List (Int × Wd)}, Tb n 4 (4 * 10 ^ 6) 3 3 us → Tb n 4 (1 * (4 * 10 ^ 6)) 3 3 (timesT (-1) us) := fun h => h.times (by decide)
  simp only [List.mem_cons, List.not_mem_nil, or_false] at hu
  rcases hu with rfl | rfl | rfl | rfl | rfl
  · exact big (a.app b) (by decide) (by decide)
  · exact big (a.app ((m1 b).mono (Nat.le_refl _) (by decide) (Nat.le_refl _) (Nat.le_refl _))) (by decide) (by decide)
  · exact big (m1 a) (by decide) (by decide)
  · exact big (a.times ht) (by decide) (by decide)
  · exact big (a.times ht) (by decide) (by decide)
section
variable {σ : St} (h : LwC K T c.C H g n A1 A2 p1 p2 D1 D2 R k t rs1 rs2 ads rws) (h6 : σ[6]? = some (some (.ref p1))) (h7 : σ[7]? = some (some (.ref p2))) (h8 : σ[8]? = some (some (.int t)))
include h h6 h7 h8
theorem five_fs : (FS K T c.C σ H true (tAd K T c (tVar 6) (tVar 7)) n (together (together (rs1.map (·.2)) ++ together (rs2.map (·.2)))) ∧ FS K T c.C σ H true (tSb K T c (tVar 6) (tVar 7)) n (together (together (rs1.map (·.2)) ++ timesT (-1) (together (rs2.map (·.2)))))) ∧ FS K T c.C σ H true (tNg1 K T c (tVar 6)) n (together (timesT (-1) (together (rs1.map (·.2))))) ∧
    FS K T c.C σ H true (tRi K T c (tVar 8) (tVar 6)) n (together (timesT t (together (rs1.map (·.2))))) ∧ FS K T c.C σ H true (tMi K T c (tVar 6) (tVar 8)) n (together (timesT t (together (rs1.map (·.2))))) := by
  have wn := wid_yes h.n1 h.n2
  have u5 := us5_tb h.b1 h.b2 h.ht
  have z8 : ∀ us ∈ us5 (rs1.map (·.2)) (rs2.map (·.2)) t, us.length < sizeLine := fun us hu => Nat.lt_of_le_of_lt (u5 us hu).1 (by rw [sizeLine_eq]; decide)
  have v6 := FS.var (C := c.C) (T := T) h6 h.f1
  have v7 := FS.var (C := c.C) (T := T) h7 h.f2
  have cA := Tb.c400 h.b1.tog
  have cB := Tb.c400 h.b2.tog
  have zA : (together (rs1.map (·.2))).length < sizeLine := Nat.lt_of_le_of_lt h.b1.tog.1 (by decide)
  have ht : t.natAbs ≤ 2 ^ 400 := Nat.le_trans h.ht (by decide)
  exact ⟨⟨FS.ad v6 v7 wn (z8 _ (by simp)), FS.sb v6 v7 wn cB (z8 _ (by simp))⟩, FS.ng v6 wn cA zA, FS.ri (IS.var h8) v6 wn ht cA zA, FS.mi v6 (IS.var h8) wn ht cA zA⟩
end
theorem rowB_run (h : LwC K T c.C H g n A1 A2 p1 p2 D1 D2 R k t rs1 rs2 ads rws) {ad : Addr} {rw' : List (List Int)} (rw_ : RwAt K H ad rw') (ro : RwOk n rw') (q : ∀ x12 x13 H', LamX.ExtN H H' → LamX.Tabs T H' → D.nx (sw a i g n A1 A2 p1 p2 t R y1 x10 (some (.ref ad)) x12 x13 x14) H') :
    tRowB K T c D (sw a i g n A1 A2 p1 p2 t R y1 x10 (some (.ref ad)) x12 x13 x14) H := by
  have hT := h.hT
  have okA := h.b1.ok h.n2
  have okB := h.b2.ok h.n2
  have u5 := us5_tb h.b1 h.b2 h.ht
  have ok5 : ∀ us ∈ us5 (rs1.map (·.2)) (rs2.map (·.2)) t, TmOk n (together us) := fun us hu => (u5 us hu).tog.ok h.n2
  generalize hx : atW (rs1.map (·.2)) rw' = X
  generalize hy : atW (rs2.map (·.2)) rw' = Y
  have w1 : atW (together (together (rs1.map (·.2)) ++ together (rs2.map (·.2)))) rw' = X + Y := by
    rw [atW_together, ← hx, ← hy, ← atW_together (rs1.map (·.2)), ← atW_together (rs2.map (·.2))]
    exact tv_app _ _ _ _ _
  have wt : ∀ (k : Int) (us : List (Int × Wd)), atW (timesT k (together us)) rw' = k * atW us rw' := fun k us => by
    rw [← atW_together us]
    exact tv_times _ _ _ _ _
  have w2 : atW (together (together (rs1.map (·.2)) ++ timesT (-1) (together (rs2.map (·.2))))) rw' = X - Y := by
    rw [atW_together]
    have : atW (together (rs1.map (·.2)) ++ timesT (-1) (together (rs2.map (·.2)))) rw' = atW (together (rs1.map (·.2))) rw' + atW (timesT (-1) (together (rs2.map (·.2)))) rw' := tv_app _ _ _ _ _
    rw [this, wt, atW_together, hx, hy]
    omega
  have w3 : atW (together (timesT (-1) (together (rs1.map (·.2))))) rw' = 0 - X := by
    rw [atW_together, wt, hx]
    omega
  have w4 : atW (together (timesT t (together (rs1.map (·.2))))) rw' = t * X := by rw [atW_together, wt, hx]
  unfold tRowB
  refine asg_ (ILs.lst (ns := [X, Y]) (.cons ((IS.wo (LS.var rfl h.e1 h.t1 rfl) rfl rw_ ro okA).to (congrArg V.int hx)) (.cons ((IS.wo (LS.var rfl h.e2 h.t2 rfl) rfl rw_ ro okB).to (congrArg V.int hy)) .nil)) (by show 2 ≤ 1000; decide) hT fun M H1 x1 T1 eM => ?_)
  have h1 := h.ext x1 T1
  have rw1 := rwAt_ext rw_ x1
  obtain ⟨⟨F1, F2⟩, F3, F4, F5⟩ := five_fs (σ := sw a i g n A1 A2 p1 p2 t R y1 x10 (some (.ref ad)) (some (.ref M)) x13 x14) h1 rfl rfl rfl
  refine asg_ (ILs.lst (ns := [X + Y, X - Y, 0 - X, t * X]) (.cons ((IS.at_ F1 rfl rw1 ro (ok5 _ (by simp))).to (congrArg V.int w1)) (.cons ((IS.at_ F2 rfl rw1 ro (ok5 _ (by simp))).to (congrArg V.int w2)) (.cons ((IS.at_ F3 rfl rw1 ro (ok5 _ (by simp))).to (congrArg V.int w3)) (.cons ((IS.at_ F4 rfl rw1 ro (ok5 _ (by simp))).to (congrArg V.int w4)) .nil)))) (by show 4 ≤ 1000; decide) T1 fun M4 H2 x2 T2 e4 => ?_)
  have x02 := extN_trans x1 x2
  have h2 := h.ext x02 T2
  have rw2 := rwAt_ext rw_ x02
  obtain ⟨_, _, _, F5⟩ := five_fs (σ := sw a i g n A1 A2 p1 p2 t R y1 x10 (some (.ref ad)) (some (.ref M)) (some (.ref M4)) x14) h2 rfl rfl rfl
  refine asg_ (op_ ⟨_, rfl, ILs.lst (ns := [t * X]) (.cons ((IS.at_ F5 rfl rw2 ro (ok5 _ (by simp))).to (congrArg V.int w4)) .nil) (by show 1 ≤ 1000; decide) T2 fun M1 H3 x3 T3 e1 => ?_⟩)
  refine ⟨M4, M1, _, _, rfl, rfl, lst_ext e4 x3, e1, by show 4 + 1 ≤ sizeLine; decide, fun M5 hM5 => ?_⟩
  have s4 := same_new (o := .lst ([X + Y, X - Y, 0 - X, t * X].map V.int ++ [t * X].map V.int)) hM5
  have e5 : (upd H3 M5 (.lst ([X + Y, X - Y, 0 - X, t * X].map V.int ++ [t * X].map V.int))) M5 = some (.lst ([X + Y, X - Y, 0 - X, t * X, t * X].map V.int)) := upd_same
  have T4 := T3.ext s4
  have eM4 := lst_ext eM (extN_trans x2 (extN_trans x3 (.of s4)))
  have x04 := extN_trans x02 (extN_trans x3 (.of s4))
  generalize upd H3 M5 (.lst ([X + Y, X - Y, 0 - X, t * X].map V.int ++ [t * X].map V.int)) = H4 at *
  show tIfS _ tRetF tNext D (sw a i g n A1 A2 p1 p2 t R y1 x10 (some (.ref ad)) (some (.ref M)) (some (.ref M5)) x14) H4
  have bX : X.natAbs ≤ 2 ^ (220 + 777 * 8) := hx ▸ atW_abs okA ro
  have tm : ∀ (H : Hp) (Q : VK), Q (.int (t * X)) H → rI CMulX (fun i j => .int (i * j)) (.int t) (.int X) H Q := fun H Q q => ⟨_, _, rfl, rfl, mulX (a := 64) (Nat.le_trans h.ht (by decide)) bX (by decide), q⟩
  have sb : ∀ (x y : Int) (H : Hp) (Q : VK), Q (.int (x - y)) H → rI0 (fun i j => .int (i - j)) (.int x) (.int y) H Q := fun x y H Q q => ⟨_, _, rfl, rfl, q⟩
  refine if_ (ints_ne (ns := [X + Y, X - Y, 0 - X, t * X, t * X]) rfl e5 (.cons ((IS.sum rfl eM4).to (by simp)) (.cons (IS.op (IS.ix (i := X) rfl eM4 rfl) (IS.ix (i := Y) rfl eM4 rfl) (sb _ _)) (.cons (IS.op IS.c (IS.ix (i := X) rfl eM4 rfl) (sb _ _)) (.cons (IS.op (IS.var rfl) (IS.ix (i := X) rfl eM4 rfl) tm) (.cons (IS.op (IS.var rfl) (IS.ix (i := X) rfl eM4 rfl) tm) .nil))))) (by show 5 ≤ 1000; decide) T4 fun H5 x5 T5 => iteF ?_)
  exact q _ _ H5 (extN_trans x04 x5) T5
theorem smB_run {us : List (Int × Wd)} {p D0 : Addr} (hT : LamX.Tabs T H) (fo : FoAt K c.C H p n (together us) D0) (h : Tb n 8 (10 ^ 27) 3 3 us) (n2 : n ≤ 2) (q : ∀ H', LamX.ExtN H H' → LamX.Tabs T H' → D.nx (sw a i g n A1 A2 p1 p2 t R y1 x10 x11 x12 x13 (some (.ref p))) H') :
    tSmB K c D (sw a i g n A1 A2 p1 p2 t R y1 x10 x11 x12 x13 (some (.ref p))) H := by
  unfold tSmB
  have wr : ∀ as, Wr (.list ((together us).map dTrm)) as := fun as => h.tog.wr n2
  have zT : (together us).length < sizeLine := Nat.lt_of_le_of_lt h.tog.1 (by decide)
  refine if_ (testV_ (is_strs (IS.rq (LS.ts (FS.var rfl fo)) wr) (IS.rq ((LS.od (LS.ts (FS.var rfl fo)) (nodup_together _) zT).to (ord_tog _)) wr) hT fun H1 x1 T1 => ⟨rfl, _, rfl, ?_⟩))
  rw [decide_eq_true rfl]
  exact iteF (q H1 x1 T1)
end
end L2.Fo

set_option exponentiation.threshold 2000
/-! # the law: a turn from its forms on -/
namespace L2.Fo
open PySem PySem.Spec PyProof.Rows L2.Vf L2.Dw L2.Ch L2.Nk L2.Lt L2.Qs L2.Tdf RZ
section
variable {K : PySem.W.Frag} {T : List (Addr × Str)} {c : Cls5} {C : Addr} {mg : Str → Option Value} {fE : Addr} {H H' : Hp} {D : Ends} {a i g n A1 A2 p1 p2 D1 D2 R k : Nat} {t : Int} {rs1 rs2 : List Trm} {ads : List Addr} {rws : List (List (List Int))} {y1 x10 x11 x12 x13 x14 : Option V} {gl : List V}
theorem lstA_ {ta : TA} {σ : St} {H : Hp} {Q : VK} (h : ta σ H fun xs H2 => xs.length ≤ sizeLine ∧ ∀ p, H2 p = none → Q (.ref p) (upd H2 p (.lst xs))) : tLst ta σ H Q := h
theorem self_sub (A : List (Int × Wd)) : together (together A ++ timesT (-1) (together A)) = together [] := by
  refine together_eq fun k => ?_
  rw [coef_app, coef_times]
  show _ = 0
  omega
theorem laE (FT : FoT K mg c.C) (I : IsT K c.C) (EQ : EqT K c.C fE) (h : LwC K T c.C H g n A1 A2 p1 p2 D1 D2 R k t rs1 rs2 ads rws) (hk : k ≤ 40000) (q : ∀ H', KeepN g H H' → LamX.Tabs T H' → D.nx (sw a i g n A1 A2 p1 p2 t R y1 x10 x11 x12 x13 x14) H') :
    tLawE K T c D (sw a i g n A1 A2 p1 p2 t R y1 x10 x11 x12 x13 x14) H := by
  unfold tLawE
  have n1 := h.n1
  have n2 := h.n2
  refine seqIf_ (not_ (b_ (call_ ⟨_, rfl, _, rfl, _, rfl, _, rfl, g, A1, A2, n, k, rs1, rs2, rfl, n1, n2, h.pu, by omega, h.n3, h.n4, h.e1, h.t1, h.b1, h.e2, h.t2, h.b2, h.hT, fun H1 k1 x1 T1 pu1 hk1 => ⟨_, rfl, iteF ?_⟩⟩)))
  have h1 := h.kn x1 T1 pu1
  refine seqIf_ (not_ (b_ (call_ ⟨_, rfl, _, rfl, _, rfl, g, R, n, k1, ads, rws, rfl, n1, n2, pu1, by omega, h1.n7, h1.eR, h1.hp, T1, fun H2 k2 x2 T2 pu2 hk2 => ⟨_, rfl, iteF ?_⟩⟩)))
  have h2 := h1.kn x2 T2 pu2
  have x02 := keepN_trans x1 x2
  clear h1 x1 x2 T1 pu1 h
  have wn := wid_yes n1 n2
  have wm : widD (.int ((3 - n : Nat) : Int)) = true := wid_yes (by omega) (by omega)
  have tw : ∀ {H : Hp}, IS T (sw a i g n A1 A2 p1 p2 t R y1 x10 x11 x12 x13 x14) H tW3 (.int ((3 - n : Nat) : Int)) := fun {H} => IS.op IS.c (IS.var rfl) fun H Q q => ⟨3, n, rfl, rfl, by
    show Q (.int ((3 : Int) - (n : Int))) H
    rw [show (3 : Int) - (n : Int) = ((3 - n : Nat) : Int) by omega]
    exact q⟩
  have bU : Tb (3 - n) 1 1 0 0 [((1 : Int), ([] : Wd))] := ⟨by decide, fun u hu => by
    rw [List.mem_singleton.mp hu]
    exact ⟨by decide, by decide, fun l hl => absurd hl (by simp)⟩⟩
  have bN : ∀ m, Tb m 0 0 0 0 [] := fun m => ⟨by decide, fun u hu => absurd hu (by simp)⟩
  refine seqIf_ (or_ (not_ (b_ (call_ (cons_ ((FS.var (i := 6) rfl h2.f1) H2 (ext_refl _) T2 _ fun q1 E1 H3 x3 T3 _ g1 => cons_ ((FS.mk (n := 3 - n) tw LS.unit wm (tdAll bU) (by show 1 < sizeLine; decide)) H3 x3 T3 _ fun q2 E2 H4 x4 T4 _ g2 => ?_)))))))
  refine ⟨q1, q2, n, 3 - n, 3 + 0, _, _, E1, E2, rfl, foAt_ext g1 x4, g2, wn, T4, by omega, Tb.mo (n' := 3 - n) h2.b1.tog bU.tog (n2 := n2), fun H5 s5 => ⟨_, rfl, if_f rfl ?_⟩⟩
  have x25 := extN_trans x3 (extN_trans x4 (.of s5))
  have T5 := T4.ext s5
  refine not_ (b_ (call_ (cons_ ((FS.mk (n := 3 - n) tw LS.nil wm rfl (by show 0 < sizeLine; decide)) H5 (ext_refl _) T5 _ fun q3 E3 H6 x6 T6 _ g3 => cons_ ((FS.var (i := 7) rfl (foAt_ext h2.f2 x25)) H6 x6 T6 _ fun q4 E4 H7 x7 T7 _ g4 => ?_)))))
  refine ⟨q3, q4, 3 - n, n, 0 + 3, _, _, E3, E4, rfl, foAt_ext g3 x7, g4, wm, T7, by omega, Tb.mo (n := 3 - n) (bN _).tog h2.b2.tog (n2 := by omega), fun H8 s8 => ⟨_, rfl, iteF ?_⟩⟩
  have x28 := extN_trans x25 (extN_trans x6 (extN_trans x7 (.of s8)))
  have T8 := T7.ext s8
  have cA := Tb.c400 h2.b1.tog
  have zA : (together (rs1.map (·.2)) ++ timesT (-1) (together (rs1.map (·.2)))).length < sizeLine := by
    have h1 := h2.b1.tog.1
    have h2 := (h2.b1.tog.times (k := -1) (c' := 1) (by decide)).1
    rw [List.length_append, sizeLine_eq]
    omega
  refine if_ (ne_forms FT I EQ ((FS.sb (FS.var (i := 6) rfl (foAt_ext h2.f1 x28)) (FS.var (i := 6) rfl (foAt_ext h2.f1 x28)) wn cA zA).to (self_sub _)) (FS.mk (IS.var (i := 3) rfl) LS.nil wn rfl (by show 0 < sizeLine; decide)) T8 fun H9 x9 T9 => iteF ?_)
  exact q H9 (keepN_trans x02 (keepN_ext (extN_trans x28 x9))) T9
theorem laD (FT : FoT K mg c.C) (I : IsT K c.C) (EQ : EqT K c.C fE) (h : LwC K T c.C H g n A1 A2 p1 p2 D1 D2 R k t rs1 rs2 ads rws) (hk : k ≤ 40000) (q : ∀ x11 x12 x13 x14 H', KeepN g H H' → LamX.Tabs T H' → D.nx (sw a i g n A1 A2 p1 p2 t R y1 x10 x11 x12 x13 x14) H') :
    tLawD K T c D (sw a i g n A1 A2 p1 p2 t R y1 x10 x11 x12 x13 x14) H := by
  unfold tLawD
  refine forL_ ⟨_, rfl, R, rfl, ⟨_, SqL.of h.eR⟩, ?_⟩
  refine for_list (D := { D with nx := tSeq (tFor (iList K (tLst (taSm K T c))) (gName 14) (tSmB K c)) (tLawE K T c) D }) (K := K) (xs := ads.map V.ref) (fun k σ H' => (∃ x11 x12 x13, σ = sw a i g n A1 A2 p1 p2 t R y1 x10 x11 x12 x13 x14) ∧ LamX.ExtN H H' ∧ LamX.Tabs T H') ⟨⟨_, _, _, rfl⟩, ext_refl _, h.hT⟩ (fun k σ H' _ hP => SqL.of (lst_ext h.eR hP.2.1)) (fun k v σ H1 hx hP => ?_) fun σ H1 hP => ?_
  · obtain ⟨⟨z11, z12, z13, rfl⟩, x1, T1⟩ := hP
    rw [List.getElem?_map] at hx
    obtain ⟨ad, had, rfl⟩ := Option.map_eq_some_iff.mp hx
    obtain ⟨rw', _, hrw, hro, _⟩ := Paired.idx h.hp had
    show tRowB K T c _ (sw a i g n A1 A2 p1 p2 t R y1 x10 (some (.ref ad)) z12 z13 x14) H1
    exact rowB_run (h.ext x1 T1) (rwAt_ext hrw x1) hro fun y12 y13 H2 x2 T2 => ⟨⟨_, _, _, rfl⟩, extN_trans x1 x2, T2⟩
  · obtain ⟨⟨z11, z12, z13, rfl⟩, x1, T1⟩ := hP
    have h1 := h.ext x1 T1
    show tSeq (tFor (iList K (tLst (taSm K T c))) (gName 14) (tSmB K c)) (tLawE K T c) D (sw a i g n A1 A2 p1 p2 t R y1 x10 z11 z12 z13 x14) H1
    obtain ⟨⟨F1, F2⟩, F3, F4, F5⟩ := five_fs (σ := sw a i g n A1 A2 p1 p2 t R y1 x10 z11 z12 z13 x14) h1 rfl rfl rfl
    have fl : FLs K T c.C (sw a i g n A1 A2 p1 p2 t R y1 x10 z11 z12 z13 x14) H1 n (taSm K T c) (us5 (rs1.map (·.2)) (rs2.map (·.2)) t) := FLs.cons F1 (.cons F2 (.cons F3 (.cons F4 (.cons F5 .nil))))
    refine forL_ (te := tLst (taSm K T c)) (lstA_ (fl H1 (ext_refl _) T1 _ fun ps H2 x2 T2 hps => ⟨?_, fun G hG => ?_⟩))
    · rw [List.length_map, Paired.length hps]
      show 5 ≤ sizeLine
      decide
    have sG := same_new (o := .lst (ps.map V.ref)) hG
    have eG : (upd H2 G (.lst (ps.map V.ref))) G = some (.lst (ps.map V.ref)) := upd_same
    have TG := T2.ext sG
    have hpG := Paired.mapP hps fun _ _ ⟨D, fo⟩ => (⟨D, foAt_ext fo (.of sG)⟩ : ∃ D, FoAt K c.C (upd H2 G (.lst (ps.map V.ref))) _ n _ D)
    have xG := extN_trans x1 (extN_trans x2 (.of sG))
    generalize upd H2 G (.lst (ps.map V.ref)) = H3 at *
    refine ⟨G, rfl, ⟨_, SqL.of eG⟩, ?_⟩
    have u5 := us5_tb h.b1 h.b2 h.ht
    refine for_list (D := { D with nx := tLawE K T c D }) (K := K) (xs := ps.map V.ref) (fun k σ H' => (∃ x14, σ = sw a i g n A1 A2 p1 p2 t R y1 x10 z11 z12 z13 x14) ∧ LamX.ExtN H3 H' ∧ LamX.Tabs T H') ⟨⟨_, rfl⟩, ext_refl _, TG⟩ (fun k σ H' _ hP => SqL.of (lst_ext eG hP.2.1)) (fun k v σ H4 hx hP => ?_) fun σ H4 hP => ?_
    · obtain ⟨⟨z14, rfl⟩, x4, T4⟩ := hP
      rw [List.getElem?_map] at hx
      obtain ⟨p, hpp, rfl⟩ := Option.map_eq_some_iff.mp hx
      obtain ⟨us, hus, D0, fo⟩ := Paired.idx hpG hpp
      show tSmB K c _ (sw a i g n A1 A2 p1 p2 t R y1 x10 z11 z12 z13 (some (.ref p))) H4
      exact smB_run T4 (foAt_ext fo x4) (u5 us (List.mem_of_getElem? hus)) h.n2 fun H5 x5 T5 => ⟨⟨_, rfl⟩, extN_trans x4 x5, T5⟩
    · obtain ⟨⟨z14, rfl⟩, x4, T4⟩ := hP
      have x04 := extN_trans xG x4
      show tLawE K T c D (sw a i g n A1 A2 p1 p2 t R y1 x10 z11 z12 z13 z14) H4
      exact laE FT I EQ (h.ext x04 T4) hk fun H5 x5 T5 => q _ _ _ _ H5 (keepN_trans (keepN_ext x04) x5) T5
end
end L2.Fo

set_option exponentiation.threshold 2000
/-! # the law: the whole -/
namespace L2.Fo
open PySem PySem.Spec PyProof.Rows L2.Vf L2.Dw L2.Ch L2.Nk L2.Lt L2.Qs L2.Tdf RZ
def spLa (K : PySem.W.Frag) (T : List (Addr × Str)) : Sp := fun vs H Q _ => ∃ (a : Addr) (ns : List Int), vs = [.ref a] ∧ SqL K H a (ns.map V.int) ∧ LamX.Tabs T H ∧ ∀ H', Q (.bl true) H'
section
variable {P : Program} {w : World} {K : PySem.W.Frag} {mg : Str → Option Value} {base : Heap} {T : List (Addr × Str)} {c : Cls5} {a : FmA}
variable {fP fD fR fS fW fO fV fL fQ fU f : Addr} {fd dP dD dR dS dW dO dV dL dQ dU : FuncData}
theorem laC {H : Hp} {D : Ends} {s A1 A2 g n k : Nat} {rs1 rs2 : List Trm} {y1 x6 x7 x8 x9 x10 x11 x12 x13 x14 : Option V} (FT : FoT K mg c.C) (I : IsT K c.C) {fE : Addr} (EQ : EqT K c.C fE) (n1 : 1 ≤ n) (n2 : n ≤ 2) (pu : Pu H g k) (hk : k ≤ 30000) (hT : LamX.Tabs T H) (e1 : H A1 = some (.lst (rs1.map fun r => V.ref r.1))) (t1 : ∀ r ∈ rs1, TmAt K H r) (b1 : Tb n 4 (10 ^ 6) 3 3 (rs1.map (·.2)))
    (e2 : H A2 = some (.lst (rs2.map fun r => V.ref r.1))) (t2 : ∀ r ∈ rs2, TmAt K H r) (b2 : Tb n 4 (10 ^ 6) 3 3 (rs2.map (·.2))) (n3 : A1 ≠ g) (n4 : A2 ≠ g)
    (q : ∀ y6 y7 y8 y9 y11 y12 y13 y14 H', KeepN g H H' → LamX.Tabs T H' → D.nx [some (.ref s), y1, some (.ref g), some (.int (n : Nat)), some (.ref A1), some (.ref A2), y6, y7, y8, y9, x10, y11, y12, y13, y14] H') :
    tLawC K T c D [some (.ref s), y1, some (.ref g), some (.int (n : Nat)), some (.ref A1), some (.ref A2), x6, x7, x8, x9, x10, x11, x12, x13, x14] H := by
  unfold tLawC
  have wn := wid_yes n1 n2
  obtain ⟨gl, eg⟩ := pu.lst
  refine par3_ (cons_ (FS.mk (IS.var (i := 3) rfl) (LS.var rfl e1 t1 rfl) wn (tdAll b1) (Nat.lt_of_le_of_lt b1.1 (by decide)) H (ext_refl _) hT _ fun p1 D1 H1 z1 T1 m1 f1 => ?_))
  refine cons_ (FS.mk (IS.var (i := 3) rfl) (LS.var rfl (lst_ext e2 z1) (fun r hr => (t2 r hr).ext z1) rfl) wn (tdAll b2) (Nat.lt_of_le_of_lt b2.1 (by decide)) H1 (ext_refl _) T1 _ fun p2 D2 H2 z2 T2 m2 f2 => ?_)
  have z02 := extN_trans z1 z2
  have pu2 := pu_ext pu z02
  obtain ⟨gl2, eg2⟩ := pu2.lst
  refine cons_ (call_ (cons_ (t := tVar 2) ⟨_, rfl, cons_ (op_ ⟨10, 19, rfl, rfl, ⟨by decide, by decide +kernel⟩, ?_⟩)⟩))
  refine ⟨g, 10 ^ Int.toNat 19, k, rfl, by decide, by decide, pu2, by omega, fun t H3 r1 r2 k3 pu3 => ?_⟩
  refine ⟨_, _, _, rfl, ?_⟩
  have ht : t.natAbs ≤ 10 ^ 19 := by
    have : (10 : Int) ^ Int.toNat 19 = 10000000000000000000 := by decide
    rw [this] at r1 r2
    have : (10 : Nat) ^ 19 = 10000000000000000000 := by decide
    omega
  show tSeq (tAsg (tRws K) (gName 9)) (tLawD K T c) D [some (.ref s), y1, some (.ref g), some (.int (n : Nat)), some (.ref A1), some (.ref A2), some (.ref p1), some (.ref p2), some (.int t), x9, x10, x11, x12, x13, x14] H3
  obtain ⟨gl3, eg3⟩ := pu3.lst
  refine asg_ (rws_run (σ := [some (.ref s), y1, some (.ref g), some (.int (n : Nat)), some (.ref A1), some (.ref A2), some (.ref p1), some (.ref p2), some (.int t), x9, x10, x11, x12, x13, x14]) (fun _ => rfl) (fun _ => rfl) (fun _ => rfl) n1 n2 pu3 (by omega) fun R ads rws H4 k4 pu4 nR eR hp => ?_)
  have k24 : Keep g H2 H4 := fun b o hb ho => k4 b o hb (k3 b o hb ho)
  have T4 := tabs_keep T2 eg2 k24
  have tm : ∀ t : Trm, TmAt K H t → TmAt K H4 t := fun t h => tmAt_keep (h.ext z02) eg2 k24
  show tLawD K T c D (sw s 0 g n A1 A2 p1 p2 t R y1 x10 x11 x12 x13 x14) H4
  have g1 : D1 ≠ g := newN_ne (m1 rfl) eg
  have g2 : D2 ≠ g := newN_ne (m2 rfl) (lst_ext eg z1)
  refine laD FT I EQ (rs1 := rs1) (rs2 := rs2) (D1 := D1) (D2 := D2) (ads := ads) (rws := rws) ⟨n1, n2, ht, k24 _ _ n3 (lst_ext e1 z02), fun r hr => tm r (t1 r hr), b1, k24 _ _ n4 (lst_ext e2 z02), fun r hr => tm r (t2 r hr), b2, foAt_keep (foAt_ext f1 z2) eg2 g1 k24, foAt_keep f2 eg2 g2 k24, eR, hp, pu4, T4, n3, n4, g1, g2, nR⟩ (by omega) fun y11 y12 y13 y14 H5 k5 T5 => ?_
  exact q _ _ _ _ _ _ _ _ H5 (keepN_trans (keepN_trans (keepN_ext z02) (keepN_keep k24)) k5) T5
theorem ok_la (Fn : Fun K "law" "law" sLa f fd) (N : Nm mg) (F : FmT P w K mg base T c a) (G : LaT P w K mg base T c fP fD fR fS fW fO fV fL fQ fU dP dD dR dS dW dO dV dL dQ dU) : FnG P w K mg base CX0 15 f fd ["_law_script"] (spLa K T) := by
  refine okG Fn scLa (fun vs H Q E h => ?_) fun cdv A outer s H vs Q E hg hr h => ?_
  · obtain ⟨a, ns, rfl, _⟩ := h
    rfl
  · obtain ⟨s, ns, rfl, ha, hT, q⟩ := h
    refine ⟨tLaw K T c, der_la N F G hg hr, ?_⟩
    unfold tLaw
    refine ⟨4, rfl, by decide, by decide, ?_⟩
    refine for_range (D := { nx := tRet (tC (.bl true)) { nx := fun _ H' => Q .non H', rt := Q }, rt := Q }) (lo := 0) (n := 4) (fun i σ H' => (∃ y1 y2 y3 y4 y5 y6 y7 y8 y9 y10 y11 y12 y13 y14, σ = [some (.ref s), y1, y2, y3, y4, y5, y6, y7, y8, y9, y10, y11, y12, y13, y14]) ∧ LamX.ExtN H H' ∧ LamX.Tabs T H') ⟨⟨_, _, _, _, _, _, _, _, _, _, _, _, _, _, rfl⟩, ext_refl _, hT⟩ (fun i σ H0 hi hP => ?_) fun σ H0 hP => ?_
    · obtain ⟨⟨y1, y2, y3, y4, y5, y6, y7, y8, y9, y10, y11, y12, y13, y14, rfl⟩, e0, t0⟩ := hP
      show tLawB K T c _ [some (.ref s), some (.int (0 + (i : Nat))), y2, y3, y4, y5, y6, y7, y8, y9, y10, y11, y12, y13, y14] H0
      unfold tLawB
      refine asg_ ⟨_, rfl, _, rfl, s, ns, i, congrArg (fun x : Int => [V.ref s, V.int x]) (Int.zero_add _), sqL_ext e0 ha, by omega, fun g H1 hg1 s1 p1 => ?_⟩
      refine asg_ (op_ ⟨_, rfl, g, 2, _, rfl, by decide, by decide, p1, by omega, fun r H2 r0 r1 k2 p2 => ⟨_, _, rfl, rfl, ?_⟩⟩)
      obtain ⟨n, en, n1, n2⟩ : ∃ n : Nat, 1 + r = (n : Int) ∧ 1 ≤ n ∧ n ≤ 2 := ⟨(1 + r).toNat, by omega, by omega, by omega⟩
      obtain ⟨gl, eg⟩ := p1.lst
      have s2 : Same H0 H2 := fun b u e => k2 b u (ne_of_none e hg1) (s1 b u e)
      have t2 : LamX.Tabs T H2 := t0.ext s2
      dsimp only
      rw [en]
      show tSeq (tPar 4 5 _) (tLawC K T c) _ [some (.ref s), some (.int (0 + (i : Nat))), some (.ref g), some (.int (n : Nat)), y4, y5, y6, y7, y8, y9, y10, y11, y12, y13, y14] H2
      obtain ⟨gl2, eg2⟩ := p2.lst
      refine par_ (cons_ (call_ ⟨_, rfl, _, rfl, g, n, 4, 3, _, rfl, n1, n2, by decide, by decide, p2, by omega, fun A1 rs1 H3 nA1 k3 pu3 l3 tm3 e3 => ?_⟩))
      have T3 := tabs_keep t2 eg2 k3
      have gA1 := p2.ne nA1
      obtain ⟨gl3, eg3⟩ := pu3.lst
      refine cons_ (call_ ⟨_, rfl, _, rfl, g, n, 4, 3, _, rfl, n1, n2, by decide, by decide, pu3, by omega, fun A2 rs2 H4 nA2 k4 pu4 l4 tm4 e4 => ?_⟩)
      have T4 := tabs_keep T3 eg3 k4
      have gA2 := pu3.ne nA2
      refine ⟨_, _, rfl, ?_⟩
      show tLawC K T c _ [some (.ref s), some (.int (0 + (i : Nat))), some (.ref g), some (.int (n : Nat)), some (.ref A1), some (.ref A2), y6, y7, y8, y9, y10, y11, y12, y13, y14] H4
      refine laC F.ft F.is_ F.eq n1 n2 pu4 (by omega) T4 (k4 _ _ gA1.symm e3) (fun r hr => tmAt_keep (tm3 r hr).1 eg3 k4) (drawn_tb tm3 l3 (by decide)) e4 (fun r hr => (tm4 r hr).1) (drawn_tb tm4 l4 (by decide)) gA1.symm gA2.symm fun z6 z7 z8 z9 z11 z12 z13 z14 H5 k5 T5 => ?_
      refine ⟨⟨_, _, _, _, _, _, _, _, _, _, _, _, _, _, rfl⟩, extN_trans e0 fun b o hb ho => ?_, T5⟩
      have hbg := ne_of_none hb hg1
      exact k5 b o hbg ho (k4 _ _ hbg (k3 _ _ hbg (s2 _ _ hb)))
    · obtain ⟨⟨y1, y2, y3, y4, y5, y6, y7, y8, y9, y10, y11, y12, y13, y14, rfl⟩, e0, t0⟩ := hP
      show tRet (tC (.bl true)) { nx := fun _ H' => Q .non H', rt := Q } [some (.ref s), y1, y2, y3, y4, y5, y6, y7, y8, y9, y10, y11, y12, y13, y14] H0
      exact q H0
end
end L2.Fo

/-! # heads by facts, 1: the law's end where tables of code stand and no repr runs around -/
namespace L2.Hd
open PySem PySem.Spec PyProof.Rows L2.Vf
/-- what the abstract heap holds when the law is called: the tables, and the script if no written part holds it -/
def hp0 (K : PySem.W.Frag) (ts : List Addr) (a : Addr) (o : Obj) (xs : List V) : Hp := fun b => if b ∈ ts then some (.tbl #[]) else if b = a ∧ K.lookup a = none then some (.frz o (.lst xs)) else none
section
variable {K : PySem.W.Frag} {ts : List Addr} {a b : Addr} {o : Obj} {xs : List V}
theorem hp0_tbl (h : b ∈ ts) : hp0 K ts a o xs b = some (.tbl #[]) := if_pos h
theorem hp0_scr (h : a ∉ ts) (hk : K.lookup a = none) : hp0 K ts a o xs a = some (.frz o (.lst xs)) := (if_neg h).trans (if_pos ⟨rfl, hk⟩)
theorem hp0_cases {u : HO} (h : hp0 K ts a o xs b = some u) : (b ∈ ts ∧ u = .tbl #[]) ∨ (b ∉ ts ∧ b = a ∧ K.lookup a = none ∧ u = .frz o (.lst xs)) := by
  unfold hp0 at h
  by_cases h1 : b ∈ ts
  · rw [if_pos h1] at h
    exact .inl ⟨h1, (Option.some.inj h).symm⟩
  · rw [if_neg h1] at h
    by_cases h2 : b = a ∧ K.lookup a = none
    · rw [if_pos h2] at h
      exact .inr ⟨h1, h2.1, h2.2, (Option.some.inj h).symm⟩
    · rw [if_neg h2] at h
      cases h
end
theorem lawGT {P : Program} {w : World} {K : PySem.W.Frag} {mg mb : Str → Option Value} {k : Nat} {fa a : Addr} {cs : List (Addr × Addr)} {fd : FuncData} {x : Str} {sp : Sp} {s : Shared} {vs : List Value} {ns : List Int}
    (KX : K.In s.heap) (hns : s.heap.Ns mainGlobals mg) (hb : s.heap.Ns builtinsNs mb) (hbb : ∀ x : Str, x ≠ "__name__" → mb x = bootBuiltins x) (hlim : s.heap.NoLimit) (hg : s.gens = #[])
    (hT : ∀ p ∈ cs, s.heap.get? p.2 = some { cls := .none, data := .fields #[] }) (nT : ∀ p ∈ cs, K.lookup p.2 = none) (hC : ∀ p ∈ cs, PySem.W.CodeHd s.heap p.1 p.2)
    (hbm : ∃ (bm : Addr) (ob : Obj), mg "__builtins__" = some (.ref bm) ∧ bm ≠ builtinsNs ∧ s.heap.get? bm = some ob ∧ ob.cls = .type "module" ∧ ob.dict = some builtinsNs ∧ ob.data = .plain)
    (ha : s.heap.get? a = some { cls := .type "list", data := .seq vs.toArray }) (hi : IntsAre vs ns) (hl : ns.length ≤ sizeLine) (hr : Room k callerA)
    (F : ∀ base : Heap, K.In base → base.Ns mainGlobals mg → (∀ p ∈ cs, LamX.TabB base mg p.1 p.2) → FnG P w K mg base CX0 k fa fd [x] sp) (hbind : ∀ (s : Shared) (u : Value), BindsTo s fd ⟨[u], []⟩ [(x, u)])
    (hsp : ∀ H : Hp, (∀ p ∈ cs, H p.2 = some (.tbl #[])) → SqL K H a (ns.map V.int) → sp [.ref a] H (fun v _ => v = .bl true) fun _ _ _ => False) :
    codeAny (model P w) callerA (.call (.ref fa) ⟨[.ref a], []⟩) (fun r s' => r = .ok (.ret (.bool true)) ∧ OldK s.heap s'.heap ∧ s'.os = s.os ∧ AllBare s'.gens) s := by
  have rv := vals_ints hi
  have lv := hi.length
  let ts := cs.map (·.2)
  have memT : ∀ p ∈ cs, p.2 ∈ ts := fun p hp => List.mem_map.mpr ⟨p, hp, rfl⟩
  have tabAt : ∀ b ∈ ts, s.heap.get? b = some { cls := .none, data := .fields #[] } := fun b hb => by
    obtain ⟨p, hp, rfl⟩ := List.mem_map.mp hb
    exact hT p hp
  have aT : a ∉ ts := fun z => by
    have q := tabAt a z
    rw [ha] at q
    injection q with q
    injection q with _ _ q
    cases q
  let H : Hp := hp0 K ts a { cls := .type "list", data := .seq vs.toArray } (ns.map V.int)
  have tbl : ∀ p ∈ cs, H p.2 = some (.tbl #[]) := fun p hp => hp0_tbl (memT p hp)
  have free : ∀ {b : Addr} {ob : Obj}, s.heap.get? b = some ob → (∀ us n, ob.data ≠ .seq us n) → ob.data ≠ .fields #[] → H b = none := fun {b ob} e h1 h2 => by
    cases q : H b with
    | none => rfl
    | some u =>
      rcases hp0_cases q with ⟨m, _⟩ | ⟨_, z, _, _⟩
      · rw [tabAt b m] at e
        injection e with e
        exact absurd (by rw [← e]) h2
      · rw [z, ha] at e
        injection e with e
        exact absurd (by rw [← e]) (h1 vs.toArray _)
  have freeD : ∀ {b : Addr} {ob : Obj} {es : Array DictEntry} {ep : Nat}, s.heap.get? b = some ob → ob.data = .dict es ep → H b = none := fun e d => free e (fun us n z => by rw [d] at z; cases z) fun z => by rw [d] at z; cases z
  let base := hidT s.heap H
  have toB : ∀ {b : Addr} {ob : Obj}, s.heap.get? b = some ob → H b = none → base.get? b = some ob := fun e n => hidT_get e n
  have nsB : ∀ {b : Addr} {m : Str → Option Value}, s.heap.Ns b m → base.Ns b m := fun {b m} ⟨ob, es, ep, e, d, r⟩ => ⟨ob, es, ep, toB e (freeD e d), d, r⟩
  have KB : K.In base := fun b ob e => toB (KX b ob e) (by
    cases q : H b with
    | none => rfl
    | some u =>
      rcases hp0_cases q with ⟨m, _⟩ | ⟨_, z, hk, _⟩
      · obtain ⟨p, hp, rfl⟩ := List.mem_map.mp m
        rw [nT p hp] at e
        cases e
      · rw [z, hk] at e
        cases e)
  have MB : L2.Mod K mg base := by
    obtain ⟨mc, l1, l2⟩ := hlim
    exact ⟨KB, nsB hns, ⟨mb, nsB hb, hbb⟩, mc, nsB l1, l2⟩
  have seqA : SqL K H a (ns.map V.int) := by
    cases hk : K.lookup a with
    | none => exact .inl (.inr ⟨_, hp0_scr aT hk⟩)
    | some ob =>
      have e := KX a ob hk
      rw [ha] at e
      injection e with e
      subst e
      refine .inr ⟨_, vs.toArray, _, hk, rfl, rfl, rfl, ?_, ?_⟩
      · rw [List.size_toArray, lv]
        exact hl
      · simpa using rv
  have okH : HOk P w H s.heap := fun b u q => by
    rcases hp0_cases q with ⟨m, rfl⟩ | ⟨_, rfl, _, rfl⟩
    · exact tabAt b m
    · refine ⟨ha, ?_, vs, _, rv, ha⟩
      rw [List.length_map]
      exact hl
  have TB : ∀ p ∈ cs, LamX.TabB base mg p.1 p.2 := fun p hp => by
    have tp := hT p hp
    refine ⟨?_, ?_, fun z => ?_⟩
    · obtain ⟨ob, us, file, tf, flags, tg, inF, text, tt, e, c1, c2, c3, c4, c5, c6, c7, c8, c9⟩ := hC p hp
      refine ⟨ob, us, file, tf, flags, tg, inF, text, tt, toB e (free e (fun us' n z => by rw [c2] at z; cases z) fun z => ?_), c1, c2, c3, c4, c5, c6, c7, c8, c9⟩
      rw [c2] at z
      cases z
      simp at c3
    · obtain ⟨bm, ob, b1, b2, b3, b4, b5, b6⟩ := hbm
      refine ⟨bm, ob, b1, b2, fun z => ?_, fun z => ?_, toB b3 (free b3 (fun us n z => by rw [b6] at z; cases z) fun z => by rw [b6] at z; cases z), b4, b5, b6⟩
      · obtain ⟨o2, es, ep, e, d, _⟩ := hns
        rw [z, e] at b3
        injection b3 with b3
        rw [← b3, d] at b6
        cases b6
      · rw [z, tp] at b3
        injection b3 with b3
        rw [← b3] at b6
        cases b6
    · obtain ⟨o2, es, ep, e, d, _⟩ := hns
      rw [z, tp] at e
      injection e with e
      rw [← e] at d
      cases d
  have e0 : Env0 P w K mg base callerA [] s H := by
    exact ⟨rfl, MB, fun b ob e => of_hidT e, Nat.le_of_eq (hidT_size _ _), trivial, fun b hb => absurd (show b ∈ ([] : List Addr) from hb) (by simp), okH, .of_eq hg⟩
  refine codeAny_mono ((F base KB (nsB hns) TB).go callerA [] s H ⟨[.ref a], []⟩ [.ref a] [.ref a] _ _ rfl hr e0 (hbind s (.ref a)) (.cons rfl .nil) (hsp H tbl seqA)) fun r s' h => ?_
  match r, h with
  | .error e, h => exact False.elim h
  | .ok .next, h => exact False.elim h
  | .ok .brk, h => exact False.elim h
  | .ok .cont, h => exact False.elim h
  | .ok (.ret u), h =>
    obtain ⟨v, H', os, bare, un, ok', ru, qv⟩ := h
    subst qv
    obtain rfl : u = Value.bool true := ru
    have grown : ∀ p ∈ cs, ∃ more : Array Value, s'.heap.get? p.2 = some { cls := .none, data := .fields more } := fun p hp => by
      obtain ⟨more, z⟩ := un.tbls p.2 #[] (tbl p hp)
      exact ⟨_, ok' p.2 _ z⟩
    have same : ∀ b ob, b ∉ ts → s.heap.get? b = some ob → s'.heap.get? b = some ob := fun b ob nb e => by
      cases q : H b with
      | none => exact un.keep b ob e q (fun z => absurd (show b ∈ ([] : List Addr) from z) (by simp)) (by simp)
      | some u =>
        rcases hp0_cases q with ⟨m, _⟩ | ⟨_, _, _, rfl⟩
        · exact absurd m nb
        · obtain ⟨g1, _⟩ := okH b _ q
          obtain ⟨g2, _⟩ := ok' b _ (un.frzs b _ _ q)
          rw [e] at g1
          rw [g1]
          exact g2
    refine ⟨rfl, ⟨fun b ob e => ?_, fun b ob e => ?_⟩, os, bare⟩
    · by_cases m : b ∈ ts
      · obtain ⟨p, hp, rfl⟩ := List.mem_map.mp m
        obtain ⟨more, hm⟩ := grown p hp
        rw [hT p hp] at e
        injection e with e
        subst e
        refine .inr (.inl ⟨((hC p hp).tab (hT p hp)).isCodeTable, rfl, #[], more, rfl, ?_⟩)
        rw [Array.empty_append]
        exact hm
      · exact .inl (same b ob m e)
    · by_cases m : b ∈ ts
      · obtain ⟨p, hp, rfl⟩ := List.mem_map.mp m
        obtain ⟨more, hm⟩ := grown p hp
        exact ⟨_, hm⟩
      · exact ⟨ob, same b ob m e⟩
/-- the goal that such a head leaves -/
theorem walkGT {l : PySem.W.OpenLaw} {n k : Nat} {q : Program} {loose : List Str} {XP : (Str → Option Value) → Heap → Prop} {YP : World → Heap → Prop} {d : DefRec} {x : Str}
    (hn : l.most = some n) (hn2 : n ≤ sizeLine) (hdf : d.params.defaults = []) (hr : Room k callerA)
    (F : ∀ (w : World) (mg : Str → Option Value) (fa : Addr) (h : Heap), YP w h → h.Ns mainGlobals mg → mg d.name = some (.ref fa) → ∃ (K : PySem.W.Frag) (fd : FuncData) (cs : List (Addr × Addr)) (sp : Sp), K.In h ∧
      (∀ p ∈ cs, h.get? p.2 = some { cls := .none, data := .fields #[] }) ∧ (∀ p ∈ cs, K.lookup p.2 = none) ∧ (∀ p ∈ cs, PySem.W.CodeHd h p.1 p.2) ∧ (∀ (s : Shared) (u : Value), BindsTo s fd ⟨[u], []⟩ [(x, u)]) ∧
      (∀ (H : Hp) (a : Addr) (ns : List Int), ns.length ≤ n → (∀ p ∈ cs, H p.2 = some (.tbl #[])) → SqL K H a (ns.map V.int) → sp [.ref a] H (fun v _ => v = .bl true) fun _ _ _ => False) ∧
      ∀ base : Heap, K.In base → base.Ns mainGlobals mg → (∀ p ∈ cs, LamX.TabB base mg p.1 p.2) → FnG l.prog w K mg base CX0 k fa fd [x] sp) :
    PySem.W.WalkO q loose XP YP l.row.toRowW d [] (fun f vs => PySem.call f vs) := by
  refine Att.attach_callB hn hdf fun w s₀ s₁ mg mb fa o pm cd doc a vs ns G Y ho hd hcd hmg hobj hints hlen hbits hg => ?_
  obtain ⟨K, fd, cs, sp, KX, hT, nT, hC, hb, hsp, hF⟩ := F w mg fa _ Y G.T.g hmg
  exact lawGT KX G.T.g G.T.b G.T.builtins G.T.nolimit hg hT nT hC G.T.bmain hobj hints (Nat.le_trans hlen hn2) hr hF hb fun H hH hS => hsp H a ns hlen hH hS
end L2.Hd

/-! # heads by facts, 2: errors with one field, classes, defs -/
namespace L2.Hd
open PySem PySem.Spec PyProof.Rows L2.Vf L2.Fo He
/-- a class of errors as it stands -/
def oexB (K : PySem.W.Frag) (C : Addr) : Bool := match K.lookup C with
  | some ⟨.type t, _, .cls ⟨_, _, .ref C' :: bm, _, _, true, _, _, _, _, false⟩, ⟨[_, _, _, _, some (.builtin n), _]⟩⟩ => decide (t = "type") && decide (C' = C) && decide (n = "ValueError.__new__") && PySem.HandSPX.refsVE bm
  | _ => false
theorem oexB_ok {K : PySem.W.Frag} {C : Addr} (h : oexB K C = true) : ∃ nm q N bs bm sn sub ab col dd k0 k1 k2 k3 k5, K.lookup C = some (excClassObj nm q C N bs bm true sn sub ab col dd k0 k1 k2 k3 k5 "ValueError.__new__") ∧ PySem.HandSPX.refsVE bm = true := by
  unfold oexB at h
  split at h
  · rename_i t dd nm bs C' bm N q sn sub ab col k0 k1 k2 k3 n k5 e
    simp only [Bool.and_eq_true, decide_eq_true_eq] at h
    obtain ⟨⟨⟨rfl, rfl⟩, rfl⟩, hb⟩ := h
    exact ⟨nm, q, N, bs, bm, sn, sub, ab, col, dd, k0, k1, k2, k3, k5, e, hb⟩
  · cases h
def oV (a : Option Value) (b : Option Value) : Bool := decide (a = b)
def oB (a : Option Bool) (b : Bool) : Bool := decide (a = some b)
/-- what else of such a class with the field f -/
def errB (K : PySem.W.Frag) (f : Str) (x : Str) : Bool :=
  oexB K (ga K x) && eqO (PySem.W.findIn K (.ref (ga K x)) "__setattr__") (some (some (.builtin "object.__setattr__"))) && eqO (PySem.W.findIn K (.ref (ga K x)) "__getattribute__") (some (some (.builtin "BaseException.__getattribute__"))) && eqO (PySem.W.findIn K (.ref (ga K x)) "__getattr__") (some none) &&
  eqO (PySem.W.findIn K (.ref (ga K x)) f) (some none) && eqO (PySem.W.findIn K (.ref (ga K x)) "__init__") (some (some (.ref (ma K (ga K x) "__init__")))) && oV (PySem.W.typeIn K (.ref (ma K (ga K x) "__init__"))) (some (.type "function")) && PySem.W.keepIn K (.ref (ga K x)) &&
  oB (PySem.W.subIn K (.ref (ga K x)) (.type "BaseException")) true && oV (PySem.W.typeIn K (.ref (ga K x))) (some (.type "type")) && PySem.W.hasDictIn K (ga K x) && eqO (PySem.W.findIn K (.ref (ga K x)) "__class__") (some (some (.builtin "object.__class__"))) && oB (PySem.W.mroIn K (ga K x) (.type "object")) true &&
  eqO (PySem.W.specialIn K (.builtin "object.__class__") "__get__") (some (some (.builtin "getset_descriptor.__get__"))) && oB (PySem.W.takesIn K (.builtin "object.__class__")) true
theorem errB_ok {K : PySem.W.Frag} {f x : Str} (h : errB K f x = true) : ErC K (ga K x) (ma K (ga K x) "__init__") f := by
  unfold errB eqO oV oB at h
  simp only [Bool.and_eq_true, decide_eq_true_eq] at h
  obtain ⟨⟨⟨⟨⟨⟨⟨⟨⟨⟨⟨⟨⟨⟨h1, h2⟩, h3⟩, h4⟩, h5⟩, h6⟩, h7⟩, h8⟩, h9⟩, h10⟩, h11⟩, h12⟩, h13⟩, h14⟩, h15⟩ := h
  exact ⟨⟨oexB_ok h1, h2, h9, h10, h8⟩, h6, h7, h5, ⟨h3, h4, h9, h11, h12, h14, h15, h13⟩⟩
/-- an error's class with its __init__ -/
theorem er_of {P : Program} {w : World} {K : PySem.W.Frag} {mg : Str → Option Value} {base : Heap} {x : Str} {qual : Str} {p1 p2 p3 p4 p5 p6 p7 : Pos} {fd : FuncData} (h : errB K "value" x = true)
    (F : FunD K "__init__" qual (iArgs "value" p1 p2 p3) (iBody "value" p4 p5 p6 p7) (iScope "value") [.non] [] (ma K (ga K x) "__init__") fd) (hm : mg x = some (.ref (ga K x))) : ErT P w K mg base x (ga K x) (ma K (ga K x) "__init__") fd :=
  ⟨errB_ok h, ok_initV F, init_b1 F (.inl rfl), hm⟩
/-- own instances: isinstance, == -/
def instF (K : PySem.W.Frag) (x : Str) : Bool :=
  eqO (PySem.W.findIn K (.ref (ga K x)) "__class__") (some (some (.builtin "object.__class__"))) && eqO (PySem.W.specialIn K (.builtin "object.__class__") "__get__") (some (some (.builtin "getset_descriptor.__get__"))) && oB (PySem.W.takesIn K (.builtin "object.__class__")) true && oB (PySem.W.mroIn K (ga K x) (.type "object")) true &&
  oB (PySem.W.kitOne K (.ref (ga K x)) (.ref (ga K x))) true && eqO (PySem.W.findIn K (.ref (ga K x)) "__eq__") (some (some (.ref (ma K (ga K x) "__eq__")))) && eqO (PySem.W.findIn K (.ref (ga K x)) "__ne__") (some (some (.builtin "object.__ne__"))) && oB (PySem.W.subIn K (.ref (ga K x)) (.type "object")) true &&
  PySem.W.isFn K (.ref (ma K (ga K x) "__eq__")) && PySem.W.notFirst K (ga K x) (.ref (ga K x)) && oB (PySem.W.kitOne K (.ref (ga K x)) (.type "int")) false
theorem instF_ok {K : PySem.W.Frag} {x : Str} (h : instF K x = true) : IsT K (ga K x) ∧ EqT K (ga K x) (ma K (ga K x) "__eq__") ∧ PySem.W.kitOne K (.ref (ga K x)) (.type "int") = some false := by
  unfold instF eqO oB at h
  simp only [Bool.and_eq_true, decide_eq_true_eq] at h
  obtain ⟨⟨⟨⟨⟨⟨⟨⟨⟨⟨h1, h2⟩, h3⟩, h4⟩, h5⟩, h6⟩, h7⟩, h8⟩, h9⟩, h10⟩, h11⟩ := h
  exact ⟨⟨h1, h2, h3, h4, h5⟩, ⟨h6, h7, h8, h9, h10⟩, h11⟩
/-- operators -/
def opB (K : PySem.W.Frag) (x m : Str) : Bool := PySem.W.selfFirst K (ga K x) && eqO (PySem.W.findIn K (.ref (ga K x)) m) (some (some (.ref (ma K (ga K x) m)))) && PySem.W.isFn K (.ref (ma K (ga K x) m))
theorem opB_ok {K : PySem.W.Frag} {x m : Str} (h : opB K x m = true) : OpF K (ga K x) (ma K (ga K x) m) m := by
  unfold opB eqO at h
  simp only [Bool.and_eq_true, decide_eq_true_eq] at h
  exact ⟨h.1.1, h.1.2, h.2⟩
def inB (K : PySem.W.Frag) (x m : Str) : Bool := PySem.VfE.baseOnly K (ga K x) && eqO (PySem.W.findIn K (.ref (ga K x)) m) (some none) && eqO (PySem.W.findIn K (.type "object") m) (some none)
theorem inB_ok {K : PySem.W.Frag} {x m : Str} (h : inB K x m = true) : InF K (ga K x) m := by
  unfold inB eqO at h
  simp only [Bool.and_eq_true, decide_eq_true_eq] at h
  exact ⟨h.1.1, h.1.2, h.2⟩
def oiB (K : PySem.W.Frag) (x : Str) : Bool := (PySem.W.findIn K (.type "int") "__mul__").isSome && (PySem.W.findIn K (.type "int") "__rmul__").isSome && eqO (PySem.W.findIn K (.ref (ga K x)) "__rmul__") (some (some (.ref (ma K (ga K x) "__rmul__")))) && oB (PySem.W.subIn K (.type "int") (.ref (ga K x))) false &&
  eqO (PySem.W.findIn K (.ref (ga K x)) "__mul__") (some (some (.ref (ma K (ga K x) "__mul__")))) && oB (PySem.W.subIn K (.ref (ga K x)) (.type "int")) false
theorem oiB_ok {K : PySem.W.Frag} {x : Str} (h : oiB K x = true) : OpI K (ga K x) "mul" ∧ OpJ K (ga K x) := by
  unfold oiB eqO oB at h
  simp only [Bool.and_eq_true, decide_eq_true_eq] at h
  obtain ⟨⟨⟨⟨⟨h1, h2⟩, h3⟩, h4⟩, h5⟩, h6⟩ := h
  obtain ⟨fo, e1⟩ := Option.isSome_iff_exists.mp h1
  obtain ⟨ro, e2⟩ := Option.isSome_iff_exists.mp h2
  exact ⟨⟨⟨fo, ro, _, e1, e2, h3, .inr ⟨_, rfl⟩⟩, h4⟩, ⟨⟨_, h5⟩, h6⟩⟩
/-- a def without defaults -/
theorem fun_of {K : PySem.W.Frag} {x qual : Str} {st : Stmt} {f : Addr} {fd : FuncData} (F : FunD K x qual (defArgs st) (defBody st) (defScope st) [] [] f fd) : Fun K x qual st f fd := by
  obtain ⟨oc, od, dV, kV, doc, pm, an, cdv, ct, osl, e, lk, hcd, hD, hK⟩ := F.ex
  have e2 : dV = .none := by
    rcases hD with ⟨_, z⟩ | ⟨z, _⟩
    · exact z
    · exact absurd rfl z
  subst e2
  exact ⟨⟨oc, od, kV, doc, pm, an, cdv, ct, osl, e, lk, hcd⟩, F.kp⟩
/-- its code object -/
theorem code_of {K : PySem.W.Frag} {x qual : Str} {ar : Arguments} {bo : List Stmt} {sc : Scope} {dvs : List V} {kws : List (Str × V)} {p : Defn} {fd : FuncData} (F : FunD K x qual ar bo sc dvs kws (fAd K p) fd) : fd.code = .ref (codeOf K p) := by
  obtain ⟨oc, od, dV, kV, doc, pm, an, cdv, ct, osl, rfl, lk, hcd, _⟩ := F.ex
  obtain ⟨c, rfl⟩ := codeIn_ref hcd
  rw [codeOf_eq lk rfl]
/-- the def at a top statement; a method -/
def hdG (x : Str) (st : Stmt) : DefD := ⟨(x, none), x, x, defArgs st, defBody st, defScope st, [], []⟩
def hdM (c m q : Str) (st : Stmt) : DefD := ⟨(c, some m), m, q, defArgs st, defBody st, defScope st, [], []⟩
def hdI (c q : Str) (st : Stmt) : DefD := ⟨(c, some "__init__"), "__init__", q, defArgs st, defBody st, defScope st, [.non], []⟩
/-- an empty table of code -/
theorem tabS0 {H : Hp} {P : Addr} {q : Str} (h : H P = some (.tbl #[])) : LamX.TabS H P q :=
  ⟨#[], h, by first | exact trivial | decide | simp [TriplesOk], fun pos cv e => by cases e⟩
end L2.Hd

/-! # law k12: what stands behind the top -/
namespace L2.Fo
open PySem PySem.Spec PyProof.Rows L2.Vf L2.Dw L2.Ch L2.Nk L2.Lt L2.Hd He
def pPt : Defn := ("put_together", none)
def tf : List Defn := [pPt]
def fn : List DefD := [hdG "is_whole" sWh,
  hdG "are_whole" sAr,
  hdG "is_width" sWi,
  hdG "fits_cell" sFc,
  hdG "fits_row" sFr,
  hdG "is_letter" sLe,
  hdG "is_term" sTe,
  hdG "put_together" sPt,
  hdG "letter_worth" sLw,
  hdG "worth_table" sWt,
  hdG "tail_worths" sTw,
  hdG "by_first_letter" sBf,
  hdG "made_form" sMf,
  hdG "times" sTi,
  hdG "multiplied" sMu,
  hdG "interleaved" sIl,
  hdG "_law_mixed" sMi,
  hdG "_law_purse" sPu,
  hdG "_law_draw" sDr,
  hdG "_law_signed" sSi,
  hdG "_law_cell" sCe,
  hdG "_law_row" sRo,
  hdG "_law_letter" sLr,
  hdG "_law_terms" sTr,
  hdG "_law_letter_at" sLt,
  hdG "_law_sum" sSu,
  hdG "_law_worth" sWo,
  hdG "_law_merged" sMg,
  hdG "_law_unlike" sUn,
  hdG "_law_put" sPq,
  hdG "_law_ordered" sOr,
  hdG "_law_long_right" sLg,
  hdG "_law_products_right" sPd,
  hdG "law" sLa,
  hdM "Form" "__init__" "Form.__init__" sFi,
  hdM "Form" "at" "Form.at" sAt,
  hdM "Form" "terms" "Form.terms" sTs,
  hdM "Form" "__eq__" "Form.__eq__" sEq,
  hdM "Form" "__add__" "Form.__add__" sAd,
  hdM "Form" "__sub__" "Form.__sub__" sSb,
  hdM "Form" "__mul__" "Form.__mul__" sMl,
  hdM "Form" "__rmul__" "Form.__rmul__" sRm,
  hdM "Form" "__neg__" "Form.__neg__" sNg,
  hdI "InvalidNumber" "InvalidNumber.__init__" (inClass (top 9) 0),
  hdI "InvalidRow" "InvalidRow.__init__" (inClass (top 10) 0),
  hdI "InvalidList" "InvalidList.__init__" (inClass (top 13) 0),
  hdI "InvalidTerm" "InvalidTerm.__init__" (inClass (top 11) 0),
  hdI "InvalidForm" "InvalidForm.__init__" (inClass (top 12) 0)]
def fa : List Fa := [.glo "is_whole", .glo "are_whole", .glo "is_width", .glo "fits_cell", .glo "fits_row", .glo "is_letter", .glo "is_term", .glo "put_together", .glo "letter_worth", .glo "worth_table", .glo "tail_worths", .glo "by_first_letter", .glo "made_form", .glo "times", .glo "multiplied", .glo "interleaved", .glo "_law_mixed", .glo "_law_purse", .glo "_law_draw", .glo "_law_signed", .glo "_law_cell", .glo "_law_row", .glo "_law_letter", .glo "_law_terms", .glo "_law_letter_at", .glo "_law_sum", .glo "_law_worth", .glo "_law_merged", .glo "_law_unlike", .glo "_law_put", .glo "_law_ordered", .glo "_law_long_right", .glo "_law_products_right", .glo "law", .glo "InvalidNumber", .glo "InvalidRow", .glo "InvalidList", .glo "InvalidTerm", .glo "InvalidForm", .glo "Form", .free "isinstance", .free "int", .free "bool", .free "list", .free "tuple", .free "range", .free "len", .free "sum", .free "max", .free "zip", .free "repr", .free "sorted", .free "enumerate", .free "dict", .cls "Form", .noat "Form" "width", .noat "Form" "_terms", .mkr "Form", .meth "Form" "at", .meth "Form" "terms", .exm "InvalidForm" "InvalidForm" true]
def ex (K : PySem.W.Frag) : Bool := errB K "value" "InvalidNumber" && errB K "value" "InvalidList" && errB K "value" "InvalidTerm" && errB K "value" "InvalidRow" && errB K "value" "InvalidForm" && instF K "Form" && opB K "Form" "__add__" && opB K "Form" "__sub__" && opB K "Form" "__mul__" && opB K "Form" "__rmul__" && opB K "Form" "__neg__" && inB K "Form" "__iadd__" && inB K "Form" "__isub__" && inB K "Form" "__imul__" && oiB K "Form"
theorem facts {P : Program} {w : World} {K : PySem.W.Frag} {h : Heap} {mg : Str → Option Value} {f : Addr} (X : K.In h) (G : h.Ns mainGlobals mg) (hfa : mg ("law" : Str) = some (.ref f)) (c : SaysX fa fn [] tf ex w h K) :
    ∃ fd : FuncData, (∀ (s : Shared) (v : Value), BindsTo s fd ⟨[v], []⟩ [("_law_script", v)]) ∧ ∀ base : Heap, K.In base → base.Ns mainGlobals mg → (∀ p ∈ tf.map (He.cT K), LamX.TabB base mg p.1 p.2) → FnG P w K mg base CX0 15 f fd ["_law_script"] (spLa K [((He.cT K pPt).2, lamPt)]) := by
  have cd := c.t.d
  obtain ⟨fdWh, DWh⟩ := cd.def_ 0 (d := hdG "is_whole" sWh) rfl
  have FWh : Fun K "is_whole" "is_whole" sWh _ fdWh := fun_of DWh
  obtain ⟨fdAr, DAr⟩ := cd.def_ 1 (d := hdG "are_whole" sAr) rfl
  have FAr : Fun K "are_whole" "are_whole" sAr _ fdAr := fun_of DAr
  obtain ⟨fdWi, DWi⟩ := cd.def_ 2 (d := hdG "is_width" sWi) rfl
  have FWi : Fun K "is_width" "is_width" sWi _ fdWi := fun_of DWi
  obtain ⟨fdFc, DFc⟩ := cd.def_ 3 (d := hdG "fits_cell" sFc) rfl
  have FFc : Fun K "fits_cell" "fits_cell" sFc _ fdFc := fun_of DFc
  obtain ⟨fdFr, DFr⟩ := cd.def_ 4 (d := hdG "fits_row" sFr) rfl
  have FFr : Fun K "fits_row" "fits_row" sFr _ fdFr := fun_of DFr
  obtain ⟨fdLe, DLe⟩ := cd.def_ 5 (d := hdG "is_letter" sLe) rfl
  have FLe : Fun K "is_letter" "is_letter" sLe _ fdLe := fun_of DLe
  obtain ⟨fdTe, DTe⟩ := cd.def_ 6 (d := hdG "is_term" sTe) rfl
  have FTe : Fun K "is_term" "is_term" sTe _ fdTe := fun_of DTe
  obtain ⟨fdPt, DPt⟩ := cd.def_ 7 (d := hdG "put_together" sPt) rfl
  have FPt : Fun K "put_together" "put_together" sPt _ fdPt := fun_of DPt
  obtain ⟨fdLw, DLw⟩ := cd.def_ 8 (d := hdG "letter_worth" sLw) rfl
  have FLw : Fun K "letter_worth" "letter_worth" sLw _ fdLw := fun_of DLw
  obtain ⟨fdWt, DWt⟩ := cd.def_ 9 (d := hdG "worth_table" sWt) rfl
  have FWt : Fun K "worth_table" "worth_table" sWt _ fdWt := fun_of DWt
  obtain ⟨fdTw, DTw⟩ := cd.def_ 10 (d := hdG "tail_worths" sTw) rfl
  have FTw : Fun K "tail_worths" "tail_worths" sTw _ fdTw := fun_of DTw
  obtain ⟨fdBf, DBf⟩ := cd.def_ 11 (d := hdG "by_first_letter" sBf) rfl
  have FBf : Fun K "by_first_letter" "by_first_letter" sBf _ fdBf := fun_of DBf
  obtain ⟨fdMf, DMf⟩ := cd.def_ 12 (d := hdG "made_form" sMf) rfl
  have FMf : Fun K "made_form" "made_form" sMf _ fdMf := fun_of DMf
  obtain ⟨fdTi, DTi⟩ := cd.def_ 13 (d := hdG "times" sTi) rfl
  have FTi : Fun K "times" "times" sTi _ fdTi := fun_of DTi
  obtain ⟨fdMu, DMu⟩ := cd.def_ 14 (d := hdG "multiplied" sMu) rfl
  have FMu : Fun K "multiplied" "multiplied" sMu _ fdMu := fun_of DMu
  obtain ⟨fdIl, DIl⟩ := cd.def_ 15 (d := hdG "interleaved" sIl) rfl
  have FIl : Fun K "interleaved" "interleaved" sIl _ fdIl := fun_of DIl
  obtain ⟨fdMi, DMi⟩ := cd.def_ 16 (d := hdG "_law_mixed" sMi) rfl
  have FMi : Fun K "_law_mixed" "_law_mixed" sMi _ fdMi := fun_of DMi
  obtain ⟨fdPu, DPu⟩ := cd.def_ 17 (d := hdG "_law_purse" sPu) rfl
  have FPu : Fun K "_law_purse" "_law_purse" sPu _ fdPu := fun_of DPu
  obtain ⟨fdDr, DDr⟩ := cd.def_ 18 (d := hdG "_law_draw" sDr) rfl
  have FDr : Fun K "_law_draw" "_law_draw" sDr _ fdDr := fun_of DDr
  obtain ⟨fdSi, DSi⟩ := cd.def_ 19 (d := hdG "_law_signed" sSi) rfl
  have FSi : Fun K "_law_signed" "_law_signed" sSi _ fdSi := fun_of DSi
  obtain ⟨fdCe, DCe⟩ := cd.def_ 20 (d := hdG "_law_cell" sCe) rfl
  have FCe : Fun K "_law_cell" "_law_cell" sCe _ fdCe := fun_of DCe
  obtain ⟨fdRo, DRo⟩ := cd.def_ 21 (d := hdG "_law_row" sRo) rfl
  have FRo : Fun K "_law_row" "_law_row" sRo _ fdRo := fun_of DRo
  obtain ⟨fdLr, DLr⟩ := cd.def_ 22 (d := hdG "_law_letter" sLr) rfl
  have FLr : Fun K "_law_letter" "_law_letter" sLr _ fdLr := fun_of DLr
  obtain ⟨fdTr, DTr⟩ := cd.def_ 23 (d := hdG "_law_terms" sTr) rfl
  have FTr : Fun K "_law_terms" "_law_terms" sTr _ fdTr := fun_of DTr
  obtain ⟨fdLt, DLt⟩ := cd.def_ 24 (d := hdG "_law_letter_at" sLt) rfl
  have FLt : Fun K "_law_letter_at" "_law_letter_at" sLt _ fdLt := fun_of DLt
  obtain ⟨fdSu, DSu⟩ := cd.def_ 25 (d := hdG "_law_sum" sSu) rfl
  have FSu : Fun K "_law_sum" "_law_sum" sSu _ fdSu := fun_of DSu
  obtain ⟨fdWo, DWo⟩ := cd.def_ 26 (d := hdG "_law_worth" sWo) rfl
  have FWo : Fun K "_law_worth" "_law_worth" sWo _ fdWo := fun_of DWo
  obtain ⟨fdMg, DMg⟩ := cd.def_ 27 (d := hdG "_law_merged" sMg) rfl
  have FMg : Fun K "_law_merged" "_law_merged" sMg _ fdMg := fun_of DMg
  obtain ⟨fdUn, DUn⟩ := cd.def_ 28 (d := hdG "_law_unlike" sUn) rfl
  have FUn : Fun K "_law_unlike" "_law_unlike" sUn _ fdUn := fun_of DUn
  obtain ⟨fdPq, DPq⟩ := cd.def_ 29 (d := hdG "_law_put" sPq) rfl
  have FPq : Fun K "_law_put" "_law_put" sPq _ fdPq := fun_of DPq
  obtain ⟨fdOr, DOr⟩ := cd.def_ 30 (d := hdG "_law_ordered" sOr) rfl
  have FOr : Fun K "_law_ordered" "_law_ordered" sOr _ fdOr := fun_of DOr
  obtain ⟨fdLg, DLg⟩ := cd.def_ 31 (d := hdG "_law_long_right" sLg) rfl
  have FLg : Fun K "_law_long_right" "_law_long_right" sLg _ fdLg := fun_of DLg
  obtain ⟨fdPd, DPd⟩ := cd.def_ 32 (d := hdG "_law_products_right" sPd) rfl
  have FPd : Fun K "_law_products_right" "_law_products_right" sPd _ fdPd := fun_of DPd
  obtain ⟨fdLa, DLa⟩ := cd.def_ 33 (d := hdG "law" sLa) rfl
  have FLa : Fun K "law" "law" sLa _ fdLa := fun_of DLa
  obtain ⟨fdFi, DFi⟩ := cd.def_ 34 (d := hdM "Form" "__init__" "Form.__init__" sFi) rfl
  have FFi : Fun K "__init__" "Form.__init__" sFi _ fdFi := fun_of DFi
  obtain ⟨fdAt, DAt⟩ := cd.def_ 35 (d := hdM "Form" "at" "Form.at" sAt) rfl
  have FAt : Fun K "at" "Form.at" sAt _ fdAt := fun_of DAt
  obtain ⟨fdTs, DTs⟩ := cd.def_ 36 (d := hdM "Form" "terms" "Form.terms" sTs) rfl
  have FTs : Fun K "terms" "Form.terms" sTs _ fdTs := fun_of DTs
  obtain ⟨fdEq, DEq⟩ := cd.def_ 37 (d := hdM "Form" "__eq__" "Form.__eq__" sEq) rfl
  have FEq : Fun K "__eq__" "Form.__eq__" sEq _ fdEq := fun_of DEq
  obtain ⟨fdAd, DAd⟩ := cd.def_ 38 (d := hdM "Form" "__add__" "Form.__add__" sAd) rfl
  have FAd : Fun K "__add__" "Form.__add__" sAd _ fdAd := fun_of DAd
  obtain ⟨fdSb, DSb⟩ := cd.def_ 39 (d := hdM "Form" "__sub__" "Form.__sub__" sSb) rfl
  have FSb : Fun K "__sub__" "Form.__sub__" sSb _ fdSb := fun_of DSb
  obtain ⟨fdMl, DMl⟩ := cd.def_ 40 (d := hdM "Form" "__mul__" "Form.__mul__" sMl) rfl
  have FMl : Fun K "__mul__" "Form.__mul__" sMl _ fdMl := fun_of DMl
  obtain ⟨fdRm, DRm⟩ := cd.def_ 41 (d := hdM "Form" "__rmul__" "Form.__rmul__" sRm) rfl
  have FRm : Fun K "__rmul__" "Form.__rmul__" sRm _ fdRm := fun_of DRm
  obtain ⟨fdNg, DNg⟩ := cd.def_ 42 (d := hdM "Form" "__neg__" "Form.__neg__" sNg) rfl
  have FNg : Fun K "__neg__" "Form.__neg__" sNg _ fdNg := fun_of DNg
  obtain ⟨fdN, DN⟩ := cd.def_ 43 (d := hdI "InvalidNumber" "InvalidNumber.__init__" (inClass (top 9) 0)) rfl
  obtain ⟨fdR, DR⟩ := cd.def_ 44 (d := hdI "InvalidRow" "InvalidRow.__init__" (inClass (top 10) 0)) rfl
  obtain ⟨fdL, DL⟩ := cd.def_ 45 (d := hdI "InvalidList" "InvalidList.__init__" (inClass (top 13) 0)) rfl
  obtain ⟨fdT, DT⟩ := cd.def_ 46 (d := hdI "InvalidTerm" "InvalidTerm.__init__" (inClass (top 11) 0)) rfl
  obtain ⟨fdF, DF⟩ := cd.def_ 47 (d := hdI "InvalidForm" "InvalidForm.__init__" (inClass (top 12) 0)) rfl
  have g_is_whole := glo_ok X G (cd.fact 0 (f := .glo "is_whole") rfl)
  have g_are_whole := glo_ok X G (cd.fact 1 (f := .glo "are_whole") rfl)
  have g_is_width := glo_ok X G (cd.fact 2 (f := .glo "is_width") rfl)
  have g_fits_cell := glo_ok X G (cd.fact 3 (f := .glo "fits_cell") rfl)
  have g_fits_row := glo_ok X G (cd.fact 4 (f := .glo "fits_row") rfl)
  have g_is_letter := glo_ok X G (cd.fact 5 (f := .glo "is_letter") rfl)
  have g_is_term := glo_ok X G (cd.fact 6 (f := .glo "is_term") rfl)
  have g_put_together := glo_ok X G (cd.fact 7 (f := .glo "put_together") rfl)
  have g_letter_worth := glo_ok X G (cd.fact 8 (f := .glo "letter_worth") rfl)
  have g_worth_table := glo_ok X G (cd.fact 9 (f := .glo "worth_table") rfl)
  have g_tail_worths := glo_ok X G (cd.fact 10 (f := .glo "tail_worths") rfl)
  have g_by_first_letter := glo_ok X G (cd.fact 11 (f := .glo "by_first_letter") rfl)
  have g_made_form := glo_ok X G (cd.fact 12 (f := .glo "made_form") rfl)
  have g_times := glo_ok X G (cd.fact 13 (f := .glo "times") rfl)
  have g_multiplied := glo_ok X G (cd.fact 14 (f := .glo "multiplied") rfl)
  have g_interleaved := glo_ok X G (cd.fact 15 (f := .glo "interleaved") rfl)
  have g__law_mixed := glo_ok X G (cd.fact 16 (f := .glo "_law_mixed") rfl)
  have g__law_purse := glo_ok X G (cd.fact 17 (f := .glo "_law_purse") rfl)
  have g__law_draw := glo_ok X G (cd.fact 18 (f := .glo "_law_draw") rfl)
  have g__law_signed := glo_ok X G (cd.fact 19 (f := .glo "_law_signed") rfl)
  have g__law_cell := glo_ok X G (cd.fact 20 (f := .glo "_law_cell") rfl)
  have g__law_row := glo_ok X G (cd.fact 21 (f := .glo "_law_row") rfl)
  have g__law_letter := glo_ok X G (cd.fact 22 (f := .glo "_law_letter") rfl)
  have g__law_terms := glo_ok X G (cd.fact 23 (f := .glo "_law_terms") rfl)
  have g__law_letter_at := glo_ok X G (cd.fact 24 (f := .glo "_law_letter_at") rfl)
  have g__law_sum := glo_ok X G (cd.fact 25 (f := .glo "_law_sum") rfl)
  have g__law_worth := glo_ok X G (cd.fact 26 (f := .glo "_law_worth") rfl)
  have g__law_merged := glo_ok X G (cd.fact 27 (f := .glo "_law_merged") rfl)
  have g__law_unlike := glo_ok X G (cd.fact 28 (f := .glo "_law_unlike") rfl)
  have g__law_put := glo_ok X G (cd.fact 29 (f := .glo "_law_put") rfl)
  have g__law_ordered := glo_ok X G (cd.fact 30 (f := .glo "_law_ordered") rfl)
  have g__law_long_right := glo_ok X G (cd.fact 31 (f := .glo "_law_long_right") rfl)
  have g__law_products_right := glo_ok X G (cd.fact 32 (f := .glo "_law_products_right") rfl)
  have g_law := glo_ok X G (cd.fact 33 (f := .glo "law") rfl)
  have g_InvalidNumber := glo_ok X G (cd.fact 34 (f := .glo "InvalidNumber") rfl)
  have g_InvalidRow := glo_ok X G (cd.fact 35 (f := .glo "InvalidRow") rfl)
  have g_InvalidList := glo_ok X G (cd.fact 36 (f := .glo "InvalidList") rfl)
  have g_InvalidTerm := glo_ok X G (cd.fact 37 (f := .glo "InvalidTerm") rfl)
  have g_InvalidForm := glo_ok X G (cd.fact 38 (f := .glo "InvalidForm") rfl)
  have g_Form := glo_ok X G (cd.fact 39 (f := .glo "Form") rfl)
  have n_isi := free_ok X G (cd.fact 40 (f := .free "isinstance") rfl)
  have n_int := free_ok X G (cd.fact 41 (f := .free "int") rfl)
  have n_bool := free_ok X G (cd.fact 42 (f := .free "bool") rfl)
  have n_lst := free_ok X G (cd.fact 43 (f := .free "list") rfl)
  have n_tup := free_ok X G (cd.fact 44 (f := .free "tuple") rfl)
  have n_rng := free_ok X G (cd.fact 45 (f := .free "range") rfl)
  have n_len := free_ok X G (cd.fact 46 (f := .free "len") rfl)
  have n_sum := free_ok X G (cd.fact 47 (f := .free "sum") rfl)
  have n_max := free_ok X G (cd.fact 48 (f := .free "max") rfl)
  have n_zip := free_ok X G (cd.fact 49 (f := .free "zip") rfl)
  have n_rep := free_ok X G (cd.fact 50 (f := .free "repr") rfl)
  have n_sorted := free_ok X G (cd.fact 51 (f := .free "sorted") rfl)
  have n_enumerate := free_ok X G (cd.fact 52 (f := .free "enumerate") rfl)
  have n_dict := free_ok X G (cd.fact 53 (f := .free "dict") rfl)
  have cCls := cls_ok (cd.fact 54 (f := .cls "Form") rfl)
  have cW := noat_ok (cd.fact 55 (f := .noat "Form" "width") rfl)
  have cT_ := noat_ok (cd.fact 56 (f := .noat "Form" "_terms") rfl)
  have cM := mkr_ok (cd.fact 57 (f := .mkr "Form") rfl)
  have cS := meth_ok (cd.fact 58 (f := .meth "Form" "at") rfl)
  have cS2 := meth_ok (cd.fact 59 (f := .meth "Form" "terms") rfl)
  have bWh := FWh.binds (ps := ["value"]) fun _ _ _ _ _ _ us hl => match us, hl with | [_], _ => rfl
  have bAr := FAr.binds (ps := ["values"]) fun _ _ _ _ _ _ us hl => match us, hl with | [_], _ => rfl
  have bWi := FWi.binds (ps := ["value"]) fun _ _ _ _ _ _ us hl => match us, hl with | [_], _ => rfl
  have bFc := FFc.binds (ps := ["value", "width"]) fun _ _ _ _ _ _ us hl => match us, hl with | [_, _], _ => rfl
  have bFr := FFr.binds (ps := ["value", "width"]) fun _ _ _ _ _ _ us hl => match us, hl with | [_, _], _ => rfl
  have bLe := FLe.binds (ps := ["value", "width"]) fun _ _ _ _ _ _ us hl => match us, hl with | [_, _], _ => rfl
  have bTe := FTe.binds (ps := ["value", "width"]) fun _ _ _ _ _ _ us hl => match us, hl with | [_, _], _ => rfl
  have bPt := FPt.binds (ps := ["terms"]) fun _ _ _ _ _ _ us hl => match us, hl with | [_], _ => rfl
  have bLw := FLw.binds (ps := ["letter", "cell"]) fun _ _ _ _ _ _ us hl => match us, hl with | [_, _], _ => rfl
  have bWt := FWt.binds (ps := ["terms", "row"]) fun _ _ _ _ _ _ us hl => match us, hl with | [_, _], _ => rfl
  have bTw := FTw.binds (ps := ["terms", "table", "many"]) fun _ _ _ _ _ _ us hl => match us, hl with | [_, _, _], _ => rfl
  have bBf := FBf.binds (ps := ["terms"]) fun _ _ _ _ _ _ us hl => match us, hl with | [_], _ => rfl
  have bMf := FMf.binds (ps := ["width", "terms"]) fun _ _ _ _ _ _ us hl => match us, hl with | [_, _], _ => rfl
  have bTi := FTi.binds (ps := ["factor", "terms"]) fun _ _ _ _ _ _ us hl => match us, hl with | [_, _], _ => rfl
  have bMu := FMu.binds (ps := ["terms", "others"]) fun _ _ _ _ _ _ us hl => match us, hl with | [_, _], _ => rfl
  have bIl := FIl.binds (ps := ["one", "other"]) fun _ _ _ _ _ _ us hl => match us, hl with | [_, _], _ => rfl
  have bMi := FMi.binds (ps := ["_law_cell_here", "_law_k"]) fun _ _ _ _ _ _ us hl => match us, hl with | [_, _], _ => rfl
  have bPu := FPu.binds (ps := ["_law_script", "_law_at"]) fun _ _ _ _ _ _ us hl => match us, hl with | [_, _], _ => rfl
  have bDr := FDr.binds (ps := ["_law_purse_here", "_law_out_of"]) fun _ _ _ _ _ _ us hl => match us, hl with | [_, _], _ => rfl
  have bSi := FSi.binds (ps := ["_law_purse_here", "_law_most"]) fun _ _ _ _ _ _ us hl => match us, hl with | [_, _], _ => rfl
  have bCe := FCe.binds (ps := ["_law_purse_here", "_law_width", "_law_most"]) fun _ _ _ _ _ _ us hl => match us, hl with | [_, _, _], _ => rfl
  have bRo := FRo.binds (ps := ["_law_purse_here", "_law_width", "_law_cells_to", "_law_most"]) fun _ _ _ _ _ _ us hl => match us, hl with | [_, _, _, _], _ => rfl
  have bLr := FLr.binds (ps := ["_law_purse_here", "_law_width"]) fun _ _ _ _ _ _ us hl => match us, hl with | [_, _], _ => rfl
  have bTr := FTr.binds (ps := ["_law_purse_here", "_law_width", "_law_most", "_law_letters_to"]) fun _ _ _ _ _ _ us hl => match us, hl with | [_, _, _, _], _ => rfl
  have bLt := FLt.binds (ps := ["_law_letter_here", "_law_cell_here"]) fun _ _ _ _ _ _ us hl => match us, hl with | [_, _], _ => rfl
  have bSu := FSu.binds (ps := ["_law_letters", "_law_row_here"]) fun _ _ _ _ _ _ us hl => match us, hl with | [_, _], _ => rfl
  have bWo := FWo.binds (ps := ["_law_terms_here", "_law_row_here"]) fun _ _ _ _ _ _ us hl => match us, hl with | [_, _], _ => rfl
  have bMg := FMg.binds (ps := ["_law_one", "_law_other"]) fun _ _ _ _ _ _ us hl => match us, hl with | [_, _], _ => rfl
  have bUn := FUn.binds (ps := ["_law_one", "_law_other"]) fun _ _ _ _ _ _ us hl => match us, hl with | [_, _], _ => rfl
  have bPq := FPq.binds (ps := ["_law_factor", "_law_words"]) fun _ _ _ _ _ _ us hl => match us, hl with | [_, _], _ => rfl
  have bOr := FOr.binds (ps := ["_law_terms_here"]) fun _ _ _ _ _ _ us hl => match us, hl with | [_], _ => rfl
  have bLg := FLg.binds (ps := ["_law_purse_here", "_law_width", "_law_first", "_law_second"]) fun _ _ _ _ _ _ us hl => match us, hl with | [_, _, _, _], _ => rfl
  have bPd := FPd.binds (ps := ["_law_purse_here", "_law_width", "_law_rows"]) fun _ _ _ _ _ _ us hl => match us, hl with | [_, _, _], _ => rfl
  have bLa := FLa.binds (ps := ["_law_script"]) fun _ _ _ _ _ _ us hl => match us, hl with | [_], _ => rfl
  have bFi := FFi.binds (ps := ["self", "width", "terms"]) fun _ _ _ _ _ _ us hl => match us, hl with | [_, _, _], _ => rfl
  have bAt := FAt.binds (ps := ["self", "row"]) fun _ _ _ _ _ _ us hl => match us, hl with | [_, _], _ => rfl
  have bTs := FTs.binds (ps := ["self"]) fun _ _ _ _ _ _ us hl => match us, hl with | [_], _ => rfl
  have bEq := FEq.binds (ps := ["self", "other"]) fun _ _ _ _ _ _ us hl => match us, hl with | [_, _], _ => rfl
  have bAd := FAd.binds (ps := ["self", "other"]) fun _ _ _ _ _ _ us hl => match us, hl with | [_, _], _ => rfl
  have bSb := FSb.binds (ps := ["self", "other"]) fun _ _ _ _ _ _ us hl => match us, hl with | [_, _], _ => rfl
  have bMl := FMl.binds (ps := ["self", "other"]) fun _ _ _ _ _ _ us hl => match us, hl with | [_, _], _ => rfl
  have bRm := FRm.binds (ps := ["self", "other"]) fun _ _ _ _ _ _ us hl => match us, hl with | [_, _], _ => rfl
  have bNg := FNg.binds (ps := ["self"]) fun _ _ _ _ _ _ us hl => match us, hl with | [_], _ => rfl
  have mex := c.more
  unfold ex at mex
  simp only [Bool.and_eq_true] at mex
  obtain ⟨⟨⟨⟨⟨⟨⟨⟨⟨⟨⟨⟨⟨⟨xN, xL⟩, xT⟩, xR⟩, xF⟩, xI⟩, o1⟩, o2⟩, o3⟩, o4⟩, o5⟩, i1⟩, i2⟩, i3⟩, xO⟩ := mex
  have N : Nm mg := ⟨n_isi, n_int, n_bool, n_lst, n_tup, n_rng, n_len, n_sum, n_max, n_zip, n_rep⟩
  have e := hfa.symm.trans g_law
  cases e
  have bl : ∀ (s : Shared) (v : Value), BindsTo s fdLa ⟨[v], []⟩ [("_law_script", v)] := by
    obtain ⟨⟨oc, od, kV, doc, pm, an, cdv, ct, osl, e, lk, hcd⟩, _⟩ := FLa
    subst e
    exact fun s v => BindsTo.of_eq (show bindArgs _ ⟨[v], []⟩ = _ from rfl)
  refine ⟨fdLa, bl, fun base KB GB TB => ?_⟩
  have EN : ErT P w K mg base "InvalidNumber" _ _ fdN := er_of xN DN g_InvalidNumber
  have EL : ErT P w K mg base "InvalidList" _ _ fdL := er_of xL DL g_InvalidList
  have ET : ErT P w K mg base "InvalidTerm" _ _ fdT := er_of xT DT g_InvalidTerm
  have ER : ErT P w K mg base "InvalidRow" _ _ fdR := er_of xR DR g_InvalidRow
  have EF : ErT P w K mg base "InvalidForm" _ _ fdF := er_of xF DF g_InvalidForm
  obtain ⟨cI, cQ, cK⟩ := instF_ok xI
  obtain ⟨cO, cJ⟩ := oiB_ok xO
  have FT : FoT K mg (ga K "Form") := ⟨cCls, cW, cT_, g_Form⟩
  have oWh := ok_wh (P := P) (w := w) (base := base) FWh N
  have oAr := ok_ar FAr oWh g_is_whole FWh.kp bWh
  have oWi := ok_wi FWi oWh g_is_whole FWh.kp bWh
  have oFc := ok_fc FFc N oAr g_are_whole FAr.kp bAr
  have oFr := ok_fr FFr N oFc g_fits_cell FFc.kp bFc
  have oLe := ok_le FLe oFc g_fits_cell FFc.kp bFc
  have oTe := ok_te FTe N oWh g_is_whole FWh.kp bWh oLe g_is_letter FLe.kp bLe
  have tb := TB (He.cT K pPt) (List.mem_map.mpr ⟨pPt, List.mem_singleton.mpr rfl, rfl⟩)
  have oPt := ok_pt (P := P) (w := w) (T := [((He.cT K pPt).2, lamPt)]) FPt (code_of (p := pPt) DPt) N n_sorted tb (List.mem_singleton.mpr rfl) (fun p hp _ => by rw [List.mem_singleton.mp hp])
  have oFi := ok_fi FFi N FT EN EL ET oWi g_is_width FWi.kp bWi oTe g_is_term FTe.kp bTe oPt g_put_together FPt.kp bPt
  have oLw := ok_lw (P := P) (w := w) (base := base) FLw N
  have oWt := ok_wt FWt oLw g_letter_worth FLw.kp bLw
  have oBf := ok_bf (P := P) (w := w) (mg := mg) (base := base) FBf
  have oTw := ok_tw FTw N g_tail_worths FTw.kp bTw oBf g_by_first_letter FBf.kp bBf 9
  have oAt := ok_at FAt N FT ER oFr g_fits_row FFr.kp bFr oTw g_tail_worths FTw.kp bTw oWt g_worth_table FWt.kp bWt
  have oTs := ok_ts (P := P) (w := w) (base := base) FTs N FT
  have oEq := ok_eq (P := P) (w := w) (base := base) FEq N FT cI
  have oMf := ok_mf FMf FT cM oFi bFi oPt g_put_together FPt.kp bPt
  have oTi := ok_ti (P := P) (w := w) (mg := mg) (base := base) FTi
  have oIl := ok_il (P := P) (w := w) (base := base) FIl N n_enumerate
  have oMu := ok_mu FMu oIl g_interleaved FIl.kp bIl
  have oWa := okOr oWh (ok_whF (P := P) (w := w) (base := base) FWh N FT cI cK)
  have dMf : Df P w K mg base "made_form" 8 ["width", "terms"] _ _ _ := ⟨oMf, g_made_form, FMf.kp, bMf⟩
  have dTi : Df P w K mg base "times" 1 ["factor", "terms"] _ _ _ := ⟨oTi, g_times, FTi.kp, bTi⟩
  have dMu : Df P w K mg base "multiplied" 2 ["terms", "others"] _ _ _ := ⟨oMu, g_multiplied, FMu.kp, bMu⟩
  have dWa : Df P w K mg base "is_whole" 1 ["value"] _ _ _ := ⟨oWa, g_is_whole, FWh.kp, bWh⟩
  have oAd := ok_ad FAd N FT cI EF dMf
  have oSb := ok_sb FSb N FT cI EF dMf dTi
  have oMl := ok_ml FMl N FT cI EF dMf dTi dMu dWa
  have oRm := ok_rm FRm FT dMf dTi dWa
  have oNg := ok_ng FNg FT dMf dTi
  have oMi := ok_mi (P := P) (w := w) (mg := mg) (base := base) FMi
  have oPu := ok_pu (P := P) (w := w) (base := base) FPu N
  have oDr := ok_dr FDr N oMi g__law_mixed FMi.kp bMi
  have oSi := ok_si FSi oDr g__law_draw FDr.kp bDr
  have oCe := ok_ce FCe N oSi g__law_signed FSi.kp bSi
  have oRo := ok_ro FRo N oCe g__law_cell FCe.kp bCe oDr g__law_draw FDr.kp bDr
  have oLr := ok_lr FLr N oDr g__law_draw FDr.kp bDr
  have oTr := ok_tr FTr N oDr g__law_draw FDr.kp bDr oSi g__law_signed FSi.kp bSi oLr g__law_letter FLr.kp bLr
  have oLt := ok_lt (P := P) (w := w) (base := base) FLt N
  have oSu := ok_su FSu N g__law_sum FSu.kp bSu oLt g__law_letter_at FLt.kp bLt 9
  have oWo := ok_wo FWo N oSu g__law_sum FSu.kp bSu
  have oMg := ok_mg (P := P) (w := w) (base := base) FMg N g__law_merged FMg.kp bMg 7
  have oPq := ok_pq (P := P) (w := w) (base := base) FPq N
  have oOr := ok_or (P := P) (w := w) (base := base) FOr N n_sorted n_dict
  have exF : PySem.W.exmOne K (.ref (ga K "InvalidForm")) (.ref (ga K "InvalidForm")) = some true := exm_ok (cd.fact 60 (f := .exm "InvalidForm" "InvalidForm" true) rfl)
  have mA : Om P w K mg base (L2.CX P w) (ga K "Form") "__add__" 9 ["self", "other"] _ _ fdAd := ⟨opB_ok o1, oAd, bAd⟩
  have mB : Om P w K mg base (L2.CX P w) (ga K "Form") "__sub__" 9 ["self", "other"] _ _ fdSb := ⟨opB_ok o2, oSb, bSb⟩
  have mC : Om P w K mg base (L2.CX P w) (ga K "Form") "__mul__" 9 ["self", "other"] _ _ fdMl := ⟨opB_ok o3, oMl, bMl⟩
  have oUn := ok_un FUn N FT cI EF exF cQ oEq bEq mA mB mC
  have Fm : FmT P w K mg base [((He.cT K pPt).2, lamPt)] ⟨ga K "Form", ga K "InvalidNumber", ga K "InvalidList", ga K "InvalidTerm", ga K "InvalidRow", ga K "InvalidForm"⟩ ⟨_, _, _, _, _, _, _, _, _, fdFi, fdAt, fdTs, fdEq, fdAd, fdSb, fdMl, fdRm, fdNg⟩ := ⟨FT, cI, cM, oFi, bFi, cS, oAt, bAt, cS2, oTs, bTs, cQ, oEq, bEq, mA, mB, mC, ⟨opB_ok o4, oRm, bRm⟩, ⟨opB_ok o5, oNg, bNg⟩, inB_ok i1, inB_ok i2, inB_ok i3, cO, cJ⟩
  have oLg := ok_lg FLg N Fm ⟨oMg, g__law_merged, FMg.kp, bMg⟩ ⟨oPq, g__law_put, FPq.kp, bPq⟩ ⟨oOr, g__law_ordered, FOr.kp, bOr⟩ ⟨oRo, g__law_row, FRo.kp, bRo⟩ ⟨oWo, g__law_worth, FWo.kp, bWo⟩
  have oPd := ok_pd FPd N Fm ⟨oMg, g__law_merged, FMg.kp, bMg⟩ ⟨oPq, g__law_put, FPq.kp, bPq⟩ ⟨oOr, g__law_ordered, FOr.kp, bOr⟩ ⟨oTr, g__law_terms, FTr.kp, bTr⟩ ⟨oWo, g__law_worth, FWo.kp, bWo⟩
  exact ok_la FLa N Fm ⟨⟨oPu, g__law_purse, FPu.kp, bPu⟩, ⟨oDr, g__law_draw, FDr.kp, bDr⟩, ⟨oTr, g__law_terms, FTr.kp, bTr⟩, ⟨oSi, g__law_signed, FSi.kp, bSi⟩, ⟨oWo, g__law_worth, FWo.kp, bWo⟩, ⟨oOr, g__law_ordered, FOr.kp, bOr⟩, ⟨oRo, g__law_row, FRo.kp, bRo⟩, ⟨oLg, g__law_long_right, FLg.kp, bLg⟩, ⟨oPd, g__law_products_right, FPd.kp, bPd⟩, ⟨oUn, g__law_unlike, FUn.kp, bUn⟩⟩
end L2.Fo
/-! # law k12: the top's run -/
namespace L2.Fo
open PySem PySem.Spec PyProof.Rows L2.Vf L2.Hd He
abbrev Rw : PySem.W.OpenRow := PySem.W.OpenLaw.row PySem.Challenge.rw_latesums_k12_forms_added_and_multiplied
abbrev hk : PySem.W.Hook := hookX 6 fa fn [] tf ex
def ob (s : PySem.W.SharedT) : AlX := obsX 6 fa fn [] tf ex (HandSHeadRun.getT s)
theorem ob_eq (s : PySem.W.SharedT) : ob s = hk.obs s.abs := obsX_eq (HandSHeadRun.getT_eq s)
def names : List Str := "_wall" :: "__name__" :: "is_whole" :: "are_whole" :: "is_width" :: "fits_cell" :: "fits_row" :: "SumsError" :: "InvalidNumber" :: "InvalidRow" :: "InvalidTerm" :: "InvalidForm" :: "InvalidList" :: "Form" :: "made_form" :: "is_letter" :: "is_term" :: "put_together" :: "letter_worth" :: "worth_table" :: "tail_worths" :: "by_first_letter" :: "times" :: "multiplied" :: "interleaved" :: "_law_mixed" :: "_law_purse" :: "_law_draw" :: "_law_signed" :: "_law_cell" :: "_law_row" :: "_law_letter" :: "_law_terms" :: "_law_letter_at" :: "_law_sum" :: "_law_worth" :: "_law_merged" :: "_law_unlike" :: "_law_put" :: "_law_ordered" :: "_law_long_right" :: "_law_products_right" :: []
set_option maxHeartbeats 0 in
theorem run (w : World) : HandSHeadRun.RunEq Rw (PySem.W.view Rw.prog [45]) hk ob 8000 names w := by
  intro os
  kernel_rfl
end L2.Fo

open PySem PySem.W PySem.Calls PyProof.Rows
set_option maxRecDepth 100000 in
set_option maxHeartbeats 0 in
theorem PySem.Challenge.cw_latesums_k12_forms_added_and_multiplied_holds : PySem.Challenge.rw_latesums_k12_forms_added_and_multiplied.Holds := by
  w_on; o_law
  refine HandSHeadRun.head_any (r := OpenLaw.row PySem.Challenge.rw_latesums_k12_forms_added_and_multiplied) (q := view (OpenLaw.row PySem.Challenge.rw_latesums_k12_forms_added_and_multiplied).prog [45]) (H := L2.Fo.hk) (ob := L2.Fo.ob) (M := 8000) (loose := L2.Fo.names) (d := HandSHeadRun.topDef (OpenLaw.row PySem.Challenge.rw_latesums_k12_forms_added_and_multiplied).prog 45) (kwd := []) L2.Fo.ob_eq
    (by kernel_rfl) (fun s => by kernel_rfl) L2.Fo.run (by kernel_rfl) (by kernel_rfl) (by kernel_rfl) (by rfl) (by first | assumption | decide +kernel) (by decide +kernel) ⟨rfl, rfl, rfl, rfl, rfl, by decide +kernel⟩ ?hw ?hc
  case hw => w_witness2
  case hc =>
    refine L2.Hd.walkGT (l := PySem.Challenge.rw_latesums_k12_forms_added_and_multiplied) (n := 63) (k := 15) (x := "_law_script") rfl (by decide) (by kernel_rfl) ⟨rfl, by decide, by decide⟩ ?F
    intro w mg fa h Y G hmg0
    obtain ⟨K, KX, c⟩ := Y
    have hmg : mg ("law" : PySem.Str) = some (.ref fa) := by
      have e : (HandSHeadRun.topDef (OpenLaw.row PySem.Challenge.rw_latesums_k12_forms_added_and_multiplied).prog 45).name = ("law" : PySem.Str) := by kernel_rfl
      rw [← e]
      exact hmg0
    obtain ⟨fd, hb, hF⟩ := L2.Fo.facts (P := PySem.Challenge.rw_latesums_k12_forms_added_and_multiplied.prog) (w := w) KX G hmg c
    refine ⟨K, fd, L2.Fo.tf.map (He.cT K), L2.Fo.spLa K [((He.cT K L2.Fo.pPt).2, L2.Fo.lamPt)], KX, ?_, ?_, ?_, hb, ?_, hF⟩
    · intro p hp
      obtain ⟨q, hq, rfl⟩ := List.mem_map.mp hp
      exact c.empty q hq
    · intro p hp
      obtain ⟨q, hq, rfl⟩ := List.mem_map.mp hp
      exact c.out q hq
    · intro p hp
      obtain ⟨q, hq, rfl⟩ := List.mem_map.mp hp
      exact codeHd_of_K KX (c.hd q hq)
    · intro H a ns hl hH hS
      refine ⟨a, ns, rfl, hS, fun p hp => ?_, fun _ => rfl⟩
      rw [List.mem_singleton.mp hp]
      exact LamX.TabS.nil (hH _ (List.mem_map.mpr ⟨L2.Fo.pPt, List.mem_singleton.mpr rfl, rfl⟩))
