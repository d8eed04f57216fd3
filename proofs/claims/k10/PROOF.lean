import PyProof.Rows.All
import Wide.All
import OpenK.AllK
import Wide.FinOn
import PyProof.EqAt
import PyProof.EqKinds
import PyProof.TupleCall
import PyProof.Rows.EqDataRows
import PyProof.ReprRoads
import KE.KIsAll
import KE.KTryMore
import HandS.ForMost
import HandS.ForExc
import HandS.ExcInit
import HandS.ExcIs
import HandS.IsInst
import HandS.More
import HandS.Defaults
import HandS.MakeKw
import HandS.MakeKwOnly
import HandS.ExcValue
import HandS.ExcField
import HandS.Wide
import HandS.WideBits
import HandS.OwnEq
import HandS.CallSlots
import PyProof.InstEq
import PyProof.FactsAll.dict_1
import HandS.Zip0
import HandS.Zip
import HandS.Walk
import HandS.TupMul
import PyProof.TupleKey
import PyProof.DictRoadsH
import PyProof.DictKinds
import KE.SortKeyHeap
import HandS.Lambda
import HandS.SortKw
import HandS.TupAny
import HandS.Style
import HandS.EndTab
import HandS.HeadWalk
import HandS.HeadHook4
import HandS.Head2
import PySem.Challenge.RW_latesums_k10_forms_made
set_option Elab.async false
set_option linter.all false
set_option maxRecDepth 100000
set_option maxHeartbeats 8000000
/-! # What the laws' proofs lean on, 1: data that is shown and compared as a whole; errors held as values; defs whose frame knows that no repr runs around them. -/
namespace L2.Vf
open PySem PySem.Spec PyProof.Rows

/-! ## data, read off the abstract heap -/
def keyD : Key → PyData
  | .inl i => .int i
  | .inr x => .str x
mutual
/-- the value v is the data d; as: the lists in it -/
inductive Sh (K : PySem.W.Frag) (H : Hp) : V → PyData → List Addr → Prop
  | non : Sh K H .non .none []
  | bl (b : Bool) : Sh K H (.bl b) (.bool b) []
  | int (i : Int) : Sh K H (.int i) (.int i) []
  | str (x : Str) : Sh K H (.str x) (.str x) []
  | lst {a : Addr} {xs : List V} {ds : List PyData} {as : List Addr} : SqL K H a xs → Shs K H xs ds as → Sh K H (.ref a) (.list ds) (a :: as)
  | tup {a : Addr} {xs : List V} {ds : List PyData} {as : List Addr} : SqT K H a xs → Shs K H xs ds as → Sh K H (.ref a) (.tuple ds) as
  | dK {a : Addr} {kvs : List (Key × V)} {ds : List PyData} {as : List Addr} : Rd H a (.dK kvs) → Shs K H (kvs.map (·.2)) ds as → Sh K H (.ref a) (.dict ((kvs.map fun p => keyD p.1).zip ds)) as
inductive Shs (K : PySem.W.Frag) (H : Hp) : List V → List PyData → List Addr → Prop
  | nil : Shs K H [] [] []
  | cons {x : V} {xs : List V} {d : PyData} {ds : List PyData} {as bs : List Addr} : Sh K H x d as → Shs K H xs ds bs → Shs K H (x :: xs) (d :: ds) (as ++ bs)
end
theorem Shs.length {K : PySem.W.Frag} {H : Hp} : ∀ {xs : List V} {ds : List PyData} {as : List Addr}, Shs K H xs ds as → xs.length = ds.length
  | _, _, _, .nil => rfl
  | _, _, _, .cons _ t => by simp [Shs.length t]

theorem reads_keys {P : Program} {w : World} {h : Heap} : ∀ {es : List DictEntry} {vs : List (Key × Value)}, PySem.Pairs (mixKind P w) es vs → ReadsAll h (es.map (·.key)) (vs.map fun p => keyD p.1) []
  | _, _, .nil => .nil
  | _, _, .cons (e := e) (kv := kv) h1 _ t => by
    have ih := reads_keys (h := h) t
    have k : Reads h e.key (keyD kv.1) [] := by
      rcases keyIs_shape (show keyIs kv.1 e.key = true from h1) with ⟨i, u, e1, e2⟩ | ⟨x, u, e1, e2⟩
      · rw [e1, e2]; exact .int i u
      · rw [e1, e2]; exact .str x u
    exact ReadsAll.cons (as := []) (bs := []) k ih
theorem pairs_vals {P : Program} {w : World} : ∀ {es : List DictEntry} {vs : List (Key × Value)}, PySem.Pairs (mixKind P w) es vs → es.map (·.val) = vs.map (·.2)
  | _, _, .nil => rfl
  | _, _, .cons _ h2 t => by
    rw [List.map_cons, List.map_cons, pairs_vals t, h2]
theorem kv_keys : ∀ {ks : List (Key × V)} {vs : List (Key × Value)}, KV ks vs → (ks.map fun p => keyD p.1) = vs.map fun p => keyD p.1
  | _, _, .nil => rfl
  | _, _, .cons h t => by
    rw [List.map_cons, List.map_cons, kv_keys t, h.1]
theorem kv_vals : ∀ {ks : List (Key × V)} {vs : List (Key × Value)}, KV ks vs → Vals (ks.map (·.2)) (vs.map (·.2))
  | _, _, .nil => .nil
  | _, _, .cons h t => .cons h.2 (kv_vals t)

section
variable {X : Cx} {pins : List (Addr × Obj)} {σ : St} {H : Hp} {s : Shared}
mutual
theorem Sh.reads (I : Inv X pins σ H s) : ∀ {v : V} {d : PyData} {as : List Addr} {u : Value}, Sh X.K H v d as → RelV v u → ∃ bs, Reads s.heap u d bs ∧ ∀ b ∈ bs, b ∈ as ∨ b ≠ sysModules
  | _, _, _, _, .non, r => by cases r; exact ⟨[], .none, fun _ h => nomatch h⟩
  | _, _, _, _, .bl b, r => by cases r; exact ⟨[], .bool b, fun _ h => nomatch h⟩
  | _, _, _, _, .int i, r => by obtain ⟨t, rfl⟩ := r; exact ⟨[], .int i t, fun _ h => nomatch h⟩
  | _, _, _, _, .str x, r => by obtain ⟨t, rfl⟩ := r; exact ⟨[], .str x t, fun _ h => nomatch h⟩
  | _, _, _, _, .lst (a := a) h hs, r => by
    cases r
    obtain ⟨us, rv, ⟨o, n, e, hc, _, hd⟩, _⟩ := I.list h
    obtain ⟨bs, q, hb⟩ := Shs.reads I hs rv
    exact ⟨_, .list e hc hd q, fun b m => (List.mem_cons.mp m).elim (fun z => .inl (z ▸ List.mem_cons_self)) fun z => (hb b z).imp (List.mem_cons_of_mem _) id⟩
  | _, _, _, _, .tup (a := a) h hs, r => by
    cases r
    obtain ⟨us, rv, ⟨o, e, hc, n, hd⟩, _⟩ := I.tuple h
    obtain ⟨bs, q, hb⟩ := Shs.reads I hs rv
    exact ⟨_, .tuple e hc hd q, hb⟩
  | _, _, _, _, .dK (a := a) (kvs := kvs) (ds := ds) h hs, r => by
    cases r
    obtain ⟨_, hm, vs, kv, o, es, ep, e, hc, hd, _, pr, _⟩ := dk_rd I.hok h
    have l1 := hs.length
    rw [List.length_map] at l1
    have k1 : (((kvs.map fun p => keyD p.1).zip ds).map (·.1)) = vs.map fun p => keyD p.1 := by
      rw [← kv_keys kv, List.map_fst_zip]
      rw [List.length_map]; omega
    have k2 : (((kvs.map fun p => keyD p.1).zip ds).map (·.2)) = ds := by
      rw [List.map_snd_zip]
      rw [List.length_map]; omega
    obtain ⟨bs, q, hb⟩ := Shs.reads I hs (kv_vals kv)
    refine ⟨_, Reads.dict (as := []) (bs := bs) e hc.1 hd ?_ ?_, fun b m => ?_⟩
    · rw [k1]; exact reads_keys pr
    · rw [k2, pairs_vals pr]; exact q
    · rcases List.mem_cons.mp (show b ∈ a :: bs from m) with z | z
      · exact .inr (by rw [z]; exact beq_eq_false_iff_ne.mp hm)
      · exact hb b z
theorem Shs.reads (I : Inv X pins σ H s) : ∀ {vs : List V} {ds : List PyData} {as : List Addr} {us : List Value}, Shs X.K H vs ds as → Vals vs us → ∃ bs, ReadsAll s.heap us ds bs ∧ ∀ b ∈ bs, b ∈ as ∨ b ≠ sysModules
  | _, _, _, _, .nil, r => by cases r; exact ⟨[], .nil, fun _ h => nomatch h⟩
  | _, _, _, _, .cons h t, r => by
    cases r with
    | cons r1 r2 =>
      obtain ⟨b1, q1, m1⟩ := Sh.reads I h r1
      obtain ⟨b2, q2, m2⟩ := Shs.reads I t r2
      exact ⟨_, .cons q1 q2, fun b m => (List.mem_append.mp m).elim (fun z => (m1 b z).imp (List.mem_append_left _) id) fun z => (m2 b z).imp (List.mem_append_right _) id⟩
end
end

/-- data that may be written out: ints not too long, not too deep, short enough; no table of modules in a dict -/
structure Wr (d : PyData) (as : List Addr) : Prop where
  show_ : d.showable = true
  deep : d.depth ≤ 50
  len : d.shown.length ≤ sizeLine
  nom : d.hasDict = true → sysModules ∉ as
/-- repr(x) -/
def rRepr (K : PySem.W.Frag) : List V → Hp → VK → Prop := fun xs H Q => ∃ (v : V) (d : PyData) (as : List Addr), xs = [v] ∧ Sh K H v d as ∧ Wr d as ∧ Q (.str d.shown) H
section
variable {X : Cx}
theorem call_reprD (hg : X.A.guards = some []) (hu : X.A.units + 64 < cLine) : CallR X (.builtin "repr") (rRepr X.K) := by
  intro pins s σ H xs us Q I r h
  obtain ⟨v, d, as, rfl, hs, hw, q⟩ := h
  obtain ⟨u, rfl, r1⟩ := vals1 r
  obtain ⟨bs, rd, hb⟩ := hs.reads I r1
  have nom : d.hasDict = true → sysModules ∉ bs := fun h m => (hb _ m).elim (hw.nom h) fun z => z rfl
  have fin : ∀ h' t tk, (∀ b o, s.heap.get? b = some o → h'.get? b = some o) → EP X pins σ Q (.str d.shown t) { s with heap := h', toks := tk } := fun h' t tk k => ⟨.str d.shown, H, I.kept k, ⟨t, rfl⟩, q⟩
  cases rd with
  | none => exact PySem.P.repr_of_none (fin s.heap _ _ fun _ _ e => e)
  | bool b => exact PySem.P.repr_of_bool (fin s.heap _ _ fun _ _ e => e)
  | int i t => exact PySem.P.repr_of_int (by simpa [PyData.showable] using hw.show_) (fin s.heap _ _ fun _ _ e => e)
  | str x t => exact PySem.P.repr_of_str (fin s.heap _ _ fun _ _ e => e) (by simpa only [PyData.shown] using hw.len)
  | list h1 h2 h3 h4 => exact repr_of_reads' (.list h1 h2 h3 h4) hw.show_ nom hg (by have := hw.deep; omega) (fun _ _ e => e) fin hw.len
  | tuple h1 h2 h3 h4 => exact repr_of_reads' (.tuple h1 h2 h3 h4) hw.show_ nom hg (by have := hw.deep; omega) (fun _ _ e => e) fin hw.len
  | dict h1 h2 h3 h4 h5 => exact repr_of_reads' (.dict h1 h2 h3 h4 h5) hw.show_ nom hg (by have := hw.deep; omega) (fun _ _ e => e) fin hw.len
/-- a == b, a != b of data without dicts -/
def rEqD (K : PySem.W.Frag) (neg : Bool) : R2 := fun x y H Q => ∃ (d e : PyData) (as bs : List Addr), Sh K H x d as ∧ Sh K H y e bs ∧ SeqAt.shaped d = true ∧ SeqAt.shaped e = true ∧ Q (.bl (if neg then !PyData.eqv d e else PyData.eqv d e)) H
theorem op_eqD (hu : X.A.units + 64 < cLine) : OpR X (compareOp .Eq) (rEqD X.K false) := by
  intro pins s σ H x y v u Q I rx ry h
  obtain ⟨d, e, as, bs, h1, h2, s1, s2, q⟩ := h
  obtain ⟨_, q1, _⟩ := h1.reads I rx
  obtain ⟨_, q2, _⟩ := h2.reads I ry
  exact eq_dataH q1 q2 s1 s2 hu ⟨.bl _, H, I, rfl, q⟩
theorem op_neD (hu : X.A.units + 64 < cLine) : OpR X (compareOp .NotEq) (rEqD X.K true) := by
  intro pins s σ H x y v u Q I rx ry h
  obtain ⟨d, e, as, bs, h1, h2, s1, s2, q⟩ := h
  obtain ⟨_, q1, _⟩ := h1.reads I rx
  obtain ⟨_, q2, _⟩ := h2.reads I ry
  exact ne_dataH q1 q2 s1 s2 hu ⟨.bl _, H, I, rfl, q⟩
end
end L2.Vf

/-! # 2: errors of the program's own made by a call with keywords -/
namespace PySem
namespace VfK
open PySem.W PySem.Calls PyProof.Rows PySem.HandSPX
open Builtin Builtin.ObjectAttr
section
variable {prog : Program} {w : World} {A : Around} {E : Value → Shared → Prop} {R : Result → Shared → Prop} {h : Heap} {g : Array GenState} {d : Drawn} {t : Nat} {os : OsState} {kw : List (Str × Value)}
variable {nm q : Str} {C N : Addr} {bs bm bmB : List Value} {hdct : Bool} {sn : List Str} {sub : List Value} {ab : Bool} {col : Option Bool} {dd : Option Addr} {k0 k1 k2 k3 k5 : Option Value} {B newId initId : String}
theorem kw_check {M : Model} (F : ExcBaseFacts B newId initId bmB) (hT : ∀ X : String, bm.contains (.type X) = bmB.contains (.type X)) {rest : List Value} {Q : Unit → Shared → Prop}
    (hC : h.get? C = some (excClassObj nm q C N bs bm hdct sn sub ab col dd k0 k1 k2 k3 k5 newId)) (hq : Q () ⟨h, g, d, t, os⟩) : wpAny M A (checkBuiltinCall newId ⟨.ref C :: rest, kw⟩) Q E ⟨h, g, d, t, os⟩ := by
  have hstar := F.noStar; have hcont : (Value.ref C :: bm).contains (.type B) = true := by rw [List.contains_cons, hT, F.hasB, Bool.or_true]
  simp only [checkBuiltinCall, F.newKind, F.newSplit, F.newRow] <;> repeat (first | refine wpAny_loadPart_at hC ?_ | (refine wpAny_isSubtype_exc hC ?_; rw [hcont]) | refine wpAny_staticBase_exc hC ?_ | refine wpAny_madeBy_exc hC ?_ | simp only [bne_self_eq_false, Bool.false_eq_true, if_false] | wp_step)
  exact hq
theorem kw_new (F : ExcBaseFacts B newId initId bmB) (hT : ∀ X : String, bm.contains (.type X) = bmB.contains (.type X)) {rest : List Value}
    (hC : h.get? C = some (excClassObj nm q C N bs bm hdct sn sub ab col dd k0 k1 k2 k3 k5 newId)) (hrest : rest.length ≤ sizeLine)
    (hq : R (.ok (.ret (.ref (h.objs.size + 1)))) ⟨(h.push (W.kdv_tup rest)).push (excO C h.objs.size), g, d, t, os⟩) : codeAny (model prog w) A (.builtin newId ⟨.ref C :: rest, kw⟩) R ⟨h, g, d, t, os⟩ := by
  have hends := F.ends; have hcB : (Value.ref C :: bm).contains (.type B) = true := by rw [List.contains_cons, hT, F.hasB, Bool.or_true]
  have hcA : (Value.ref C :: bm).contains (.type "AttributeError") = false ∧ (Value.ref C :: bm).contains (.type "NameError") = false := ⟨by rw [List.contains_cons, hT, F.noAttr]; rfl, by rw [List.contains_cons, hT, F.noName]; rfl⟩
  refine codeAny_builtinAt F.entry ?_; unfold Builtin.«BaseException.__new__»
  refine wpAt_bind ?_; show wpAt _ _ _ (stack >>= _) _ _ _
  refine wpAt_bind (wpAt_stack fun p below => wpAt_of_wpAny ?_); wp_walk
  refine wpAt_of_wpAny ?_; rw [F.owner]; repeat (first | with_reducible refine wpAny_madeHere_exc F.canon hC ?_ | with_reducible refine wpAny_loadPart_at hC ?_ | (with_reducible refine wpAny_isSubtype_exc hC ?_; first | rw [hcB] | rw [hcA.1] | rw [hcA.2]) | wp_step)
  show R _ _; rw [Heap.size_push]; exact hq
theorem kw_type (F : ExcBaseFacts B newId initId bmB) (hT : ∀ X : String, bm.contains (.type X) = bmB.contains (.type X)) {rest : List Value} {fI : Addr} {Q : Fin → Shared → Prop}
    (hC : h.get? C = some (excClassObj nm q C N bs bm hdct sn sub ab col dd k0 k1 k2 k3 k5 newId)) (hrest : rest.length ≤ sizeLine)
    (hi : W.Looks (model prog w) h (typeLookup (.ref C) "__init__") (some (.ref fI))) (hb : ∀ self, W.Looks (model prog w) h (bindSpecial (.ref fI) self) (.ref fI, [self]))
    (hq : codeAny (model prog w) A (.call (.ref fI) ⟨.ref (h.objs.size + 1) :: rest, kw⟩) (fun r s' => match r with | .ok (.ret v) => v = .none ∧ Q (.done (.ret (.ref (h.objs.size + 1)))) s' | .ok _ => False | .error e => E e s')
      ⟨(h.push (W.kdv_tup rest)).push (excO C h.objs.size), g, d, t, os⟩) : wpAny (model prog w) A (Builtin.«type.__call__» ⟨.ref C :: rest, kw⟩) Q E ⟨h, g, d, t, os⟩ := by
  repeat (first | with_reducible refine wpAny_loadPart_at hC ?_ | with_reducible refine wpAny_madeBy_exc hC ?_ | wp_step)
  refine codeAny_call_builtin_code (Code.quiet_builtin _ F.quiet) (kw_check F hT hC ?_); refine kw_new F hT hC hrest ?_
  show wpAny _ _ _ _ _ _
  have k : ∀ b o, h.get? b = some o → ((h.push (W.kdv_tup rest)).push (excO C h.objs.size)).get? b = some o := fun b o e => Heap.get?_push_of_some _ (Heap.get?_push_of_some _ e)
  have i1 := hi.keeps k; have b1 := (hb (.ref (h.objs.size + 1))).keeps k; have hC₁ := k _ _ hC
  have hcC : (Value.ref C :: bm).contains (.ref C) = true ∧ ((h.push (W.kdv_tup rest)).push (excO C h.objs.size)).get? (h.objs.size + 1) = some (excO C h.objs.size) := ⟨by simp, by heap_get⟩
  have hget := hcC.2
  unfold isInstance; repeat (first | with_reducible refine wpAny_loadPart_at hget ?_ | (with_reducible refine wpAny_isSubtype_exc hC₁ ?_; rw [hcC.1]) | wp_step)
  show wpAny _ _ (typeLookup (.ref C) _) _ _ _; refine i1.at ?_; refine wpAny_holding (wpAny_bind (b1.at ?_))
  refine wpAny_bind (wpAny_call (codeAny_mono hq fun r s' z => ?_)); rcases r with e | (v | _ | _ | _) <;> first | exact z | exact z.elim | skip
  obtain ⟨rfl, z⟩ := z; first | exact wpAny_pure (wpAny_pure z) | (wp_walk; exact z)
theorem kw_call (F : ExcBaseFacts B newId initId bmB) (hT : ∀ X : String, bm.contains (.type X) = bmB.contains (.type X)) {rest : List Value} {fI : Addr}
    (hC : h.get? C = some (excClassObj nm q C N bs bm hdct sn sub ab col dd k0 k1 k2 k3 k5 newId)) (hrest : rest.length ≤ sizeLine)
    (hi : W.Looks (model prog w) h (typeLookup (.ref C) "__init__") (some (.ref fI))) (hb : ∀ self, W.Looks (model prog w) h (bindSpecial (.ref fI) self) (.ref fI, [self]))
    (hq : codeAny (model prog w) (A.under (.builtin "type.__call__" ⟨.ref C :: rest, kw⟩)) (.call (.ref fI) ⟨.ref (h.objs.size + 1) :: rest, kw⟩) (W.InitBack (h.objs.size + 1) R) ⟨(h.push (W.kdv_tup rest)).push (excO C h.objs.size), g, d, t, os⟩) :
    codeAny (model prog w) A (.call (.ref C) ⟨rest, kw⟩) R ⟨h, g, d, t, os⟩ := by
  have f1 := tc_lookup; have f2 := tc_bind (.ref C); have hTy : (⟨h, g, d, t, os⟩ : Shared).TypeIs (.ref C) "type" := ⟨_, hC, rfl⟩
  refine codeAny_of_tree ?_; show wpAny _ _ (callAny (.ref C) _) _ _ _
  repeat (any_goals (first | assumption | with_reducible refine wpAny_loadPart_at hC ?_ | wp_step))
  refine ⟨rfl, ?_⟩; refine codeAny_call_builtin_at (Code.quiet_builtin _ (by decide +kernel)) entry_typeCall (wpAny_check_type_call_sub hC (kw_type F hT hC hrest hi hb ?_))
  refine codeAny_mono hq fun r s' z => ?_; rcases r with e | (v | _ | _ | _) <;> exact z
end
end VfK
end PySem

/-! # 3: errors of the program's own, held as values: made, read, asked for their class -/
namespace L2.Vf
open PySem PySem.Spec PyProof.Rows

/-- what the written part says of such a class, its __init__ at fI, its field fld -/
structure ErC (K : PySem.W.Frag) (C fI : Addr) (fld : Str) : Prop where
  ox : OexC K C
  iC : PySem.W.findIn K (.ref C) "__init__" = some (some (.ref fI))
  tI : PySem.W.typeIn K (.ref fI) = some (.type "function")
  no : PySem.W.findIn K (.ref C) fld = some none
  xc : ExcC K C

section
variable {X : Cx} {CX : CXT} {k : Nat} {pins : List (Addr × Obj)} {σ : St} {H : Hp} {s : Shared}
/-- C(..): us positional, kw by name; ws what they bind to behind self -/
theorem run_er {C fI : Addr} {fd : FuncData} {ps : List Str} {sp : Sp} {Q : VK} {us ws : List Value} {kw : List (Str × Value)} {vs : List V} (T : OexC X.K C)
    (iC : PySem.W.findIn X.K (.ref C) "__init__" = some (some (.ref fI))) (tI : PySem.W.typeIn X.K (.ref fI) = some (.type "function"))
    (F1 : FnOk X.prog X.w X.K X.mg X.base CX k fI fd ps sp) (hr : Room (k + 1) X.A) (hz : us.length ≤ 1000)
    (hb : ∀ (s : Shared) (x : Value), X.K.In s.heap → BindsTo s fd ⟨x :: us, kw⟩ (ps.zip (x :: ws))) (hx : Passes CX X E0) (I : Inv X pins σ H s) (r : Vals vs ws)
    (h : ∀ a, H a = none → sp (.ref a :: vs) (upd H a (exo a C none)) (fun v H2 => v = .non ∧ Q (.ref a) H2) E0) :
    wpAny (model X.prog X.w) X.A (call (.ref C) us kw) (EP X pins σ Q) X.xe s := by
  obtain ⟨nm, q, N, bs, bm, sn, sub, ab, col, dd, k0, k1, k2, k3, k5, hC, hbm⟩ := T.cls
  obtain ⟨hp, g, dr, tk, os⟩ := s
  have hsz : hp.objs.size ≤ hp.objs.size + 1 := Nat.le_succ _
  have hn : H (hp.objs.size + 1) = none := I.hok.fresh hsz
  have hq := h (hp.objs.size + 1) hn
  have kk : ∀ b o, hp.get? b = some o → ((hp.push (PySem.W.kdv_tup us)).push (PySem.HandSPX.excO C hp.objs.size)).get? b = some o := fun b o e => by
    exact Heap.get?_push_of_some _ (Heap.get?_push_of_some _ e)
  have hget : ((hp.push (PySem.W.kdv_tup us)).push (PySem.HandSPX.excO C hp.objs.size)).get? (hp.objs.size + 1) = some (PySem.HandSPX.excO C hp.objs.size) := by
    heap_get
  have I2 : Inv X pins σ (upd H (hp.objs.size + 1) (exo (hp.objs.size + 1) C none)) ⟨(hp.push (PySem.W.kdv_tup us)).push (PySem.HandSPX.excO C hp.objs.size), g, dr, tk, os⟩ := by
    exact I.laid (t' := tk) (a := hp.objs.size + 1) (o := exo (hp.objs.size + 1) C none) kk hsz (exo_ok hget)
  have hus : us.length ≤ sizeLine := by rw [sizeLine_eq]; omega
  refine wpAny_call (PySem.VfK.kw_call F.excBase_ValueError (fun Y => PySem.HandSPX.refsVE_contains Y bm hbm) (I.kIn _ _ hC) hus (PySem.W.looks_findIn I.kIn iC) (fun self => PySem.W.bind_fn I.kIn self tI) ?_)
  refine codeAny_mono (F1.run _ X.stack _ _ _ (Value.ref (hp.objs.size + 1) :: ws) (.ref (hp.objs.size + 1) :: vs) _ E0 (hr.make C us kw) (I2.env0.make C us kw) (hb _ _ I2.kIn) (.cons rfl r) hq) fun r s' hq' => ?_
  cases r with
  | error er => exact hx pins σ _ _ er s' I2 hq'
  | ok fl =>
    cases fl with
    | ret u =>
      obtain ⟨v, H', I3, rv, ev, q3⟩ := I2.after hq'
      subst ev
      exact ⟨rv, ⟨V.ref (hp.objs.size + 1), H', I3, rfl, q3⟩⟩
    | next => exact hq'.elim
    | brk => exact hq'.elim
    | cont => exact hq'.elim

/-- an error without __init__ -/
theorem run_er0 {C : Addr} {bmB : List Value} {B newId initId : String} {Q : VK} {us : List Value} (F : ExcBaseFacts B newId initId bmB) (q : PySem.W.excIn X.K C bmB newId = true) (hz : us.length ≤ 1000) (I : Inv X pins σ H s)
    (h : ∀ a, H a = none → Q (.ref a) (upd H a (exo a C none))) : wpAny (model X.prog X.w) X.A (call (.ref C) us) (EP X pins σ Q) X.xe s := by
  obtain ⟨bm, N, nm, qn, bs, hdct, sn, sub, ab, col, dd, k0, k1, k2, k3, k5, mN, hC, hN, hni, T⟩ := exc_obj I.kIn q
  refine wpAny_call_exc_subT F T hC hN hni (fun h' a hm => ?_) (by rw [sizeLine_eq]; omega)
  have hn : H a = none := I.hok.gone hm.new
  obtain ⟨t, ht, _, _⟩ := hm.there
  exact ⟨.ref a, upd H a (exo a C none), I.laidN hm.keeps hm.new hn (exo_ok ht), rfl, h a hn⟩

/-! ### the calls, as expressions -/
/-- C(e), C(f = e), C() -/
def tEr (C : Addr) (sp : Sp) (t : TA) : TE := fun σ H Q => t σ H fun vs H1 => vs.length ≤ 1000 ∧ ∀ a, H1 a = none → sp (.ref a :: vs) (upd H1 a (exo a C none)) (fun v H2 => v = .non ∧ Q (.ref a) H2) E0
def tErD (C : Addr) (sp : Sp) : TE := fun σ H Q => ∀ a, H a = none → sp [.ref a, .non] (upd H a (exo a C none)) (fun v H2 => v = .non ∧ Q (.ref a) H2) E0
variable {C fI : Addr} {fld x : Str} {fd : FuncData} {ps ks : List Str} {sp : Sp} {e : Expr} {es : List Expr} {kws : List Keyword} {t : TA} {p pos : Pos}
theorem pe_er (T : ErC X.K C fI fld) (F1 : FnOk X.prog X.w X.K X.mg X.base CX k fI fd ps sp) (hr : Room (k + 1) X.A) (hb : Binds X.K fd ps []) (hx : Passes CX X E0) (hg : Gl X x) (hm : X.mg x = some (.ref C)) (ha : PA X (e :: es) t)
    (hdb : (x == ("__debug__" : Str)) = false := by decide) (he : starEach (e :: es) X.env = (false, eval e X.env) :: starEach es X.env := by rfl) (hpl : (backTo pos (starEach es X.env)).any (·.1) = false := by rfl) :
    PE X (.Call (.Name x p) (e :: es) [] pos) (tEr C sp t) := by
  refine ⟨fun pins s σ H Q I h => wpAny_Call_Name_kw (ld_glob I hg hm ?_ hdb)⟩
  refine PySem.W.callWith_K (h₀ := X.base) I.ok.mod.kin T.ox.kC (thn (ha.run pos pins s σ H _ I h) fun us s1 hh => ?_) he hpl
  obtain ⟨vs, H1, I1, r, hz, q⟩ := hh
  have hl : us.length ≤ 1000 := by rw [← r.length]; exact hz
  have hn : H1 s1.heap.objs.size = none := I1.hok.fresh (Nat.le_refl _)
  have l2 := F1.len _ _ _ _ (q _ hn)
  refine ⟨I1.kIn, run_er T.ox T.iC T.tI F1 hr hl (fun s x X => ?_) hx I1 r q⟩
  have z := hb s (x :: us) X (by rw [List.append_nil, List.length_cons, ← r.length]; exact l2)
  rw [List.append_nil] at z
  exact z
theorem pe_erK (T : ErC X.K C fI fld) (F1 : FnOk X.prog X.w X.K X.mg X.base CX k fI fd ps sp) (hr : Room (k + 1) X.A) (hb : ∀ (s : Shared) (x : Value) (ws : List Value), X.K.In s.heap → (x :: ws).length = ps.length → BindsTo s fd ⟨[x], ks.zip ws⟩ (ps.zip (x :: ws)))
    (hx : Passes CX X E0) (hg : Gl X x) (hm : X.mg x = some (.ref C)) (hk : PK X kws t) (hall : (backToKw pos (keywordEach kws X.env)).all (·.1.isSome) = true := by rfl) (hks : (backToKw pos (keywordEach kws X.env)).filterMap (·.1) = ks := by rfl)
    (hdb : (x == ("__debug__" : Str)) = false := by decide) (hpl : ((backTo pos (starEach [] X.env)).any (·.1) || (backToKw pos (keywordEach kws X.env)).any (·.1.isNone)) = false := by rfl) :
    PE X (.Call (.Name x p) [] kws pos) (tEr C sp t) := by
  refine ⟨fun pins s σ H Q I h => wpAny_Call_Name_kw (ld_glob I hg hm ?_ hdb)⟩
  refine PySem.W.callWith_KW0 (h₀ := X.base) I.ok.mod.kin T.ox.kC hall ?_ hpl
  refine thn (hk.run pos pins s σ H _ I h) fun ws s1 hh => ?_
  obtain ⟨vs, H1, I1, r, hz, q⟩ := hh
  have hn : H1 s1.heap.objs.size = none := I1.hok.fresh (Nat.le_refl _)
  have l2 := F1.len _ _ _ _ (q _ hn)
  rw [hks]
  refine ⟨I1.kIn, run_er (us := []) T.ox T.iC T.tI F1 hr (by decide) (fun s x X => ?_) hx I1 r q⟩
  exact hb s x ws X (by rw [List.length_cons, ← r.length]; exact l2)
theorem pe_erD (T : ErC X.K C fI fld) (F1 : FnOk X.prog X.w X.K X.mg X.base CX k fI fd ps sp) (hr : Room (k + 1) X.A) (hb : ∀ (s : Shared) (x : Value), X.K.In s.heap → BindsTo s fd ⟨[x], []⟩ (ps.zip [x, .none]))
    (hx : Passes CX X E0) (hg : Gl X x) (hm : X.mg x = some (.ref C)) (hdb : (x == ("__debug__" : Str)) = false := by decide) : PE X (.Call (.Name x p) [] [] pos) (tErD C sp) := by
  refine ⟨fun pins s σ H Q I h => wpAny_Call_Name_kw (ld_glob I hg hm ?_ hdb)⟩
  exact PySem.W.callWith_K0 I.kIn T.ox.kC (run_er (us := []) (ws := [.none]) (vs := [.non]) T.ox T.iC T.tI F1 hr (by decide) (fun s x X => hb s x X) hx I (.cons rfl .nil) h)
theorem pe_er0 {bmB : List Value} {B newId initId : String} (F : ExcBaseFacts B newId initId bmB) (q : PySem.W.excIn X.K C bmB newId = true) (kC : PySem.W.keepIn X.K (.ref C) = true) (hg : Gl X x) (hm : X.mg x = some (.ref C))
    (hdb : (x == ("__debug__" : Str)) = false := by decide) : PE X (.Call (.Name x p) [] [] pos) (fun σ H Q => ∀ a, H a = none → Q (.ref a) (upd H a (exo a C none))) := by
  refine ⟨fun pins s σ H Q I h => wpAny_Call_Name_kw (ld_glob I hg hm ?_ hdb)⟩
  exact PySem.W.callWith_K0 I.kIn kC (run_er0 (us := []) F q (by decide) I h)

/-! ### the field -/
/-- e.f of such an error -/
def tErF (K : PySem.W.Frag) (f : Str) (te : TE) : TE := fun σ H Q => te σ H fun x H1 => ∃ (a C d : Addr) (fs : List (Str × V)) (v : V), x = .ref a ∧ H1 a = some (exo a C (some d)) ∧ H1 d = some (exd d fs) ∧ fs.lookup f = some v ∧
  ExcC K C ∧ PySem.W.findIn K (.ref C) f = some none ∧ Q v H1
theorem pe_erF {te : TE} {f : Str} (he : PE X e te) (hb : attributeBase e f X.env (eval e X.env) = eval e X.env := by rfl) : PE X (.Attribute e f pos) (tErF X.K f te) := by
  refine ⟨fun pins s σ H Q I h => attr_of hb (thn (he.run pins s σ H _ I h) fun u s1 hh => ?_)⟩
  obtain ⟨x, H1, I1, rx, a, C, d, fs, v, ex, ea, ed, l, T, no, q⟩ := hh
  subst ex
  obtain rfl : u = Value.ref a := rx
  obtain ⟨t1, ho⟩ := exo_at I1.hok ea
  obtain ⟨mA, hns, hr⟩ := exd_at I1.hok ed
  obtain ⟨od, hod, hl⟩ := lookIn_ns hns
  obtain ⟨u, hu, ru⟩ := RelO.some_of (v := v) (o := mA f) (by rw [← l]; exact hr f)
  have J : PySem.W.InstAt s1.heap a _ C (some od) := ⟨ho, rfl, rfl, hod⟩
  exact HandSPX.exc_get I1.kIn J T.hg T.hk T.hs (PySem.W.findObj_own T.hd no rfl (by rw [hl, hu])) (handed_of ru) ⟨v, H1, I1.tok _, ru, q⟩
end
end L2.Vf

/-! # 4: isinstance of errors held as values; a class's __init__ that stores its one parameter -/
namespace PySem.VfK
open PySem PySem.Spec PySem.Calls PyProof.Rows PySem.W
section
variable {prog : Program} {w : World} {A : Around} {E : Value → Shared → Prop} {s : Shared} {K : Frag} {x D : Addr} {ox : Obj} {od : Option Obj}
theorem data_any {C : Addr} {name : Str} {a g : Value} (hc : (clsIn K C).isSome = true) (ha : findIn K (.ref C) name = some (some a)) (hg : specialIn K a "__get__" = some (some g)) (ht : takesIn K a = some true) : findObj K C od name = some (.bind g a) := by
  unfold findObj; obtain ⟨cd, hc⟩ := Option.isSome_iff_exists.mp hc
  rw [hc, Option.bind_some, ha, Option.bind_some]; simp [hg, ht]
theorem cls_any {Q : Option Value → Shared → Prop} (T : L2.ExcC K D) (X : K.In s.heap) (I : InstAt s.heap x ox D od) (h : Q (some (.ref D)) { s with toks := s.toks + 1 }) : wpAny (model prog w) A (getAttr? (.ref x) "__class__") Q E s := by
  have hf : findObj K D od "__class__" = some (.bind (.builtin "getset_descriptor.__get__") (.builtin "object.__class__")) := data_any (by obtain ⟨cd, hc, _⟩ := any_some T.hd; rw [hc]; rfl) T.ha T.hn T.ht
  obtain ⟨hp, g, d, t, os⟩ := s
  have L0 := I.type (M := model prog w); have L1 := looks_findIn (M := model prog w) X T.hg; have L2 := looks_findIn (M := model prog w) X T.hk; have L3 := looks_find (M := model prog w) X I hf
  have sub : Looks (model prog w) hp (isInstance (.ref x) (.type "BaseException")) true := L0.andThen (looks_subIn X T.hs)
  have hx0 : (false && onTheHeap (Value.builtin "BaseException.__getattribute__")) = false ∧ (Value.builtin "BaseException.__getattribute__" == Value.builtin "object.__getattribute__") = false := ⟨rfl, by decide +kernel⟩
  have hx1 : (onTheHeap (Value.ref D) && Value.builtin "BaseException.__getattribute__" == Value.builtin "object.__getattribute__") = false := by rw [hx0.2]; rfl
  unfold getAttr? getAttrBy? getAttrBy; refine wpAny_bind (wpAny_mkText (wpAny_bind (wpAny_attempt (wpAny_holding (wpAny_bind (L0.at (wpAny_bind (L1.at ?_))))))))
  show wpAny _ _ (if (onTheHeap (Value.ref D) && Value.builtin "BaseException.__getattribute__" == Value.builtin "object.__getattribute__") = true then _ else _) _ _ _; rw [hx1, if_neg Bool.false_ne_true]
  unfold getAttrByItsOwn hookBefore; refine wpAny_bind ?_; rw [if_pos (show onTheHeap (Value.ref D) = true from rfl)]; refine L2.at ?_
  refine wpAny_bind (wpAny_attempt (wpAny_holding ?_)); unfold callGetattribute; rw [hx0.1, if_neg Bool.false_ne_true]; unfold boundAndCalled
  rw [PySem.F.excAttr_ValueError.ga.bind (.ref x)]; refine wpAny_bind (wpAny_pure ?_)
  show wpAny _ _ (call (.builtin "BaseException.__getattribute__") [.ref x, .str "__class__" t]) _ _ _; refine wpAny_call (codeAny_call_builtin PySem.F.excAttr_ValueError.ga.plain PySem.F.entry_bexc_ga ?_)
  refine @check_slot (model prog w) _ _ ⟨hp, g, d, t + 1, os⟩ "BaseException.__getattribute__" "BaseException" "__getattribute__" (.ref x) [.str "__class__" t] [] _ (by decide +kernel) (by decide +kernel) sub (PySem.F.args_bexc_ga (.ref x) (.str "__class__" t)) ?_ ; unfold Builtin.«object.__getattribute__»
  refine wpAny_bind (wpAny_of_eq (a := ((Value.ref x : Value), [Value.str "__class__" t])) (by first | rfl | (simp only [slotArgs]; rfl)) ?_); refine wpAny_bind (wpAny_pure (wpAny_bind (L0.at (wpAny_bind (L3.at ?_)))))
  show wpAny _ _ (holding [Value.builtin "object.__class__"] (call (.builtin "getset_descriptor.__get__") [.builtin "object.__class__", .ref x, .ref D]) >>= ret) _ _ _
  refine wpAny_bind (wpAny_holding (wpAny_call (class_get (s := ⟨hp, g, d, t + 1, os⟩) (ox := ox) (od := od) X I T.hm ?_))); refine wpAny_pure ?_
  show wpAny _ _ (handedOut (.ref D)) _ _ _; rw [handedOut_of (v := .ref D) rfl]
  first | exact wpAny_pure (wpAny_pure h) | exact wpAny_pure h | exact wpAny_pure (wpAny_bind (wpAny_pure (wpAny_pure h)))
theorem kit_any (T : L2.ExcC K D) : KitX K (.ref x) (.ref D) (fun h => InstAt h x ox D od) where
  ty := fun _ _ _ I => I.type
  it := fun _ _ X _ => by
    obtain ⟨c, hc, _⟩ := any_some T.hd; unfold clsIn at hc; split at hc
    · rename_i c' d' cd' sl' ho
      intro A' Q' E' s' k q; unfold isType loadHead; exact wpAny_bind (wpAny_loadPart (k _ _ (X _ _ ho)) (wpAny_pure q))
    · cases hc
  ne := fun h tp dd its n sl X htp => by
    obtain ⟨c, hc, _⟩ := any_some T.hd
    refine Bool.eq_false_iff.mpr fun q => ?_; have e : D = tp := Value.ref.inj (beq_iff_eq.mp q); subst e; unfold clsIn at hc; split at hc
    · rename_i c' d' cd' sl' ho
      have z := (X _ _ ho).symm.trans htp; cases z
    · cases hc
  ca := fun X I k => cls_any T X I k
end
end PySem.VfK

namespace L2.Vf
open PySem PySem.Spec PyProof.Rows
/-- isinstance(e, c), e such an error -/
def rIsX (K : PySem.W.Frag) : List V → Hp → VK → Prop := fun xs H Q => ∃ (a C : Addr) (d : Option Addr) (c : V) (cv : Value) (b : Bool), xs = [.ref a, c] ∧ H a = some (exo a C d) ∧ (∀ d0, d = some d0 → ∃ fs, H d0 = some (exd d0 fs)) ∧ ExcC K C ∧ ClsV c cv ∧
  PySem.W.kitOne K (.ref C) cv = some b ∧ Q (.bl b) H
section
variable {X : Cx} {f : Addr}
theorem call_isiX : CallR X (.builtin "isinstance") (fun xs H Q => rIsi X.K xs H Q ∨ rIsX X.K xs H Q) := by
  intro pins s σ H xs us Q I r h
  rcases h with h | ⟨a, C, d, c, cv, b, rfl, ha, hd, T, hc, e, q⟩
  · exact call_isi pins s σ H xs us Q I r h
  · obtain ⟨u1, u2, rfl, r1, r2⟩ := vals2 r
    obtain rfl : u1 = Value.ref a := r1
    have e2 := hc.eq r2
    subst e2
    obtain ⟨t1, ho⟩ := exo_at I.hok ha
    have J : ∃ od, PySem.W.InstAt s.heap a { cls := .ref C, dict := d, data := .fields #[.ref t1, .none, .none, .none, .bool false, .none] } C od := by
      cases d with
      | none => exact ⟨none, ho, rfl, rfl, trivial⟩
      | some d0 =>
        obtain ⟨fs, hq⟩ := hd d0 rfl
        obtain ⟨mA, ⟨o, es, ep, e1, _⟩, _⟩ := exd_at I.hok hq
        exact ⟨some o, ho, rfl, rfl, e1⟩
    obtain ⟨od, J⟩ := J
    exact PySem.W.kia_one (PySem.VfK.kit_any T) I.kIn J e (fun z => nomatch z) fun tk => ⟨.bl b, H, I.kept (t' := tk) fun _ _ z => z, rfl, q⟩

/-! ### def __init__(self, f=None): self.f = f -/
def iArgs (f : Str) (p1 p2 p3 : Pos) : Arguments := { posonlyargs := [], args := [⟨"self", none, p1⟩, ⟨f, none, p2⟩], vararg := none, kwonlyargs := [], kw_defaults := [], kwarg := none, defaults := [.Constant .none 0 p3] }
def iBody (f : Str) (p1 p2 p3 p4 : Pos) : List Stmt := [.Assign [.Attribute (.Name "self" p1) f p2] (.Name f p3) p4]
def iScope (f : Str) : Scope := ⟨.function, [("self", .local), (f, .local)], false, false, []⟩
/-- the new error keeps what it was given -/
def spInit (K : PySem.W.Frag) (fld : Str) : Sp := fun vs H Q _ => ∃ (a C : Addr) (v : V), vs = [.ref a, v] ∧ OexC K C ∧ PySem.W.findIn K (.ref C) fld = some none ∧ H a = some (exo a C none) ∧
  ∀ dx, H dx = none → dx ≠ a → Q .non (upd (upd H dx (exd dx [(fld, v)])) a (exo a C (some dx)))
end
section
variable {P : Program} {w : World} {K : PySem.W.Frag} {mg : Str → Option Value} {base : Heap} {f : Addr} {fd : FuncData} {qual : Str} {p1 p2 p3 p4 p5 p6 p7 : Pos}
theorem ok_initV (F : FunD K "__init__" qual (iArgs "value" p1 p2 p3) (iBody "value" p4 p5 p6 p7) (iScope "value") [.non] [] f fd) : FnOk P w K mg base CX0 1 f fd ["self", "value"] (spInit K "value") := by
  have sc : FnScope ["self", "value"] ["self", "value"] (iScope "value") := ⟨rfl, rfl, rfl, by decide +kernel, rfl, by decide +kernel, by decide +kernel⟩
  refine F.ok sc (fun vs H Q E h => ?_) fun cdv A outer s H vs Q E hr h => ?_
  · obtain ⟨a, C, v, rfl, _⟩ := h; rfl
  · obtain ⟨a, C, v, rfl, T, no, ea, q⟩ := h
    refine ⟨_, (pss_one (ps_ost (pv 0) (pv 1))).nox, ?_⟩
    exact ⟨v, rfl, _, rfl, a, C, rfl, T, no, .inl ⟨ea, fun dx n ne => q dx n ne⟩⟩
theorem ok_initN (F : FunD K "__init__" qual (iArgs "name" p1 p2 p3) (iBody "name" p4 p5 p6 p7) (iScope "name") [.non] [] f fd) : FnOk P w K mg base CX0 1 f fd ["self", "name"] (spInit K "name") := by
  have sc : FnScope ["self", "name"] ["self", "name"] (iScope "name") := ⟨rfl, rfl, rfl, by decide +kernel, rfl, by decide +kernel, by decide +kernel⟩
  refine F.ok sc (fun vs H Q E h => ?_) fun cdv A outer s H vs Q E hr h => ?_
  · obtain ⟨a, C, v, rfl, _⟩ := h; rfl
  · obtain ⟨a, C, v, rfl, T, no, ea, q⟩ := h
    refine ⟨_, (pss_one (ps_ost (pv 0) (pv 1))).nox, ?_⟩
    exact ⟨v, rfl, _, rfl, a, C, rfl, T, no, .inl ⟨ea, fun dx n ne => q dx n ne⟩⟩
/-- how its arguments bind -/
theorem init_look {fld : Str} (F : FunD K "__init__" qual (iArgs fld p1 p2 p3) (iBody fld p4 p5 p6 p7) (iScope fld) [.non] [] f fd) {s : Shared} {x y : Value} {us : List Value} {kw : List (Str × Value)} (X : K.In s.heap)
    (h : ∀ (T : Addr) (kV doc pm : Value) (an : Option Addr) (cdv ct : Value), ∃ k, bindArgs (PySem.W.fnOf "__init__" qual (iArgs fld p1 p2 p3) (iBody fld p4 p5 p6 p7) (iScope fld) (.ref T) kV doc pm an cdv ct) ⟨us, kw⟩ = seqItems? (.ref T) >>= k ∧
      k (some #[.none]) = pure ((["self", fld] : List Str).zip [x, y])) : BindsTo s fd ⟨us, kw⟩ ((["self", fld] : List Str).zip [x, y]) := by
  obtain ⟨oc, od, dV, kV, doc, pm, an, cdv, ct, osl, rfl, lk, hcd, hD, hK⟩ := F.ex
  rcases hD with ⟨e, _⟩ | ⟨_, T, o, its, m, rfl, lT, oT, rT⟩
  · cases e
  · cases rT with
    | cons r1 r2 =>
      cases r2
      cases r1
      obtain ⟨k, e1, e2⟩ := h T kV doc pm an cdv ct
      refine BindsTo.of_looks fun M => ?_
      rw [e1]
      exact looks_items X lT oT (.of_pure e2)
theorem init_b1 {fld : Str} (F : FunD K "__init__" qual (iArgs fld p1 p2 p3) (iBody fld p4 p5 p6 p7) (iScope fld) [.non] [] f fd) (hf : fld = "value" ∨ fld = "name") : Binds K fd ["self", fld] [] := by
  intro s us X hl
  rw [List.append_nil] at hl ⊢
  match us, hl with
  | [a, b], _ => exact init_look F X fun T kV doc pm an cdv ct => by rcases hf with rfl | rfl <;> exact ⟨_, rfl, rfl⟩
theorem init_bK {fld : Str} (F : FunD K "__init__" qual (iArgs fld p1 p2 p3) (iBody fld p4 p5 p6 p7) (iScope fld) [.non] [] f fd) (hf : fld = "value" ∨ fld = "name") (s : Shared) (x : Value) (ws : List Value) (X : K.In s.heap)
    (hl : (x :: ws).length = (["self", fld] : List Str).length) : BindsTo s fd ⟨[x], ([fld] : List Str).zip ws⟩ ((["self", fld] : List Str).zip (x :: ws)) := by
  match ws, hl with
  | [b], _ => exact init_look F X fun T kV doc pm an cdv ct => by rcases hf with rfl | rfl <;> exact ⟨_, rfl, rfl⟩
theorem init_bD {fld : Str} (F : FunD K "__init__" qual (iArgs fld p1 p2 p3) (iBody fld p4 p5 p6 p7) (iScope fld) [.non] [] f fd) (hf : fld = "value" ∨ fld = "name") (s : Shared) (x : Value) (X : K.In s.heap) : BindsTo s fd ⟨[x], []⟩ ((["self", fld] : List Str).zip [x, .none]) :=
  init_look F X fun T kV doc pm an cdv ct => by rcases hf with rfl | rfl <;> exact ⟨_, rfl, rfl⟩
end
end L2.Vf

/-! # 5: defs that are called where no repr runs around them, and what is known of that in their bodies -/
namespace L2.Vf
open PySem PySem.Spec PyProof.Rows
theorem guards_make (A : Around) (C : Addr) (us : List Value) (kw : List (Str × Value)) (h : A.guards = some []) : (A.under (.builtin "type.__call__" ⟨.ref C :: us, kw⟩)).guards = some [] := by
  simp [Around.under, Code.guards, Code.isGuard, pushGuards, h]
  rw [if_neg (by decide)]
/-- what FnOk says, where no guarded builtin runs -/
structure FnG (P : Program) (w : World) (K : PySem.W.Frag) (mg : Str → Option Value) (base : Heap) (CX : CXT) (k : Nat) (f : Addr) (fd : FuncData) (ps : List Str) (sp : Sp) : Prop where
  len : ∀ vs H Q E, sp vs H Q E → vs.length = ps.length
  go : ∀ (A : Around) (outer : List Env) (s : Shared) (H : Hp) (args : Args) (us : List Value) (vs : List V) (Q : VK) (E : XK), A.guards = some [] → Room k A → Env0 P w K mg base A outer s H → BindsTo s fd args (ps.zip us) → Vals vs us →
    sp vs H Q E → codeAny (model P w) A (.call (.ref f) args) (CR CX outer P w H s Q E) s
section
variable {P : Program} {w : World} {K : PySem.W.Frag} {mg : Str → Option Value} {base : Heap} {CX : CXT} {k : Nat} {f : Addr} {fd : FuncData} {ps N : List Str} {sp : Sp}
theorem FnG.of (F : FnOk P w K mg base CX k f fd ps sp) : FnG P w K mg base CX k f fd ps sp :=
  ⟨F.len, fun A outer s H args us vs Q E _ hr he hb hv hs => F.run A outer s H args us vs Q E hr he hb hv hs⟩
/-- a def of the text, its body walked -/
theorem FnG.mk' {name qual : Str} {params : Arguments} {body : List Stmt} {scope : Scope} {dV kV doc pm cdv ct oc : Value} {an od : Option Addr} {osl : Array (Option Value)}
    (lk : K.lookup f = some ⟨oc, od, .func (PySem.W.fnOf name qual params body scope dV kV doc pm an cdv ct), osl⟩) (hcd : PySem.W.codeIn K cdv qual = true) (S : FnScope N ps scope) (len : ∀ vs H Q E, sp vs H Q E → vs.length = ps.length)
    (hbody : ∀ (A : Around) (outer : List Env) (s : Shared) (H : Hp) (vs : List V) (Q : VK) (E : XK), (A.deeper (envOfC qual scope s.heap.objs.size f cdv)).guards = some [] → Room k (A.deeper (envOfC qual scope s.heap.objs.size f cdv)) → sp vs H Q E →
      ∃ t, PSs (cxOf CX P w K mg base N qual scope f cdv A outer s H E) body t ∧ t { nx := fun _ H' => Q .non H', rt := Q } (start N vs) H) :
    FnG P w K mg base CX (k + 1) f (PySem.W.fnOf name qual params body scope dV kV doc pm an cdv ct) ps sp := by
  refine ⟨len, fun A outer s H args us vs Q E hg hr e0 hb r hsp => ?_⟩
  have hl := len _ _ _ _ hsp
  have KX : K.In s.heap := e0.mod.kin.keeps fun b o e => by exact (e0.bs b o e).1
  have lim : s.heap.NoLimit := e0.mod.nolimit.keeps fun b o e => by exact (e0.bs b o e).1
  have hkind : ∀ y ∈ ps.zip us, scope.names.lookup y.1 = some .local ∨ (scope.names.lookup y.1 = some .cell ∧ ((cellsFrom (s.heap.objs.size + 1) scope.names []).lookup y.1).isSome = true) := fun y hy => by
    obtain ⟨n, v⟩ := y
    rcases S.par n (List.of_mem_zip hy).1 with q | q
    · exact Or.inl q
    · exact Or.inr ⟨q, PySem.W.cellsFrom_some _ _ _ (.inl q)⟩
  refine codeAny_call_function hr.depth (KX _ _ lk) rfl S.co S.gen rfl (PySem.W.codeRec_of KX hcd) (hb _ _ _ _ (wpAny_newFunctionEnv_cells S.kind hkind fun env he s1 x => ?_))
  subst he
  refine ⟨lim.keeps x.toInCall.keep, codeAny_func ?_⟩
  obtain ⟨t, ht, hq⟩ := hbody A outer s H vs Q E hg (hr.deeper _) hsp
  have I : Inv (cxOf CX P w K mg base N qual scope f cdv A outer s H E) [] (start N vs) H s1 := by exact inv_start S hr.hd e0 hl r x
  refine wpAny_mono (ht.run [] s1 (start N vs) H _ I hq) (fun fl s' hs => ?_) fun e s' hs => by exact hs
  cases fl with
  | ret u =>
    obtain ⟨v, σ', H', J, rv, q⟩ := hs
    exact ⟨v, H', J.os, J.bare, J.base, J.hok, rv, q⟩
  | next =>
    obtain ⟨σ', H', J, q⟩ := hs
    exact ⟨.non, H', J.os, J.bare, J.base, J.hok, rfl, q⟩
  | brk => obtain ⟨_, _, _, q⟩ := hs; exact q.elim
  | cont => obtain ⟨_, _, _, q⟩ := hs; exact q.elim
/-- from which no error leaves -/
theorem okG {x qual : Str} {st : Stmt} (F : Fun K x qual st f fd) (S : FnScope N ps (defScope st)) (len : ∀ vs H Q E, sp vs H Q E → vs.length = ps.length)
    (hbody : ∀ (cdv : Value) (A : Around) (outer : List Env) (s : Shared) (H : Hp) (vs : List V) (Q : VK) (E : XK), (A.deeper (envOfC qual (defScope st) s.heap.objs.size f cdv)).guards = some [] → Room k (A.deeper (envOfC qual (defScope st) s.heap.objs.size f cdv)) →
      sp vs H Q E → ∃ t, PSs (cxOf CX0 P w K mg base N qual (defScope st) f cdv A outer s H E).nox (defBody st) t ∧ t { nx := fun _ H' => Q .non H', rt := Q } (start N vs) H) : FnG P w K mg base CX0 (k + 1) f fd ps sp := by
  obtain ⟨oc, od, kV, doc, pm, an, cdv, ct, osl, rfl, lk, hcd⟩ := F.ex
  refine FnG.mk' lk hcd S len fun A outer s H vs Q E hg hr hsp => ?_
  obtain ⟨t, h, q⟩ := hbody cdv A outer s H vs Q E hg hr hsp
  exact ⟨t, h.nox, q⟩
end
section
variable {X : Cx} {CX : CXT} {k : Nat} {f : Addr} {fd : FuncData} {ps : List Str} {sp : Sp} {dvs : List V} {ds : List Value} {E : XK} {x : Str} {p pos : Pos} {e : Expr} {es : List Expr} {t : TA}
theorem runG {pins : List (Addr × Obj)} {σ : St} {H : Hp} {s : Shared} {Q : VK} {us : List Value} {vs : List V} (F : FnG X.prog X.w X.K X.mg X.base CX k f fd ps sp) (hg : X.A.guards = some []) (hr : Room k X.A) (hb : Binds X.K fd ps ds) (hd : Vals dvs ds)
    (hx : Passes CX X E) (I : Inv X pins σ H s) (r : Vals vs us) (h : sp (vs ++ dvs) H Q E) : wpAny (model X.prog X.w) X.A (call (.ref f) us) (EP X pins σ Q) X.xe s := by
  have r2 : Vals (vs ++ dvs) (us ++ ds) := r.append hd
  have hl : (us ++ ds).length = ps.length := by rw [← r2.length]; exact F.len _ _ _ _ h
  refine wpAny_call (codeAny_mono (F.go X.A X.stack s H ⟨us, []⟩ (us ++ ds) (vs ++ dvs) Q E hg hr I.env0 (hb s us I.kIn hl) r2 h) fun r s' hq => ?_)
  cases r with
  | error e => exact hx pins σ H s e s' I hq
  | ok fl =>
    cases fl with
    | ret u => exact I.after hq
    | next => exact hq.elim
    | brk => exact hq.elim
    | cont => exact hq.elim
theorem pe_callG (F : FnG X.prog X.w X.K X.mg X.base CX k f fd ps sp) (hG : X.A.guards = some []) (hr : Room k X.A) (hg : Gl X x) (hm : X.mg x = some (.ref f)) (hk : PySem.W.keepIn X.K (.ref f) = true) (hb : Binds X.K fd ps ds) (hd : Vals dvs ds)
    (hx : Passes CX X E) (ha : PA X (e :: es) t) (hdb : (x == ("__debug__" : Str)) = false := by decide) (he : starEach (e :: es) X.env = (false, eval e X.env) :: starEach es X.env := by rfl)
    (hpl : (backTo pos (starEach es X.env)).any (·.1) = false := by rfl) : PE X (.Call (.Name x p) (e :: es) [] pos) (tCall sp dvs E t) := by
  refine ⟨fun pins s σ H Q I h => wpAny_Call_Name_kw (ld_glob I hg hm ?_ hdb)⟩
  refine PySem.W.callWith_K (h₀ := X.base) I.ok.mod.kin hk (thn (ha.run pos pins s σ H _ I h) fun us s1 hh => ?_) he hpl
  obtain ⟨vs, H1, I1, r, q⟩ := hh
  exact ⟨I1.kIn, runG F hG hr hb hd hx I1 r q⟩
end

/-! ### the end of a law -/
/-- the call's heap without what is tracked, and the facts of the module over it -/
theorem lawG_at {P : Program} {w : World} {K : PySem.W.Frag} {mg mb : Str → Option Value} {k : Nat} {fa a : Addr} {fd : FuncData} {x : Str} {sp : Sp} {s₁ : Shared} {vs : List Value} {H : Hp}
    (KX : K.In s₁.heap) (hns : s₁.heap.Ns mainGlobals mg) (hb : s₁.heap.Ns builtinsNs mb) (hbb : ∀ x : Str, x ≠ "__name__" → mb x = bootBuiltins x) (hlim : s₁.heap.NoLimit) (hg : s₁.gens = #[])
    (ha : s₁.heap.get? a = some { cls := .type "list", data := .seq vs.toArray }) (hr : Room k callerA)
    (F : ∀ base : Heap, K.In base → base.Ns mainGlobals mg → FnG P w K mg base CX0 k fa fd [x] sp) (hbind : ∀ (s : Shared) (u : Value), BindsTo s fd ⟨[u], []⟩ [(x, u)])
    (hO : Only H) (hsp : sp [.ref a] H (fun v _ => v = .bl true) fun _ _ _ => False) (hok : HOk P w H s₁.heap) (hA : ∀ b, H b ≠ none → b = a) (hK : H a ≠ none → K.lookup a = none) :
    codeAny (model P w) callerA (.call (.ref fa) ⟨[.ref a], []⟩) (fun r s' => r = .ok (.ret (.bool true)) ∧ OldK s₁.heap s'.heap ∧ s'.os = s₁.os ∧ AllBare s'.gens) s₁ := by
  have noD : ∀ {b : Addr} {o : Obj} {es : Array DictEntry} {ep : Nat}, s₁.heap.get? b = some o → o.data = .dict es ep → H b = none := fun {b o es ep} e d => by
    cases q : H b with
    | none => rfl
    | some u =>
      have e' := hA b (by rw [q]; simp)
      subst e'
      rw [ha] at e
      cases e
      cases (show Data.seq vs.toArray _ = Data.dict es ep from d)
  have nsK : ∀ {b : Addr} {m : Str → Option Value}, s₁.heap.Ns b m → (hidT s₁.heap H).Ns b m := fun {b m} z => by
    obtain ⟨o, es, ep, e, d, r⟩ := z
    exact ⟨o, es, ep, hidT_get e (noD e d), d, r⟩
  have hKb : K.In (hidT s₁.heap H) := fun b o e => hidT_get (KX b o e) (by
    cases q : H b with
    | none => rfl
    | some u =>
      have e' := hA b (by rw [q]; simp)
      subst e'
      rw [hK (by rw [q]; simp)] at e
      cases e)
  have hM : Mod K mg (hidT s₁.heap H) := by
    obtain ⟨mc, h1, h2⟩ := hlim
    exact ⟨hKb, nsK hns, ⟨mb, nsK hb, hbb⟩, mc, nsK h1, h2⟩
  have e0 : Env0 P w K mg (hidT s₁.heap H) callerA [] s₁ H := by
    exact ⟨rfl, hM, fun b o e => of_hidT e, Nat.le_of_eq (hidT_size _ _), trivial, fun b hb => absurd (show b ∈ ([] : List Addr) from hb) (by simp), hok, .of_eq hg⟩
  refine codeAny_mono ((F _ hKb (nsK hns)).go callerA [] s₁ H ⟨[.ref a], []⟩ [.ref a] [.ref a] _ _ rfl hr e0 (hbind s₁ (.ref a)) (.cons rfl .nil) hsp) fun r s' h => ?_
  cases r with
  | error e => exact False.elim h
  | ok fl =>
    cases fl with
    | next => exact h.elim
    | brk => exact h.elim
    | cont => exact h.elim
    | ret u =>
      obtain ⟨v, H', os, bare, un, hok', r', q⟩ := h
      subst q
      obtain rfl : u = Value.bool true := r'
      refine ⟨rfl, OldK.of_keep fun b o e => ?_, os, bare⟩
      cases q : H b with
      | none => exact un.keep b o e q (by intro z; exact absurd (show b ∈ ([] : List Addr) from z) (by simp)) (by simp)
      | some u =>
        rcases hO b with z | ⟨ob, xs, z⟩
        · rw [q] at z
          cases z
        · obtain ⟨e1, _⟩ := hok b _ z
          obtain ⟨e2, _⟩ := hok' b _ (un.frzs b ob _ z)
          rw [e] at e1
          cases e1
          exact e2
theorem lawG {P : Program} {w : World} {K : PySem.W.Frag} {mg mb : Str → Option Value} {k : Nat} {fa a : Addr} {fd : FuncData} {x : Str} {sp : Sp} {s₁ : Shared} {vs : List Value} {ns : List Int}
    (KX : K.In s₁.heap) (hns : s₁.heap.Ns mainGlobals mg) (hb : s₁.heap.Ns builtinsNs mb) (hbb : ∀ x : Str, x ≠ "__name__" → mb x = bootBuiltins x) (hlim : s₁.heap.NoLimit) (hg : s₁.gens = #[])
    (ha : s₁.heap.get? a = some { cls := .type "list", data := .seq vs.toArray }) (hi : IntsAre vs ns) (hl : ns.length ≤ sizeLine) (hr : Room k callerA)
    (F : ∀ base : Heap, K.In base → base.Ns mainGlobals mg → FnG P w K mg base CX0 k fa fd [x] sp) (hbind : ∀ (s : Shared) (u : Value), BindsTo s fd ⟨[u], []⟩ [(x, u)])
    (hsp : ∀ H : Hp, Only H → SqL K H a (ns.map V.int) → sp [.ref a] H (fun v _ => v = .bl true) fun _ _ _ => False) :
    codeAny (model P w) callerA (.call (.ref fa) ⟨[.ref a], []⟩) (fun r s' => r = .ok (.ret (.bool true)) ∧ OldK s₁.heap s'.heap ∧ s'.os = s₁.os ∧ AllBare s'.gens) s₁ := by
  have rv := vals_ints hi
  have lenV := hi.length
  cases hk : K.lookup a with
  | some o =>
    have e := KX a o hk
    rw [ha] at e
    cases e
    have hO : Only (fun _ => none) := fun _ => .inl rfl
    refine lawG_at KX hns hb hbb hlim hg ha hr F hbind hO (hsp _ hO (.inr ⟨_, vs.toArray, _, hk, rfl, rfl, rfl, by rw [List.size_toArray, lenV]; exact hl, by simpa using rv⟩)) (fun b u z => by cases (show (none : Option HO) = some u from z)) (fun b z => absurd rfl z) fun z => absurd rfl z
  | none =>
    let o : Obj := { cls := .type "list", data := .seq vs.toArray }
    have at_ : ∀ {b : Addr}, b = a → (if b = a then some (HO.frz o (.lst (ns.map V.int))) else none) = some (HO.frz o (.lst (ns.map V.int))) := fun h => if_pos h
    have off : ∀ {b : Addr}, b ≠ a → (if b = a then some (HO.frz o (.lst (ns.map V.int))) else none) = none := fun h => if_neg h
    have hO : Only (fun b => if b = a then some (.frz o (.lst (ns.map V.int))) else none) := fun b => by
      by_cases hb : b = a
      · exact .inr ⟨_, _, at_ hb⟩
      · exact .inl (off hb)
    refine lawG_at KX hns hb hbb hlim hg ha hr F hbind hO (hsp _ hO (.inl (.inr ⟨o, at_ rfl⟩))) (fun b u z => ?_) (fun b z => ?_) fun _ => hk
    · by_cases hb : b = a
      · cases (at_ hb).symm.trans z
        subst hb
        exact ⟨ha, by rw [List.length_map]; exact hl, vs, _, rv, ha⟩
      · cases (off hb).symm.trans z
    · by_cases hb : b = a
      · exact hb
      · exact absurd (off hb) z
/-- the goal that the head leaves -/
theorem walkG {l : PySem.W.OpenLaw} {n k : Nat} {q : Program} {loose : List Str} {XP : (Str → Option Value) → Heap → Prop} {YP : World → Heap → Prop} {d : DefRec} {K : Params → PySem.W.Frag} {sp : PySem.W.Frag → Sp} {x : Str}
    (hn : l.most = some n) (hn2 : n ≤ sizeLine) (hdf : d.params.defaults = []) (hr : Room k callerA) (hY : ∀ (w : World) (h : Heap), YP w h → (K w.params).In h)
    (F : ∀ (w : World) (mg : Str → Option Value) (fa : Addr) (h : Heap), (K w.params).In h → h.Ns mainGlobals mg → mg d.name = some (.ref fa) → ∃ fd : FuncData, (∀ (s : Shared) (u : Value), BindsTo s fd ⟨[u], []⟩ [(x, u)]) ∧
      ∀ base : Heap, (K w.params).In base → base.Ns mainGlobals mg → FnG l.prog w (K w.params) mg base CX0 k fa fd [x] (sp (K w.params)))
    (hsp : ∀ (K : PySem.W.Frag) (H : Hp) (a : Addr) (ns : List Int), ns.length ≤ n → Only H → SqL K H a (ns.map V.int) → sp K [.ref a] H (fun v _ => v = .bl true) fun _ _ _ => False) :
    PySem.W.WalkO q loose XP YP l.row.toRowW d [] (fun f vs => PySem.call f vs) := by
  refine Att.attach_call hn hdf fun w s₀ s₁ mg mb fa o pm cd doc a vs ns G Y ho hd hcd hmg hobj hints hlen hg => ?_
  obtain ⟨fd, hb, hF⟩ := F w mg fa _ (hY w _ Y) G.T.g hmg
  exact lawG (hY w _ Y) G.T.g G.T.b G.T.builtins G.T.nolimit hg hobj hints (Nat.le_trans hlen hn2) hr hF hb fun H hO hS => hsp _ H a ns hlen hO hS
end L2.Vf

/-! # 6: new lists that are not the table of modules -/
namespace L2.Vf
open PySem PySem.Spec PyProof.Rows
section
variable {X : Cx} {e : Expr} {es : List Expr} {te : TE} {t : TA} {pos : Pos}
def tLstF (t : TA) : TE := fun σ H Q => t σ H fun xs H1 => xs.length ≤ sizeLine ∧ ∀ p, H1 p = none → p ≠ sysModules → Q (.ref p) (upd H1 p (.lst xs))
theorem pe_lstF (h : PA X es t) : PE X (.List es pos) (tLstF t) := by
  refine ⟨fun pins s σ H Q I hq => wpAny_List_spliced (thn (h.run pos pins s σ H _ I hq) fun us s1 hh => ?_)⟩
  obtain ⟨xs, H1, I1, r, z, q⟩ := hh
  refine ⟨by rw [← r.length]; exact z, .ref s1.heap.objs.size, upd H1 s1.heap.objs.size (.lst xs), I1.laid (t' := s1.toks) (fun b u e => by exact Heap.get?_push_of_some _ e) (Nat.le_refl _) ⟨z, us, 0, r, Heap.get?_push_size _ rfl⟩, rfl, q _ (I1.hok.fresh (Nat.le_refl _)) (Nat.ne_of_gt I1.big)⟩
def rCatF : R2 := fun x y H Q => ∃ l b xs zs, x = .ref l ∧ y = .ref b ∧ H l = some (.lst xs) ∧ H b = some (.lst zs) ∧ xs.length + zs.length ≤ sizeLine ∧ ∀ p, H p = none → p ≠ sysModules → Q (.ref p) (upd H p (.lst (xs ++ zs)))
theorem op_catF : OpR X (binaryOp .Add) rCatF := by
  intro pins s σ H x y v u Q I rx ry h; obtain ⟨l, b, xs, zs, rfl, rfl, hH, hB, hz, q⟩ := h; cases rx; cases ry
  obtain ⟨_, its, n, r, hl, e⟩ := I.lstM hH; obtain ⟨_, its2, n2, r2, hl2, e2⟩ := I.lstM hB
  have ea : its.toArray ++ its2.toArray = (its ++ its2).toArray := by simp only [List.append_toArray]
  refine PySem.P.add_list e e2 ?_ (by rw [List.size_toArray, List.size_toArray]; omega); rw [ea]
  exact ⟨.ref _, _, I.lnew (t' := s.toks) (r.append r2) (by rw [List.length_append]; omega), rfl, q _ I.fresh (Nat.ne_of_gt I.big)⟩
def rRepF : R2 := fun x y H Q => ∃ l k xs, x = .ref l ∧ y = .int k ∧ H l = some (.lst xs) ∧ 0 ≤ k ∧ k < 2 ^ 63 ∧ xs.length * k.toNat ≤ sizeLine ∧ ∀ p, H p = none → p ≠ sysModules → Q (.ref p) (upd H p (.lst (List.replicate k.toNat xs).flatten))
theorem op_repF : OpR X (binaryOp .Mult) rRepF := by
  intro pins s σ H x y v u Q I rx ry h; obtain ⟨l, k, xs, rfl, rfl, hH, h1, h2, hz, q⟩ := h; cases rx; obtain ⟨t, rfl⟩ := ry
  obtain ⟨_, its, n, r, hl, e⟩ := I.lstM hH
  have hlen : its.toArray.size * k.toNat ≤ sizeLine := by rw [List.size_toArray, ← hl] <;> exact hz
  have hcap : ¬ its.toArray.size * k.toNat > (2 ^ 63 - 1) / 8 := by have z : (sizeLine : Nat) ≤ (2 ^ 63 - 1) / 8 := by decide
                                                                    omega
  have hfit : ¬ (!Builtin.List.listFitsIndex k) = true := by rw [fitsIndex_both (by omega) h2] <;> exact Bool.false_ne_true
  have hlong : ¬ Builtin.List.listTooLong (its.toArray.size * k.toNat) = true := by rw [notLongL hlen] <;> exact Bool.false_ne_true
  have f0 : ∀ m : Nat, List.foldl (fun x1 x2 => x1 ++ x2) #[] (List.replicate m its.toArray) = (List.replicate m its).flatten.toArray := fun m => by
    have z := foldl_rep its m []; rw [List.nil_append] at z; exact z
  have hnew : List.foldl (fun x1 x2 => x1 ++ x2) #[] (List.replicate (if its.toArray.isEmpty = true then 0 else k.toNat) its.toArray) = (List.replicate k.toNat its).flatten.toArray := by
    rw [f0]; cases its with
    | nil => simp only [List.isEmpty_toArray, List.isEmpty_nil, if_true, List.replicate_zero, List.flatten_nil, List.flatten_replicate_nil]
    | cons a r' => rw [if_neg (by simp only [List.isEmpty_toArray, List.isEmpty_cons, Bool.false_eq_true, not_false_eq_true])]
  refine wpAny_binaryOp_repeat_ref (T := "list") (U := "int") (by decide) ⟨_, e, rfl⟩ (fun s' => typeIs_int s' k t) noFill_list_mul F.fills_int_mul F.slot_int_rmul repeat_list F.slot_int_index.lookup (call_meets F.slot_int_rmul (typeIs_int s k t) F.entry_int_rmul (F.args_int_rmul_2 _ _) (int___rmul___int_list k t l its.toArray n) ⟨e, rfl, ⟨_, e, rfl⟩, call_meets F.slot_list_mul ⟨_, e, rfl⟩ F.entry_list_mul (F.args_list_mul_2 _ _) (AutoListH.list___mul___list_int_3 l its.toArray n k t hfit hcap hlong) ⟨e, ?_⟩⟩); rw [hnew]
  exact ⟨.ref _, _, I.lnew (t' := s.toks) (r.rep k.toNat) (by rw [PyProof.Rows.lm_len_rep_flat, Nat.mul_comm]; exact hz), rfl, q _ I.fresh (Nat.ne_of_gt I.big)⟩
end
end L2.Vf

/-! # 7: powers of great ints -/
namespace L2.Vf
open PySem PySem.Spec PyProof.Rows
section
variable {X : Cx}
theorem op_powW : OpR X (binaryOp .Pow) (rI (fun i j => 0 ≤ j ∧ (Builtin.Int.intBits i : Int) * j ≤ 2 ^ 27) fun i j => .int (i ^ j.toNat)) := opI fun _ _ _ _ _ _ _ hc q => pow_int hc.1 hc.2 q
end
end L2.Vf

/-! # 8: an error that is caught and kept behind the suite -/
namespace L2.Vf
open PySem PySem.Spec PyProof.Rows
/-- at a: an error of the class cls that has flown, its own dict at d -/
def exoG (a : Addr) (cls : Value) (d : Option Addr) : HO := .ext fun h => ∃ (o : Obj) (vs : Array Value), h.get? a = some o ∧ o.cls = cls ∧ o.dict = d ∧ o.data = .fields vs
theorem exoG_ok {P : Program} {w : World} {H : Hp} {h : Heap} {a : Addr} {cls : Value} {d : Option Addr} {o : Obj} {vs : Array Value} (e : h.get? a = some o) (z : Zc cls d o) (hd : o.data = .fields vs) : ObjOk P w H h a (exoG a cls d) :=
  ⟨⟨o, vs, e, z.1, z.2, hd⟩, ⟨o, e⟩, fun h1 h2 q k => by
    obtain ⟨o, vs, q1, q2⟩ := q
    exact ⟨o, vs, k _ q1, q2⟩⟩
theorem exoG_at {P : Program} {w : World} {H : Hp} {h : Heap} {a : Addr} {cls : Value} {d : Option Addr} (hok : HOk P w H h) (e : H a = some (exoG a cls d)) : ∃ (o : Obj) (vs : Array Value), h.get? a = some o ∧ o.cls = cls ∧ o.dict = d ∧ o.data = .fields vs := by
  have x : ObjOk P w H h a (.ext fun h => ∃ (o : Obj) (vs : Array Value), h.get? a = some o ∧ o.cls = cls ∧ o.dict = d ∧ o.data = .fields vs) := hok a _ e
  exact x.1
section
variable {X : Cx} {pins : List (Addr × Obj)} {σ : St} {H : Hp} {s : Shared} {a : Addr} {o : HO}
/-- an object that was not there at the entry is tracked from here on -/
theorem Inv.track (I : Inv X pins σ H s) (hn : H a = none) (ok : ObjOk X.prog X.w (upd H a o) s.heap a o) (hL : a ≠ X.env.locals) (hc : ∀ x c, X.env.cells.lookup x = some c → c ≠ a) (hp : ∀ p ∈ X.pn ++ pins, p.1 ≠ a) (hf : ∀ ob, X.s_0.heap.get? a = some ob → X.H_0 a ≠ none) :
    Inv X pins σ (upd H a o) s := by
  have ne : ∀ {b : Addr} {u : HO}, H b = some u → b ≠ a := fun h => ne_of_none h hn
  refine ⟨I.ok, I.os, I.bare, ⟨I.base.keep, I.base.slot, fun b ob e n hx => ?_, I.base.there, fun b xs e => by rw [upd_ne (ne (I.base.tups b xs e))]; exact I.base.tups b xs e, fun b ob u e => by rw [upd_ne (ne (I.base.frzs b ob u e))]; exact I.base.frzs b ob u e, fun b ps e => ?_⟩, I.loc, I.cell, by rw [upd_ne (Ne.symm hL)]; exact I.free, fun x c e => by rw [upd_ne (hc x c e)]; exact I.freeC x c e, fun p hm => ?_, fun b u e => ?_, I.len⟩
  · have hb : b ≠ a := fun z => by subst z; exact hf ob e n
    rw [upd_ne hb]
    exact I.base.free b ob e n hx
  · obtain ⟨m, q⟩ := I.base.tbls b ps e
    exact ⟨m, by rw [upd_ne (ne q)]; exact q⟩
  · obtain ⟨e, n, r⟩ := I.pin p hm
    exact ⟨e, by rw [upd_ne (hp p hm)]; exact n, r⟩
  · by_cases hb : b = a
    · subst hb
      rw [upd_same] at e
      cases e
      exact ok
    · rw [upd_ne hb] at e
      exact (I.hok b u e).stay (fun c v _ q => q) (fun c q => by rw [upd_ne (ne q)]; exact q) fun c xs q => by rw [upd_ne (ne q)]; exact q
end
/-- what the clause wishes: the error is of the class that it names; behind the suite it is kept -/
def wHold (K : PySem.W.Frag) (c : Value) (i : Nat) (ts : Addr → Value → Option Addr → TS) (D : Ends) : WX := fun cls d σ H => PySem.W.exmOne K cls c = some true ∧
  ∀ a, H a = none → ts a cls d { nx := fun σ' H' => D.nx (σ'.set i none) (upd H' a (exoG a cls d)), rt := fun _ _ => False } (σ.set i (some (.ref a))) H
section
variable {X : Cx} {x n : Str} {c : Value} {i : Nat} {body suite : List Stmt} {b₀ : Stmt} {np pos pos' : Pos} {tb : WX → TS} {ts : Addr → Value → Option Addr → TS}
theorem ps_hold (hs : X.stack = X.env :: X.outer) (hf : X.env.frame = some X.env.locals) (hex : X.ex = []) (hN : X.N.Nodup) (hi : X.N[i]? = some n) (hln : X.env.kindOf n = some .local) (hc : Names X x c)
    (hb : ∀ (W : WX) (pn : List (Addr × Obj)) (xe : Value → Shared → Prop), Takes (X.tr pn xe) W → PassesOwn (model X.prog X.w) X.A X.env xe → PSs (X.tr pn xe) body (tb W))
    (hsu : ∀ (a : Addr) (oe : Obj) (cls : Value) (d : Option Addr) (pn : List (Addr × Obj)), Zc cls d oe → (∃ vs, oe.data = .fields vs) → PSs (X.suite a ((a, oe) :: pn)) (b₀ :: suite) (ts a cls d)) :
    PS X (.Try body [.ExceptHandler (some (.Name x np)) (some n) (b₀ :: suite) pos'] [] [] pos) (fun D σ H => tb (wHold X.K c i ts D) D σ H) := by
  refine ⟨fun pins s σ H D I h => wpAny_Try_except ?_⟩
  have ok := I.ok; have hfr : X.A.frames = some (X.env :: X.outer) := by rw [ok.frames, hs]
  refine wpAny_mono ((hb (wHold X.K c i ts D) (X.pn ++ pins) (fun e s₁ => wpAny (model X.prog X.w) X.A (noteFrame e X.env) (fun _ s₂ => wpAny (model X.prog X.w) X.A (setFlight e none) (fun _ s₃ => wpAny (model X.prog X.w) X.A (handleBy e X.env [.ExceptHandler (some (.Name x np)) (some n) (b₀ :: suite) pos']) (SP X pins D) X.xe s₃) X.xe s₂) X.xe s₁)
    (fun u s' xx => ?_) PassesOwn.looking).run [] s σ H D (I.toTry _) h) (fun f s1 hsp => ?_) (fun e s1 he => by exact he)
  · obtain ⟨a, B, sI, pins', σ', H', cls, d, rfl, J', nb, up, sky, na, os, ag, hb1, hyes⟩ := xx
    have J : Inv X pins σ' H' sI := J'.ofTry ok
    have sky' : Sky B (X.env :: X.outer) a (Zc cls d) X.env.locals s'.heap := by rw [← hs] ; exact sky
    show wpAny (model X.prog X.w) X.A (noteFrame (.ref a) X.env) _ _ _ ; refine Sky.land Zc.steady hfr hf sky' fun h3 fl3 up3 => ?_
    have J3 : Inv X pins σ' H' { s' with heap := h3 } := J.landed nb fl3.1 (up.trans up3) os ag ; obtain ⟨oe3, vs3, he3, hz3, hd3⟩ := fl3.there
    have nfr : a ∉ frs (X.env :: X.outer) := fun hm => by
      obtain ⟨_, o', e', hnf⟩ := fl3.2.2.1.mem hm
      rw [he3] at e' ; cases e' ; exact hnf _ hd3
    have nL : a ≠ X.env.locals := fun z => nfr (List.mem_filterMap.mpr ⟨X.env, List.mem_cons_self, by rw [hf, z]⟩) ; have nF : a ∉ X.fs := fun hm => by
      obtain ⟨e, he, q⟩ := List.mem_filterMap.mp hm
      exact nfr (List.mem_filterMap.mpr ⟨e, List.mem_cons_of_mem _ he, q⟩)
    have nB : B.get? a = none := fl3.2.1
    have out : ∀ {b : Addr} {ob : Obj}, sI.heap.get? b = some ob → b ∉ X.fs → b ≠ X.env.locals → b ≠ a := fun {b ob} e h1 h2 z => by
      have q := nb b ob e (by
        rw [hs]
        intro hm
        obtain ⟨e2, he2, q2⟩ := List.mem_filterMap.mp hm
        rcases List.mem_cons.mp he2 with r | r
        · rw [r, hf] at q2 ; exact h2 (Option.some.inj q2).symm
        · exact h1 (List.mem_filterMap.mpr ⟨e2, r, q2⟩))
      rw [z, nB] at q ; cases q
    have fresh : ∀ ob, X.s_0.heap.get? a = some ob → X.H_0 a ≠ none := fun ob e z => by
      have q := J.base.keep a ob e z nF (by rw [hex]; exact fun z => nomatch z)
      exact out q nF nL rfl
    have pinF : ∀ p ∈ X.pn ++ pins, p.1 ≠ a := fun p hp => by
      obtain ⟨e, _, e2, e3, _⟩ := J.pin p hp
      exact out e e3 e2
    have S3 := J3.suite he3 hd3 na nL nF ; refine wpAny_handleBy_cons (codeAny_handlers_test ?_) (by intro q; cases q)
    have LT : PySem.W.Looks (model X.prog X.w) h3 (typeOf (.ref a)) cls := fun A Q E s k q => wpAny_typeOf_ref (k _ _ he3) (by rw [hz3.1] ; exact q)
    have LM := PySem.W.exm_one (M := model X.prog X.w) (J3.kIn) LT hb1 ; have test : ∀ {Q : Value → Shared → Prop} {E : Value → Shared → Prop}, Q c { s' with heap := h3 } → wpAny (model X.prog X.w) (X.A.mark (some (.ref a))) (eval (.Name x np) X.env) Q E { s' with heap := h3 } := fun {Q E} q => by
      obtain ⟨hg, hdbg, hm | ⟨hm, hv, hnn⟩⟩ := hc
      · exact ld_glob (X := X.suite a ((a, oe3) :: (X.pn ++ pins))) S3 hg hm q hdbg
      · exact ld_blt (X := X.suite a ((a, oe3) :: (X.pn ++ pins))) S3 hg hm hv q hnn hdbg
    refine test (LM.here ?_) ; refine codeAny_handlers_suite_as ?_ ; refine HandSPX.lands_againZ fl3 fun h4 fl4 up4 => ?_
    have J4 : Inv X pins σ' H' { s' with heap := h4 } := J.landed nb fl4.1 ((up.trans up3).trans up4) os ag ; obtain ⟨oe4, vs4, he4, hz4, hd4⟩ := fl4.there
    have S4 := J4.suite he4 hd4 na nL nF ; refine store_ok (X := X.suite a ((a, oe4) :: (X.pn ++ pins))) (v := .ref a) S4 hN hi (.inl hln) rfl (fun s5 S5 => ?_) (.inr hln)
    refine wpAny_mono ((hsu a oe4 cls d (X.pn ++ pins) hz4 ⟨_, hd4⟩).run [] s5 _ H' _ S5 (hyes a na)) (fun f s6 hsp => ?_) (fun _ _ z => z.elim)
    cases f with
    | next =>
      obtain ⟨σ6, H6, S6, q6⟩ := hsp
      obtain ⟨e6, n6, _⟩ := S6.pin (a, oe4) (List.mem_append_left _ List.mem_cons_self)
      have T6 := Inv.track (o := exoG a cls d) (S6.unsuite ok) n6 (exoG_ok e6 hz4 hd4) nL (fun y c' e z => by
        obtain ⟨v, ob, h1, h2⟩ := S6.cell y c' e
        rw [z, e6] at h1 ; cases h1 ; rw [hd4] at h2 ; cases h2) pinF fresh
      exact gone_ok T6 hN hi hln fun s7 J7 => ⟨_, _, J7, q6⟩
    | brk => obtain ⟨_, _, _, q6⟩ := hsp ; exact q6.elim
    | cont => obtain ⟨_, _, _, q6⟩ := hsp ; exact q6.elim
    | ret u => obtain ⟨_, _, _, _, _, q6⟩ := hsp ; exact q6.elim
  · cases f with
    | next => obtain ⟨σ1, H1, J1, q⟩ := hsp ; exact wpAny_execs_nil ⟨σ1, H1, J1.ofTry ok, q⟩
    | brk => obtain ⟨σ1, H1, J1, q⟩ := hsp ; exact ⟨σ1, H1, J1.ofTry ok, q⟩
    | cont => obtain ⟨σ1, H1, J1, q⟩ := hsp ; exact ⟨σ1, H1, J1.ofTry ok, q⟩
    | ret u => obtain ⟨v, σ1, H1, J1, r, q⟩ := hsp ; exact ⟨v, σ1, H1, J1.ofTry ok, r, q⟩
end
end L2.Vf

/-! # 9: what is caught, read; raise of an error with one field; objects made, methods called where a try stands around -/
namespace L2.Vf
open PySem PySem.Spec PyProof.Rows
/-! ### a caught error: its class, its field -/
def rIsG (K : PySem.W.Frag) : List V → Hp → VK → Prop := fun xs H Q => ∃ (a C : Addr) (d : Addr) (fs : List (Str × V)) (c : V) (cv : Value) (b : Bool), xs = [.ref a, c] ∧ H a = some (exoG a (.ref C) (some d)) ∧ H d = some (.xd fs) ∧ ExcC K C ∧ ClsV c cv ∧
  PySem.W.kitOne K (.ref C) cv = some b ∧ Q (.bl b) H
/-- e.f of such an error -/
def tErG (K : PySem.W.Frag) (f : Str) (te : TE) : TE := fun σ H Q => te σ H fun x H1 => ∃ (a C d : Addr) (fs : List (Str × V)) (v : V), x = .ref a ∧ H1 a = some (exoG a (.ref C) (some d)) ∧ H1 d = some (.xd fs) ∧ fs.lookup f = some v ∧
  ExcC K C ∧ PySem.W.findIn K (.ref C) f = some none ∧ Q v H1
section
variable {X : Cx} {e : Expr} {pos : Pos}
theorem xd_at {P : Program} {w : World} {H : Hp} {h : Heap} {d : Addr} {fs : List (Str × V)} (hok : HOk P w H h) (e : H d = some (.xd fs)) : ∃ mA, h.Ns1 d mA ∧ ∀ f, RelO (fs.lookup f) (mA f) := by
  have x : ObjOk P w H h d (.xd fs) := hok d _ e
  exact x
theorem call_isiG : CallR X (.builtin "isinstance") (fun xs H Q => rIsi X.K xs H Q ∨ rIsG X.K xs H Q) := by
  intro pins s σ H xs us Q I r h
  rcases h with h | ⟨a, C, d, fs, c, cv, b, rfl, ha, hd, T, hc, e, q⟩
  · exact call_isi pins s σ H xs us Q I r h
  · obtain ⟨u1, u2, rfl, r1, r2⟩ := vals2 r
    obtain rfl : u1 = Value.ref a := r1
    have e2 := hc.eq r2
    subst e2
    obtain ⟨o, vs, ho, h1, h2, h3⟩ := exoG_at I.hok ha
    obtain ⟨mA, ⟨od, es, ep, e1, _⟩, _⟩ := xd_at I.hok hd
    have J : PySem.W.InstAt s.heap a o C (some od) := ⟨ho, h1, by unfold PySem.W.notCls; rw [h3], by rw [h2]; exact e1⟩
    exact PySem.W.kia_one (PySem.VfK.kit_any T) I.kIn J e (fun z => nomatch z) fun tk => ⟨.bl b, H, I.kept (t' := tk) fun _ _ z => z, rfl, q⟩
theorem pe_erG {te : TE} {f : Str} (he : PE X e te) (hb : attributeBase e f X.env (eval e X.env) = eval e X.env := by rfl) : PE X (.Attribute e f pos) (tErG X.K f te) := by
  refine ⟨fun pins s σ H Q I h => attr_of hb (thn (he.run pins s σ H _ I h) fun u s1 hh => ?_)⟩
  obtain ⟨x, H1, I1, rx, a, C, d, fs, v, ex, ea, ed, l, T, no, q⟩ := hh
  subst ex
  obtain rfl : u = Value.ref a := rx
  obtain ⟨o, vs, ho, h1, h2, h3⟩ := exoG_at I1.hok ea
  obtain ⟨mA, hns, hr⟩ := xd_at I1.hok ed
  obtain ⟨od, hod, hl⟩ := lookIn_ns hns
  obtain ⟨u, hu, ru⟩ := RelO.some_of (v := v) (o := mA f) (by rw [← l]; exact hr f)
  have J : PySem.W.InstAt s1.heap a o C (some od) := ⟨ho, h1, by unfold PySem.W.notCls; rw [h3], by rw [h2]; exact hod⟩
  exact HandSPX.exc_get I1.kIn J T.hg T.hk T.hs (PySem.W.findObj_own T.hd no rfl (by rw [hl, hu])) (handed_of ru) ⟨v, H1, I1.tok _, ru, q⟩
end
/-! ### raise X(e), X with one field -/
/-- raise X(v), v in slot i -/
def tRaiseE (C : Addr) (fld : Str) (i : Nat) (W : WX) : TS := fun _ σ H => ∃ v, σ[i]? = some (some v) ∧ ∀ d, H d = none → W (.ref C) (some d) σ (upd H d (.xd [(fld, v)]))
section
variable {X : Cx} {C fI : Addr} {fld : Str} {fd : FuncData} {e : Expr} {i : Nat} {W : WX} {x : Str} {p pos pos2 : Pos}
theorem ps_raiseE (hc : X.calm = true) (T : ErC X.K C fI fld) (F1 : FnOk X.prog X.w X.K X.mg X.base CX0 1 fI fd ["self", fld] (spInit X.K fld)) (hb : Binds X.K fd ["self", fld] []) (hr : Room 2 X.A) (tk : Takes X W) (hg : Gl X x) (hm : X.mg x = some (.ref C)) (ha : PA X [e] (tCons (tVar i) tNil))
    (hdb : (x == ("__debug__" : Str)) = false := by decide) (he : starEach [e] X.env = (false, eval e X.env) :: starEach [] X.env := by rfl) (hpl : (backTo pos (starEach [] X.env)).any (·.1) = false := by rfl) :
    PS X (.Raise (some (.Call (.Name x p) [e] [] pos)) none pos2) (tRaiseE C fld i W) := by
  have h := ps_raise (pos := pos2) hc tk (pmk_oex (pos := pos) (p := p) T.ox T.iC T.tI F1 hr hb .nil pass0 hg hm ha hdb he hpl)
  refine ⟨fun pins s σ H D I q => h.run pins s σ H D I ?_⟩
  obtain ⟨v, hv, q⟩ := q
  refine ⟨v, hv, (show 1 ≤ 1000 by decide), fun a ha => ⟨a, C, v, rfl, T.ox, T.no, upd_same, fun dx hd ne => ⟨rfl, dx, _, upd_same, by rw [upd_ne ne, upd_same], ?_, ?_⟩⟩⟩
  · rw [upd_ne ne] at hd
    exact hd
  · rw [upd_ne ne] at hd
    have := q dx hd
    have e : upd (del (upd (upd (upd H a (exo a C none)) dx (exd dx [(fld, v)])) a (exo a C (some dx))) a) dx (.xd [(fld, v)]) = upd H dx (.xd [(fld, v)]) := by
      funext b
      by_cases h1 : b = dx
      · rw [h1, upd_same, upd_same]
      · rw [upd_ne h1, upd_ne h1]
        by_cases h2 : b = a
        · subst h2
          simp [del, ha]
        · simp [del, h2, upd_ne h2, upd_ne h1]
    rw [e]
    exact this
end
end L2.Vf

/-! # 10: == and != of an own instance and another thing, either way round -/
namespace PySem.VfE
open PySem PySem.Spec PySem.Calls PyProof.Rows PySem.W PySem.SeqAt AutoSeq1 MeetsSeq
section
variable {prog : Program} {w : World} {A : Around} {E : Value → Shared → Prop} {s : Shared} {K : Frag} {x C L f : Addr} {h₀ : Heap} {m : Str → Option Value} {ox : Obj} {od : Option Obj} {b : Value}
/-- the other one is none of T: T's own == declines -/
theorem decl_list (l a : Addr) (items : Array Value) (n : Nat) (dd : Option Addr) (sl : Array (Option Value)) :
    Meets (Builtin.«list.__eq__» ⟨[.ref l, .ref a], []⟩) (fun _ R s => s.heap.get? l = some { cls := .type "list", dict := dd, data := .seq items n, slots := sl } ∧ (∀ M, Looks M s.heap (isInstance (.ref a) (.type "list")) false) ∧ R (.ok (.ret .notImplemented)) s) :=
  .of_wp fun prog w A R s h => by obtain ⟨hp, g, d, tk, os⟩ := s; obtain ⟨hl, hb, h⟩ := h; wp_walk using wpAny_loadPart' hl, (hb _).at; exact ⟨_, rfl, h⟩
theorem decl_tuple (l a : Addr) (items : Array Value) (n : Nat) (dd : Option Addr) (sl : Array (Option Value)) :
    Meets (Builtin.«tuple.__eq__» ⟨[.ref l, .ref a], []⟩) (fun _ R s => s.heap.get? l = some { cls := .type "tuple", dict := dd, data := .seq items n, slots := sl } ∧ (∀ M, Looks M s.heap (isInstance (.ref a) (.type "tuple")) false) ∧ R (.ok (.ret .notImplemented)) s) :=
  .of_wp fun prog w A R s h => by obtain ⟨hp, g, d, tk, os⟩ := s; obtain ⟨hl, hb, h⟩ := h; wp_walk using wpAny_loadPart' hl, (hb _).at; exact ⟨_, rfl, h⟩
theorem decl_dict (l a : Addr) (o : Obj) :
    Meets (Builtin.«dict.__eq__» ⟨[.ref l, .ref a], []⟩) (fun _ R s => s.heap.get? l = some o ∧ (∀ M, Looks M s.heap (isInstance (.ref a) (.type "dict")) false) ∧ R (.ok (.ret .notImplemented)) s) :=
  .of_wp fun prog w A R s h => by obtain ⟨hp, g, d, tk, os⟩ := s; obtain ⟨hl, hb, h⟩ := h; wp_walk using wpAny_loadPart' hl, (hb _).at; exact ⟨_, rfl, h⟩
theorem decl_int (i : Int) (u : Tok) (a C dx : Addr) :
    Meets (Builtin.«int.__eq__» ⟨[.int i u, .ref a], []⟩) (fun _ R s => s.heap.get? a = some (instObj C dx) ∧ R (.ok (.ret .notImplemented)) s) :=
  .of_wp fun prog w A R s h => by obtain ⟨hp, g, d, tk, os⟩ := s; obtain ⟨hl, h⟩ := h; unfold instObj at hl; wp_walk using wpAny_load hl; exact ⟨_, rfl, h⟩
theorem none_of {h : Heap} {x C : Addr} {ox : Obj} {od : Option Obj} {T : String} (X : K.In h) (I : InstAt h x ox C od) (hsub : subIn K (.ref C) (.type T) = some false) (M : Model) : Looks M h (isInstance (.ref x) (.type T)) false :=
  (I.type (M := M)).andThen (looks_subIn X hsub)
/-- y == x, x own, y of the built-in type T, whose own == declines -/
theorem rc_refl {u : Value} {T id : String} {Q : Value → Shared → Prop} (hT : s.TypeIs u T) (slot : Slot T (cmpInfo .Eq).2.1 id) (hu : A.units < cLine) (X : K.In s.heap) (I : InstAt s.heap x ox C od) (hsub : subIn K (.ref C) (.type T) = some false)
    (hs : findIn K (.ref C) "__eq__" = some (some (.ref f))) (hf : isFn K (.ref f) = true) (decl : ∀ Q' : Value → Shared → Prop, Q' .notImplemented s → wpAny (model prog w) A (call (.builtin id) [u, .ref x]) Q' E s)
    (h : wpAny (model prog w) A (call (.ref f) [.ref x, u]) (PySem.W.CmpBack Q) E s) : wpAny (model prog w) A (richCompare .Eq u (.ref x)) Q E s := by
  rcases hi : cmpInfo CmpOp.Eq with ⟨sym, f1, r1⟩
  have e2 : f1 = "__eq__" ∧ r1 = "__eq__" := by rw [cmpInfo_Eq] at hi; cases hi; exact ⟨rfl, rfl⟩
  rw [hi] at slot
  obtain ⟨rfl, rfl⟩ := e2
  simp only [richCompare, hi, hT.oneThing_none]
  refine wpAny_holding (wpAny_bind (wpAny_cRoomFor hu ?_))
  refine wpAny_bind (wpAny_typeOf hT (wpAny_bind (I.type.here ?_)))
  rw [if_pos (show (Value.type T != Value.ref C) = true by simp)]
  refine wpAny_bind ((looks_subIn X hsub).here ?_)
  simp only [Bool.false_eq_true, if_false, Bool.not_false, if_true]
  refine wpAny_bind (wpAny_tryCompare_declines hT slot (decl _ ⟨rfl, ?_⟩))
  unfold tryCompare
  refine wpAny_bind (wpAny_bind (ifBound_K X I hs hf (wpAny_mono h (fun v s' hv => ?_) fun _ _ e => e)))
  cases v <;> first | exact hv.elim | exact wpAny_pure (wpAny_pure hv)
/-- x.__ne__ of its own is object's -/
theorem ifBound_B {M : Model} {id : String} {name : Str} {args : List Value} {Q : Option Value → Shared → Prop} (X : K.In s.heap) (I : InstAt s.heap x ox C od) (S : Slot "object" name id) (hs : findIn K (.ref C) name = some (some (.builtin id)))
    (h : wpAny M A (call (.builtin id) (.ref x :: args)) (fun v => Q (some v)) E s) : wpAny M A (callSpecialIfBound? (.ref x) name args) Q E s := by
  simp only [callSpecialIfBound?, bindSpecialIfBound?]
  refine wpAny_holding (wpAny_bind (wpAny_bind (wpAny_bind (I.type.here ((looks_findIn X hs).here ?_)))))
  simp only [S.bind]
  refine wpAny_bind (wpAny_askSetting (wpAny_ite ?_))
  have fin : wpAny M A (call (.builtin id) ([.ref x] ++ args) >>= fun v => pure (some v)) Q E s := wpAny_bind (wpAny_mono h (fun v s' h' => wpAny_pure h') fun _ _ h' => h')
  split
  · exact wpAny_bind (wpAny_pure (wpAny_pure fin))
  · exact wpAny_tryCatch (wpAny_bind (wpAny_pure (wpAny_pure fin)))
/-- x != b, by x's own == -/
theorem rc_neO {tb : Value} {Q : Value → Shared → Prop} (hu : A.units + 1 < cLine) (X : K.In s.heap) (I : InstAt s.heap x ox C od) (hb : Looks (model prog w) s.heap (typeOf b) tb) (hn : notFirst K C tb = true) (hsub : subIn K (.ref C) (.type "object") = some true)
    (hs : findIn K (.ref C) "__eq__" = some (some (.ref f))) (hne : findIn K (.ref C) "__ne__" = some (some (.builtin "object.__ne__"))) (hf : isFn K (.ref f) = true)
    (h : wpAny (model prog w) A.in1 (call (.ref f) [.ref x, b]) (fun v s' => ∃ r, v = .bool r ∧ Q (.bool (!r)) s') E s) : wpAny (model prog w) A (richCompare .NotEq (.ref x) b) Q E s := by
  have one : wpAny (model prog w) A (tryCompare (.ref x) "__ne__" b) (fun r s' => ∃ v, r = some v ∧ Q v s') E s := by
    unfold tryCompare
    refine wpAny_bind (ifBound_B X I F.cmp_object.ne hne ?_)
    refine wpAny_call (codeAny_call_builtin F.cmp_object.ne.plain F.cmpEntry_ne ?_)
    refine check_slot F.cmpKind_ne F.cmpSplit_ne ((I.type (M := model prog w)).andThen (looks_subIn X hsub)) (F.cmpArgs_ne _ _) ?_
    unfold Builtin.«object.__ne__»
    refine wpAny_bind (wpAny_of_eq (a := ((Value.ref x : Value), [b])) (by first | rfl | (simp only [slotArgs]; rfl)) ?_)
    refine wpAny_bind (wpAny_cRoomFor hu ?_)
    refine wpAny_bind (ifBound_K X I hs hf (wpAny_mono h (fun v s' hv => ?_) fun _ _ e => e))
    obtain ⟨r, rfl, q⟩ := hv
    refine wpAny_bind (wpAny_truthy_bool ?_)
    exact wpAny_pure (wpAny_pure ⟨_, rfl, q⟩)
  unfold richCompare
  simp only [oneThing_ref, cmpInfo_NotEq]
  refine wpAny_holding (wpAny_bind (wpAny_cRoomFor (Nat.lt_of_succ_lt hu) ?_))
  refine wpAny_bind (I.type.here (wpAny_bind (hb.here ?_)))
  split
  · rename_i q
    have e : subIn K tb (.ref C) = some false := by
      rcases Bool.or_eq_true_iff.mp hn with e | e
      · rw [beq_iff_eq.mp e] at q; simp at q
      · exact beq_iff_eq.mp e
    refine wpAny_bind ((looks_subIn X e).here ?_)
    simp only [Bool.false_eq_true, if_false]
    refine wpAny_bind (wpAny_mono one (fun r s' z => ?_) fun _ _ e => e)
    obtain ⟨v, rfl, hq⟩ := z
    exact wpAny_pure hq
  · refine wpAny_bind (wpAny_pure ?_)
    simp only [Bool.false_eq_true, if_false]
    refine wpAny_bind (wpAny_mono one (fun r s' z => ?_) fun _ _ e => e)
    obtain ⟨v, rfl, hq⟩ := z
    exact wpAny_pure hq
end
end PySem.VfE

/-! # 11: == and != by an own __eq__, as rules; objects made and methods called where what is raised is wished for at the slots -/
namespace L2.Vf
open PySem PySem.Spec PyProof.Rows
/-- the own == answers b -/
abbrev KBl (g : Bool → V) (Q : VK) : VK := fun v H' => ∃ b : Bool, v = .bl b ∧ Q (g b) H'
/-- x == y (g = id), x != y (g = not), x own, y of any type that is no kind of x's class -/
def rEqO (K : PySem.W.Frag) (C : Addr) (sp : Sp) (g : Bool → V) : R2 := fun x y H Q => ∃ (a dx : Addr) (fs : List (Str × V)) (t : Value), x = .ref a ∧ H a = some (.ins C dx fs) ∧ TyX K H y t ∧ PySem.W.notFirst K C t = true ∧ sp [x, y] H (KBl g Q) E0
/-- y == x, x own, y None, an int, a list, a tuple or a dict of ints and texts -/
inductive Oth (K : PySem.W.Frag) (H : Hp) : V → String → Prop
  | non : Oth K H .non "NoneType"
  | int (i : Int) : Oth K H (.int i) "int"
  | lst {a : Addr} {xs : List V} : SqL K H a xs → Oth K H (.ref a) "list"
  | tup {a : Addr} {xs : List V} : SqT K H a xs → Oth K H (.ref a) "tuple"
  | dct {a : Addr} {kvs : List (Key × V)} : H a = some (.dK kvs) → Oth K H (.ref a) "dict"
def rEqR (K : PySem.W.Frag) (C : Addr) (sp : Sp) : R2 := fun x y H Q => ∃ (a dx : Addr) (fs : List (Str × V)) (T : String), y = .ref a ∧ H a = some (.ins C dx fs) ∧ Oth K H x T ∧ PySem.W.subIn K (.ref C) (.type T) = some false ∧ sp [y, x] H (KBl V.bl Q) E0
section
variable {X : Cx} {k : Nat} {C f : Addr} {fd : FuncData} {ps : List Str} {sp : Sp}
theorem run_own {A : Around} {pins : List (Addr × Obj)} {σ : St} {H : Hp} {s : Shared} {a : Addr} {y : V} {u : Value} {g : Bool → V} {Q : VK} (hA : A.frames = X.A.frames) (hr : Room k A) (F : FnOk X.prog X.w X.K X.mg X.base CX0 k f fd ps sp) (hb : Binds X.K fd ps [])
    (I : Inv X pins σ H s) (ry : RelV y u) (h : sp [.ref a, y] H (KBl g Q) E0) :
    wpAny (model X.prog X.w) A (call (.ref f) [.ref a, u]) (fun v s' => ∃ b H', v = .bool b ∧ Inv X pins σ H' s' ∧ Q (g b) H') X.xe s := by
  have e0 : Env0 X.prog X.w X.K X.mg X.base A X.stack s H := by
    have e := I.env0
    exact ⟨by rw [hA]; exact e.frames, e.mod, e.bs, e.bsz, e.funs, e.frf, e.hok, e.bare⟩
  have hl := F.len _ _ _ _ h
  have r2 : Vals [V.ref a, y] [Value.ref a, u] := .cons rfl (.cons ry .nil)
  refine wpAny_call (codeAny_mono (F.run A X.stack s H ⟨[.ref a, u], []⟩ [.ref a, u] [.ref a, y] _ E0 hr e0 (by have := hb s [.ref a, u] I.kIn (by simpa using hl); simpa using this) r2 h) fun r s' hq => ?_)
  cases r with
  | error e => exact pass0 pins σ H s e s' I hq
  | ok fl =>
    cases fl with
    | ret w =>
      obtain ⟨z, H', I', rz, b, ez, q⟩ := I.after hq
      subst ez
      cases rz
      exact ⟨b, H', rfl, I', q⟩
    | next => exact False.elim hq
    | brk => exact False.elim hq
    | cont => exact False.elim hq
theorem op_eqO (F : FnOk X.prog X.w X.K X.mg X.base CX0 k f fd ps sp) (hr : Room k X.A) (hb : Binds X.K fd ps []) (hs : PySem.W.findIn X.K (.ref C) "__eq__" = some (some (.ref f))) (hf : PySem.W.isFn X.K (.ref f) = true) : OpR X (compareOp .Eq) (rEqO X.K C sp V.bl) := by
  intro pins s σ H x y v u Q I rx ry h
  obtain ⟨a, dx, fs, t, rfl, ha, ty, hn, q⟩ := h
  cases rx
  obtain ⟨P, kit, hP, _⟩ := kit_of I ry ty
  obtain ⟨mA, J, _⟩ := ins_get I.hok ha
  obtain ⟨od, J, _⟩ := J.look
  obtain ⟨m, hF⟩ := I.fr
  refine PySem.W.cmp_K (op := .Eq) (tb := t) hr.units0 hF I.ok.mod.kin J (kit.ty _ _ I.kIn hP) hn hs hf (wpAny_mono (run_own rfl hr F hb I ry q) (fun z s' hz => ?_) fun _ _ e => e)
  obtain ⟨b, H', rfl, I', q'⟩ := hz
  exact ⟨.bl b, H', I', rfl, q'⟩
theorem op_neO (F : FnOk X.prog X.w X.K X.mg X.base CX0 k f fd ps sp) (hr : Room (k + 1) X.A) (hb : Binds X.K fd ps []) (hs : PySem.W.findIn X.K (.ref C) "__eq__" = some (some (.ref f))) (hne : PySem.W.findIn X.K (.ref C) "__ne__" = some (some (.builtin "object.__ne__")))
    (hsub : PySem.W.subIn X.K (.ref C) (.type "object") = some true) (hf : PySem.W.isFn X.K (.ref f) = true) : OpR X (compareOp .NotEq) (rEqO X.K C sp fun b => .bl (!b)) := by
  intro pins s σ H x y v u Q I rx ry h
  obtain ⟨a, dx, fs, t, rfl, ha, ty, hn, q⟩ := h
  cases rx
  obtain ⟨P, kit, hP, _⟩ := kit_of I ry ty
  obtain ⟨mA, J, _⟩ := ins_get I.hok ha
  obtain ⟨od, J, _⟩ := J.look
  refine PySem.VfE.rc_neO (tb := t) hr.in1.units0 I.kIn J (kit.ty _ _ I.kIn hP) hn hsub hs hne hf (wpAny_mono (run_own (A := X.A.in1) rfl hr.in1 F hb I ry q) (fun z s' hz => ?_) fun _ _ e => e)
  obtain ⟨b, H', rfl, I', q'⟩ := hz
  exact ⟨b, rfl, ⟨.bl (!b), H', I', rfl, q'⟩⟩
theorem op_eqR (F : FnOk X.prog X.w X.K X.mg X.base CX0 k f fd ps sp) (hr : Room k X.A) (hb : Binds X.K fd ps []) (hs : PySem.W.findIn X.K (.ref C) "__eq__" = some (some (.ref f))) (hf : PySem.W.isFn X.K (.ref f) = true) : OpR X (compareOp .Eq) (rEqR X.K C sp) := by
  intro pins s σ H x y v u Q I rx ry h
  obtain ⟨a, dx, fs, T, rfl, ha, ho, hsub, q⟩ := h
  cases ry
  obtain ⟨mA, O, _⟩ := ins_get I.hok ha
  have hob := O.obj
  obtain ⟨od, J, _⟩ := O.look
  have fin : wpAny (model X.prog X.w) X.A (call (.ref f) [.ref a, v]) (PySem.W.CmpBack (EP X pins σ Q)) X.xe s := wpAny_mono (run_own rfl hr F hb I rx q) (fun z s' hz => by
    obtain ⟨b, H', rfl, I', q'⟩ := hz
    exact ⟨.bl b, H', I', rfl, q'⟩) fun _ _ e => e
  show wpAny (model X.prog X.w) X.A (richCompare .Eq v (.ref a)) (EP X pins σ Q) X.xe s
  cases ho with
  | non =>
    cases (show v = Value.none from rx)
    exact PySem.VfE.rc_refl (T := "NoneType") rfl PySem.F.slot_NoneType_eq hr.units0 I.kIn J hsub hs hf (fun _ hq => call_gives PySem.F.slot_NoneType_eq rfl PySem.F.entry_NoneType_eq (PySem.F.args_NoneType_eq_2 _ _) (PySem.SeqAt.NoneType___eq___none_ref_0 a) hq) fin
  | int i =>
    obtain ⟨t, e⟩ := (show ∃ t, v = Value.int i t from rx)
    cases e
    exact PySem.VfE.rc_refl (T := "int") (PySem.typeIs_int s i t) PySem.F.slot_int_eq hr.units0 I.kIn J hsub hs hf (fun _ hq => call_meets PySem.F.slot_int_eq (PySem.typeIs_int s i t) PySem.F.entry_int_eq (PySem.F.args_int_eq_2 _ _) (PySem.VfE.decl_int i t a C dx) ⟨hob, hq⟩) fin
  | lst hl =>
    cases (show v = Value.ref _ from rx)
    obtain ⟨its, _, ⟨⟨cls, dd, data, sl⟩, n, e, hc, _, hd⟩, _⟩ := I.list hl
    simp only at hc hd
    subst hc hd
    have iso := PySem.VfE.none_of I.kIn J hsub
    exact PySem.VfE.rc_refl (T := "list") ⟨_, e, rfl⟩ PySem.F.slot_list_eq hr.units0 I.kIn J hsub hs hf (fun _ hq => call_meets PySem.F.slot_list_eq ⟨_, e, rfl⟩ PySem.F.entry_list_eq (PySem.F.args_list_eq_2 _ _) (PySem.VfE.decl_list _ a _ n _ _) ⟨e, iso, hq⟩) fin
  | tup hl =>
    cases (show v = Value.ref _ from rx)
    obtain ⟨its, _, ⟨⟨cls, dd, data, sl⟩, e, hc, n, hd⟩, _⟩ := I.tuple hl
    simp only at hc hd
    subst hc hd
    have iso := PySem.VfE.none_of I.kIn J hsub
    exact PySem.VfE.rc_refl (T := "tuple") ⟨_, e, rfl⟩ PySem.F.slot_tuple_eq hr.units0 I.kIn J hsub hs hf (fun _ hq => call_meets PySem.F.slot_tuple_eq ⟨_, e, rfl⟩ PySem.F.entry_tuple_eq (PySem.F.args_tuple_eq_2 _ _) (PySem.VfE.decl_tuple _ a _ n dd sl) ⟨e, iso, hq⟩) fin
  | @dct d kvs hl =>
    cases (show v = Value.ref _ from rx)
    obtain ⟨_, _, vs, _, o, es, ep, h1, h2, _⟩ := (show ObjOk X.prog X.w H s.heap d (.dK kvs) from I.hok d _ hl)
    have iso := PySem.VfE.none_of I.kIn J hsub
    exact PySem.VfE.rc_refl (T := "dict") ⟨_, h1, h2.1⟩ PySem.F.slot_dict_eq hr.units0 I.kIn J hsub hs hf (fun _ hq => call_meets PySem.F.slot_dict_eq ⟨_, h1, h2.1⟩ PySem.F.entry_dict_eq (PySem.F.args_dict_eq_2 _ _) (PySem.VfE.decl_dict _ a _) ⟨h1, iso, hq⟩) fin
end
/-! ### C(e, .., k = v, ..), o.m(e, ..) where what is raised is wished for at the slots -/
section
variable {X : Cx} {CX : CXT} {k n : Nat} {f C : Addr} {fd : FuncData} {ps ks : List Str} {sp : Sp} {E : St → XK} {x m : Str} {p pos apos : Pos} {e o : Expr} {es : List Expr} {kws : List Keyword} {t tk : TA} {ta : TE} {g : List Value → List Value → List Value} {gV : List V → List V → List V}
/-- what a call of the class wishes: the new instance and its dict, then __init__ -/
def KMake (C : Addr) (sp : Sp) (bd : V → List V) (E : XK) (Q : VK) (H : Hp) : Prop := ∀ x dx, H x = none → H dx = none → dx ≠ x → sp (bd (.ref x)) (upd (upd H dx (.own x)) x (.ins C dx [])) (fun v H3 => v = .non ∧ Q (.ref x) H3) E
def tMakeKS (C : Addr) (n m : Nat) (sp : Sp) (gV : List V → List V → List V) (E : St → XK) (t tk : TA) : TE := fun σ H Q => t σ H fun vs H1 => tk σ H1 fun zs H2 => vs.length = n ∧ zs.length = m ∧ KMake C sp (fun x => gV (x :: vs) zs) (E σ) Q H2
theorem run_makeS {pins : List (Addr × Obj)} {σ : St} {H : Hp} {s : Shared} {Q : VK} {us : List Value} {kw : List (Str × Value)} {bu : Value → List Value} {bd : V → List V} (M : Mk X.K C f) (F : FnOk X.prog X.w X.K X.mg X.base CX k f fd ps sp) (hr : Room (k + 1) X.A)
    (hb : ∀ (s : Shared) (x : Value), X.K.In s.heap → BindsTo s fd ⟨x :: us, kw⟩ (ps.zip (bu x))) (hx : PassesAt CX X σ (E σ)) (I : Inv X pins σ H s) (r : ∀ y : Addr, Vals (bd (.ref y)) (bu (.ref y))) (h : KMake C sp bd (E σ) Q H) :
    wpAny (model X.prog X.w) X.A (call (.ref C) us kw) (EP X pins σ Q) X.xe s := by
  have hq := h (s.heap.objs.size + 1) s.heap.objs.size (I.hok.fresh (Nat.le_succ _)) (I.hok.fresh (Nat.le_refl _)) (Nat.ne_of_lt (Nat.lt_succ_self _)); have I2 := Inv.made (C := C) I
  refine wpAny_call (make_map (f := f) I.kIn M.makes M.init (beq_iff_eq.mp M.fn) (codeAny_mono (F.run _ X.stack _ _ ⟨Value.ref (s.heap.objs.size + 1) :: us, kw⟩ (bu (.ref (s.heap.objs.size + 1))) _ _ (E σ) (hr.make C us kw) (I2.env0.make C us kw) (hb _ _ I2.kIn) (r _) hq) fun r s' hq' => ?_))
  cases r with
  | error e => exact hx pins _ _ e s' I2 hq'
  | ok fl =>
    cases fl with
    | ret u => obtain ⟨v, H', I3, rv, ev, q3⟩ := I2.after hq' ; subst ev ; exact ⟨rv, ⟨V.ref (s.heap.objs.size + 1), H', I3, rfl, q3⟩⟩
    | next => exact hq'.elim
    | brk => exact hq'.elim
    | cont => exact hq'.elim
theorem pe_makeKS (M : Mk X.K C f) (F : FnOk X.prog X.w X.K X.mg X.base CX k f fd ps sp) (hr : Room (k + 1) X.A) (hg : Gl X x) (hm : X.mg x = some (.ref C)) (hb : KBn X.K fd ps (n + 1) ks g gV) (hx : ∀ σ, PassesAt CX X σ (E σ)) (ha : PA X (e :: es) t) (hkw : PK X kws tk)
    (hall : (backToKw pos (keywordEach kws X.env)).all (·.1.isSome) = true := by rfl) (hks : (backToKw pos (keywordEach kws X.env)).filterMap (·.1) = ks := by rfl) (hdb : (x == ("__debug__" : Str)) = false := by decide)
    (he : starEach (e :: es) X.env = (false, eval e X.env) :: starEach es X.env := by rfl) (hpl : ((backTo pos (starEach (e :: es) X.env)).any (·.1) || (backToKw pos (keywordEach kws X.env)).any (·.1.isNone)) = false := by rfl) :
    PE X (.Call (.Name x p) (e :: es) kws pos) (tMakeKS C n ks.length sp gV E t tk) := by
  refine ⟨fun pins s σ H Q I h => wpAny_Call_Name_kw (ld_glob I hg hm (PySem.W.callWith_KW (h₀ := X.base) I.ok.mod.kin M.kp hall (thn (ha.run pos pins s σ H _ I h) fun us s1 ⟨vs, H1, I1, r, q⟩ => ?_) hpl he) hdb)⟩
  refine thn (hkw.run pos pins s1 σ H1 _ I1 q) fun ws s2 ⟨zs, H2, I2, rz, l1, l2, q2⟩ => ⟨I2.kIn, ?_⟩
  rw [hks]
  exact run_makeS (E := E) (bu := fun x => g (x :: us) ws) M F hr (fun s' y X' => hb.to s' (y :: us) ws X' (by rw [List.length_cons, ← r.length, l1]) (rz.length.symm.trans l2)) (hx σ) I2 (fun y => hb.rel (Paired.cons (show RelV (V.ref y) (Value.ref y) from rfl) r) rz) q2
/-- C(e, ..), the rest of the parameters by their defaults -/
def tMakeS (C : Addr) (sp : Sp) (dvs : List V) (E : St → XK) (t : TA) : TE := fun σ H Q => t σ H fun vs H1 => vs.length + dvs.length + 1 = ps.length ∧ KMake C sp (fun x => x :: (vs ++ dvs)) (E σ) Q H1
theorem pe_makeS {ds : List Value} {dvs : List V} (M : Mk X.K C f) (F : FnOk X.prog X.w X.K X.mg X.base CX k f fd ps sp) (hr : Room (k + 1) X.A) (hg : Gl X x) (hm : X.mg x = some (.ref C)) (hb : Binds X.K fd ps ds) (hd : Vals dvs ds) (hx : ∀ σ, PassesAt CX X σ (E σ)) (ha : PA X (e :: es) t)
    (hdb : (x == ("__debug__" : Str)) = false := by decide) (he : starEach (e :: es) X.env = (false, eval e X.env) :: starEach es X.env := by rfl) (hpl : (backTo pos (starEach es X.env)).any (·.1) = false := by rfl) :
    PE X (.Call (.Name x p) (e :: es) [] pos) (tMakeS (ps := ps) C sp dvs E t) := by
  refine ⟨fun pins s σ H Q I h => wpAny_Call_Name_kw (ld_glob I hg hm (PySem.W.callWith_K (h₀ := X.base) I.ok.mod.kin M.kp (thn (ha.run pos pins s σ H _ I h) fun us s1 ⟨vs, H1, I1, r, l, q⟩ => ⟨I1.kIn, ?_⟩) he hpl) hdb)⟩
  refine run_makeS (E := E) (us := us) (kw := []) (bu := fun x => x :: (us ++ ds)) M F hr (fun s' y X' => hb s' (y :: us) X' ?_) (hx σ) I1 (fun y => Paired.cons (show RelV (V.ref y) (Value.ref y) from rfl) (r.append hd)) q
  have l1 := r.length
  have l2 := hd.length
  simp only [List.cons_append, List.length_cons, List.length_append]
  omega
/-- o.m(e, ..) -/
def tMethSD (C : Addr) (m : Str) (sp : Sp) (E : St → XK) (ta : TE) (t : TA) : TE := fun σ H Q => ta σ H fun x H1 => ∃ (a dx : Addr) (fs : List (Str × V)), x = .ref a ∧ H1 a = some (.ins C dx fs) ∧ fs.lookup m = none ∧ t σ H1 fun vs H2 => sp (x :: vs) H2 Q (E σ)
theorem pe_methSD {pl : Sem Bool} (he : PE X o ta) (c : Cls X.K C) (hm : Meth X.K C m f) (F : FnOk X.prog X.w X.K X.mg X.base CX k f fd ps sp) (hr : Room k X.A) (hb : Binds X.K fd ps []) (hx : ∀ σ, PassesAt CX X σ (E σ)) (ha : PA X (e :: es) t)
    (hst : starEach (e :: es) X.env = (false, eval e X.env) :: starEach es X.env := by rfl) (hpl : (backTo pos (starEach es X.env)).any (·.1) = false := by rfl)
    (ht : eval (.Call (.Attribute o m apos) (e :: es) [] pos) X.env = (do
      let ov ← eval o X.env; standAt apos.atName
      let (f, first) ← holding [ov] (getMethod ov m pl); callWith pos f first (backTo pos (starEach (e :: es) X.env)) (backToKw pos (keywordEach [] X.env))) := by rfl) :
    PE X (.Call (.Attribute o m apos) (e :: es) [] pos) (tMethSD C m sp E ta t) := by
  refine ⟨fun pins s σ H Q I h => PySem.W.methodCall_KW (pl := pl) (thn (he.run pins s σ H _ I h) fun u s1 ⟨x, H1, I1, rx, a, dx, fs, ex, ea, l, q⟩ => ?_) ht⟩
  subst ex; obtain rfl : u = Value.ref a := rx
  refine getmeth_ok I1 ea c hm l (PySem.W.callWith_K (first := [.ref a]) (h₀ := X.base) I.ok.mod.kin hm.kp (thn (ha.run pos pins s1 σ H1 _ I1 q) fun us s2 ⟨vs, H2, I2, r, q2⟩ => ⟨I2.kIn, ?_⟩) hst hpl)
  exact run_fnS (E := E) (us := .ref a :: us) (vs := .ref a :: vs) F hr hb (hx σ) I2 (.cons rfl r) q2
end
end L2.Vf

/-! # 12: zip of a list and a tuple (of any two kinds of which the next item is known) -/
namespace PySem.VfZ
open PySem PySem.Spec PySem.Calls PyProof.Rows
open PySem.Sem (wp)
/-- a kind of iterator: I its state, S what it walks -/
structure ZK (I : Heap → Addr → Addr → Nat → Prop) (S : Heap → Addr → Array Value → Prop) : Prop where
  item : ∀ {prog : Program} {w : World} {A : Around} {E : Value → Shared → Prop} {s : Shared} {it l : Addr} {i : Nat} {xs : Array Value} {x : Value} {Q : Value → Shared → Prop}, I s.heap it l i → S s.heap l xs → xs[i]? = some x →
    (∀ h', I h' it l (i + 1) → Heap.SameBut it s.heap h' → Q x { s with heap := h' }) → wpAny (model prog w) A (Builtin.SmallTypes.nextOf (.ref it)) Q E s
  fin : ∀ {prog : Program} {w : World} {A : Around} {E : Value → Shared → Prop} {s : Shared} {it l : Addr} {i : Nat} {xs : Array Value} {Q : Value → Shared → Prop}, A.handled = none → I s.heap it l i → S s.heap l xs → xs[i]? = none →
    (∀ h' e, Heap.ExtBut it s.heap h' → (∃ o, h'.get? e = some o ∧ o.cls = .type "StopIteration") → E (.ref e) { s with heap := h' }) → wpAny (model prog w) A (Builtin.SmallTypes.nextOf (.ref it)) Q E s
  ie : ∀ {h h' : Heap} {a b l : Addr} {i : Nat}, I h a l i → Heap.ExtBut b h h' → a ≠ b → I h' a l i
  se : ∀ {h h' : Heap} {a b : Addr} {xs : Array Value}, S h a xs → Heap.ExtBut b h h' → a ≠ b → S h' a xs
  ia : ∀ {h h' : Heap} {a l : Addr} {i : Nat}, I h a l i → (∀ o, h.get? a = some o → h'.get? a = some o) → I h' a l i
  lt : ∀ {h : Heap} {a l : Addr} {i : Nat}, I h a l i → a < h.objs.size
theorem zk_list : ZK Heap.IsListIter Heap.IsList where
  item := fun a b c d => wpAny_nextOf_list_item a b c d
  fin := fun a b c d e => wpAny_nextOf_list_end a b c d e
  ie := fun a b c => a.extBut b c
  se := fun a b c => a.extBut b c
  ia := fun a b => a.at b
  lt := fun ⟨_, e, _⟩ => Heap.lt_size e
theorem zk_tuple : ZK Heap.IsTupleIter Heap.IsTuple where
  item := fun a b c d => RZ.nextOf_tuple_item a b c d
  fin := fun a b c d e => RZ.nextOf_tuple_end a b c d e
  ie := fun a b c => a.extBut b c
  se := fun a b c => a.extBut b c
  ia := fun a b => a.at b
  lt := fun ⟨_, e, _⟩ => Heap.lt_size e
section
variable {prog : Program} {w : World} {A : Around} {E : Value → Shared → Prop} {s : Shared} {I1 I2 : Heap → Addr → Addr → Nat → Prop} {S1 S2 : Heap → Addr → Array Value → Prop}
/-- what holds at each turn -/
structure At (I1 I2 : Heap → Addr → Addr → Nat → Prop) (h : Heap) (z TI TO i1 i2 l1 l2 : Addr) (k : Nat) (f0 a b : Value) : Prop where
  z : IsZip h z TI TO f0
  ti : IsPair h TI (.ref i1) (.ref i2)
  to : IsPair h TO a b
  i1 : I1 h i1 l1 k
  i2 : I2 h i2 l2 k
theorem z_item {z TI TO i1 i2 l1 l2 : Addr} {k : Nat} {xs ys : Array Value} {x y a b : Value} {Q : Value → Shared → Prop} (K1 : ZK I1 S1) (K2 : ZK I2 S2) (D : ZipApart z TI TO i1 i2 l1 l2) (T : At I1 I2 s.heap z TI TO i1 i2 l1 l2 k .none a b)
    (hl1 : S1 s.heap l1 xs) (hl2 : S2 s.heap l2 ys) (hx : xs[k]? = some x) (hy : ys[k]? = some y)
    (hQ : ∀ h', At I1 I2 h' z TI TO i1 i2 l1 l2 (k + 1) (rawInt s.heap.objs.size) x y → IsPair h' s.heap.objs.size x y → (∀ c o, c ≠ z → c ≠ TO → c ≠ i1 → c ≠ i2 → s.heap.get? c = some o → h'.get? c = some o) → Q (.ref s.heap.objs.size) { s with heap := h' }) :
    wpAny (model prog w) A (Builtin.«zip.__next__» ⟨[.ref z], []⟩) (fun fin s' => ∃ v, fin = .done (.ret v) ∧ Q v s') E s := by
  obtain ⟨hz, hTI, hTO, h1, h2⟩ := T
  -- the record is read
  show wpAny _ _ (field (.ref z) 2 >>= _) _ _ _ ; refine wpAny_bind (wpAny_field hz rfl (x := .bool false) rfl ?_) ; show wpAny _ _ (field (.ref z) 3 >>= _) _ _ _ ; refine wpAny_bind (wpAny_field hz rfl (x := .ref TI) rfl (wpAny_bind (wpAny_seqItems hTI rfl ?_)))
  show wpAny _ _ (Builtin.SmallTypes.ownedTupleIsFree (.ref z) >>= _) _ _ _ ; refine wpAny_bind ?_ ; unfold Builtin.SmallTypes.ownedTupleIsFree ; refine wpAny_bind (wpAny_field hz rfl (x := .none) rfl (wpAny_pure ?_)) ; simp only [if_true]
  refine wpAny_bind (wpAny_rule (wpAny_bind (wpAny_field hz rfl (x := .ref TO) rfl (wpAny_bind (wpAny_setField_rec hz (by simp) fun ha za sa => ?_))))) ; replace za : IsZip ha z TI TO .ellipsis := za ; refine wpAny_bind ?_ ; simp only [List.zipIdx_cons, List.zipIdx_nil, List.forIn_cons, List.forIn_nil]
  -- the first
  refine wpAny_bind (wpAny_bind (wpAny_onRaise ?_)) ; show wpAny _ _ (Builtin.SmallTypes.nextOf (.ref i1) >>= _) _ _ _ ; refine wpAny_bind (K1.item (K1.ie h1 sa.extBut D.i1z) (K1.se hl1 sa.extBut D.l1z) hx fun hb f1 sb => wpAny_pure ?_)
  have tb : IsPair hb TO a b := sb.extBut _ _ D.TOi1 (sa.extBut _ _ D.TOz hTO)
  refine wpAny_bind (wpAny_seqItems tb rfl (wpAny_bind (wpAny_updateSeq_pair tb fun hc tc sc => wpAny_bind (wpAny_letGo (wpAny_pure ?_))))) ; replace tc : IsPair hc TO x b := tc
  -- the second
  refine wpAny_bind (wpAny_bind (wpAny_onRaise ?_)) ; show wpAny _ _ (Builtin.SmallTypes.nextOf (.ref i2) >>= _) _ _ _
  refine wpAny_bind (K2.item (K2.ie (K2.ie (K2.ie h2 sa.extBut D.i2z) sb.extBut D.i12.symm) sc.extBut D.TOi2.symm) (K2.se (K2.se (K2.se hl2 sa.extBut D.l2z) sb.extBut D.l2i1) sc.extBut D.l2TO) hy fun hd f2 sd => wpAny_pure ?_)
  have td : IsPair hd TO x b := sd.extBut _ _ D.TOi2 tc
  refine wpAny_bind (wpAny_seqItems td rfl (wpAny_bind (wpAny_updateSeq_pair td fun he te se => wpAny_bind (wpAny_letGo (wpAny_pure (wpAny_pure ?_)))))) ; replace te : IsPair he TO x y := te
  -- the pair is handed out
  refine wpAny_bind (wpAny_seqItems te rfl (wpAny_bind (wpAny_newTuple ?_)))
  have hsz : he.objs.size = s.heap.objs.size := by rw [se.1, sd.1, sc.1, sb.1, sa.1]
  have ze : IsZip he z TI TO .ellipsis := se.extBut _ _ D.TOz.symm (sd.extBut _ _ D.i2z.symm (sc.extBut _ _ D.TOz.symm (sb.extBut _ _ D.i1z.symm za)))
  have ke : ∀ c o, c ≠ z → c ≠ TO → c ≠ i1 → c ≠ i2 → s.heap.get? c = some o → he.get? c = some o := fun c o c1 c2 c3 c4 e => se.extBut _ _ c2 (sd.extBut _ _ c4 (sc.extBut _ _ c2 (sb.extBut _ _ c3 (sa.extBut _ _ c1 e))))
  have g1 := K1.ie (K1.ie (K1.ie f1 sc.extBut D.TOi1.symm) sd.extBut D.i12) se.extBut D.TOi1.symm ; have g2 := K2.ie f2 se.extBut D.TOi2.symm
  have lz : z < he.objs.size := Heap.lt_size ze
  show wpAny _ _ (Builtin.SmallTypes.ownedTupleHandOut (.ref z) (.ref he.objs.size) >>= _) _ _ _ ; refine wpAny_bind ?_ ; unfold Builtin.SmallTypes.ownedTupleHandOut
  have zf : IsZip (he.push { cls := .type "tuple", data := .seq #[x, y] }) z TI TO .ellipsis := Heap.get?_push_of_some _ ze
  refine wpAny_bind (wpAny_setField_rec zf (by simp) fun hg zg sg => ?_) ; replace zg : IsZip hg z TI TO (rawInt he.objs.size) := zg ; refine wpAny_setField_rec zg (by simp) fun hi zi si => ?_ ; replace zi : IsZip hi z TI TO (rawInt he.objs.size) := zi
  have up : ∀ c o, c ≠ z → he.get? c = some o → hi.get? c = some o := fun c o c1 e => si.extBut _ _ c1 (sg.extBut _ _ c1 (Heap.get?_push_of_some _ e))
  have ti : IsPair hi he.objs.size x y := si.extBut _ _ (Nat.ne_of_gt lz) (sg.extBut _ _ (Nat.ne_of_gt lz) (Heap.get?_push_size _ rfl))
  rw [hsz] at zi ti
  refine wpAny_pure ⟨_, rfl, ?_⟩ ; show Q (.ref he.objs.size) _ ; rw [hsz]
  exact hQ hi ⟨zi, up _ _ D.TIz (ke _ _ D.TIz D.TITO D.TIi1 D.TIi2 hTI), up _ _ D.TOz te, K1.ia g1 fun o e => up _ o D.i1z e, K2.ia g2 fun o e => up _ o D.i2z e⟩ ti fun c o c1 c2 c3 c4 e => up c o c1 (ke c o c1 c2 c3 c4 e)
theorem z_end {z TI TO i1 i2 l1 l2 : Addr} {k : Nat} {xs ys : Array Value} {a b : Value} {Q : Fin → Shared → Prop} (hh : A.handled = none) (K1 : ZK I1 S1) (K2 : ZK I2 S2) (D : ZipApart z TI TO i1 i2 l1 l2) (T : At I1 I2 s.heap z TI TO i1 i2 l1 l2 k .none a b)
    (hl1 : S1 s.heap l1 xs) (hl2 : S2 s.heap l2 ys) (hend : xs[k]? = none ∨ ys[k]? = none)
    (hE : ∀ h' e, (∀ c o, c ≠ z → c ≠ TO → c ≠ i1 → c ≠ i2 → s.heap.get? c = some o → h'.get? c = some o) → (∃ o, h'.get? e = some o ∧ o.cls = .type "StopIteration") → E (.ref e) { s with heap := h' }) :
    wpAny (model prog w) A (Builtin.«zip.__next__» ⟨[.ref z], []⟩) Q E s := by
  obtain ⟨hz, hTI, hTO, h1, h2⟩ := T
  show wpAny _ _ (field (.ref z) 2 >>= _) _ _ _ ; refine wpAny_bind (wpAny_field hz rfl (x := .bool false) rfl ?_) ; show wpAny _ _ (field (.ref z) 3 >>= _) _ _ _ ; refine wpAny_bind (wpAny_field hz rfl (x := .ref TI) rfl (wpAny_bind (wpAny_seqItems hTI rfl ?_)))
  show wpAny _ _ (Builtin.SmallTypes.ownedTupleIsFree (.ref z) >>= _) _ _ _ ; refine wpAny_bind ?_ ; unfold Builtin.SmallTypes.ownedTupleIsFree ; refine wpAny_bind (wpAny_field hz rfl (x := .none) rfl (wpAny_pure ?_)) ; simp only [if_true]
  refine wpAny_bind (wpAny_rule (wpAny_bind (wpAny_field hz rfl (x := .ref TO) rfl (wpAny_bind (wpAny_setField_rec hz (by simp) fun ha za sa => ?_))))) ; replace za : IsZip ha z TI TO .ellipsis := za ; refine wpAny_bind ?_ ; simp only [List.zipIdx_cons, List.zipIdx_nil, List.forIn_cons, List.forIn_nil]
  refine wpAny_bind (wpAny_bind (wpAny_onRaise ?_)) ; show wpAny _ _ (Builtin.SmallTypes.nextOf (.ref i1) >>= _) _ _ _
  have a1 := K1.ie h1 sa.extBut D.i1z ; have a2 := K1.se hl1 sa.extBut D.l1z
  cases hx : xs[k]? with
  | none =>
    refine wpAny_bind (K1.fin hh a1 a2 hx fun hb e sb he => ?_) ; obtain ⟨oe, hoe, hce⟩ := he
    have zb : IsZip hb z TI TO .ellipsis := sb _ _ D.i1z.symm za ; have ez : e ≠ z := fun x => by subst x; rw [zb] at hoe; cases hoe; simp at hce
    exact wpAny_setField_rec zb (by simp) fun hc _ sc => hE hc e (fun c o c1 _ c3 _ x => sc.extBut _ _ c1 (sb _ _ c3 (sa.extBut _ _ c1 x))) ⟨oe, sc.extBut _ _ ez hoe, hce⟩
  | some x =>
    have hy : ys[k]? = none := by rcases hend with h | h; rw [hx] at h; cases h; exact h
    refine wpAny_bind (K1.item a1 a2 hx fun hb f1 sb => wpAny_pure ?_) ; have tb : IsPair hb TO a b := sb.extBut _ _ D.TOi1 (sa.extBut _ _ D.TOz hTO)
    refine wpAny_bind (wpAny_seqItems tb rfl (wpAny_bind (wpAny_updateSeq_pair tb fun hc tc sc => wpAny_bind (wpAny_letGo (wpAny_pure (wpAny_bind (wpAny_bind (wpAny_onRaise ?_)))))))) ; show wpAny _ _ (Builtin.SmallTypes.nextOf (.ref i2) >>= _) _ _ _
    refine wpAny_bind (K2.fin hh (K2.ie (K2.ie (K2.ie h2 sa.extBut D.i2z) sb.extBut D.i12.symm) sc.extBut D.TOi2.symm) (K2.se (K2.se (K2.se hl2 sa.extBut D.l2z) sb.extBut D.l2i1) sc.extBut D.l2TO) hy fun hd e sd he => ?_) ; obtain ⟨oe, hoe, hce⟩ := he
    have zd : IsZip hd z TI TO .ellipsis := sd _ _ D.i2z.symm (sc.extBut _ _ D.TOz.symm (sb.extBut _ _ D.i1z.symm za)) ; have ez : e ≠ z := fun x => by subst x; rw [zd] at hoe; cases hoe; simp at hce
    exact wpAny_setField_rec zd (by simp) fun hf _ sf => hE hf e (fun c o c1 c2 c3 c4 x => sf.extBut _ _ c1 (sd _ _ c4 (sc.extBut _ _ c2 (sb.extBut _ _ c3 (sa.extBut _ _ c1 x))))) ⟨oe, sf.extBut _ _ ez hoe, hce⟩
/-- the next pair, and no more -/
theorem next_item {z TI TO i1 i2 l1 l2 : Addr} {k : Nat} {xs ys : Array Value} {x y a b : Value} {Q : Option Value → Shared → Prop} (K1 : ZK I1 S1) (K2 : ZK I2 S2) (D : ZipApart z TI TO i1 i2 l1 l2) (T : At I1 I2 s.heap z TI TO i1 i2 l1 l2 k .none a b)
    (hl1 : S1 s.heap l1 xs) (hl2 : S2 s.heap l2 ys) (hx : xs[k]? = some x) (hy : ys[k]? = some y)
    (hQ : ∀ h', At I1 I2 h' z TI TO i1 i2 l1 l2 (k + 1) (rawInt s.heap.objs.size) x y → IsPair h' s.heap.objs.size x y → (∀ c o, c ≠ z → c ≠ TO → c ≠ i1 → c ≠ i2 → s.heap.get? c = some o → h'.get? c = some o) → Q (some (.ref s.heap.objs.size)) { s with heap := h' }) :
    wpAny (model prog w) A (pyNext (.ref z)) Q E s := by
  have hT : s.TypeIs (.ref z) "zip" := ⟨_, T.z, rfl⟩ ; unfold pyNext
  refine wpAny_bind (wpAny_attempt (wpAny_callSpecial?_slot (name := Str.ofString "__next__") hT F.slot_zip_next (wpAny_call_entry F.slot_zip_next hT F.entry_zip_next ?_ (F.args_zip_next_1 _))))
  exact z_item K1 K2 D T hl1 hl2 hx hy fun h' a1 a2 a3 => wpAny_pure (hQ h' a1 a2 a3)
theorem next_end {z TI TO i1 i2 l1 l2 : Addr} {k : Nat} {xs ys : Array Value} {a b : Value} {Q : Option Value → Shared → Prop} (hh : A.handled = none) (K1 : ZK I1 S1) (K2 : ZK I2 S2) (D : ZipApart z TI TO i1 i2 l1 l2) (T : At I1 I2 s.heap z TI TO i1 i2 l1 l2 k .none a b)
    (hl1 : S1 s.heap l1 xs) (hl2 : S2 s.heap l2 ys) (hend : xs[k]? = none ∨ ys[k]? = none)
    (hQ : ∀ h', (∀ c o, c ≠ z → c ≠ TO → c ≠ i1 → c ≠ i2 → s.heap.get? c = some o → h'.get? c = some o) → Q none { s with heap := h' }) : wpAny (model prog w) A (pyNext (.ref z)) Q E s := by
  have hT : s.TypeIs (.ref z) "zip" := ⟨_, T.z, rfl⟩ ; unfold pyNext
  refine wpAny_bind (wpAny_attempt (wpAny_callSpecial?_slot (name := Str.ofString "__next__") hT F.slot_zip_next (wpAny_call_entry F.slot_zip_next hT F.entry_zip_next ?_ (F.args_zip_next_1 _))))
  refine z_end hh K1 K2 D T hl1 hl2 hend fun h' e hk he => ?_ ; obtain ⟨o, ho, hc⟩ := he
  exact wpAny_bind (wpAny_isInstance (T := "StopIteration") (b := true) ⟨o, ho, hc⟩ isSubtype_stop (wpAny_pure (hQ _ hk)))
end
/-! ### zip(list, tuple), made -/
abbrev hI (h : Heap) (n : String) (l : Addr) : Heap := h.push { cls := .type n, data := .fields #[.ref l, .int 0 0] }
abbrev hP (h : Heap) (a b : Value) : Heap := h.push { cls := .type "tuple", data := .seq #[a, b] }
abbrev hA (h : Heap) (l1 l2 : Addr) : Heap := hI (hI h "list_iterator" l1) "tuple_iterator" l2
abbrev hB (h : Heap) (l1 l2 : Addr) : Heap := hP (hA h l1 l2) (.ref h.objs.size) (.ref (hI h "list_iterator" l1).objs.size)
abbrev hC (h : Heap) (l1 l2 : Addr) : Heap := hP (hB h l1 l2) .none .none
abbrev hD (h : Heap) (l1 l2 : Addr) : Heap := (hC h l1 l2).push { cls := .type "zip", data := .fields #[.none, .bool false, .bool false, .ref (hA h l1 l2).objs.size, .ref (hB h l1 l2).objs.size] }
theorem meets_new (l1 l2 : Addr) (xs ys : Array Value) : Meets (Builtin.«zip.__new__» ⟨[.type "zip", .ref l1, .ref l2], []⟩) (fun _ R s => s.heap.IsList l1 xs ∧ s.heap.IsTuple l2 ys ∧ R (.ok (.ret (.ref (hC s.heap l1 l2).objs.size))) { s with heap := hD s.heap l1 l2 }) :=
  .of_wp fun prog w A R s h => by
    obtain ⟨hp, g, d, tk, os⟩ := s; obtain ⟨a, b, h⟩ := h; have sz := sub_zip
    have a' : Heap.IsList (Shared.heap ⟨hp, g, d, tk, os⟩) l1 xs := a; have b' : Heap.IsTuple (Shared.heap ⟨hI hp "list_iterator" l1, g, d, tk, os⟩) l2 ys := Heap.IsTuple.push b _
    wp_walk using wpAny_pyIter_list a', wpAny_pyIter_tuple b'; exact ⟨_, rfl, h⟩
section
variable {prog : Program} {w : World} {A : Around} {E : Value → Shared → Prop} {s : Shared}
theorem call_zipM {l1 l2 : Addr} {xs ys : Array Value} {Q : Value → Shared → Prop} (hl1 : s.heap.IsList l1 xs) (hl2 : s.heap.IsTuple l2 ys)
    (h : ∀ h', At Heap.IsListIter Heap.IsTupleIter h' (s.heap.objs.size + 4) (s.heap.objs.size + 2) (s.heap.objs.size + 3) s.heap.objs.size (s.heap.objs.size + 1) l1 l2 0 .none .none .none → (∀ c o, s.heap.get? c = some o → h'.get? c = some o) → Q (.ref (s.heap.objs.size + 4)) { s with heap := h' }) :
    wpAny (model prog w) A (call (.type "zip") [.ref l1, .ref l2]) Q E s := by
  refine callType_new F.called_zip (by decide) (F.typeCall_zip_2 _ _) (F.newCall_zip_2 _ _) (fun obj => F.args_object_init_3 obj _ _) F.entry_zip_new (meets_new l1 l2 xs ys) ⟨hl1, hl2, ?_⟩
  have n1 : (hI s.heap "list_iterator" l1).objs.size = s.heap.objs.size + 1 := Heap.size_push ..
  have n2 : (hA s.heap l1 l2).objs.size = s.heap.objs.size + 2 := by rw [Heap.size_push, n1]
  have n3 : (hB s.heap l1 l2).objs.size = s.heap.objs.size + 3 := by rw [Heap.size_push, n2]
  have n4 : (hC s.heap l1 l2).objs.size = s.heap.objs.size + 4 := by rw [Heap.size_push, n3]
  have e5 : (hD s.heap l1 l2).get? (hC s.heap l1 l2).objs.size = some _ := Heap.get?_push_size _ rfl
  have e4 : (hD s.heap l1 l2).get? (hB s.heap l1 l2).objs.size = some _ := Heap.get?_push_of_some _ (Heap.get?_push_size _ rfl)
  have e3 : (hD s.heap l1 l2).get? (hA s.heap l1 l2).objs.size = some _ := Heap.get?_push_of_some _ (Heap.get?_push_of_some _ (Heap.get?_push_size _ rfl))
  have e2 : (hD s.heap l1 l2).get? (hI s.heap "list_iterator" l1).objs.size = some _ := Heap.get?_push_of_some _ (Heap.get?_push_of_some _ (Heap.get?_push_of_some _ (Heap.get?_push_size _ rfl)))
  have e1 : (hD s.heap l1 l2).get? s.heap.objs.size = some _ := Heap.get?_push_of_some _ (Heap.get?_push_of_some _ (Heap.get?_push_of_some _ (Heap.get?_push_of_some _ (Heap.get?_push_size _ rfl))))
  show _ ∧ _ ; rw [n2, n3, n4] at e5 ; rw [n1, n2] at e3 ; rw [n3] at e4 ; rw [n1] at e2 ; rw [n4]
  exact ⟨⟨_, e5, rfl⟩, h _ ⟨e5, e3, e4, ⟨_, e1, rfl, rfl⟩, ⟨_, e2, rfl, rfl⟩⟩ fun c o x => Heap.get?_push_of_some _ (Heap.get?_push_of_some _ (Heap.get?_push_of_some _ (Heap.get?_push_of_some _ (Heap.get?_push_of_some _ x))))⟩
end
end PySem.VfZ

/-! # 13: for a, b in zip(list, tuple): the walk -/
namespace L2.Vf
open PySem PySem.Spec PyProof.Rows PySem.VfZ
/-- the list at a and the tuple at b as they stand at each turn, the items in new pairs -/
def ItzM (K : PySem.W.Frag) (a b : Addr) : It :=
  ⟨fun i H => ∃ (xs ys : List V) (x y : V), SqL K H a xs ∧ SqT K H b ys ∧ xs[i]? = some x ∧ ys[i]? = some y,
    fun i H v H' => ∃ T x y, v = .ref T ∧ H T = none ∧ H' = upd H T (.tup [x, y]) ∧ (∀ xs, SqL K H a xs → xs[i]? = some x) ∧ ∀ ys, SqT K H b ys → ys[i]? = some y,
    fun i H => ∃ xs ys : List V, SqL K H a xs ∧ SqT K H b ys ∧ (xs.length ≤ i ∨ ys.length ≤ i)⟩
theorem list_inj {X : Cx} {pins : List (Addr × Obj)} {σ : St} {H : Hp} {s : Shared} {a : Addr} {xs ys : List V} (I : Inv X pins σ H s) (h : SqL X.K H a xs) (h' : SqL X.K H a ys) : ∀ {i : Nat} {y : V}, ys[i]? = some y → xs[i]? = some y := by
  exact fun e => by rw [I.list_inj h h']; exact e
abbrev TnM (z TI TO i1 i2 a b : Addr) : Nat → Heap → Prop := fun i h => ∃ x y, At Heap.IsListIter Heap.IsTupleIter h z TI TO i1 i2 a b i .none x y
theorem five {P : Addr → Prop} {z TI TO i1 i2 : Addr} (h1 : P z) (h2 : P TI) (h3 : P TO) (h4 : P i1) (h5 : P i2) : ∀ c ∈ [z, TI, TO, i1, i2], P c := fun c hc => by
  rcases (by simpa using hc : c = z ∨ c = TI ∨ c = TO ∨ c = i1 ∨ c = i2) with rfl | rfl | rfl | rfl | rfl
  · exact h1
  · exact h2
  · exact h3
  · exact h4
  · exact h5
theorem turn_zipM {P : Program} {w : World} {K : PySem.W.Frag} {elts : List Expr} {kk : Nat} {tpos : Pos} {a b z TI TO i1 i2 : Addr} (D : ZipApart z TI TO i1 i2 a b) : Turn P w K (.Tuple elts kk tpos) (ItzM K a b) [z, TI, TO, i1, i2] z (TnM z TI TO i1 i2 a b) where
  mem := by simp
  obj := fun i h st => by
    obtain ⟨x, y, hz, hTI, hTO, ⟨o1, e1, _, d1⟩, ⟨o2, e2, _, d2⟩⟩ := st
    exact five ⟨_, hz, fun v q => nomatch q⟩ ⟨_, hTI, fun v q => nomatch q⟩ ⟨_, hTO, fun v q => nomatch q⟩ ⟨o1, e1, fun v q => by rw [d1] at q; cases q⟩ ⟨o2, e2, fun v q => by rw [d2] at q; cases q⟩
  keep := fun i h h' st k => by
    obtain ⟨x, y, hz, hTI, hTO, h1, h2⟩ := st
    exact ⟨x, y, k z (by simp) _ hz, k TI (by simp) _ hTI, k TO (by simp) _ hTO, h1.at fun o q => k i1 (by simp) o q, h2.at fun o q => k i2 (by simp) o q⟩
  item := by
    intro X hP hw hK hc i pins s σ H E I hf st hg
    subst hP hw hK
    obtain ⟨x0, y0, T⟩ := st
    obtain ⟨xs, ys, x, y, hqx, hqy, hx, hy⟩ := hg
    obtain ⟨its, rv, p, _⟩ := I.list hqx
    obtain ⟨its2, rv2, p2, _⟩ := I.tuple hqy
    obtain ⟨u, hu, ru⟩ := rv.get hx
    obtain ⟨u2, hu2, ru2⟩ := rv2.get hy
    have lz : z < s.heap.objs.size := Heap.lt_size T.z
    refine next_item zk_list zk_tuple D T p.isList p2 (x := u) (y := u2) (by simpa using hu) (by simpa using hu2) fun h' T' hT hk => ⟨_, rfl, wpAny_letOwnedTupleGo_zip (s := { s with heap := h' }) T'.z fun h2 z2 sb => ?_⟩
    have hT2 : h2.get? s.heap.objs.size = some { cls := .type "tuple", data := .seq #[u, u2] } := (sb.2 _ (Nat.ne_of_gt lz)).trans hT
    have new : ObjOk X.prog X.w (upd H s.heap.objs.size (.tup [x, y])) h2 s.heap.objs.size (.tup [x, y]) := ⟨by show 2 ≤ sizeLine; decide, [u, u2], .cons ru (.cons ru2 .nil), ⟨_, hT2, rfl, _, rfl⟩⟩
    have I1 : Inv X pins σ (upd H s.heap.objs.size (.tup [x, y])) { s with heap := h2 } :=
      I.turnedNew (t' := s.toks) (ch := [z, TI, TO, i1, i2]) (fun c o hb q => (sb.2 c (fun e => hb (by simp [e]))).trans (hk c o (fun e => hb (by simp [e])) (fun e => hb (by simp [e])) (fun e => hb (by simp [e])) (fun e => hb (by simp [e])) q)) hf (Nat.le_refl _) new
    refine ⟨.ref s.heap.objs.size, _, I1, rfl, ⟨_, x, y, rfl, I.hok.fresh (Nat.le_refl _), rfl, fun l hl => list_inj I hl hqx hx, fun l hl => by rw [I.tuple_inj hl hqy]; exact hy⟩, ⟨u, u2, z2, (sb.2 _ D.TIz).trans T'.ti, (sb.2 _ D.TOz).trans T'.to, T'.i1.at fun o q => (sb.2 _ D.i1z).trans q, T'.i2.at fun o q => (sb.2 _ D.i2z).trans q⟩, ?_⟩
    have low : ∀ c, c < s.heap.objs.size → H c = none → upd H s.heap.objs.size (.tup [x, y]) c = none := fun c l n => by rw [upd_ne (Nat.ne_of_lt l)]; exact n
    exact five (low _ lz (hf z (by simp)).1) (low _ (Heap.lt_size T.ti) (hf TI (by simp)).1) (low _ (Heap.lt_size T.to) (hf TO (by simp)).1) (low _ (zk_list.lt T.i1) (hf i1 (by simp)).1) (low _ (zk_tuple.lt T.i2) (hf i2 (by simp)).1)
  done := by
    intro X hP hw hK hc i pins s σ H E I hf st hg
    subst hP hw hK
    obtain ⟨x0, y0, T⟩ := st
    obtain ⟨xs, ys, hqx, hqy, hend⟩ := hg
    obtain ⟨its, rv, p, _⟩ := I.list hqx
    obtain ⟨its2, rv2, p2, _⟩ := I.tuple hqy
    have l1 := rv.length
    have l2 := rv2.length
    have he : its.toArray[i]? = none ∨ its2.toArray[i]? = none := hend.elim (fun q => .inl (by simp; omega)) fun q => .inr (by simp; omega)
    exact next_end (I.ok.hd hc) zk_list zk_tuple D T p.isList p2 he fun h' hk => ⟨rfl, I.turnedL (t' := s.toks) (ch := [z, TI, TO, i1, i2]) (fun c o hb q => hk c o (fun e => hb (by simp [e])) (fun e => hb (by simp [e])) (fun e => hb (by simp [e])) (fun e => hb (by simp [e])) q) hf⟩
  self := fun A i s Q E st h => by
    obtain ⟨x, y, T⟩ := st
    exact wpAny_pyIter_zip T.z h
def iZipM (K : PySem.W.Frag) (ta : TA) : TI := fun σ H R => ta σ H fun vs H1 => ∃ a b xs ys, vs = [.ref a, .ref b] ∧ SqL K H1 a xs ∧ SqT K H1 b ys ∧ R (ItzM K a b) H1
theorem pi_zipM {X : Cx} {e e2 : Expr} {ta : TA} {p pos tpos : Pos} {elts : List Expr} {kk : Nat} (hg : Gl X "zip") (hm : X.mg "zip" = none) (ha : PA X [e, e2] ta)
    (hs : starEach [e, e2] X.env = (false, eval e X.env) :: starEach [e2] X.env := by rfl) (hpl : (backTo pos (starEach [e2] X.env)).any (·.1) = false := by rfl) :
    PI X (.Tuple elts kk tpos) (.Call (.Name "zip" p) [e, e2] [] pos) (iZipM X.K ta) := by
  refine ⟨fun pins s σ H R I h => Call_ (ld_blt I hg hm PyProof.Rows.boot_zip (PyProof.Rows.callWith_type1 (thn (ha.run pos pins s σ H _ I h) fun us s1 ⟨vs, H1, I1, r1, q1⟩ => ?_) hs hpl))⟩
  obtain ⟨a, b, xs, ys, ex, hqx, hqy, q⟩ := q1
  subst ex
  obtain ⟨u1, u2, rfl, r, r'⟩ := vals2 r1
  cases r
  cases r'
  obtain ⟨its, rv, p1, _⟩ := I1.list hqx
  obtain ⟨its2, rv2, p2, _⟩ := I1.tuple hqy
  obtain ⟨o2, ho2, _⟩ := id p2
  have fr : ∀ c, s1.heap.objs.size ≤ c → FpOk X pins H1 c := fun c hle => I1.fpOk hle (I1.hok.fresh hle)
  refine call_zipM p1.isList p2 fun h' T hk => wpAny_pyIter_zip T.z ⟨s1.heap.objs.size + 4, [s1.heap.objs.size + 4, s1.heap.objs.size + 2, s1.heap.objs.size + 3, s1.heap.objs.size, s1.heap.objs.size + 1], _, _, H1, rfl, I1.kept (t' := s1.toks) hk, turn_zipM (PySem.W.ktu_apart s1.heap.objs.size a b p1.lt (Heap.lt_size ho2)), ⟨_, _, T⟩, ?_, q⟩
  exact five (fr _ (Nat.le_add_right _ _)) (fr _ (Nat.le_add_right _ _)) (fr _ (Nat.le_add_right _ _)) (fr _ (Nat.le_refl _)) (fr _ (Nat.le_add_right _ _))
theorem walk_zipM {K : PySem.W.Frag} {a b : Addr} {xs ys : List V} {n : Nat} (hn : n = min xs.length ys.length) : Walk (ItzM K a b) n (fun H => SqL K H a xs ∧ SqT K H b ys) (YPair (fun i => xs[i]?) (fun i => ys[i]?)) := by
  subst hn
  refine ⟨fun i _ hi q => ⟨xs, ys, xs[i]'(by omega), ys[i]'(by omega), q.1, q.2, List.getElem?_eq_getElem (by omega), List.getElem?_eq_getElem (by omega)⟩, fun _ q => ⟨xs, ys, q.1, q.2, by omega⟩, fun i H v H' _ q y => ?_⟩
  obtain ⟨T, x, z, h1, h2, h3, h4, h5⟩ := y
  exact ⟨T, x, z, h1, h2, h3, h4 xs q.1, h5 ys q.2⟩
end L2.Vf

/-! # 14: a tuple times 1 is the tuple itself -/
namespace L2.Vf
open PySem PySem.Spec PyProof.Rows
theorem tuple_mul1 (l : Addr) (items : Array Value) (n : Nat) (dd : Option Addr) (sl : Array (Option Value)) (u : Tok) :
    Meets (Builtin.«tuple.__mul__» ⟨[.ref l, .int 1 u], []⟩) (fun _ R s => s.heap.get? l = some { cls := .type "tuple", dict := dd, data := .seq items n, slots := sl } ∧ R (.ok (.ret (Value.ref l))) s) :=
  .of_wp fun prog w A R s h => by
    obtain ⟨hp, g, d, tk, os⟩ := s; obtain ⟨hl, h⟩ := h; have f1 := AutoSeq1.idx_int
    wp_walk using wpAny_loadPart' hl
    repeat (first
      | (refine wpAny_ite_true (by simp) ?_; wp_walk using wpAny_loadPart' hl)
      | (refine wpAny_ite_false (by decide) ?_; wp_walk using wpAny_loadPart' hl))
    exact ⟨_, rfl, h⟩
/-- t * 1 -/
def rRepT1 (K : PySem.W.Frag) : R2 := fun x y H Q => ∃ l xs, x = .ref l ∧ y = .int 1 ∧ SqT K H l xs ∧ Q (.ref l) H
section
variable {X : Cx}
theorem op_repT1 : OpR X (binaryOp .Mult) (rRepT1 X.K) := by
  intro pins s σ H x y v u Q I rx ry h
  obtain ⟨l, xs, rfl, rfl, hT, q⟩ := h
  cases rx
  obtain ⟨t, rfl⟩ := ry
  obtain ⟨its, r, ⟨⟨cls, dd, data, sl⟩, ho, hc, n, hd⟩, _⟩ := I.tuple hT
  simp only at hc hd
  subst hc hd
  refine wpAny_binaryOp_repeat_ref (T := "tuple") (U := "int") (by decide) ⟨_, ho, rfl⟩ (fun s' => typeIs_int s' 1 t) noFill_tuple_mul F.fills_int_mul F.slot_int_rmul repeat_tuple F.slot_int_index.lookup ?_
  refine call_meets F.slot_int_rmul (typeIs_int s 1 t) F.entry_int_rmul (F.args_int_rmul_2 _ _) (int_rmul_tuple 1 t l its.toArray n dd sl) ⟨ho, rfl, ⟨_, ho, rfl⟩, ?_⟩
  exact call_meets F.slot_tuple_mul ⟨_, ho, rfl⟩ F.entry_tuple_mul (F.args_tuple_mul_2 _ _) (tuple_mul1 l its.toArray n dd sl t) ⟨ho, ⟨.ref l, H, I, rfl, q⟩⟩
/-- t * k, k from 1 to 1000 -/
def rRepTA (K : PySem.W.Frag) : R2 := fun x y H Q => ∃ l k xs, x = .ref l ∧ y = .int k ∧ SqT K H l xs ∧ xs ≠ [] ∧ 1 ≤ k ∧ k ≤ 1000 ∧ xs.length ≤ 1000 ∧ (k = 1 → Q (.ref l) H) ∧ (2 ≤ k → ∀ p, H p = none → Q (.ref p) (upd H p (.tup (List.replicate k.toNat xs).flatten)))
theorem op_repTA : OpR X (binaryOp .Mult) (rRepTA X.K) := by
  intro pins s σ H x y v u Q I rx ry h
  obtain ⟨l, k, xs, rfl, rfl, hT, hne, h1, h2, hz, q1, q2⟩ := h
  by_cases e : k = 1
  · subst e
    exact op_repT1 pins s σ H _ _ v u Q I rx ry ⟨l, xs, rfl, rfl, hT, q1 rfl⟩
  · exact op_repT pins s σ H _ _ v u Q I rx ry ⟨l, k, xs, rfl, rfl, hT, hne, by omega, h2, hz, q2 (by omega)⟩
end
end L2.Vf

/-! # dicts whose keys are tuples of tuples, 1: the kind of such keys -/
namespace PySem
open Sem (wp)
section
variable {prog : Program} {w : World} {K : Type} [DecidableEq K] {knd : KeyKind prog w K} {A : Around} {E : Value → Shared → Prop} {s : Shared}
/-- the items are tuples of keys -/
inductive NestItems (knd : KeyKind prog w K) (h : Heap) : List (List K) → List Value → Prop
  | nil : NestItems knd h [] []
  | cons {k : List K} {b : Addr} {ks : List (List K)} {vs : List Value} : IsTupleKey knd h k b → NestItems knd h ks vs → NestItems knd h (k :: ks) (.ref b :: vs)
def IsNest (knd : KeyKind prog w K) (h : Heap) (ks : List (List K)) (a : Addr) : Prop := ∃ o items n, h.get? a = some o ∧ o.cls = .type "tuple" ∧ o.data = .seq items n ∧ NestItems knd h ks items.toList
theorem NestItems.inj {h : Heap} {x y : List (List K)} {vs : List Value} (hx : NestItems knd h x vs) (hy : NestItems knd h y vs) : x = y := by
  induction hx generalizing y with
  | nil => cases hy; rfl
  | cons h1 _ ih =>
    cases hy with
    | cons h2 t2 => rw [h1.inj h2, ih t2]
theorem NestItems.keeps {h h' : Heap} {d : Addr} {o : Obj} {es ep} {x : List (List K)} {vs : List Value} (hx : NestItems knd h x vs) (ho : h.get? d = some o) (hd : o.data = .dict es ep) (hs : Heap.SameBut d h h') : NestItems knd h' x vs := by
  induction hx with
  | nil => exact .nil
  | cons h1 _ ih => exact .cons (h1.keeps ho hd hs) ih
theorem IsNest.typeIs {ks : List (List K)} {a : Addr} (x : IsNest knd s.heap ks a) : s.TypeIs (.ref a) "tuple" := let ⟨o, _, _, ho, hc, _⟩ := x; ⟨o, ho, hc⟩
theorem IsNest.inj {h : Heap} {a : Addr} {x y : List (List K)} (hx : IsNest knd h x a) (hy : IsNest knd h y a) : x = y := by
  obtain ⟨o, items, n, ho, _, hd, hi⟩ := hx
  obtain ⟨o', items', n', ho', _, hd', hi'⟩ := hy
  obtain rfl : o = o' := Option.some.inj (ho.symm.trans ho')
  rw [hd] at hd'
  injection hd' with h1 _
  subst h1
  exact hi.inj hi'
theorem IsNest.keeps {h h' : Heap} {ks : List (List K)} {a d : Addr} {o : Obj} {es ep} (x : IsNest knd h ks a) (ho : h.get? d = some o) (hd : o.data = .dict es ep) (hs : Heap.SameBut d h h') : IsNest knd h' ks a := by
  obtain ⟨o', items, n, ho', hc, hd', hi⟩ := x
  have hne : a ≠ d := by
    rintro rfl
    obtain rfl : o' = o := Option.some.inj (ho'.symm.trans ho)
    rw [hd] at hd'; exact nomatch hd'
  exact ⟨o', items, n, (hs.2 a hne).trans ho', hc, hd', hi.keeps ho hd hs⟩
def nestHash (knd : KeyKind prog w K) (ks : List (List K)) : Int := reduceHash (Builtin.Tuple.tupleHashOf (ks.map (tupleKeyHash knd)))
def nestDraws (ks : List (List K)) : Nat := (ks.map fun k => k.length + 1).sum + 1
theorem wpAny_pyHash_nest {ks : List (List K)} {a : Addr} {Q : Int → Shared → Prop} (hu : A.units + 1 < cLine) (hk : IsNest knd s.heap ks a) (h : Q (nestHash knd ks) { s with toks := s.toks + nestDraws ks }) :
    wpAny (model prog w) A (pyHash (.ref a)) Q E s := by
  have hT := hk.typeIs
  obtain ⟨o, items, n, ho, _, hd, hi⟩ := hk
  unfold pyHash
  first | unfold pyHashByItsType | skip
  first | refine wpAny_bind (wpAny_cRoomFor_or (.inr (by omega)) ?_) | skip
  refine wpAny_bind (wpAny_specialOf hT F.slot_tuple_hash.lookup ?_)
  show wpAny _ _ (if (some (Value.builtin "tuple.__hash__") == some Value.none) = true then _ else _) Q E s
  rw [if_neg (by rw [beq_builtin_none]; exact Bool.false_ne_true)]
  refine wpAny_bind (wpAny_specialOf hT F.slot_tuple_hash.lookup ?_)
  show wpAny _ _ (callSpecialIfBoundUnlessNone? (.ref a) "__hash__" _ >>= _) Q E s
  refine wpAny_bind (wpAny_callSpecialIfBoundUnlessNone?_slot hT F.slot_tuple_hash (wpAny_call_entry F.slot_tuple_hash hT F.entry_tuple_hash ?_ (F.args_tuple_hash_1 _)))
  show wpAny _ _ (Builtin.Tuple.tupleItemsOf (.ref a) >>= _) _ _ s
  refine wpAny_bind (wpAny_tupleItemsOf ho hd ?_)
  refine wpAny_bind ?_
  rw [← Array.forIn_toList]
  refine wpAny_forIn_list _
    (fun rest (b : Array Int) s' => ∃ done left, ks = done ++ left ∧ NestItems knd s.heap left rest ∧ b.toList = done.map (tupleKeyHash knd) ∧ s' = { s with toks := s.toks + (done.map fun k => k.length + 1).sum })
    _ ?_ ?_ _ _ ⟨[], ks, rfl, hi, rfl, rfl⟩
  · rintro x rest b s' ⟨done, left, rfl, hl, hb, rfl⟩
    cases hl with
    | @cons k _ ks' _ h1 hl' =>
      refine wpAny_bind (wpAny_pyHash_tuple (by show A.units + 1 < cLine; exact hu) h1 ?_)
      first
        | exact wpAny_pure ⟨done ++ [k], ks', by simp, hl', by simp [hb], by simp [Nat.add_assoc]⟩
        | exact wpAny_bind (wpAny_pure (wpAny_pure ⟨done ++ [k], ks', by simp, hl', by simp [hb], by simp [Nat.add_assoc]⟩))
  · rintro b s' ⟨done, left, rfl, hl, hb, rfl⟩
    cases hl
    rw [List.append_nil] at h
    show wpAny _ _ (retInt (Builtin.Tuple.tupleHashOf b.toList)) _ _ _
    rw [hb]
    refine wpAny_ret_mkInt ?_
    show wpAny _ _ (if (decide (-(2 : Int) ^ 63 ≤ Builtin.Tuple.tupleHashOf (done.map (tupleKeyHash knd))) && decide (Builtin.Tuple.tupleHashOf (done.map (tupleKeyHash knd)) < 2 ^ 63)) = true then _ else _) Q E _
    unfold nestHash reduceHash at h
    by_cases hr : (decide (-(2 : Int) ^ 63 ≤ Builtin.Tuple.tupleHashOf (done.map (tupleKeyHash knd))) && decide (Builtin.Tuple.tupleHashOf (done.map (tupleKeyHash knd)) < 2 ^ 63)) = true
    · rw [if_pos hr]
      rw [if_pos hr] at h
      exact wpAny_pure (by simpa [nestDraws, Nat.add_assoc] using h)
    · rw [if_neg hr]
      rw [if_neg hr] at h
      exact wpAny_bind (wpAny_rule (wpAny_pure (by simpa [nestDraws, Nat.add_assoc] using h)))
theorem nest_eq_tree {x y : List (List K)} {a b : Addr} {P : Fin → Shared → Prop} (hu : A.units < cLine) (hx : IsNest knd s.heap x a) (hy : IsNest knd s.heap y b) (h : P (.done (.ret (.bool (decide (x = y))))) s) :
    wpAny (model prog w) A (Builtin.«tuple.__eq__» ⟨[.ref a, .ref b], []⟩) P E s := by
  have hTb := hy.typeIs
  obtain ⟨oa, xs, na, hoa, _, hda, hia⟩ := hx
  obtain ⟨ob, ys, nb, hob, _, hdb, hib⟩ := hy
  show wpAny _ _ (isInstance (.ref b) (.type "tuple") >>= _) _ _ s
  refine wpAny_bind (wpAny_isInstance hTb isSubtype_tuple_tuple ?_)
  simp only [Bool.not_true, Bool.false_eq_true, if_false]
  refine wpAny_bind (wpAny_tupleItemsOf hoa hda ?_)
  refine wpAny_bind (wpAny_tupleItemsOf hob hdb ?_)
  refine wpAny_bind ?_
  refine wpAny_forIn_list _
    (fun rest r s' => r.1 = none ∧ s' = s ∧ ∃ x' y' xs' ys', rest = List.zip xs' ys' ∧ NestItems knd s.heap x' xs' ∧ NestItems knd s.heap y' ys' ∧ decide (x' = y') = decide (x = y) ∧ (xs'.length == ys'.length) = (xs.size == ys.size))
    _ ?_ ?_ _ _ ⟨rfl, rfl, x, y, xs.toList, ys.toList, rfl, hia, hib, rfl, by simp⟩
  · rintro ⟨u, v⟩ rest r s' ⟨hr, rfl, x', y', xs', ys', hz, hx', hy', hdec, hlen⟩
    cases hx' with
    | nil => simp at hz
    | @cons k1 u' x'' xs'' h1 hx'' =>
      cases hy' with
      | nil => simp at hz
      | @cons k2 v' y'' ys'' h2 hy'' =>
        simp only [List.zip_cons_cons, List.cons.injEq, Prod.mk.injEq] at hz
        obtain ⟨⟨rfl, rfl⟩, rfl⟩ := hz
        refine wpAny_bind (wpAny_eqBool_tuple hu h1 h2 ?_)
        by_cases hk : k1 = k2
        · subst hk
          rw [decide_eq_true rfl]
          simp only [Bool.not_true, Bool.false_eq_true, if_false]
          refine wpAny_pure ⟨rfl, rfl, x'', y'', xs'', ys'', rfl, hx'', hy'', ?_, by simpa using hlen⟩
          rw [← hdec]
          by_cases hxy : x'' = y''
          · simp [hxy]
          · simp [hxy]
        · rw [decide_eq_false hk]
          simp only [Bool.not_false, if_true]
          have hf : decide (x = y) = false := by rw [← hdec]; simp [hk]
          rw [hf] at h
          exact wpAny_bind (wpAny_pure (wpAny_pure (wpAny_pure h)))
  · rintro ⟨r1, r2⟩ s' ⟨hr, rfl, x', y', xs', ys', hz, hx', hy', hdec, hlen⟩
    simp only at hr
    subst hr
    refine wpAny_pure ?_
    have hfin : (xs.size == ys.size) = decide (x = y) := by
      rw [← hdec, ← hlen]
      cases hx' with
      | nil =>
        cases hy' with
        | nil => simp
        | cons _ _ => simp
      | cons _ _ =>
        cases hy' with
        | nil => simp
        | cons _ _ => simp at hz
    show P (.done (.ret (.bool (xs.size == ys.size)))) s'
    rw [hfin]; exact h
theorem wpAny_eqBool_nest {x y : List (List K)} {a b : Addr} {Q : Bool → Shared → Prop} (hu : A.units + 1 < cLine) (hx : IsNest knd s.heap x a) (hy : IsNest knd s.heap y b) (h : Q (decide (x = y)) s) :
    wpAny (model prog w) A (eqBool (.ref a) (.ref b)) Q E s := by
  unfold eqBool
  try with_reducible refine wpAny_holding ?_
  show wpAny _ _ (if (Value.ref a == Value.ref b) = true then _ else _) Q E s
  by_cases hab : (Value.ref a == Value.ref b) = true
  · rw [if_pos hab]
    have e : a = b := by have := eq_of_beq hab; injection this
    subst e
    obtain rfl := hx.inj hy
    exact wpAny_bind (wpAny_rule (wpAny_pure (by simpa using h)))
  · rw [if_neg hab]
    exact wpAny_bind (wpAny_richCompare_same_room (op := .Eq) hx.typeIs hy.typeIs F.slot_tuple_eq
      (wpAny_call_entry F.slot_tuple_eq hx.typeIs F.entry_tuple_eq (nest_eq_tree (by show A.units + 1 < cLine; exact hu) hx hy ⟨_, rfl, (fun e => nomatch e), wpAny_truthy_bool h⟩) (F.args_tuple_eq_2 _ _)) (by omega))
theorem quiet_tupleN (n : Nat) {ks : List K} {a : Addr} {Q : Bool → Shared → Prop} (hk : IsTupleKey knd s.heap ks a) (h : Q true s) : wpAny (model prog w) A (eqIsQuiet (n + 1) (.ref a)) Q E s := by
  have hT := hk.typeIs
  obtain ⟨o, items, m, ho, _, hd, hi⟩ := hk
  unfold eqIsQuiet
  refine wpAny_bind (wpAny_specialOf hT F.slot_tuple_eq.lookup ?_)
  show wpAny _ _ (isInstance (.ref a) (.type "tuple") >>= _) _ _ s
  refine wpAny_bind (wpAny_isInstance hT isSubtype_tuple_tuple ?_)
  simp only [Bool.not_true, Bool.false_eq_true, if_false]
  refine wpAny_bind (wpAny_seqItems ho hd ?_)
  refine wpAny_bind ?_
  show wpAny _ _ (forIn items _ _) _ _ s
  rw [← Array.forIn_toList]
  refine wpAny_forIn_list _ (fun rest r s' => r.1 = none ∧ s' = s ∧ ∀ v ∈ rest, carriedByValue v = true) _ ?_ ?_ _ _ ⟨rfl, rfl, hi.byValue⟩
  · rintro v rest r s' ⟨hr, rfl, hall⟩
    rw [eqIsQuiet_byValue _ (hall v List.mem_cons_self)]
    refine wpAny_bind (wpAny_pure ?_)
    simp only [Bool.not_true, Bool.false_eq_true, if_false]
    exact wpAny_pure ⟨rfl, rfl, fun u hu' => hall u (List.mem_cons_of_mem _ hu')⟩
  · rintro ⟨r1, r2⟩ s' ⟨hr, rfl, _⟩
    simp only at hr
    subst hr
    exact wpAny_pure h
theorem wpAny_eqIsQuiet_nest {ks : List (List K)} {a : Addr} {Q : Bool → Shared → Prop} (hk : IsNest knd s.heap ks a) (h : Q true s) : wpAny (model prog w) A (eqIsQuiet 8 (.ref a)) Q E s := by
  have hT := hk.typeIs
  obtain ⟨o, items, n, ho, _, hd, hi⟩ := hk
  unfold eqIsQuiet
  refine wpAny_bind (wpAny_specialOf hT F.slot_tuple_eq.lookup ?_)
  show wpAny _ _ (isInstance (.ref a) (.type "tuple") >>= _) _ _ s
  refine wpAny_bind (wpAny_isInstance hT isSubtype_tuple_tuple ?_)
  simp only [Bool.not_true, Bool.false_eq_true, if_false]
  refine wpAny_bind (wpAny_seqItems ho hd ?_)
  refine wpAny_bind ?_
  show wpAny _ _ (forIn items _ _) _ _ s
  rw [← Array.forIn_toList]
  refine wpAny_forIn_list _ (fun rest r s' => r.1 = none ∧ s' = s ∧ ∃ ks', NestItems knd s.heap ks' rest) _ ?_ ?_ _ _ ⟨rfl, rfl, ks, hi⟩
  · rintro v rest r s' ⟨hr, rfl, ks', hall⟩
    cases hall with
    | cons h1 t =>
      refine wpAny_bind (quiet_tupleN 6 h1 ?_)
      simp only [Bool.not_true, Bool.false_eq_true, if_false]
      exact wpAny_pure ⟨rfl, rfl, _, t⟩
  · rintro ⟨r1, r2⟩ s' ⟨hr, rfl, _⟩
    simp only at hr
    subst hr
    exact wpAny_pure h
end
def nestKind {prog : Program} {w : World} {K : Type} [DecidableEq K] (knd : KeyKind prog w K) : HeapKind prog w (List (List K)) where
  is := IsNest knd
  hash := nestHash knd
  draws := nestDraws
  room := fun A => A.units + 1 < cLine
  inj := fun hx hy => hx.inj hy
  keeps := fun x ho hd hs => x.keeps ho hd hs
  pyHash := fun hu hk h => wpAny_pyHash_nest hu hk h
  eqBool := fun hu hx hy h => wpAny_eqBool_nest hu hx hy h
  quiet := fun hk h => wpAny_eqIsQuiet_nest hk h
end PySem

/-! # dicts whose keys are tuples of tuples of ints, 2: rules -/
namespace L2.Nk
open PySem PySem.Spec PyProof.Rows
abbrev Wd := List (List Int)
/-- the key's words in order, the key's own tuple, the value -/
abbrev Ent := Wd × Addr × V
abbrev knd (P : Program) (w : World) : HeapKind P w Wd := nestKind (intKind P w)
abbrev KN : List Ent → List (Wd × Addr × Value) → Prop := Paired fun p q => p.1 = q.1 ∧ p.2.1 = q.2.1 ∧ RelV p.2.2 q.2.2
/-- at d: a dict of such keys -/
def NtO (P : Program) (w : World) (d : Addr) (xs : List Ent) : HO := .ext fun h => xs.length ≤ sizeLine ∧ (d == sysModules) = false ∧ ∃ us, KN xs us ∧
  ∃ o es ep, h.get? d = some o ∧ o.ExactDict ∧ o.data = .dict es ep ∧ es.toList = us.map (entryOfKey (knd P w)) ∧ (us.map (·.1)).Nodup
/-- at b: the tuple of the tuples k -/
def NKey (K : PySem.W.Frag) (H : Hp) (k : Wd) (b : Addr) : Prop := ∃ bs : List Addr, SqT K H b (bs.map .ref) ∧ Paired (fun c l => SqT K H c (l.map V.int)) bs k
def NKeys (K : PySem.W.Frag) (H : Hp) (xs : List Ent) : Prop := ∀ x ∈ xs, NKey K H x.1 x.2.1
def valN (xs : List Ent) (k : Wd) : Option V := (xs.find? fun x => decide (x.1 = k)).map (·.2.2)
def putN (xs : List Ent) (k : Wd) (b : Addr) (v : V) : List Ent := if (xs.any fun x => decide (x.1 = k)) = true then xs.map (fun x => if x.1 = k then (x.1, x.2.1, v) else x) else xs ++ [(k, b, v)]
theorem valN_nil {k : Wd} : valN [] k = none := rfl
theorem valN_pos {p : Ent} {r : List Ent} {k : Wd} (e : p.1 = k) : valN (p :: r) k = some p.2.2 := by simp [valN, List.find?_cons, e]
theorem valN_neg {p : Ent} {r : List Ent} {k : Wd} (e : ¬ p.1 = k) : valN (p :: r) k = valN r k := by simp [valN, List.find?_cons, e]
theorem valN_any (k : Wd) : ∀ xs : List Ent, (xs.any fun x => decide (x.1 = k)) = (valN xs k).isSome
  | [] => rfl
  | p :: r => by
    by_cases e : p.1 = k
    · rw [valN_pos e]; simp [e]
    · rw [valN_neg e, ← valN_any k r]; simp [e]
theorem length_putN (xs : List Ent) (k : Wd) (b : Addr) (v : V) : (putN xs k b v).length ≤ xs.length + 1 := by
  unfold putN
  split <;> simp
theorem KN.val {xs : List Ent} {us : List (Wd × Addr × Value)} (r : KN xs us) (k : Wd) : RelO (valN xs k) ((atKey us k).map (·.2)) := by
  induction r with
  | nil => exact True.intro
  | @cons p q ps qs h t ih =>
    obtain ⟨h1, _, h2⟩ := h
    by_cases e : p.1 = k
    · have e' : q.1 = k := h1.symm.trans e
      have b : atKey (q :: qs) k = some q.2 := by simp [atKey, List.find?_cons, e']
      rw [valN_pos e, b]; exact h2
    · have e' : ¬ q.1 = k := fun z => e (h1.trans z)
      have b : atKey (q :: qs) k = atKey qs k := by simp [atKey, List.find?_cons, e']
      rw [valN_neg e, b]; exact ih
theorem KN.repl {xs : List Ent} {us : List (Wd × Addr × Value)} (r : KN xs us) (k : Wd) {y : V} {u : Value} (ry : RelV y u) : KN (xs.map fun x => if x.1 = k then (x.1, x.2.1, y) else x) (us.map (putAt k u)) := by
  induction r with
  | nil => exact .nil
  | @cons p q ps qs h t ih =>
    rw [List.map_cons, List.map_cons]
    refine .cons ?_ ih
    obtain ⟨h1, h2, h3⟩ := h
    unfold putAt
    by_cases e : p.1 = k
    · rw [if_pos e, if_pos (h1.symm.trans e)]; exact ⟨h1, h2, ry⟩
    · rw [if_neg e, if_neg (fun z => e (h1.trans z))]; exact ⟨h1, h2, h3⟩
theorem KN.put {xs : List Ent} {us : List (Wd × Addr × Value)} (r : KN xs us) (k : Wd) {b : Addr} {y : V} {u : Value} (ry : RelV y u) : KN (putN xs k b y) (storedH us k b u) := by
  have e : (xs.any fun x => decide (x.1 = k)) = (atKey us k).isSome := by
    rw [valN_any, (r.val k).isSome_eq, Option.isSome_map]
  unfold putN storedH
  rw [e]
  by_cases q : (atKey us k).isSome = true
  · rw [if_pos q, if_pos q]; exact r.repl k ry
  · rw [if_neg q, if_neg q]; exact Paired.snoc r ⟨rfl, rfl, ry⟩
theorem NKey.mono {K : PySem.W.Frag} {H H' : Hp} {k : Wd} {b : Addr} (h : NKey K H k b) (f : ∀ c xs, SqT K H c xs → SqT K H' c xs) : NKey K H' k b := by
  obtain ⟨bs, h1, h2⟩ := h
  exact ⟨bs, f _ _ h1, Paired.mapP h2 fun _ _ e => f _ _ e⟩
/-- tuples stay where another object is written -/
theorem sqT_upd {K : PySem.W.Frag} {H : Hp} {d c : Addr} {o o' : HO} {xs : List V} (e : H d = some o) (mu : Mut (some o)) (h : SqT K H c xs) : SqT K (upd H d o') c xs := by
  rcases h with (h | ⟨ob, h⟩) | h
  · exact .inl (.inl (by rw [upd_ne (fun z => by rw [z, e] at h; cases h; exact mu)]; exact h))
  · exact .inl (.inr ⟨ob, by rw [upd_ne (fun z => by rw [z, e] at h; cases h; exact mu)]; exact h⟩)
  · exact .inr h
theorem ints_items {P : Program} {w : World} : ∀ {l : List Int} {us : List Value}, Vals (l.map V.int) us → ItemsAre (intKind P w) l us
  | [], _, h => by cases h; exact .nil
  | i :: l, _, h => by
    cases h with
    | cons h1 h2 =>
      obtain ⟨t, rfl⟩ := h1
      exact .cons (by show Value.isInt i (.int i t) = true; simp [Value.isInt]) (ints_items h2)
section
variable {X : Cx} {pins : List (Addr × Obj)} {σ : St} {H : Hp} {s : Shared}
theorem nkey_at (I : Inv X pins σ H s) {k : Wd} {b : Addr} (h : NKey X.K H k b) : (knd X.prog X.w).is s.heap k b := by
  obtain ⟨bs, h1, h2⟩ := h
  obtain ⟨its, r, ⟨o, e, hc, n, hd⟩, hz⟩ := I.tuple h1
  refine ⟨o, its.toArray, n, e, hc, hd, ?_⟩
  have : its.toArray.toList = its := by simp
  rw [this]
  clear hd e hc h1 this hz
  induction h2 generalizing its with
  | nil => cases r; exact .nil
  | cons ha _ ih =>
    cases r with
    | cons r1 r2 =>
      cases r1
      obtain ⟨us, ru, ⟨o1, e1, c1, n1, d1⟩, _⟩ := I.tuple ha
      exact .cons ⟨o1, us.toArray, n1, e1, c1, d1, by simpa using ints_items ru⟩ (ih _ r2)
theorem nt_ok {P : Program} {w : World} {h : Heap} {d : Addr} {xs : List Ent} {H : Hp} (x : ObjOk P w H h d (NtO P w d xs)) : xs.length ≤ sizeLine ∧ (d == sysModules) = false ∧ ∃ us, KN xs us ∧
    ∃ o es ep, h.get? d = some o ∧ o.ExactDict ∧ o.data = .dict es ep ∧ es.toList = us.map (entryOfKey (knd P w)) ∧ (us.map (·.1)).Nodup := by
  have y : ObjOk P w H h d (.ext _) := x
  exact y.1
theorem nt_mk {P : Program} {w : World} {h : Heap} {d : Addr} {xs : List Ent} {us : List (Wd × Addr × Value)} {H : Hp} {o : Obj} {es : Array DictEntry} {ep : Nat} (z : xs.length ≤ sizeLine) (hd : (d == sysModules) = false) (r : KN xs us) (e : h.get? d = some o) (x : o.ExactDict) (dt : o.data = .dict es ep) (en : es.toList = us.map (entryOfKey (knd P w))) (nd : (us.map (·.1)).Nodup) :
    ObjOk P w H h d (NtO P w d xs) := by
  refine ⟨⟨z, hd, us, r, o, es, ep, e, x, dt, en, nd⟩, ⟨o, e⟩, fun h1 h2 q k => ?_⟩
  obtain ⟨z, hd, us, r, o, es, ep, e, x, dt, en, nd⟩ := q
  exact ⟨z, hd, us, r, o, es, ep, k _ e, x, dt, en, nd⟩
theorem nd_rd (I : Inv X pins σ H s) {d : Addr} {xs : List Ent} (e : Rd H d (NtO X.prog X.w d xs)) (hk : NKeys X.K H xs) : xs.length ≤ sizeLine ∧ (d == sysModules) = false ∧ ∃ us, KN xs us ∧ s.heap.DictOfH (knd X.prog X.w) d us := by
  obtain ⟨z, hd, us, r, o, es, ep, h1, h2, h3, h4, h5⟩ := nt_ok (e.ok I.hok)
  refine ⟨z, hd, us, r, o, es, ep, h1, h2, h3, h4, ?_, h5⟩
  clear h4 h5 z e
  induction r with
  | nil => intro x hx; exact nomatch hx
  | @cons p q ps qs hq t ih =>
    intro x hx
    rcases List.mem_cons.mp hx with e | hx
    · subst e
      have := nkey_at I (hk p List.mem_cons_self)
      rw [hq.1, hq.2.1] at this
      exact this
    · exact ih (fun y hy => hk y (List.mem_cons_of_mem _ hy)) x hx
end
/-- what the dict at a holds at the key y -/
def NGet (P : Program) (w : World) (K : PySem.W.Frag) (H : Hp) (a : Addr) (y : V) (r : Option V) : Prop := ∃ xs k b, Rd H a (NtO P w a xs) ∧ NKeys K H xs ∧ y = .ref b ∧ NKey K H k b ∧ r = valN xs k
/-- the heap behind a[y] = v -/
def NPut (P : Program) (w : World) (K : PySem.W.Frag) (H : Hp) (a : Addr) (y v : V) (H' : Hp) : Prop := ∃ xs k b, H a = some (NtO P w a xs) ∧ NKeys K H xs ∧ y = .ref b ∧ NKey K H k b ∧ xs.length < sizeLine ∧ H' = upd H a (NtO P w a (putN xs k b v))
section
variable {X : Cx} {pins : List (Addr × Obj)} {σ : St} {H : Hp} {s : Shared} {a : Addr} {y v d : V} {u r : Value} {o : Option V} {A : Around} {E : Value → Shared → Prop}
theorem n_getItem {Q : Value → Shared → Prop} (hu : A.units + 2 < cLine) (I : Inv X pins σ H s) (g : NGet X.prog X.w X.K H a y (some v)) (ry : RelV y u) (h : ∀ w' s', Inv X pins σ H s' → RelV v w' → Q w' s') :
    wpAny (model X.prog X.w) A (getItem (.ref a) u) Q E s := by
  obtain ⟨xs, k, b, e, hk, ey, eb, l⟩ := g
  subst ey
  cases (show u = Value.ref b from ry)
  obtain ⟨z, hd, us, rel, dd⟩ := nd_rd I e hk
  obtain ⟨w', hw, rw'⟩ := RelO.some_of (v := v) (o := (atKey us k).map (·.2)) (by rw [l]; exact rel.val k)
  obtain ⟨p, hp, hp2⟩ := Option.map_eq_some_iff.mp hw
  refine wpAny_getItem_heap (by show A.units + 1 + 1 < cLine; exact hu) (nkey_at I eb) dd hp ?_
  rw [hp2]
  exact h w' _ (I.tok _) rw'
theorem n_in {Q : Value → Shared → Prop} (hu : A.units + 2 < cLine) (I : Inv X pins σ H s) (g : NGet X.prog X.w X.K H a y o) (ry : RelV y u) (h : ∀ s', Inv X pins σ H s' → Q (.bool o.isSome) s') :
    wpAny (model X.prog X.w) A (compareOp .In u (.ref a)) Q E s := by
  obtain ⟨xs, k, b, e, hk, ey, eb, l⟩ := g
  subst ey
  cases (show u = Value.ref b from ry)
  obtain ⟨z, hd, us, rel, dd⟩ := nd_rd I e hk
  refine wpAny_in_heap (by show A.units + 1 + 1 < cLine; exact hu) (nkey_at I eb) hd dd ?_
  have q := (rel.val k).isSome_eq
  rw [Option.isSome_map] at q
  rw [← q, ← l]
  exact h _ (I.tok _)
theorem n_notIn {Q : Value → Shared → Prop} (hu : A.units + 2 < cLine) (I : Inv X pins σ H s) (g : NGet X.prog X.w X.K H a y o) (ry : RelV y u) (h : ∀ s', Inv X pins σ H s' → Q (.bool (!o.isSome)) s') :
    wpAny (model X.prog X.w) A (compareOp .NotIn u (.ref a)) Q E s := by
  obtain ⟨xs, k, b, e, hk, ey, eb, l⟩ := g
  subst ey
  cases (show u = Value.ref b from ry)
  obtain ⟨z, hd, us, rel, dd⟩ := nd_rd I e hk
  refine wpAny_notIn_heap (by show A.units + 1 + 1 < cLine; exact hu) (nkey_at I eb) hd dd ?_
  have q := (rel.val k).isSome_eq
  rw [Option.isSome_map] at q
  rw [← q, ← l]
  exact h _ (I.tok _)
theorem n_setItem {H' : Hp} {Q : Unit → Shared → Prop} (hu : A.units + 2 < cLine) (I : Inv X pins σ H s) (g : NPut X.prog X.w X.K H a y v H') (ry : RelV y u) (rv : RelV v r) (h : ∀ s', Inv X pins σ H' s' → Q () s') :
    wpAny (model X.prog X.w) A (setItem (.ref a) u r) Q E s := by
  obtain ⟨xs, k, b, e, hk, ey, eb, l, eH⟩ := g
  subst ey eH
  cases (show u = Value.ref b from ry)
  obtain ⟨z, hd, us, rel, dd⟩ := nd_rd I (.inl e) hk
  have hz : us.length ≤ sizeLine := by rw [← Paired.length rel]; exact z
  have hl : (putN xs k b v).length ≤ sizeLine := by have := length_putN xs k b v; omega
  refine wpAny_setItem_heap (hsz := hz) (by show A.units + 1 + 1 < cLine; exact hu) (nkey_at I eb) dd fun h' dd' hs => h _ ?_
  obtain ⟨q, es, ep, hq, h2, h3, h4, _, h5⟩ := dd'
  exact d_write I (by rw [e]; exact True.intro) hs ⟨q, hq⟩ (nt_mk hl hd (rel.put k rv) hq h2 h3 h4 h5)
theorem n_get2 {Q : Value → Shared → Prop} (hu : A.units + 2 < cLine) (I : Inv X pins σ H s) (g : NGet X.prog X.w X.K H a y o) (ry : RelV y u) (rd : RelV d r) (h : ∀ w' s', Inv X pins σ H s' → RelV (o.getD d) w' → Q w' s') :
    wpAny (model X.prog X.w) A (call (.builtin "dict.get") [.ref a, u, r]) Q E s := by
  obtain ⟨xs, k, b, e, hk, ey, eb, l⟩ := g
  subst ey
  cases (show u = Value.ref b from ry)
  obtain ⟨z, hd, us, rel, dd⟩ := nd_rd I e hk
  refine call_meetsIn PySem.F.slot_dict_get dd.typeIs PySem.F.entry_dict_get (PySem.F.args_dict_get_3 _ _ _) (meetsH_dict_get_default (knd X.prog X.w) a b hd r) ⟨by show A.units + 1 + 1 < cLine; exact hu, k, us, nkey_at I eb, dd, h _ _ (I.tok _) ?_⟩
  rw [l]
  exact (rel.val k).getD rd
theorem nd_type (I : Inv X pins σ H s) {xs : List Ent} (e : Rd H a (NtO X.prog X.w a xs)) : s.TypeIs (.ref a) "dict" ∧ (∀ b, Value.ref a = .ref b → ∃ ob, s.heap.get? b = some ob ∧ ob.dict = none) := by
  obtain ⟨z, hd, us, r, o, es, ep, h1, h2, h3, h4, h5⟩ := nt_ok (e.ok I.hok)
  exact ⟨⟨o, h1, h2.1⟩, fun b q => by cases q; exact ⟨o, h1, h2.2.1⟩⟩
end
/-! ### as rules -/
def tNGet (P : Program) (w : World) (K : PySem.W.Frag) (td ty : TE) : TE := fun σ H Q => td σ H fun x H1 => ty σ H1 fun y H2 => ∃ a v, x = .ref a ∧ NGet P w K H2 a y (some v) ∧ Q v H2
def tNIn (P : Program) (w : World) (K : PySem.W.Frag) (ty td : TE) : TE := fun σ H Q => ty σ H fun y H1 => td σ H1 fun x H2 => ∃ a o, x = .ref a ∧ NGet P w K H2 a y o ∧ Q (.bl o.isSome) H2
def tNNotIn (P : Program) (w : World) (K : PySem.W.Frag) (ty td : TE) : TE := fun σ H Q => ty σ H fun y H1 => td σ H1 fun x H2 => ∃ a o, x = .ref a ∧ NGet P w K H2 a y o ∧ Q (.bl (!o.isSome)) H2
def sNPut (P : Program) (w : World) (K : PySem.W.Frag) (td ty tv : TE) : TS := fun D σ H => tv σ H fun v H1 => td σ H1 fun x H2 => ty σ H2 fun y H3 => ∃ a H4, x = .ref a ∧ NPut P w K H3 a y v H4 ∧ D.nx σ H4
def tNGet2 (P : Program) (w : World) (K : PySem.W.Frag) (td ty tx : TE) : TE := fun σ H Q => td σ H fun x H1 => ∃ a, x = .ref a ∧ (∃ xs, Rd H1 a (NtO P w a xs)) ∧ ty σ H1 fun y H2 => tx σ H2 fun z H3 => ∃ o, NGet P w K H3 a y o ∧ Q (o.getD z) H3
def tNNew (P : Program) (w : World) : TE := fun _ H Q => ∀ p, H p = none → Q (.ref p) (upd H p (NtO P w p []))
section
variable {X : Cx} {o i e f value : Expr} {pos pos' tpos apos cpos : Pos} {td ty tv tx : TE}
theorem pe_nnew : PE X (.Dict [] [] pos) (tNNew X.prog X.w) := ⟨fun pins s σ H Q I h =>
  wpAny_Dict_empty ⟨.ref s.heap.objs.size, _, I.laid (a := s.heap.objs.size) (o := NtO X.prog X.w s.heap.objs.size []) (t' := s.toks) (fun _ _ q => Heap.get?_push_of_some _ q) (Nat.le_refl _)
    (nt_mk (us := []) (es := #[]) (ep := 0) (Nat.zero_le _) (beq_eq_false_iff_ne.mpr (Ne.symm (Nat.ne_of_lt I.big))) .nil (Heap.get?_push_size _ rfl) ⟨rfl, rfl, rfl⟩ rfl rfl List.nodup_nil), rfl, h _ (I.hok.fresh (Nat.le_refl _))⟩⟩
theorem pe_nget (hu : X.A.units + 2 < cLine) (ho : PE X o td) (hi : PE X i ty) (hs : NoSl i) : PE X (.Subscript o i pos) (tNGet X.prog X.w X.K td ty) := by
  refine ⟨fun pins s σ H Q I h => ?_⟩
  refine subD_of PySem.F.slot_dict_getitem.lookup hs (thn (ho.run pins s σ H _ I h) fun u s1 ⟨x, H1, I1, rx, q1⟩ => thn (hi.run pins s1 σ H1 _ I1 q1) fun iv s2 ⟨y, H2, I2, ry, a, v, ex, g, q2⟩ => ?_)
  subst ex
  obtain rfl : u = Value.ref a := rx
  obtain ⟨xs, _, _, e, _⟩ := id g
  exact ⟨(nd_type I2 e).1, n_getItem hu I2 g ry fun w' s3 I3 rw' => ⟨v, H2, I3, rw', q2⟩⟩
theorem pc_nin (hu : X.A.units + 2 < cLine) (hi : PE X i ty) (ho : PE X o td) : PC X .In i o (tNIn X.prog X.w X.K ty td) := by
  refine ⟨fun pins s σ H Q I h => ?_⟩
  refine thn (hi.run pins s σ H _ I h) fun iv s1 ⟨y, H1, I1, ry, q1⟩ => thn (ho.run pins s1 σ H1 _ I1 q1) fun u s2 ⟨x, H2, I2, rx, a, ov, ex, g, q2⟩ => ?_
  subst ex
  obtain rfl : u = Value.ref a := rx
  exact n_in hu I2 g ry fun s3 I3 => ⟨.bl ov.isSome, H2, I3, rfl, q2⟩
theorem pc_nnotin (hu : X.A.units + 2 < cLine) (hi : PE X i ty) (ho : PE X o td) : PC X .NotIn i o (tNNotIn X.prog X.w X.K ty td) := by
  refine ⟨fun pins s σ H Q I h => ?_⟩
  refine thn (hi.run pins s σ H _ I h) fun iv s1 ⟨y, H1, I1, ry, q1⟩ => thn (ho.run pins s1 σ H1 _ I1 q1) fun u s2 ⟨x, H2, I2, rx, a, ov, ex, g, q2⟩ => ?_
  subst ex
  obtain rfl : u = Value.ref a := rx
  exact n_notIn hu I2 g ry fun s3 I3 => ⟨.bl (!ov.isSome), H2, I3, rfl, q2⟩
theorem ps_nput (hu : X.A.units + 2 < cLine) (ho : PE X o td) (hi : PE X i ty) (hv : PE X value tv) (hs : swapsWith value (some (.Subscript o i pos')) pos.line X.env = pure false) :
    PS X (.Assign [.Subscript o i pos'] value pos) (sNPut X.prog X.w X.K td ty tv) := by
  refine ⟨fun pins s σ H D I h => ?_⟩
  refine wpAny_Assign_Subscript (thn (hv.run pins s σ H _ I h) fun r s1 ⟨v, H1, I1, rv, q1⟩ => thn (ho.run pins s1 σ H1 _ I1 q1) fun u s2 ⟨x, H2, I2, rx, q2⟩ => thn (hi.run pins s2 σ H2 _ I2 q2) fun iv s3 ⟨y, H3, I3, ry, a, H4, ex, g, q3⟩ => ?_) hs
  subst ex
  obtain rfl : u = Value.ref a := rx
  exact n_setItem hu I3 g ry rv fun s4 I4 => ⟨σ, H4, I4, q3⟩
theorem pe_nget2 (hu : X.A.units + 2 < cLine) (ho : PE X o td) (he : PE X e ty) (hf : PE X f tx) (m : M2 X o "get" apos e f cpos) : PE X (.Call (.Attribute o "get" apos) [e, f] [] cpos) (tNGet2 X.prog X.w X.K td ty tx) := by
  refine ⟨fun pins s σ H Q I h => ?_⟩
  refine wpAny_Call_method m.base m.few m.line PySem.F.plainAttrs_dict PySem.F.slot_dict_get PySem.F.type_dict_get (thn (ho.run pins s σ H _ I h) fun u s1 ⟨x, H1, I1, rx, a, ex, ⟨xs, d⟩, q1⟩ => ?_)
  subst ex
  obtain rfl : u = Value.ref a := rx
  obtain ⟨t1, t2⟩ := nd_type I1 d
  refine ⟨t1, t2, ?_⟩
  rw [m.trees]
  refine Calls.callWith_builtin rfl (Calls.evalArgs_plain (Calls.spliced_cons (thn (he.run pins s1 σ H1 _ I1 q1) fun iv s2 ⟨y, H2, I2, ry, q2⟩ =>
    Calls.spliced_cons (thn (hf.run pins s2 σ H2 _ I2 q2) fun fv s3 ⟨z, H3, I3, rz, ov, g, q3⟩ => Calls.spliced_nil ?_))))
  exact n_get2 hu I3 g ry rz fun w' s4 I4 rw' => ⟨_, H3, I4, rw', q3⟩
end
end L2.Nk

/-! # dicts whose keys are tuples of tuples of ints, 3: their keys walked -/
namespace L2.Nk
open PySem PySem.Spec PyProof.Rows
/-- the keys of the locked dict at d, each its own tuple -/
def Itkn (P : Program) (w : World) (d : Addr) (o : Obj) (xs : List Ent) : It :=
  ⟨fun i H => H d = some (.frz o (NtO P w d xs)) ∧ i < xs.length, fun i H x H' => H' = H ∧ ∃ e, xs[i]? = some e ∧ x = .ref e.2.1, fun i H => H d = some (.frz o (NtO P w d xs)) ∧ xs.length ≤ i⟩
section
variable {X : Cx} {pins : List (Addr × Obj)} {σ : St} {H : Hp} {s : Shared} {d : Addr} {o : Obj}
theorem kn_get {xs : List Ent} {us : List (Wd × Addr × Value)} (r : KN xs us) : ∀ {i : Nat} {e : Ent}, xs[i]? = some e → ∃ q, us[i]? = some q ∧ q.2.1 = e.2.1 := by
  induction r with
  | nil => intro i e h; simp at h
  | cons h _ ih =>
    intro i e he
    cases i with
    | zero => simp at he; subst he; exact ⟨_, rfl, h.2.1.symm⟩
    | succ j => simpa using ih (by simpa using he)
theorem frzN {xs : List Ent} (I : Inv X pins σ H s) (h : H d = some (.frz o (NtO X.prog X.w d xs))) : (d == sysModules) = false ∧ s.heap.get? d = some o ∧ o.ExactDict ∧ ∃ (es : Array DictEntry) (ep : Nat), o.data = .dict es ep ∧ es.size = xs.length ∧
    ∀ (i : Nat) (e : Ent), xs[i]? = some e → ∃ en : DictEntry, es[i]? = some en ∧ en.key = .ref e.2.1 := by
  obtain ⟨hd, y⟩ := (show ObjOk X.prog X.w H s.heap d (.frz o (NtO X.prog X.w d xs)) from I.hok d _ h)
  obtain ⟨z, hs, us, rel, o', es, ep, ho, hx, hdt, he, _⟩ := nt_ok y
  rw [hd] at ho
  cases ho
  refine ⟨hs, hd, hx, es, ep, hdt, ?_, fun i e q => ?_⟩
  · have l2 : xs.length = us.length := Paired.length rel
    have l1 : es.toList.length = us.length := by rw [he, List.length_map]
    rw [Array.length_toList] at l1
    omega
  · obtain ⟨q', h1, h2⟩ := kn_get rel q
    have : es.toList[i]? = some (entryOfKey (knd X.prog X.w) q') := by rw [he, List.getElem?_map, h1]; rfl
    rw [Array.getElem?_toList] at this
    exact ⟨_, this, by show Value.ref q'.2.1 = _; rw [h2]⟩
end
section
variable {P : Program} {w : World} {K : PySem.W.Frag} {tg : Expr} {d : Addr} {o : Obj} {es : Array DictEntry} {ep : Nat}
theorem turn_keysN {xs : List Ent} (it : Addr) (hod : o.data = .dict es ep) : Turn P w K tg (Itkn P w d o xs) [it] it (fun i h => h.IsKeyIter it d i xs.length ep) where
  mem := by simp
  obj := fun i h st b hb => by
    have e : b = it := by simpa using hb
    subst e
    obtain ⟨oi, e, c, dd⟩ := st
    exact ⟨oi, e, fun v z => by rw [dd] at z; cases z⟩
  keep := fun i h h' st k => st.at fun oi e => k it (by simp) oi e
  item := by
    intro X hP hw hK hc i pins s σ H E I hf st hg
    subst hP hw hK
    obtain ⟨hd, hi⟩ := hg
    obtain ⟨f0, f1, f2, f3, f4, f5⟩ := hf it (by simp)
    obtain ⟨hs, hgd, hx, es', ep', hdt, hsz, ent⟩ := frzN I hd
    obtain ⟨rfl, rfl⟩ := dict_ep hod hdt
    obtain ⟨e, he⟩ : ∃ p, xs[i]? = some p := ⟨xs[i], List.getElem?_eq_getElem hi⟩
    obtain ⟨en, hen, hkey⟩ := ent i e he
    refine next_key_item st hgd hdt hsz hen fun h' st' sb => ?_
    have I1 : Inv X pins σ H { s with heap := h' } := I.turned (t' := s.toks) (fun b ob hb e => (sb.2 b hb).trans e) f0 f1 f3 f4 f5
    obtain ⟨oi, e1, c, dd⟩ := id st'
    exact ⟨en.key, rfl, go_of (s := { s with heap := h' }) e1 c dd (by decide) ⟨.ref e.2.1, H, I1, hkey, ⟨rfl, e, he, rfl⟩, st', fun b hb => (hf b hb).1⟩⟩
  done := by
    intro X hP hw hK hc i pins s σ H E I hf st hg
    subst hP hw hK
    obtain ⟨hd, hi⟩ := hg
    obtain ⟨f0, f1, f2, f3, f4, f5⟩ := hf it (by simp)
    obtain ⟨hs, hgd, hx, es', ep', hdt, hsz, ent⟩ := frzN I hd
    obtain ⟨rfl, rfl⟩ := dict_ep hod hdt
    exact next_key_end (I.ok.hd hc) st hgd hdt hsz hi fun h' eb => ⟨rfl, I.turned (t' := s.toks) (fun b ob hb e => eb b ob hb e) f0 f1 f3 f4 f5⟩
  self := fun A i s Q E st h => by
    refine wpAny_pyIter_slot st.typeIs F.slot_dict_keyiterator_iter (wpAny_call_entry F.slot_dict_keyiterator_iter st.typeIs F.entry_dict_keyiterator_iter ?_ (F.args_dict_keyiterator_iter_1 _))
    show wpAny _ _ (ret (.ref it)) _ _ s
    exact wpAny_pure ⟨_, rfl, "dict_keyiterator", _, st.typeIs, F.slot_dict_keyiterator_next.lookup, h⟩
theorem walk_keysN {xs : List Ent} : Walk (Itkn P w d o xs) xs.length (fun H => H d = some (.frz o (NtO P w d xs))) (fun i H x H' => H' = H ∧ ∃ e, xs[i]? = some e ∧ x = .ref e.2.1) :=
  ⟨fun _ _ hi q => ⟨q, hi⟩, fun _ q => ⟨q, Nat.le_refl _⟩, fun _ _ _ _ _ _ y => y⟩
end
def iKeysN (P : Program) (w : World) (td : TE) : TI := fun σ H R => td σ H fun x H1 => ∃ d o xs, x = .ref d ∧ H1 d = some (.frz o (NtO P w d xs)) ∧ R (Itkn P w d o xs) H1
section
variable {X : Cx} {tg e : Expr} {td : TE}
theorem pi_keysN (he : PE X e td) : PI X tg e (iKeysN X.prog X.w td) := by
  refine ⟨fun pins s σ H R I h => ?_⟩
  refine thn (he.run pins s σ H _ I h) fun u s1 ⟨x, H1, I1, rx, d, o, xs, ex, hd, q⟩ => ?_
  subst ex
  obtain rfl : u = Value.ref d := rx
  obtain ⟨hs, hgd, hx, es, ep, hdt, hsz, ent⟩ := frzN I1 hd
  refine iter_keys hs hgd hx hdt (pi_one (tk := s1.toks) I1 _ (turn_keysN _ hdt) ⟨_, Heap.get?_push_size _ rfl, rfl, ?_⟩ q)
  rw [hsz] <;> rfl
end
end L2.Nk

/-! # sorted(xs, key=lambda t: (len(t[1]), t[1])): the key -/
namespace L2.Nk
open PySem PySem.Spec PyProof.Rows
/-- the key's data -/
def dLine (l : List Int) : PyData := .tuple (l.map .int)
def dWord (k : Wd) : PyData := .tuple (k.map dLine)
def dKey (k : Wd) : PyData := .tuple [.int k.length, dWord k]
abbrev kArgs (y : Str) (p1 : Pos) : Arguments := { posonlyargs := [], args := [{ arg := y, annotation := none, pos := p1 : PySem.Arg }], vararg := none, kwonlyargs := [], kw_defaults := [], kwarg := none, defaults := [] }
abbrev kBody (y : Str) (p2 p3 p4 p5 p6 p7 p8 p9 p10 : Pos) : Expr :=
  .Tuple [.Call (.Name "len" p2) [.Subscript (.Name y p3) (.Constant (.int 1) 0 p4) p5] [] p6, .Subscript (.Name y p7) (.Constant (.int 1) 0 p8) p9] 0 p10
section
variable {prog : Program} {w : World} {A : Around} {E : Value → Shared → Prop} {s : Shared} {env : Env} {m mg mb : Str → Option Value} {y : Str} {t b : Addr} {c : Value} {items : Array Value} {Q : Value → Shared → Prop}
theorem k_item {p q r : Pos} (hk : env.scope.kind = .function) (hl : env.kindOf y = some .local) (hn : s.heap.Ns env.locals m) (hv : m y = some (.ref t)) (ht : IsTup s.heap t #[c, .ref b]) (hd : (y == ("__debug__" : Str)) = false)
    (h : Q (.ref b) { s with toks := s.toks + 1 }) : wpAny (model prog w) A (eval (.Subscript (.Name y p) (.Constant (.int 1) 0 q) r) env) Q E s := by
  refine Subscript_ (wpAny_Name (wpAny_loadName_local hk hl hn hv (wpAny_Constant_int ?_)) hd)
  exact subscriptTail_builtinR (x := .ref b) (s := { s with toks := s.toks + 1 }) ht.typeIs slot_tuple_getitem.lookup
    (getItem_tuple (s := { s with toks := s.toks + 1 }) (j := 1) (items := #[c, .ref b]) ht (by decide) (by decide) rfl rfl ⟨rfl, h⟩)
theorem k_body {p2 p3 p4 p5 p6 p7 p8 p9 p10 : Pos} (hk : env.scope.kind = .function) (hl : env.kindOf y = some .local) (hg : env.kindOf ("len" : Str) = some .globalImplicit) (hn : s.heap.Ns env.locals m) (hv : m y = some (.ref t))
    (ng : s.heap.Ns env.globals mg) (hm : mg ("len" : Str) = none) (nb : s.heap.Ns env.builtins mb) (hb : mb ("len" : Str) = some (.builtin "len"))
    (ht : IsTup s.heap t #[c, .ref b]) (hw : IsTup s.heap b items) (hz : items.size ≤ sizeLine) (hd : (y == ("__debug__" : Str)) = false)
    (h : ∀ (n tk : Nat), Q (.ref s.heap.objs.size) { s with heap := s.heap.push { cls := .type "tuple", data := .seq #[.int items.size n, .ref b] }, toks := tk }) :
    wpAny (model prog w) A (eval (kBody y p2 p3 p4 p5 p6 p7 p8 p9 p10) env) Q E s := by
  have hs := sizeLine_eq
  refine wpAny_Tuple_spliced ?_
  show wpAny _ _ (spliced ((false, eval (.Call (.Name "len" p2) [.Subscript (.Name y p3) (.Constant (.int 1) 0 p4) p5] [] p6) env) :: backTo p10 (starEach [.Subscript (.Name y p7) (.Constant (.int 1) 0 p8) p9] env))) _ _ s
  refine Calls.spliced_cons (wpAny_Call_Name_kw (Calls.Name_function_global hk hg (Calls.loadGlobal_builtin ng hm nb hb ?_)))
  refine PyProof.Rows.callWith_builtin1 ?_ (by rfl) (by rfl)
  show wpAny _ _ (spliced ((false, eval (.Subscript (.Name y p3) (.Constant (.int 1) 0 p4) p5) env) :: backTo p6 (starEach [] env))) _ _ s
  refine Calls.spliced_cons (k_item hk hl hn hv ht hd (Calls.spliced_nil ?_))
  refine len_tuple (s := { s with toks := s.toks + 1 }) hw (by omega) ?_
  show wpAny _ _ (spliced ((false, eval (.Subscript (.Name y p7) (.Constant (.int 1) 0 p8) p9) env) :: backTo p10 (starEach [] env))) _ _ _
  refine Calls.spliced_cons (k_item (s := { s with toks := s.toks + 1 + 1 + 1 }) hk hl hn hv ht hd (Calls.spliced_nil ⟨by show 2 ≤ _; omega, h _ _⟩))
/-- the lambda called with one item: the key, all that was there is kept -/
theorem k_turn {p1 p2 p3 p4 p5 p6 p7 p8 p9 p10 : Pos} {f c' : Addr} {qual : Str} {scope : Scope} {cl : List (Str × Addr)} {pm ctv : Value} {k : Wd}
    (room : A.depth < recursionLimit) (hf : s.heap.get? f = some (PySem.W.kla_obj "<lambda>" qual (kArgs y p1) (kBody y p2 p3 p4 p5 p6 p7 p8 p9 p10) scope cl pm c' ctv)) (hcd : s.heap.CodeRec (.ref c') qual) (lim : s.heap.NoLimit)
    (hbind : bindArgs (PySem.W.kla_fn "<lambda>" qual (kArgs y p1) (kBody y p2 p3 p4 p5 p6 p7 p8 p9 p10) scope cl pm (.ref c') ctv) ⟨[.ref t], []⟩ = pure [(y, .ref t)])
    (hk : scope.kind = .function) (hco : scope.isCoroutine = false) (hgen : scope.isGenerator = false) (hnc : ∀ x ∈ scope.names, x.2 ≠ .cell) (hl : scope.names.lookup y = some .local) (hg : scope.names.lookup ("len" : Str) = some .globalImplicit)
    (ng : s.heap.Ns mainGlobals mg) (hm : mg ("len" : Str) = none) (nb : s.heap.Ns builtinsNs mb) (hb : mb ("len" : Str) = some (.builtin "len"))
    (ht : IsTup s.heap t #[c, .ref b]) (hw : IsTup s.heap b items) (hz : items.size ≤ sizeLine) (hlen : items.size = k.length) (rd : Reads s.heap (.ref b) (dWord k) []) (hd : (y == ("__debug__" : Str)) = false) :
    wpAny (model prog w) A (call (.ref f) [.ref t]) (PySem.W.KeyPure (dKey k) s) (fun _ _ => False) s := by
  refine wpAny_call (PySem.W.kla_callFunE room hf rfl hco hgen rfl hcd ?_)
  rw [hbind]
  refine wpAny_pure (wpAny_newFunctionEnv hnc (fun x hx => by rw [List.mem_singleton.mp hx]; exact hl) (fun h₁ hns hsb => ⟨lim.fresh _ hsb, ?_⟩) hk)
  have kp : ∀ b o, s.heap.get? b = some o → h₁.get? b = some o := fun b o e => hsb.extBut b o (Nat.ne_of_lt (Heap.lt_size e)) (Heap.get?_push_of_some _ e)
  refine PySem.W.kla_codeExpr ?_
  refine k_body (s := { s with heap := h₁, toks := s.toks + 1 }) (m := fun x => [(y, Value.ref t)].reverse.lookup x) (mg := mg) (mb := mb) (t := t) (b := b) (c := c) (items := items) hk hl hg hns (by simp) (ng.keeps kp) hm (nb.keeps kp) hb (ht.keeps kp) (hw.keeps kp) hz hd fun n tk => ?_
  refine ⟨_, tk, rfl, fun b o e => Heap.get?_push_of_some _ (kp b o e), ?_⟩
  refine .tuple (Heap.get?_push_size _ rfl) rfl rfl ?_
  show ReadsAll _ [.int items.size n, .ref b] [.int k.length, dWord k] []
  rw [hlen]
  exact .cons (.int _ _) (.cons (PyProof.Rows.Reads.keeps (fun b o e => Heap.get?_push_of_some _ (kp b o e)) rd) .nil)
end
end L2.Nk

/-! # sorted(xs, key=lambda t: (len(t[1]), t[1])): the keys as data -/
namespace L2.Nk
open PySem PySem.Spec PyProof.Rows
theorem rd_ints {h : Heap} : ∀ {l : List Int} {us : List Value}, Vals (l.map V.int) us → ReadsAll h us (l.map PyData.int) []
  | [], _, e => by cases e; exact .nil
  | i :: l, _, e => by
    cases e with
    | cons h1 h2 =>
      obtain ⟨t, rfl⟩ := h1
      exact .cons (.int i t) (rd_ints h2)
theorem alike_ints : ∀ (l l' : List Int), PySem.W.alikeAll (l.map PyData.int) (l'.map PyData.int) = true
  | [], _ => by simp [PySem.W.alikeAll]
  | _ :: _, [] => by simp [PySem.W.alikeAll]
  | a :: l, b :: l' => by simp [PySem.W.alikeAll, PySem.W.alike, alike_ints l l']
theorem alike_lines : ∀ (k k' : Wd), PySem.W.alikeAll (k.map dLine) (k'.map dLine) = true
  | [], _ => by simp [PySem.W.alikeAll]
  | _ :: _, [] => by simp [PySem.W.alikeAll]
  | a :: l, b :: l' => by simp [PySem.W.alikeAll, dLine, PySem.W.alike, alike_ints a b, alike_lines l l']
theorem alike_keys (k k' : Wd) : PySem.W.alike (dKey k) (dKey k') = true := by
  simp [dKey, dWord, PySem.W.alike, PySem.W.alikeAll, alike_lines k k']
theorem deep_ints : ∀ l : List Int, PyData.depthAll (l.map PyData.int) ≤ 1
  | [] => by simp [PyData.depthAll]
  | a :: l => by have := deep_ints l; simp [PyData.depthAll, PyData.depth] <;> omega
theorem deep_lines : ∀ k : Wd, PyData.depthAll (k.map dLine) ≤ 3
  | [] => by simp [PyData.depthAll]
  | a :: l => by
    have h1 := deep_lines l
    have h2 := deep_ints a
    simp only [List.map_cons, PyData.depthAll, dLine, PyData.depth]
    omega
theorem deep_key (k : Wd) : (dKey k).depth ≤ 8 := by
  have h1 := deep_lines k
  simp only [dKey, dWord, PyData.depth, PyData.depthAll]
  omega
section
variable {X : Cx} {pins : List (Addr × Obj)} {σ : St} {H H' : Hp} {s : Shared}
theorem rd_line (I : Inv X pins σ H s) {c : Addr} {l : List Int} (h : SqT X.K H c (l.map V.int)) : Reads s.heap (.ref c) (dLine l) [] := by
  obtain ⟨us, r, ⟨o, e, hc, n, hd⟩, _⟩ := I.tuple h
  exact .tuple e hc hd (by simpa using rd_ints r)
theorem rd_lines (I : Inv X pins σ H s) {bs : List Addr} {k : Wd} (h : Paired (fun c l => SqT X.K H c (l.map V.int)) bs k) : ∀ {its : List Value}, Vals (bs.map V.ref) its → ReadsAll s.heap its (k.map dLine) [] := by
  induction h with
  | nil => intro its r; cases r; exact .nil
  | cons h1 _ ih =>
    intro its r
    cases r with
    | cons r1 r2 =>
      cases r1
      exact .cons (rd_line I h1) (ih r2)
theorem rd_word (I : Inv X pins σ H s) {k : Wd} {b : Addr} (h : NKey X.K H k b) : ∃ items : Array Value, IsTup s.heap b items ∧ items.size = k.length ∧ items.size ≤ sizeLine ∧ Reads s.heap (.ref b) (dWord k) [] := by
  obtain ⟨bs, h1, h2⟩ := h
  obtain ⟨its, r, it, hz⟩ := I.tuple h1
  have l1 : bs.length = k.length := Paired.length h2
  have l2 : (bs.map V.ref).length = its.length := Vals.length r
  rw [List.length_map] at l2
  rw [List.length_map] at hz
  refine ⟨its.toArray, it, by simp; omega, by simp; omega, ?_⟩
  obtain ⟨o, e, hc, n, hd⟩ := it
  exact .tuple e hc hd (by simpa using rd_lines I h2 r)
end
/-! what stays where only tables of code are written -/
theorem rd_ext {H H' : Hp} {a : Addr} {u : HO} (e : LamX.ExtN H H') (n : ∀ ps, u ≠ .tbl ps) (h : Rd H a u) : Rd H' a u := by
  rcases h with h | ⟨o, h⟩
  · exact .inl (e _ _ h n)
  · exact .inr ⟨o, e _ _ h (fun ps z => by cases z)⟩
theorem sqT_ext {K : PySem.W.Frag} {H H' : Hp} {a : Addr} {xs : List V} (e : LamX.ExtN H H') (h : SqT K H a xs) : SqT K H' a xs := by
  rcases h with h | h
  · exact .inl (rd_ext e (fun ps z => by cases z) h)
  · exact .inr h
theorem sqL_ext {K : PySem.W.Frag} {H H' : Hp} {a : Addr} {xs : List V} (e : LamX.ExtN H H') (h : SqL K H a xs) : SqL K H' a xs := by
  rcases h with h | h
  · exact .inl (rd_ext e (fun ps z => by cases z) h)
  · exact .inr h
theorem nKey_ext {K : PySem.W.Frag} {H H' : Hp} {k : Wd} {b : Addr} (e : LamX.ExtN H H') (h : NKey K H k b) : NKey K H' k b := h.mono fun _ _ => sqT_ext e
/-- at p: a term, its word k -/
def TermAt (K : PySem.W.Frag) (H : Hp) (p : Addr × Wd) : Prop := ∃ (c : V) (b : Addr), SqT K H p.1 [c, .ref b] ∧ NKey K H p.2 b
theorem TermAt.ext {K : PySem.W.Frag} {H H' : Hp} {p : Addr × Wd} (e : LamX.ExtN H H') (h : TermAt K H p) : TermAt K H' p := by
  obtain ⟨c, b, h1, h2⟩ := h
  exact ⟨c, b, sqT_ext e h1, nKey_ext e h2⟩
/-- the terms in order -/
def sortW (bs : List (Addr × Wd)) : List (Addr × Wd) := bs.mergeSort (PySem.W.dataLe false fun p => dKey p.2)
end L2.Nk

/-! # sorted(xs, key=lambda t: (len(t[1]), t[1])): the rule -/
namespace L2.Nk
open PySem PySem.Spec PyProof.Rows PySem.W
def tSortW (K : PySem.W.Frag) (T : List (Addr × Str)) (ta : TE) : TE := fun σ H Q => ta σ H fun x H1 => LamX.Tabs T H1 ∧ ∃ a bs, x = .ref a ∧ SqL K H1 a (bs.map fun p : Addr × Wd => V.ref p.1) ∧ (∀ p ∈ bs, TermAt K H1 p) ∧
  ∀ H2, LamX.ExtN H1 H2 → LamX.Tabs T H2 → ∀ q, H2 q = none → Q (.ref q) (upd H2 q (.lst ((sortW bs).map fun p => V.ref p.1)))
theorem vals_refs {bs : List (Addr × Wd)} : ∀ {us : List Value}, Vals (bs.map fun p => V.ref p.1) us → us = bs.map fun p => Value.ref p.1 := by
  induction bs with
  | nil => intro us r; cases r; rfl
  | cons p bs ih =>
    intro us r
    cases r with
    | cons r1 r2 =>
      cases r1
      rw [ih r2]; rfl
theorem each_refs : ∀ bs : List (Addr × Wd), EachIs (fun (v : Value) (p : Addr × Wd) => v = .ref p.1) (bs.map fun p => Value.ref p.1) bs
  | [] => .nil
  | _ :: bs => .cons rfl (each_refs bs)
theorem refs_each : ∀ {out : List Value} {bs : List (Addr × Wd)}, EachIs (fun (v : Value) (p : Addr × Wd) => v = .ref p.1) out bs → Vals (bs.map fun p => V.ref p.1) out
  | _, _, .nil => .nil
  | _, _, .cons h t => .cons h (refs_each t)
/-- the lambda's names: its parameter y, the global len -/
structure KeyS (y : Str) (scope : Scope) : Prop where
  kind : scope.kind = .function
  co : scope.isCoroutine = false
  gen : scope.isGenerator = false
  own : ∀ x ∈ scope.names, x.2 ≠ .cell ∧ x.2 ≠ .free
  loc : scope.names.lookup y = some .local
  len : scope.names.lookup ("len" : Str) = some .globalImplicit
  db : (y == ("__debug__" : Str)) = false
section
variable {X : Cx} {xs : Expr} {ta : TE} {T : List (Addr × Str)} {c P : Addr} {y : Str} {scope : Scope} {kn : Nat}
theorem pe_sortW {p p0 p1 p2 p3 p4 p5 p6 p7 p8 p9 p10 p11 pos : Pos} (hg : Gl X "sorted") (hm : X.mg "sorted" = none) (hmL : X.mg "len" = none) (ha : PE X xs ta) (hr : Room (kn + 2) X.A)
    (TB : LamX.TabB X.base X.mg c P) (hcode : X.env.code = .ref c) (hmT : (P, X.env.qual ++ "<lambda>") ∈ T) (hu : ∀ p ∈ T, p.1 = P → p.2 = X.env.qual ++ "<lambda>") (L : KeyS y scope)
    (hbind : ∀ (q : Str) (cl : List (Str × Addr)) (pm cv ctv : Value) (t : Addr), bindArgs (PySem.W.kla_fn "<lambda>" q (kArgs y p1) (kBody y p2 p3 p4 p5 p6 p7 p8 p9 p10) scope cl pm cv ctv) ⟨[.ref t], []⟩ = pure [(y, .ref t)])
    (hs : starEach [xs] X.env = (false, eval xs X.env) :: starEach [] X.env := by rfl) (hbt : bootBuiltins "sorted" = some (.builtin "sorted")) :
    PE X (.Call (.Name "sorted" p) [xs] [⟨some "key", .Lambda (kArgs y p1) (kBody y p2 p3 p4 p5 p6 p7 p8 p9 p10) scope p11, p0⟩] pos) (tSortW X.K T ta) := by
  refine ⟨fun pins s σ H Q I h => ?_⟩
  refine wpAny_Call_Name_kw (ld_blt I hg hm hbt ?_)
  refine PyProof.Rows.callWith_kw ?_ (by rw [hs]; rfl) (by rw [hs]; rfl) (by rfl) (by rfl)
  rw [hs]
  show wpAny _ _ (spliced ((false, eval xs X.env) :: backTo pos (starEach [] X.env))) _ _ s
  refine Calls.spliced_cons (thn (ha.run pins s σ H _ I h) fun v s1 ⟨x, H1, I1, r1, hT, a, bs, ex, hl, hb, q⟩ => Calls.spliced_nil ?_)
  subst ex
  obtain rfl : v = Value.ref a := r1
  refine PyProof.Rows.kws_cons (LamX.lam_make2 I1 TB hcode hmT hu hT (by rfl) (fun z hz e => absurd e (L.own z hz).2) fun f c' pm ctv H2 s2 I2 eN T2 hf hfn hfr hco => PyProof.Rows.kws_nil ?_)
  show wpAny _ _ (call (.builtin "sorted") [.ref a] [(Str.ofString "key", .ref f)]) _ _ s2
  obtain ⟨us, ru, pl, hz⟩ := I2.list (sqL_ext eN hl)
  rw [vals_refs ru] at pl
  rw [List.length_map] at hz
  obtain ⟨⟨oc, vs, t, hoc, hdc, hvc⟩, _, _⟩ := I2.hok c' _ hco
  obtain ⟨mb, n1, n2⟩ := I2.mod.blt
  have hr2 : Room kn X.A.in1.in1 := hr.in1.in1
  have hun := hr.un
  refine PySem.W.sorted_key_data (b := false) (bs := bs) (k := fun p : Addr × Wd => dKey p.2) (f := .ref f) pl.isList (each_refs bs) ?_ ?_ hz (fun p _ => by have := deep_key p.2; omega) (ksk_s1 _ _) (fun _ => ksk_l1 _ _) (fun _ => ksk_t1 _ _) ?_ ?_
  · intro d hd d' hd'
    obtain ⟨p1, _, rfl⟩ := List.mem_map.mp hd
    obtain ⟨p2, _, rfl⟩ := List.mem_map.mp hd'
    exact alike_keys _ _
  · refine .inl fun d hd => ?_
    obtain ⟨p1, _, rfl⟩ := List.mem_map.mp hd
    exact ⟨_, _, rfl⟩
  · rintro v ⟨ta', k⟩ rfl hx h3 tk kp
    obtain ⟨cv, b, e1, e2⟩ := (hb _ hx).ext eN
    obtain ⟨us1, ru1, it1, _⟩ := I2.tuple e1
    obtain ⟨items, it2, hsz, hz2, rdw⟩ := rd_word I2 e2
    cases ru1 with
    | cons ra rb =>
      cases rb with
      | cons rb rn =>
        cases rn
        cases rb
        exact k_turn (s := { s2 with heap := h3, toks := tk }) (mg := X.mg) (mb := mb) hr2.depth (kp _ _ hf) ⟨c', oc, vs, t, rfl, kp _ _ hoc, hdc, hvc⟩ (I2.nolimit.keeps kp) (hbind _ _ _ _ _ _) L.kind L.co L.gen (fun z hz => (L.own z hz).1) L.loc L.len
          ((I2.mod.glob.keeps I2.bk).keeps kp) hmL ((n1.keeps I2.bk).keeps kp) ((n2 _ (by decide)).trans boot_len) (it1.keeps kp) (it2.keeps kp) hz2 hsz (PyProof.Rows.Reads.keeps kp rdw) L.db
  · intro out cc h3 tk kp hfree hat hlen hout
    have hln : out.length ≤ sizeLine := by rw [hlen]; exact hz
    have rv : Vals ((sortW bs).map fun p => V.ref p.1) out := refs_each hout
    have I3 : Inv X pins σ (upd H2 (s2.heap.objs.size + 1) (.lst ((sortW bs).map fun p => V.ref p.1))) { s2 with heap := h3, toks := tk } :=
      I2.laid (t' := tk) kp (Nat.le_succ _) ⟨by rw [rv.length]; exact hln, out, cc, rv, hat⟩
    exact ⟨.ref _, _, I3, rfl, q H2 eN T2 _ (I2.hok.fresh (Nat.le_succ _))⟩
end
end L2.Nk

/-! # sorted of pairs (len(word), word) -/
namespace L2.Nk
open PySem PySem.Spec PyProof.Rows PySem.W
/-- at p: the pair of a word's length and the word -/
def PairAt (K : PySem.W.Frag) (H : Hp) (p : Addr × Wd) : Prop := ∃ b, SqT K H p.1 [.int p.2.length, .ref b] ∧ NKey K H p.2 b
def rSortP (K : PySem.W.Frag) (vs : List V) (H : Hp) (Q : VK) : Prop := ∃ a bs, vs = [.ref a] ∧ SqL K H a (bs.map fun p : Addr × Wd => V.ref p.1) ∧ (∀ p ∈ bs, PairAt K H p) ∧
  ∀ q, H q = none → Q (.ref q) (upd H q (.lst ((sortW bs).map fun p => V.ref p.1)))
section
variable {X : Cx} {pins : List (Addr × Obj)} {σ : St} {H : Hp} {s : Shared}
theorem rd_pair (I : Inv X pins σ H s) {p : Addr × Wd} (h : PairAt X.K H p) : ∃ as, Reads s.heap (.ref p.1) (dKey p.2) as := by
  obtain ⟨b, h1, h2⟩ := h
  obtain ⟨us, ru, ⟨o, e, hc, n, hd⟩, _⟩ := I.tuple h1
  obtain ⟨_, _, _, _, rdw⟩ := rd_word I h2
  refine ⟨[], .tuple e hc hd ?_⟩
  cases ru with
  | cons ra rb =>
    cases rb with
    | cons rb rn =>
      cases rn
      obtain ⟨t, rfl⟩ := ra
      cases rb
      exact .cons (.int _ t) (.cons rdw .nil)
theorem each_pairs (I : Inv X pins σ H s) : ∀ bs : List (Addr × Wd), (∀ p ∈ bs, PairAt X.K H p) → EachIs (fun (v : Value) (p : Addr × Wd) => ∃ as, Reads s.heap v (dKey p.2) as) (bs.map fun p => Value.ref p.1) bs
  | [], _ => .nil
  | p :: bs, h => .cons (rd_pair I (h p (.head _))) (each_pairs I bs fun q hq => h q (.tail _ hq))
theorem cr_sortedP (hun : X.A.units + 64 < cLine) : CallR X (.builtin "sorted") (rSortP X.K) := by
  intro pins s σ H vs us Q I r h
  obtain ⟨a, bs, rfl, hl, hb, q⟩ := h
  cases r with
  | cons r1 r2 =>
    cases r2
    cases r1
    obtain ⟨us, ru, pl, hz⟩ := I.list hl
    rw [vals_refs ru] at pl
    rw [List.length_map] at hz
    refine sorted_data (bs := bs) (enc := fun p : Addr × Wd => dKey p.2) pl.isList (each_refs bs) (each_pairs I bs hb) ?_ ?_ hz (fun p _ => by have := deep_key p.2; omega) fun out hlen hout => ?_
    · intro d hd d' hd'
      obtain ⟨p1, _, rfl⟩ := List.mem_map.mp hd
      obtain ⟨p2, _, rfl⟩ := List.mem_map.mp hd'
      exact alike_keys _ _
    · refine .inl fun d hd => ?_
      obtain ⟨p1, _, rfl⟩ := List.mem_map.mp hd
      exact ⟨_, _, rfl⟩
    · have rv : Vals ((sortW bs).map fun p => V.ref p.1) out := refs_each hout
      obtain ⟨ep, he'⟩ := PyProof.Rows.sortedAll_at s.heap (bs.map fun p => Value.ref p.1) (List.toArray out)
      exact ⟨.ref _, upd H (s.heap.objs.size + 1) (.lst ((sortW bs).map fun p => V.ref p.1)), I.laid (t' := s.toks) (fun _ _ => PyProof.Rows.sortedAll_old) (Nat.le_succ _) ⟨by rw [rv.length, hlen]; exact hz, out, ep, rv, he'⟩, rfl, q _ (I.hok.fresh (Nat.le_succ _))⟩
end
end L2.Nk

/-! # what is drawn from the script: numbers, cells, rows -/
namespace L2.Dw
open PySem PySem.Spec PyProof.Rows L2.Vf
def top (i : Nat) : Stmt := PySem.Challenge.pw_latesums_k10_forms_made.main.body.getD i (.Pass ⟨0, 0, 0, 0⟩)
/-- the place of the first of these defs -/
abbrev d0 : Nat := 30
abbrev sMi : Stmt := top (d0 + 0)
abbrev sPu : Stmt := top (d0 + 1)
abbrev sDr : Stmt := top (d0 + 2)
abbrev sSi : Stmt := top (d0 + 3)
abbrev sCe : Stmt := top (d0 + 4)
abbrev sRo : Stmt := top (d0 + 5)
/-- names that stay the built-in ones -/
structure Nm (mg : Str → Option Value) : Prop where
  isi : mg "isinstance" = none
  int : mg "int" = none
  bool : mg "bool" = none
  lst : mg "list" = none
  tup : mg "tuple" = none
  rng : mg "range" = none
  len : mg "len" = none
  sum : mg "sum" = none
  max : mg "max" = none
  zip : mg "zip" = none
  rep : mg "repr" = none
theorem same_new {H : Hp} {p : Addr} {o : HO} (h : H p = none) : Same H (upd H p o) := fun b u e => by
  rw [upd_ne (ne_of_none e h)]
  exact e
theorem upd_self {H : Hp} {g : Addr} {o : HO} (h : H g = some o) : upd H g o = H := by
  funext b
  by_cases e : b = g
  · rw [e, upd_same, h]
  · rw [upd_ne e]
/-- all but g stays -/
def Keep (g : Addr) (H H' : Hp) : Prop := ∀ b o, b ≠ g → H b = some o → H' b = some o
theorem Keep.refl {g : Addr} {H : Hp} : Keep g H H := fun _ _ _ e => e
theorem Keep.trans {g : Addr} {H H1 H2 : Hp} (a : Keep g H H1) (b : Keep g H1 H2) : Keep g H H2 := fun c o n e => b c o n (a c o n e)
theorem Keep.of {g : Addr} {H H' : Hp} (s : Same H H') : Keep g H H' := fun b o _ e => s b o e
theorem keep_upd {g : Addr} {H : Hp} {o : HO} : Keep g H (upd H g o) := fun b u n e => by
  rw [upd_ne n]
  exact e
theorem Keep.new {g p : Addr} {H H' : Hp} {o : HO} (k : Keep g H H') (h : H' p = none) : Keep g H (upd H' p o) := k.trans (.of (same_new h))
/-- the purse: what is left of the digits, the number, how often it was mixed (at most c times) -/
def Pu (H : Hp) (g : Addr) (c : Nat) : Prop := ∃ x y z : Int, H g = some (.lst [.int x, .int y, .int z]) ∧ 0 ≤ y ∧ y < 2147483648 ∧ 0 ≤ z ∧ z ≤ c
theorem Pu.mono {H H' : Hp} {g : Addr} {c : Nat} (h : Pu H g c) (s : Same H H') : Pu H' g c := by
  obtain ⟨x, y, z, h1, h2⟩ := h
  exact ⟨x, y, z, s _ _ h1, h2⟩
theorem Pu.le {H : Hp} {g : Addr} {c d : Nat} (h : Pu H g c) (l : c ≤ d) : Pu H g d := by
  obtain ⟨x, y, z, h1, h2, h3, h4, h5⟩ := h
  exact ⟨x, y, z, h1, h2, h3, h4, by omega⟩
theorem Pu.lst {H : Hp} {g : Addr} {c : Nat} (h : Pu H g c) : ∃ xs, H g = some (.lst xs) := by
  obtain ⟨x, y, z, h1, _⟩ := h
  exact ⟨_, h1⟩
theorem Pu.keep {H H' : Hp} {g b : Addr} {c : Nat} (h : Pu H g c) (k : Keep b H H') (n : g ≠ b) : Pu H' g c := by
  obtain ⟨x, y, z, h1, h2⟩ := h
  exact ⟨x, y, z, k _ _ n h1, h2⟩
theorem Pu.ne {H : Hp} {g p : Addr} {c : Nat} (h : Pu H g c) (hp : H p = none) : g ≠ p := by
  obtain ⟨x, y, z, h1, _⟩ := h
  exact ne_of_none h1 hp
def spMi : Sp := fun vs H Q _ => ∃ s i : Int, vs = [.int s, .int i] ∧ 0 ≤ s ∧ s < 2147483648 ∧ 0 ≤ i ∧ i < 1000000000 ∧ ∀ n : Int, Q (.int n) H
def spPu (K : PySem.W.Frag) : Sp := fun vs H Q _ => ∃ (a : Addr) (ns : List Int) (i : Nat), vs = [.ref a, .int (i : Nat)] ∧ SqL K H a (ns.map V.int) ∧ i ≤ 1000 ∧ ∀ (p : Addr) (H' : Hp), H p = none → Same H H' → Pu H' p (1000 * i) → Q (.ref p) H'
def spDr : Sp := fun vs H Q _ => ∃ (g : Addr) (n : Int) (c : Nat), vs = [.ref g, .int n] ∧ 0 < n ∧ n < 2 ^ 70 ∧ Pu H g c ∧ c ≤ 100000000 ∧ ∀ (r : Int) (H' : Hp), 0 ≤ r → r < n → Keep g H H' → Pu H' g (c + 3) → Q (.int r) H'
def spSi : Sp := fun vs H Q _ => ∃ (g : Addr) (m : Int) (c : Nat), vs = [.ref g, .int m] ∧ 0 ≤ m ∧ m < 2 ^ 67 ∧ Pu H g c ∧ c ≤ 100000000 ∧ ∀ (r : Int) (H' : Hp), -m ≤ r → r ≤ m → Keep g H H' → Pu H' g (c + 3) → Q (.int r) H'
section
variable {P : Program} {w : World} {K : PySem.W.Frag} {mg : Str → Option Value} {base : Heap}
theorem scMi : FnScope ["_law_cell", "_law_k", "_law_number"] ["_law_cell", "_law_k"] (defScope sMi) := ⟨rfl, rfl, rfl, by decide +kernel, rfl, by decide +kernel, by decide +kernel⟩
theorem ok_mi {f : Addr} {fd : FuncData} (F : Fun K "_law_mixed" "_law_mixed" sMi f fd) : FnOk P w K mg base CX0 1 f fd ["_law_cell", "_law_k"] spMi := by
  refine F.ok scMi (fun vs H Q E h => ?_) fun cdv A outer s H vs Q E hr h => ?_
  · obtain ⟨a, ns, rfl, _⟩ := h
    rfl
  · obtain ⟨s0, i, rfl, h1, h2, h3, h4, q⟩ := h
    refine ⟨_, pss_cons (ps_set (i := 2) scMi.nd rfl (.inl rfl) (pe_op op_mod (pe_op op_add (pe_op op_add (pe_op op_add (pe_op op_mul (pv 0) pe_int) (pe_op op_mul (pe_op op_mul pe_int (pv 1)) (pv 1))) (pv 1)) pe_int) pe_int))
      (pss_cons (ps_set (i := 2) scMi.nd rfl (.inl rfl) (pe_op op_mod (pe_op op_add (pe_op op_mul (pv 2) (pv 2)) pe_int) pe_int))
      (pss_one (ps_ret (pe_op op_mod (pe_op op_mul (pv 2) pe_int) pe_int)))), ?_⟩
    refine ⟨_, rfl, _, _, rfl, rfl, .inl ⟨by omega, by omega⟩, _, rfl, _, _, rfl, rfl, .inl ⟨by decide, by decide⟩, _, rfl, _, _, rfl, rfl, .inr ⟨by omega, by omega⟩, _, _, rfl, rfl, _, rfl, _, _, rfl, rfl, _, _, rfl, rfl, _, _, rfl, rfl, (by show (0 : Int) < 2147483647; decide), ?_⟩
    have b1 := Int.emod_nonneg (s0 * 1103515245 + 7919 * i * i + i + 1) (show (2147483647 : Int) ≠ 0 by decide)
    have b2 := Int.emod_lt_of_pos (s0 * 1103515245 + 7919 * i * i + i + 1) (show (0 : Int) < 2147483647 by decide)
    generalize (s0 * 1103515245 + 7919 * i * i + i + 1) % 2147483647 = m at b1 b2
    refine ⟨_, rfl, _, rfl, _, _, rfl, rfl, .inl ⟨by omega, by omega⟩, _, _, rfl, rfl, _, _, rfl, rfl, (by show (0 : Int) < 2147483629; decide), ?_⟩
    exact ⟨_, rfl, _, _, rfl, rfl, .inr ⟨by decide, by decide⟩, _, _, rfl, rfl, (by show (0 : Int) < 2147483587; decide), q _⟩
theorem scPu : FnScope ["_law_script", "_law_at", "_law_cell"] ["_law_script", "_law_at"] (defScope sPu) := ⟨rfl, rfl, rfl, by decide +kernel, rfl, by decide +kernel, by decide +kernel⟩
theorem cut_ints (ns : List Int) (lo hi : Option Int) : ∃ ms : List Int, cutV (ns.map V.int) lo hi = ms.map V.int := ⟨_, by unfold cutV; rw [← List.map_drop, ← List.map_take]⟩
theorem boot_max : bootBuiltins "max" = some (.builtin "max") := by decide +kernel
theorem boot_sum : bootBuiltins "sum" = some (.builtin "sum") := by decide +kernel
theorem ok_pu {f : Addr} {fd : FuncData} (F : Fun K "_law_purse" "_law_purse" sPu f fd) (N : Nm mg) : FnOk P w K mg base CX0 1 f fd ["_law_script", "_law_at"] (spPu K) := by
  refine F.ok scPu (fun vs H Q E h => ?_) fun cdv A outer s H vs Q E hr h => ?_
  · obtain ⟨a, ns, i, rfl, _⟩ := h
    rfl
  · obtain ⟨a, ns, i, rfl, hS, hi, q⟩ := h
    refine ⟨_, pss_cons (ps_set (i := 2) scPu.nd rfl (.inl rfl) (pe_callB (cr_sum rfl) (by rfl) N.sum boot_sum (pa_cons (pe_slice sl_list (pv 0) (po_some (pv 1)) (po_some (pe_op op_add (pv 1) pe_int))) pa_nil)))
      (pss_one (ps_ret (pe_lst (pa_cons (pe_op op_mod (pe_callB (call_max2 rfl) (by rfl) N.max boot_max (pa_cons (pe_op op_sub (pv 2) (pe_op op_powW pe_int pe_int)) (pa_cons pe_int pa_nil))) (pe_op op_powW (pe_op op_powW pe_int pe_int) pe_int))
        (pa_cons (pe_op op_mod (pv 2) pe_int) (pa_cons (pe_op op_mul pe_int (pv 1)) pa_nil)))))), ?_⟩
    obtain ⟨ms, hm⟩ := cut_ints ns (some (i : Int)) (some ((i : Int) + 1))
    refine ⟨_, rfl, _, rfl, _, rfl, _, rfl, _, _, rfl, rfl, _, rfl, a, _, rfl, hS, fun l hl => ⟨l, ms, rfl, SqL.of (by rw [upd_same, hm]), ?_⟩⟩
    generalize ms.sum = n
    refine ⟨_, rfl, _, _, rfl, rfl, ⟨by decide, by decide +kernel⟩, _, _, rfl, rfl, _, _, rfl, _, _, rfl, rfl, ⟨by decide, by decide +kernel⟩, _, _, rfl, rfl, ⟨by decide, by decide +kernel⟩, _, _, rfl, rfl, ?_, ?_⟩
    · show (0 : Int) < (10 ^ Int.toNat 60) ^ Int.toNat 10
      decide +kernel
    · refine ⟨_, rfl, _, _, rfl, rfl, (by show (0 : Int) < 2147483647; decide), _, rfl, _, _, rfl, rfl, .inl ⟨by decide, by decide⟩, (by show 3 ≤ sizeLine; decide), fun p hp => ?_⟩
      have s1 := same_new (o := .lst (cutV (ns.map V.int) (some (i : Int)) (some ((i : Int) + 1)))) hl
      refine q p _ (s1.free hp) (s1.trans (same_new hp)) ⟨_, _, _, upd_same, Int.emod_nonneg _ (by decide), Int.lt_of_lt_of_le (Int.emod_lt_of_pos n (show (0 : Int) < 2147483647 by decide)) (by decide), by omega, by omega⟩
theorem scDr : FnScope ["_law_purse_here", "_law_out_of", "_law_drawn", "_law_number", "_law_k"] ["_law_purse_here", "_law_out_of"] (defScope sDr) := ⟨rfl, rfl, rfl, by decide +kernel, rfl, by decide +kernel, by decide +kernel⟩
theorem bits70 {n : Int} (h0 : 0 < n) (h : n < 2 ^ 70) : Builtin.Int.intBits n ≤ 70 := by
  unfold Builtin.Int.intBits
  split
  · omega
  · have : n.natAbs < 2 ^ 70 := by omega
    have := PySem.Flt.log2_lt_of (show 0 < 70 by decide) this
    omega
theorem ok_dr {f fM : Addr} {fd dM : FuncData} (F : Fun K "_law_draw" "_law_draw" sDr f fd) (N : Nm mg) (GM : FnOk P w K mg base CX0 1 fM dM ["_law_cell", "_law_k"] spMi) (mM : mg "_law_mixed" = some (.ref fM)) (kM : PySem.W.keepIn K (.ref fM) = true) (bM : Binds K dM ["_law_cell", "_law_k"] []) :
    FnOk P w K mg base CX0 2 f fd ["_law_purse_here", "_law_out_of"] spDr := by
  refine F.ok scDr (fun vs H Q E h => ?_) fun cdv A outer s H vs Q E hr h => ?_
  · obtain ⟨g, x, y, rfl, _⟩ := h
    rfl
  · obtain ⟨g, n, c, rfl, hn, hn2, ⟨x, y, z, hg, h1, h2, h3, h4⟩, hc, q⟩ := h
    refine ⟨_, pss_cons (ps_if (pt_cmpR op_gt (pe_ix ix_list (pv 0) pe_int (fun _ _ => rfl)) pe_int (nomark _))
        (pss_cons (ps_set (i := 2) scDr.nd rfl (.inl rfl) (pe_op op_mod (pe_ix ix_list (pv 0) pe_int (fun _ _ => rfl)) (pv 1)))
        (pss_cons (ps_asg (pe_op op_fdivW (pe_ix ix_list (pv 0) pe_int (fun _ _ => rfl)) (pv 1)) (pg_sub (pv 0) pe_int set_list))
        (pss_one (ps_ret (pv 2))))) pss_nil)
      (pss_cons (ps_set (i := 3) scDr.nd rfl (.inl rfl) pe_int)
      (pss_cons (ps_for PassesOwn.never rfl (pi_range1 (by rfl) N.rng (pa_cons (pe_op op_add pe_int (pe_op op_fdiv (pe_bits (pv 1)) pe_int)) pa_nil)) (pg_name (i := 4) scDr.nd rfl (Or.inl rfl))
        (pss_cons (ps_asg (pe_op op_add (pe_ix ix_list (pv 0) pe_int (fun _ _ => rfl)) pe_int) (pg_sub (pv 0) pe_int set_list))
        (pss_one (ps_set (i := 3) scDr.nd rfl (.inl rfl) (pe_op op_add (pe_op op_mul (pv 3) pe_int) (pe_call GM hr rfl mM kM bM .nil pass0 (pa_cons (pe_ix ix_list (pv 0) pe_int (fun _ _ => rfl)) (pa_cons (pe_ix ix_list (pv 0) pe_int (fun _ _ => rfl)) pa_nil))))))))
      (pss_one (ps_ret (pe_op op_mod (pv 3) (pv 1)))))), ?_⟩
    refine ⟨_, rfl, g, _, 0, .int x, rfl, rfl, SqL.of hg, rfl, _, _, rfl, rfl, _, rfl, ?_⟩
    refine ite2 (fun _ => ?_) fun _ => ?_
    · refine ⟨_, rfl, g, _, 0, .int x, rfl, rfl, SqL.of hg, rfl, _, rfl, _, _, rfl, rfl, hn, ?_⟩
      refine ⟨_, rfl, g, _, 0, .int x, rfl, rfl, SqL.of hg, rfl, _, rfl, _, _, rfl, rfl, wide_div hn (show n.natAbs < 2 ^ 70 by omega) (by decide) (by decide), ?_⟩
      refine ⟨_, rfl, g, _, 0, 0, rfl, rfl, hg, rfl, ?_⟩
      exact ⟨_, rfl, q _ _ (Int.emod_nonneg x (by omega)) (Int.emod_lt_of_pos x hn) keep_upd ⟨_, _, _, upd_same, h1, h2, h3, by omega⟩⟩
    · have hb := bits70 hn hn2
      generalize hm : Builtin.Int.intBits n = m at hb
      refine ⟨_, rfl, _, rfl, _, _, rfl, rfl, ⟨by decide, by decide⟩, _, _, rfl, rfl, _, rfl, ?_⟩
      rw [hm]
      have hk : ∃ k : Nat, 1 + (m : Int) / 30 = (k : Int) ∧ k ≤ 3 := ⟨1 + m / 30, by omega, by omega⟩
      obtain ⟨k, hk, hk3⟩ := hk
      rw [hk]
      refine ⟨by omega, by omega, ?_⟩
      refine for_range (lo := 0) (n := k) (fun i σ H' => ∃ (d : Int) (t : Option V), σ = [some (.ref g), some (.int n), none, some (.int d), t] ∧ H' = upd H g (.lst [.int x, .int y, .int (z + (i : Nat))])) ⟨0, none, rfl, ?_⟩ (fun i σ H' hi hP => ?_) fun σ H' hP => ?_
      · rw [show z + ((0 : Nat) : Int) = z by simp]
        exact (upd_self hg).symm
      · obtain ⟨d, t, rfl, rfl⟩ := hP
        refine ⟨_, rfl, g, _, 2, _, rfl, rfl, SqL.of upd_same, rfl, _, _, rfl, rfl, _, rfl, g, _, 2, 2, rfl, rfl, upd_same, rfl, ?_⟩
        refine ⟨_, rfl, _, _, rfl, rfl, .inr ⟨by decide, by decide⟩, _, rfl, g, _, 1, .int y, rfl, rfl, SqL.of upd_same, rfl, _, rfl, g, _, 2, _, rfl, rfl, SqL.of upd_same, rfl, y, z + (i : Int) + 1, rfl, h1, h2, by omega, by omega, fun r => ?_⟩
        refine ⟨_, _, rfl, rfl, _, _, rfl, ?_⟩
        rw [upd_upd, show z + ((i + 1 : Nat) : Int) = z + (i : Int) + 1 by omega]
        rfl
      · obtain ⟨d, t, rfl, rfl⟩ := hP
        exact ⟨_, rfl, _, rfl, _, _, rfl, rfl, hn, q _ _ (Int.emod_nonneg d (by omega)) (Int.emod_lt_of_pos d hn) keep_upd ⟨_, _, _, upd_same, h1, h2, by omega, by omega⟩⟩
theorem scSi : FnScope ["_law_purse_here", "_law_most"] ["_law_purse_here", "_law_most"] (defScope sSi) := ⟨rfl, rfl, rfl, by decide +kernel, rfl, by decide +kernel, by decide +kernel⟩
theorem ok_si {f fD : Addr} {fd dD : FuncData} (F : Fun K "_law_signed" "_law_signed" sSi f fd) (GD : FnOk P w K mg base CX0 2 fD dD ["_law_purse_here", "_law_out_of"] spDr) (mD : mg "_law_draw" = some (.ref fD)) (kD : PySem.W.keepIn K (.ref fD) = true) (bD : Binds K dD ["_law_purse_here", "_law_out_of"] []) :
    FnOk P w K mg base CX0 3 f fd ["_law_purse_here", "_law_most"] spSi := by
  refine F.ok scSi (fun vs H Q E h => ?_) fun cdv A outer s H vs Q E hr h => ?_
  · obtain ⟨g, x, y, rfl, _⟩ := h
    rfl
  · obtain ⟨g, m, c, rfl, hm, hm2, hp, hc, q⟩ := h
    refine ⟨_, pss_one (ps_ret (pe_op op_sub (pe_call GD hr rfl mD kD bD .nil pass0 (pa_cons (pv 0) (pa_cons (pe_op op_add (pe_op op_mul pe_int (pv 1)) pe_int) pa_nil))) (pv 1))), ?_⟩
    refine ⟨_, rfl, _, rfl, _, _, rfl, rfl, .inl ⟨by decide, by decide⟩, _, _, rfl, rfl, g, 2 * m + 1, c, rfl, by omega, by omega, hp, hc, fun r H' h1 h2 k p' => ?_⟩
    exact ⟨_, rfl, _, _, rfl, rfl, q _ _ (by omega) (by omega) k p'⟩
end
end L2.Dw

/-! # what counts as a whole number, a line, a matrix, a cell, a row: asked of any data -/
namespace L2.Ch
open PySem PySem.Spec PyProof.Rows L2.Vf L2.Dw
abbrev sWh : Stmt := top 2
abbrev sAr : Stmt := top 3
abbrev sWi : Stmt := top 4
abbrev sFc : Stmt := top 5
abbrev sFr : Stmt := top 6
def tyD : PyData → String
  | .none => "NoneType"
  | .bool _ => "bool"
  | .int _ => "int"
  | .str _ => "str"
  | .list _ => "list"
  | .tuple _ => "tuple"
  | .dict _ => "dict"
def isI : PyData → Bool
  | .int _ => true
  | _ => false
def lineD (n : Nat) : PyData → Bool
  | .list ds => ds.length == n && ds.all isI
  | _ => false
def matD : PyData → Bool
  | .list ds => decide (1 ≤ ds.length) && decide (ds.length ≤ 2) && ds.all (lineD ds.length)
  | _ => false
def cellD (n : Nat) : PyData → Bool
  | .tuple ds => ds.length == n && ds.all isI
  | _ => false
def rowD (n : Nat) : PyData → Bool
  | .list ds => ds.all (cellD n)
  | _ => false
section
variable {K : PySem.W.Frag} {H : Hp}
theorem sh_ty {v : V} {d : PyData} {as : List Addr} (h : Sh K H v d as) : TyX K H v (.type (tyD d)) := by
  cases h with
  | non => exact .base .non
  | bl b => exact .base (.bl b)
  | int i => exact .base (.int i)
  | str x => exact .base (.str x)
  | lst h _ =>
    rcases h with (h | ⟨o, h⟩) | ⟨o, its, n, hk, hc, _⟩
    · exact .base (.lst h)
    · exact .base (.frz h)
    · exact .kList hk hc
  | tup h _ =>
    rcases h with (h | ⟨o, h⟩) | ⟨o, its, n, hk, hc, _⟩
    · exact .base (.tup h)
    · exact .fTuple h
    · exact .kTuple hk hc
  | dK h _ =>
    rcases h with h | ⟨o, h⟩
    · exact .base (.dK h)
    · exact .fDict h
theorem kit_int (d : PyData) : kitB (tyD d) "int" = some (isI d || tyD d == "bool") := by cases d <;> kernel_rfl
theorem kit_bool (d : PyData) : kitB (tyD d) "bool" = some (tyD d == "bool") := by cases d <;> kernel_rfl
theorem kit_list (d : PyData) : kitB (tyD d) "list" = some (tyD d == "list") := by cases d <;> kernel_rfl
theorem kit_tuple (d : PyData) : kitB (tyD d) "tuple" = some (tyD d == "tuple") := by cases d <;> kernel_rfl
/-- isinstance(slot i, T) -/
abbrev tIsT (K : PySem.W.Frag) (i : Nat) (n : String) : TE := tCB (rIsi K) (tCons (tVar i) (tCons (tC (.ty n)) tNil))
/-- len of slot i -/
abbrev tLenS (K : PySem.W.Frag) (i : Nat) : TE := tCB (fun xs H Q => ∃ p ys, xs = [.ref p] ∧ (SqL K H p ys ∨ SqT K H p ys) ∧ Q (.int ys.length) H) (tCons (tVar i) tNil)
theorem isT_run {σ : St} {i : Nat} {v : V} {d : PyData} {as : List Addr} {n : String} {b : Bool} {Q : VK} (hσ : σ[i]? = some (some v)) (h : Sh K H v d as) (e : kitB (tyD d) n = some b) (q : Q (.bl b) H) : tIsT K i n σ H Q :=
  ⟨_, hσ, _, _, _, _, b, rfl, .ty n, sh_ty h, kit_ty e, q⟩
end
/-! ### a list or tuple in a slot, walked until one item does not fit -/
def iSeq (K : PySem.W.Frag) (i : Nat) : TI := fun σ H R => ∃ a, σ[i]? = some (some (.ref a)) ∧ (((∃ xs, SqL K H a xs) ∧ R (Itl K a) H) ∨ ((∃ xs, SqT K H a xs) ∧ R (Itt K a) H))
section
variable {X : Cx} {tg e : Expr} {i : Nat}
theorem pi_seq (h1 : PI X tg e (iList X.K (tVar i))) (h2 : PI X tg e (iTup X.K (tVar i))) : PI X tg e (iSeq X.K i) := by
  refine ⟨fun pins s σ H R I h => ?_⟩
  obtain ⟨a, e, ⟨x, q⟩ | ⟨x, q⟩⟩ := h
  · exact h1.run pins s σ H R I ⟨_, e, a, rfl, x, q⟩
  · exact h2.run pins s σ H R I ⟨_, e, a, rfl, x, q⟩
end
/-- one turn: if not f(x): return False -/
def tTurn (te : TE) : TS := tIfS (tNot (tB te)) (tRet (tC (.bl false))) tNext
section
theorem Shs.get {K : PySem.W.Frag} {H : Hp} : ∀ {xs : List V} {ds : List PyData} {as : List Addr} {i : Nat} {x : V}, Shs K H xs ds as → xs[i]? = some x → ∃ d bs, ds[i]? = some d ∧ Sh K H x d bs
  | _, _, _, _, _, .nil, e => by simp at e
  | _, _, _, 0, _, .cons h _, e => by simp at e; subst e; exact ⟨_, _, rfl, h⟩
  | _, _, _, i + 1, _, .cons _ t, e => by
    obtain ⟨d, bs, h1, h2⟩ := Shs.get (i := i) t (by simpa using e)
    exact ⟨d, bs, by simpa using h1, h2⟩
variable {K : PySem.W.Frag} {H : Hp} {σ0 : St} {i0 : Nat} {te : TE} {D : Ends} {xs : List V} {a : Addr} {f : PyData → Bool} {ds : List PyData} {as : List Addr}
theorem all_list (hi : i0 < σ0.length) (hx : SqL K H a xs) (hs : Shs K H xs ds as) (ht : ∀ x d bs (o : Option V) (Q : VK), Sh K H x d bs → Q (.bl (f d)) H → te ((σ0.set i0 o).set i0 (some x)) H Q)
    (hf : ds.all f = false → D.rt (.bl false) H) (hd : ds.all f = true → ∀ o, D.nx (σ0.set i0 o) H) (o0 : Option V) :
    ∃ W : Nat → Nat → St → Hp → Prop, (∃ m, W 0 m (σ0.set i0 o0) H) ∧ ∀ i m σ H, W i m σ H →
      ((Itl K a).stop i H ∧ D.nx σ H) ∨ ((Itl K a).go i H ∧ ∃ N : St → Hp → Prop, (∀ σ' H', N σ' H' → ∃ m', m' < m ∧ W (i + 1) m' σ' H') ∧ ∀ x H', (Itl K a).yld i H x H' → gName i0 x σ H' fun σ2 H2 => tTurn te { D with nx := N, ct := N, bk := D.nx } σ2 H2) := by
  refine for_list (xs := xs) (fun i σ H' => H' = H ∧ (∃ o, σ = σ0.set i0 o) ∧ ∀ j d, j < i → ds[j]? = some d → f d = true) ⟨rfl, ⟨o0, rfl⟩, fun j x h => absurd h (by omega)⟩ (fun i σ H' _ hP => ?_) (fun i x σ H' hx' hP => ?_) fun σ H' hP => ?_
  · rw [hP.1]; exact hx
  · obtain ⟨rfl, ⟨o, rfl⟩, h⟩ := hP
    obtain ⟨d, bs, hd', hsh⟩ := Shs.get hs hx'
    refine ht x d bs o _ hsh ⟨f d, rfl, ?_⟩
    cases e : f d with
    | false =>
      refine iteT (hf ?_)
      rw [List.all_eq_false]
      exact ⟨d, List.mem_of_getElem? hd', by rw [e]; simp⟩
    | true =>
      refine iteF ⟨rfl, ⟨some x, by rw [List.set_set]⟩, fun j y hj hy => ?_⟩
      by_cases q : j < i
      · exact h j y q hy
      · have : j = i := by omega
        subst this
        rw [hd'] at hy
        cases hy
        exact e
  · obtain ⟨rfl, ⟨o, rfl⟩, h⟩ := hP
    refine hd ?_ o
    rw [List.all_eq_true]
    intro x hx'
    obtain ⟨j, hj⟩ := List.getElem?_of_mem hx'
    exact h j x (by rw [hs.length]; exact (List.getElem?_eq_some_iff.mp hj).1) hj
theorem all_tup (hi : i0 < σ0.length) (hx : SqT K H a xs) (hs : Shs K H xs ds as) (ht : ∀ x d bs (o : Option V) (Q : VK), Sh K H x d bs → Q (.bl (f d)) H → te ((σ0.set i0 o).set i0 (some x)) H Q)
    (hf : ds.all f = false → D.rt (.bl false) H) (hd : ds.all f = true → ∀ o, D.nx (σ0.set i0 o) H) (o0 : Option V) :
    ∃ W : Nat → Nat → St → Hp → Prop, (∃ m, W 0 m (σ0.set i0 o0) H) ∧ ∀ i m σ H, W i m σ H →
      ((Itt K a).stop i H ∧ D.nx σ H) ∨ ((Itt K a).go i H ∧ ∃ N : St → Hp → Prop, (∀ σ' H', N σ' H' → ∃ m', m' < m ∧ W (i + 1) m' σ' H') ∧ ∀ x H', (Itt K a).yld i H x H' → gName i0 x σ H' fun σ2 H2 => tTurn te { D with nx := N, ct := N, bk := D.nx } σ2 H2) := by
  refine for_tup (xs := xs) (fun i σ H' => H' = H ∧ (∃ o, σ = σ0.set i0 o) ∧ ∀ j d, j < i → ds[j]? = some d → f d = true) ⟨rfl, ⟨o0, rfl⟩, fun j x h => absurd h (by omega)⟩ (fun i σ H' _ hP => ?_) (fun i x σ H' hx' hP => ?_) fun σ H' hP => ?_
  · rw [hP.1]; exact hx
  · obtain ⟨rfl, ⟨o, rfl⟩, h⟩ := hP
    obtain ⟨d, bs, hd', hsh⟩ := Shs.get hs hx'
    refine ht x d bs o _ hsh ⟨f d, rfl, ?_⟩
    cases e : f d with
    | false =>
      refine iteT (hf ?_)
      rw [List.all_eq_false]
      exact ⟨d, List.mem_of_getElem? hd', by rw [e]; simp⟩
    | true =>
      refine iteF ⟨rfl, ⟨some x, by rw [List.set_set]⟩, fun j y hj hy => ?_⟩
      by_cases q : j < i
      · exact h j y q hy
      · have : j = i := by omega
        subst this
        rw [hd'] at hy
        cases hy
        exact e
  · obtain ⟨rfl, ⟨o, rfl⟩, h⟩ := hP
    refine hd ?_ o
    rw [List.all_eq_true]
    intro x hx'
    obtain ⟨j, hj⟩ := List.getElem?_of_mem hx'
    exact h j x (by rw [hs.length]; exact (List.getElem?_eq_some_iff.mp hj).1) hj
end
/-- a def that answers whether data fits, and changes nothing -/
def spAsk (K : PySem.W.Frag) (p : PyData → Bool) : Sp := fun vs H Q _ => ∃ v d as, vs = [v] ∧ Sh K H v d as ∧ Q (.bl (p d)) H
def spAsk2 (K : PySem.W.Frag) (p : Nat → PyData → Bool) : Sp := fun vs H Q _ => ∃ v d as, ∃ n : Nat, vs = [v, .int (n : Nat)] ∧ Sh K H v d as ∧ Q (.bl (p n d)) H
/-- are_whole: of a list or tuple -/
def spAr (K : PySem.W.Frag) : Sp := fun vs H Q _ => ∃ v d as ds, vs = [v] ∧ Sh K H v d as ∧ (d = .list ds ∨ d = .tuple ds) ∧ Q (.bl (ds.all isI)) H
section
variable {P : Program} {w : World} {K : PySem.W.Frag} {mg : Str → Option Value} {base : Heap}
theorem scWh : FnScope ["value"] ["value"] (defScope sWh) := ⟨rfl, rfl, rfl, by decide +kernel, rfl, by decide +kernel, by decide +kernel⟩
theorem boot_isi : bootBuiltins "isinstance" = some (.builtin "isinstance") := by decide +kernel
theorem ok_wh {f : Addr} {fd : FuncData} (F : Fun K "is_whole" "is_whole" sWh f fd) (N : Nm mg) : FnOk P w K mg base CX0 1 f fd ["value"] (spAsk K isI) := by
  refine F.ok scWh (fun vs H Q E h => ?_) fun cdv A outer s H vs Q E hr h => ?_
  · obtain ⟨v, d, as, rfl, _⟩ := h
    rfl
  · obtain ⟨v, d, as, rfl, hs, q⟩ := h
    refine ⟨tRet (tAndV (tIsT K 0 "int") (tNotV (tIsT K 0 "bool"))), pss_one (ps_ret (pe_and (pe_callB call_isi (by rfl) N.isi boot_isi (pa_cons (pv 0) (pa_cons (pe_bltn (by rfl) N.int PyProof.Rows.boot_int (by rfl)) pa_nil)))
      (pe_one (pe_not (pe_callB call_isi (by rfl) N.isi boot_isi (pa_cons (pv 0) (pa_cons (pe_bltn (by rfl) N.bool PyProof.Rows.Boot.«bool» (by rfl)) pa_nil))))))), ?_⟩
    refine isT_run rfl hs (kit_int d) ⟨_, rfl, ?_⟩
    cases d <;> first | exact iteF q | exact iteT (isT_run rfl hs (kit_bool _) ⟨_, rfl, q⟩)
theorem scAr : FnScope ["values", "value"] ["values"] (defScope sAr) := ⟨rfl, rfl, rfl, by decide +kernel, rfl, by decide +kernel, by decide +kernel⟩
theorem ok_ar {f fW : Addr} {fd dW : FuncData} (F : Fun K "are_whole" "are_whole" sAr f fd) (GW : FnOk P w K mg base CX0 1 fW dW ["value"] (spAsk K isI)) (mW : mg "is_whole" = some (.ref fW)) (kW : PySem.W.keepIn K (.ref fW) = true) (bW : Binds K dW ["value"] []) : FnOk P w K mg base CX0 2 f fd ["values"] (spAr K) := by
  refine F.ok scAr (fun vs H Q E h => ?_) fun cdv A outer s H vs Q E hr h => ?_
  · obtain ⟨v, d, as, ds, rfl, _⟩ := h
    rfl
  · obtain ⟨v, d, as, ds, rfl, hs, hd, q⟩ := h
    refine ⟨tSeq (tFor (iSeq K 0) (gName 1) (tTurn (tCall (spAsk K isI) [] E0 (tCons (tVar 1) tNil)))) (tRet (tC (.bl true))), pss_cons (ps_for PassesOwn.never rfl (pi_seq (pi_list (pv 0)) (pi_tup (pv 0))) (pg_name (i := 1) scAr.nd rfl (Or.inl rfl))
      (pss_one (ps_if (pt_not (pt_val (pe_call GW hr rfl mW kW bW .nil pass0 (pa_cons (pv 1) pa_nil)))) (pss_one (ps_ret pe_bl)) pss_nil))) (pss_one (ps_ret pe_bl)), ?_⟩
    have turn : ∀ (x : V) (d : PyData) (bs : List Addr) (o : Option V) (Q : VK), Sh K H x d bs → Q (.bl (isI d)) H → (tCall (spAsk K isI) [] E0 (tCons (tVar 1) tNil)) (((start ["values", "value"] [v]).set 1 o).set 1 (some x)) H Q := fun x d bs o Q h q => ⟨_, rfl, x, d, bs, rfl, h, q⟩
    rcases hd with rfl | rfl
    · cases hs with
      | @lst a xs _ _ h1 h2 => exact ⟨a, rfl, .inl ⟨⟨_, h1⟩, all_list (σ0 := start ["values", "value"] [.ref a]) (i0 := 1) (show 1 < 2 by decide) h1 h2 turn (fun e => by rw [e] at q; exact q) (fun e o => by rw [e] at q; exact q) none⟩⟩
    · cases hs with
      | @tup a xs _ _ h1 h2 => exact ⟨a, rfl, .inr ⟨⟨_, h1⟩, all_tup (σ0 := start ["values", "value"] [.ref a]) (i0 := 1) (show 1 < 2 by decide) h1 h2 turn (fun e => by rw [e] at q; exact q) (fun e o => by rw [e] at q; exact q) none⟩⟩
theorem scFc : FnScope ["value", "width"] ["value", "width"] (defScope sFc) := ⟨rfl, rfl, rfl, by decide +kernel, rfl, by decide +kernel, by decide +kernel⟩
theorem len_eq (n m : Nat) : (decide (((n : Nat) : Int) = ((m : Nat) : Int))) = (n == m) := by
  by_cases h : n = m
  · subst h; simp
  · rw [decide_eq_false (by omega)]; simp [h]
theorem ok_fc {f fA : Addr} {fd dA : FuncData} (F : Fun K "fits_cell" "fits_cell" sFc f fd) (N : Nm mg) (GA : FnOk P w K mg base CX0 2 fA dA ["values"] (spAr K)) (mA : mg "are_whole" = some (.ref fA)) (kA : PySem.W.keepIn K (.ref fA) = true) (bA : Binds K dA ["values"] []) : FnOk P w K mg base CX0 3 f fd ["value", "width"] (spAsk2 K cellD) := by
  refine F.ok scFc (fun vs H Q E h => ?_) fun cdv A outer s H vs Q E hr h => ?_
  · obtain ⟨v, d, as, n, rfl, _⟩ := h
    rfl
  · obtain ⟨v, d, as, n, rfl, hs, q⟩ := h
    refine ⟨_, pss_one (ps_ret (pe_and (pe_callB call_isi (by rfl) N.isi boot_isi (pa_cons (pv 0) (pa_cons (pe_bltn (v := V.ty "tuple") (by rfl) N.tup PyProof.Rows.boot_tuple (by rfl)) pa_nil)))
      (pe_and (pe_cmp (pc_eqI (pe_callB call_len_seq (by rfl) N.len PySem.boot_len (pa_cons (pv 0) pa_nil)) (pv 1)) rfl) (pe_one (pe_call GA hr rfl mA kA bA .nil pass0 (pa_cons (pv 0) pa_nil)))))), ?_⟩
    refine isT_run (σ := start ["value", "width"] [v, .int n]) rfl hs (kit_tuple d) ⟨_, rfl, ?_⟩
    cases d with
    | tuple ds =>
      refine iteT ?_
      have hs' := hs
      cases hs' with
      | @tup a xs _ _ h1 h2 =>
        refine ⟨_, rfl, a, _, rfl, .inr h1, _, rfl, _, _, rfl, rfl, _, rfl, ?_⟩
        rw [Shs.length h2, show (fun i j : Int => decide (i = j)) (ds.length : Int) (n : Int) = (ds.length == n) from len_eq _ _]
        cases e : (ds.length == n) with
        | false =>
          refine iteF ?_
          have : cellD n (.tuple ds) = false := by show (ds.length == n && ds.all isI) = false; rw [e]; rfl
          rw [this] at q
          exact q
        | true =>
          refine iteT ⟨_, rfl, _, _, _, ds, rfl, hs, .inr rfl, ?_⟩
          have : cellD n (.tuple ds) = ds.all isI := by show (ds.length == n && ds.all isI) = _; rw [e]; rfl
          rw [this] at q
          exact q
    | _ => exact iteF q
theorem scFr : FnScope ["value", "width", "cell"] ["value", "width"] (defScope sFr) := ⟨rfl, rfl, rfl, by decide +kernel, rfl, by decide +kernel, by decide +kernel⟩
theorem ok_fr {f fC : Addr} {fd dC : FuncData} (F : Fun K "fits_row" "fits_row" sFr f fd) (N : Nm mg) (GC : FnOk P w K mg base CX0 3 fC dC ["value", "width"] (spAsk2 K cellD)) (mC : mg "fits_cell" = some (.ref fC)) (kC : PySem.W.keepIn K (.ref fC) = true) (bC : Binds K dC ["value", "width"] []) : FnOk P w K mg base CX0 4 f fd ["value", "width"] (spAsk2 K rowD) := by
  refine F.ok scFr (fun vs H Q E h => ?_) fun cdv A outer s H vs Q E hr h => ?_
  · obtain ⟨v, d, as, n, rfl, _⟩ := h
    rfl
  · obtain ⟨v, d, as, n, rfl, hs, q⟩ := h
    refine ⟨tSeq (tIfS (tNot (tB (tIsT K 0 "list"))) (tRet (tC (.bl false))) tNext) (tSeq (tFor (iList K (tVar 0)) (gName 2) (tTurn (tCall (spAsk2 K cellD) [] E0 (tCons (tVar 2) (tCons (tVar 1) tNil))))) (tRet (tC (.bl true)))),
      pss_cons (ps_if (pt_not (pt_val (pe_callB call_isi (by rfl) N.isi boot_isi (pa_cons (pv 0) (pa_cons (pe_bltn (v := V.ty "list") (by rfl) N.lst PyProof.Rows.boot_list (by rfl)) pa_nil))))) (pss_one (ps_ret pe_bl)) pss_nil)
      (pss_cons (ps_for PassesOwn.never rfl (pi_list (pv 0)) (pg_name (i := 2) scFr.nd rfl (Or.inl rfl))
      (pss_one (ps_if (pt_not (pt_val (pe_call GC hr rfl mC kC bC .nil pass0 (pa_cons (pv 2) (pa_cons (pv 1) pa_nil))))) (pss_one (ps_ret pe_bl)) pss_nil))) (pss_one (ps_ret pe_bl))), ?_⟩
    refine isT_run (σ := start ["value", "width", "cell"] [v, .int n]) rfl hs (kit_list d) ⟨_, rfl, ?_⟩
    cases d with
    | list ds =>
      refine iteF ?_
      cases hs with
      | @lst a xs _ _ h1 h2 =>
        refine ⟨_, rfl, a, rfl, ⟨_, h1⟩, all_list (f := cellD n) (te := tCall (spAsk2 K cellD) [] E0 (tCons (tVar 2) (tCons (tVar 1) tNil))) (σ0 := start ["value", "width", "cell"] [.ref a, .int n]) (i0 := 2) (show 2 < 3 by decide) h1 h2 (fun x d bs o Q h q => ⟨_, rfl, _, rfl, x, d, bs, n, rfl, h, q⟩) (fun e => ?_) (fun e o => ?_) none⟩
        · have : rowD n (.list ds) = false := e
          rw [this] at q; exact q
        · have : rowD n (.list ds) = true := e
          rw [this] at q; exact q
    | _ => exact iteT q
end
end L2.Ch

/-! # what counts as a width, a letter, a term: asked of any data -/
namespace L2.Ch
open PySem PySem.Spec PyProof.Rows L2.Vf L2.Dw
abbrev sLe : Stmt := top 19
abbrev sTe : Stmt := top 20
def widD : PyData → Bool
  | .int i => decide (1 ≤ i) && decide (i ≤ 2)
  | _ => false
def nonD : PyData → Bool
  | .int i => decide (0 ≤ i)
  | _ => false
def letD (n : Nat) : PyData → Bool
  | .tuple ds => (ds.length == n && ds.all isI) && ds.all nonD
  | _ => false
def termD (n : Nat) : PyData → Bool
  | .tuple [c, .tuple ls] => isI c && ls.all (letD n)
  | _ => false
section
variable {K : PySem.W.Frag} {H : Hp} {σ0 : St} {i0 : Nat} {tt : TT} {D : Ends} {xs : List V} {a : Addr} {f : PyData → Bool} {ds : List PyData} {as : List Addr}
/-- a tuple walked until a test says so -/
theorem any_tup (hi : i0 < σ0.length) (hx : SqT K H a xs) (hs : Shs K H xs ds as) (ht : ∀ x d bs (o : Option V) (Q : Bool → Hp → Prop), d ∈ ds → Sh K H x d bs → Q (!f d) H → tt ((σ0.set i0 o).set i0 (some x)) H Q)
    (hf : ds.all f = false → D.rt (.bl false) H) (hd : ds.all f = true → ∀ o, D.nx (σ0.set i0 o) H) (o0 : Option V) :
    ∃ W : Nat → Nat → St → Hp → Prop, (∃ m, W 0 m (σ0.set i0 o0) H) ∧ ∀ i m σ H, W i m σ H →
      ((Itt K a).stop i H ∧ D.nx σ H) ∨ ((Itt K a).go i H ∧ ∃ N : St → Hp → Prop, (∀ σ' H', N σ' H' → ∃ m', m' < m ∧ W (i + 1) m' σ' H') ∧ ∀ x H', (Itt K a).yld i H x H' → gName i0 x σ H' fun σ2 H2 => tIfS tt (tRet (tC (.bl false))) tNext { D with nx := N, ct := N, bk := D.nx } σ2 H2) := by
  refine for_tup (xs := xs) (fun i σ H' => H' = H ∧ (∃ o, σ = σ0.set i0 o) ∧ ∀ j d, j < i → ds[j]? = some d → f d = true) ⟨rfl, ⟨o0, rfl⟩, fun j x h => absurd h (by omega)⟩ (fun i σ H' _ hP => ?_) (fun i x σ H' hx' hP => ?_) fun σ H' hP => ?_
  · rw [hP.1]; exact hx
  · obtain ⟨rfl, ⟨o, rfl⟩, h⟩ := hP
    obtain ⟨d, bs, hd', hsh⟩ := Shs.get hs hx'
    refine ht x d bs o _ (List.mem_of_getElem? hd') hsh ?_
    cases e : f d with
    | false =>
      refine iteT (hf ?_)
      rw [List.all_eq_false]
      exact ⟨d, List.mem_of_getElem? hd', by rw [e]; simp⟩
    | true =>
      refine iteF ⟨rfl, ⟨some x, by rw [List.set_set]⟩, fun j y hj hy => ?_⟩
      by_cases q : j < i
      · exact h j y q hy
      · have : j = i := by omega
        subst this
        rw [hd'] at hy
        cases hy
        exact e
  · obtain ⟨rfl, ⟨o, rfl⟩, h⟩ := hP
    refine hd ?_ o
    rw [List.all_eq_true]
    intro x hx'
    obtain ⟨j, hj⟩ := List.getElem?_of_mem hx'
    exact h j x (by rw [hs.length]; exact (List.getElem?_eq_some_iff.mp hj).1) hj
end
section
variable {P : Program} {w : World} {K : PySem.W.Frag} {mg : Str → Option Value} {base : Heap}
theorem scWi : FnScope ["value"] ["value"] (defScope sWi) := ⟨rfl, rfl, rfl, by decide +kernel, rfl, by decide +kernel, by decide +kernel⟩
theorem ok_wi {f fW : Addr} {fd dW : FuncData} (F : Fun K "is_width" "is_width" sWi f fd) (GW : FnOk P w K mg base CX0 1 fW dW ["value"] (spAsk K isI)) (mW : mg "is_whole" = some (.ref fW)) (kW : PySem.W.keepIn K (.ref fW) = true) (bW : Binds K dW ["value"] []) : FnOk P w K mg base CX0 2 f fd ["value"] (spAsk K widD) := by
  refine F.ok scWi (fun vs H Q E h => ?_) fun cdv A outer s H vs Q E hr h => ?_
  · obtain ⟨v, d, as, rfl, _⟩ := h
    rfl
  · obtain ⟨v, d, as, rfl, hs, q⟩ := h
    refine ⟨_, pss_one (ps_ret (pe_and (pe_call GW hr rfl mW kW bW .nil pass0 (pa_cons (pv 0) pa_nil)) (pe_one (pe_chain op_le op_le pe_int (pv 0) pe_int)))), ?_⟩
    refine ⟨_, rfl, v, d, as, rfl, hs, _, rfl, ?_⟩
    cases d with
    | int i =>
      cases hs
      refine iteT ⟨_, rfl, _, i, rfl, rfl, _, rfl, ?_⟩
      by_cases c1 : 1 ≤ i
      · rw [decide_eq_true c1]
        refine iteT ⟨i, 2, rfl, rfl, ?_⟩
        have : widD (.int i) = decide (i ≤ 2) := by show (decide (1 ≤ i) && decide (i ≤ 2)) = _; rw [decide_eq_true c1]; rfl
        rw [this] at q
        exact q
      · rw [decide_eq_false c1]
        have : widD (.int i) = false := by show (decide (1 ≤ i) && decide (i ≤ 2)) = _; rw [decide_eq_false c1]; rfl
        rw [this] at q
        exact iteF q
    | _ => exact iteF q
theorem scLe : FnScope ["value", "width", "exponent"] ["value", "width"] (defScope sLe) := ⟨rfl, rfl, rfl, by decide +kernel, rfl, by decide +kernel, by decide +kernel⟩
theorem ok_le {f fC : Addr} {fd dC : FuncData} (F : Fun K "is_letter" "is_letter" sLe f fd) (GC : FnOk P w K mg base CX0 3 fC dC ["value", "width"] (spAsk2 K cellD)) (mC : mg "fits_cell" = some (.ref fC)) (kC : PySem.W.keepIn K (.ref fC) = true) (bC : Binds K dC ["value", "width"] []) : FnOk P w K mg base CX0 4 f fd ["value", "width"] (spAsk2 K letD) := by
  refine F.ok scLe (fun vs H Q E h => ?_) fun cdv A outer s H vs Q E hr h => ?_
  · obtain ⟨v, d, as, n, rfl, _⟩ := h
    rfl
  · obtain ⟨v, d, as, n, rfl, hs, q⟩ := h
    refine ⟨tSeq (tIfS (tNot (tB (tCall (spAsk2 K cellD) [] E0 (tCons (tVar 0) (tCons (tVar 1) tNil))))) (tRet (tC (.bl false))) tNext) (tSeq (tFor (iTup K (tVar 0)) (gName 2) (tIfS (tB (tLt (tVar 2) (tC (.int 0)))) (tRet (tC (.bl false))) tNext)) (tRet (tC (.bl true)))),
      pss_cons (ps_if (pt_not (pt_val (pe_call GC hr rfl mC kC bC .nil pass0 (pa_cons (pv 0) (pa_cons (pv 1) pa_nil))))) (pss_one (ps_ret pe_bl)) pss_nil)
      (pss_cons (ps_for PassesOwn.never rfl (pi_tup (pv 0)) (pg_name (i := 2) scLe.nd rfl (Or.inl rfl))
      (pss_one (ps_if (pt_cmp (pc_lt (pv 2) pe_int)) (pss_one (ps_ret pe_bl)) pss_nil))) (pss_one (ps_ret pe_bl))), ?_⟩
    refine ⟨_, rfl, _, rfl, v, d, as, n, rfl, hs, _, rfl, ?_⟩
    cases e : cellD n d with
    | false =>
      have : letD n d = false := by
        cases d with
        | tuple ds => show ((ds.length == n && ds.all isI) && ds.all nonD) = false; rw [show (ds.length == n && ds.all isI) = false from e]; rfl
        | _ => rfl
      rw [this] at q
      exact iteT q
    | true =>
      refine iteF ?_
      cases d with
      | tuple ds =>
        have e1 : (ds.length == n && ds.all isI) = true := e
        have e2 : ds.all isI = true := by rw [Bool.and_eq_true] at e1; exact e1.2
        have e3 : letD n (.tuple ds) = ds.all nonD := by show ((ds.length == n && ds.all isI) && ds.all nonD) = _; rw [e1]; rfl
        rw [e3] at q
        cases hs with
        | @tup a xs _ _ h1 h2 =>
          refine ⟨_, rfl, a, rfl, ⟨_, h1⟩, any_tup (f := nonD) (σ0 := start ["value", "width", "exponent"] [.ref a, .int n]) (i0 := 2) (show 2 < 3 by decide) h1 h2 (fun x d bs o Q hm h qq => ?_) (fun e => ?_) (fun e o => ?_) none⟩
          · have hi := List.all_eq_true.mp e2 d hm
            cases d with
            | int i =>
              cases h
              refine ⟨_, rfl, i, 0, rfl, rfl, _, rfl, ?_⟩
              have : (!nonD (.int i)) = decide (i < 0) := by
                show (!decide (0 ≤ i)) = _
                by_cases z : 0 ≤ i
                · rw [decide_eq_true z, decide_eq_false (by omega)]; rfl
                · rw [decide_eq_false z, decide_eq_true (by omega)]; rfl
              rw [this] at qq
              exact qq
            | _ => exact absurd hi (by simp [isI])
          · rw [e] at q; exact q
          · rw [e] at q; exact q
      | _ => exact absurd e (by simp [cellD])
end
end L2.Ch

/-! # what counts as a term: asked of any data -/
namespace L2.Ch
open PySem PySem.Spec PyProof.Rows L2.Vf L2.Dw
section
variable {P : Program} {w : World} {K : PySem.W.Frag} {mg : Str → Option Value} {base : Heap}
abbrev nTe : List Str := ["value", "width", "coefficient", "letters", "letter"]
theorem scTe : FnScope nTe ["value", "width"] (defScope sTe) := ⟨rfl, rfl, rfl, by decide +kernel, rfl, by decide +kernel, by decide +kernel⟩
theorem termD_len {n : Nat} {ds : List PyData} (h : ds.length ≠ 2) : termD n (.tuple ds) = false := by
  match ds, h with
  | [], _ => rfl
  | [c], _ => rfl
  | [c, x], h => exact absurd rfl h
  | c :: x :: y :: r, _ => cases x <;> rfl
theorem Shs.two {H : Hp} {xs : List V} {c x : PyData} {as : List Addr} (h : Shs K H xs [c, x] as) : ∃ vc vx ac ax, xs = [vc, vx] ∧ Sh K H vc c ac ∧ Sh K H vx x ax := by
  have l := Shs.length h
  match xs, h, l with
  | [vc, vx], h, _ =>
    obtain ⟨d, bs, e, h1⟩ := Shs.get (i := 0) h rfl
    obtain ⟨d', bs', e', h2⟩ := Shs.get (i := 1) h rfl
    cases e
    cases e'
    exact ⟨vc, vx, _, _, rfl, h1, h2⟩
theorem termD_not {n : Nat} {c x : PyData} (h : tyD x ≠ "tuple") : termD n (.tuple [c, x]) = false := by
  cases x <;> first | rfl | exact absurd rfl h
theorem ok_te {f fW fL : Addr} {fd dW dL : FuncData} (F : Fun K "is_term" "is_term" sTe f fd) (N : Nm mg) (GW : FnOk P w K mg base CX0 1 fW dW ["value"] (spAsk K isI)) (mW : mg "is_whole" = some (.ref fW)) (kW : PySem.W.keepIn K (.ref fW) = true) (bW : Binds K dW ["value"] [])
    (GL : FnOk P w K mg base CX0 4 fL dL ["value", "width"] (spAsk2 K letD)) (mL : mg "is_letter" = some (.ref fL)) (kL : PySem.W.keepIn K (.ref fL) = true) (bL : Binds K dL ["value", "width"] []) : FnOk P w K mg base CX0 5 f fd ["value", "width"] (spAsk2 K termD) := by
  refine F.ok scTe (fun vs H Q E h => ?_) fun cdv A outer s H vs Q E hr h => ?_
  · obtain ⟨v, d, as, n, rfl, _⟩ := h
    rfl
  · obtain ⟨v, d, as, n, rfl, hs, q⟩ := h
    refine ⟨tSeq (tIfS (tOr (tNot (tB (tIsT K 0 "tuple"))) (tB (tNeI (tLenS K 0) (tC (.int 2))))) (tRet (tC (.bl false))) tNext)
        (tSeq (tAsg (tVar 0) (gTup K 2 (gCons (gName 2) (gCons (gName 3) gNil))))
        (tSeq (tIfS (tOr (tNot (tB (tCall (spAsk K isI) [] E0 (tCons (tVar 2) tNil)))) (tNot (tB (tIsT K 3 "tuple")))) (tRet (tC (.bl false))) tNext)
        (tSeq (tFor (iTup K (tVar 3)) (gName 4) (tTurn (tCall (spAsk2 K letD) [] E0 (tCons (tVar 4) (tCons (tVar 1) tNil))))) (tRet (tC (.bl true)))))),
      pss_cons (ps_if (PW.pt (pw_or (pt_not (pt_val (pe_callB call_isi (by rfl) N.isi boot_isi (pa_cons (pv 0) (pa_cons (pe_bltn (v := V.ty "tuple") (by rfl) N.tup PyProof.Rows.boot_tuple (by rfl)) pa_nil))))) (pw_or1 (pt_cmp (pc_neI (pe_callB call_len_seq (by rfl) N.len PySem.boot_len (pa_cons (pv 0) pa_nil)) pe_int))))) (pss_one (ps_ret pe_bl)) pss_nil)
      (pss_cons (ps_asg (pv 0) (pg_tup rfl (pgs_cons (pg_name (i := 2) scTe.nd rfl (Or.inl rfl)) (pgs_cons (pg_name (i := 3) scTe.nd rfl (Or.inl rfl)) pgs_nil))))
      (pss_cons (ps_if (PW.pt (pw_or (pt_not (pt_val (pe_call GW (hr.mono (by decide)) rfl mW kW bW .nil pass0 (pa_cons (pv 2) pa_nil)))) (pw_or1 (pt_not (pt_val (pe_callB call_isi (by rfl) N.isi boot_isi (pa_cons (pv 3) (pa_cons (pe_bltn (v := V.ty "tuple") (by rfl) N.tup PyProof.Rows.boot_tuple (by rfl)) pa_nil)))))))) (pss_one (ps_ret pe_bl)) pss_nil)
      (pss_cons (ps_for PassesOwn.never rfl (pi_tup (pv 3)) (pg_name (i := 4) scTe.nd rfl (Or.inl rfl))
      (pss_one (ps_if (pt_not (pt_val (pe_call GL hr rfl mL kL bL .nil pass0 (pa_cons (pv 4) (pa_cons (pv 1) pa_nil))))) (pss_one (ps_ret pe_bl)) pss_nil))) (pss_one (ps_ret pe_bl))))), ?_⟩
    refine isT_run (σ := start nTe [v, .int n]) rfl hs (kit_tuple d) ⟨_, rfl, ?_⟩
    cases d with
    | tuple ds =>
      refine iteF ?_
      cases hs with
      | @tup a xs _ _ h1 h2 =>
        refine ⟨_, rfl, a, _, rfl, .inr h1, _, _, rfl, rfl, _, rfl, ?_⟩
        rw [Shs.length h2]
        by_cases c : ds.length = 2
        · rw [c]
          refine iteF ?_
          match ds, h2, c with
          | [c, x], h2, _ =>
            obtain ⟨vc, vx, ac, ax, rfl, hc, hx⟩ := Shs.two h2
            refine ⟨_, rfl, a, _, rfl, h1, rfl, _, _, rfl, _, _, rfl, rfl, ?_⟩
            refine ⟨_, rfl, vc, c, _, rfl, hc, _, rfl, ?_⟩
            cases e : isI c with
            | false =>
              have : termD n (.tuple [c, x]) = false := by
                cases x <;> first | rfl | (show (isI c && _) = false; rw [e]; rfl)
              rw [this] at q
              exact iteT (iteT q)
            | true =>
              refine iteF ?_
              refine isT_run (σ := ((start nTe [.ref a, .int n]).set 2 (some vc)).set 3 (some vx)) rfl hx (kit_tuple x) ⟨_, rfl, ?_⟩
              cases x with
              | tuple ls =>
                refine iteF ?_
                have e3 : termD n (.tuple [c, .tuple ls]) = ls.all (letD n) := by show (isI c && ls.all (letD n)) = _; rw [e]; rfl
                rw [e3] at q
                cases hx with
                | @tup b ys _ _ g1 g2 =>
                  refine ⟨_, rfl, b, rfl, ⟨_, g1⟩, all_tup (f := letD n) (te := tCall (spAsk2 K letD) [] E0 (tCons (tVar 4) (tCons (tVar 1) tNil))) (σ0 := ((start nTe [.ref a, .int n]).set 2 (some vc)).set 3 (some (.ref b))) (i0 := 4) (show 4 < 5 by decide) g1 g2 (fun x d bs o Q h q => ⟨_, rfl, _, rfl, x, d, bs, n, rfl, h, q⟩) (fun e => ?_) (fun e o => ?_) none⟩
                  · rw [e] at q; exact q
                  · rw [e] at q; exact q
              | _ => exact iteT q
        · have c' : ¬ ((ds.length : Int) = 2) := by omega
          rw [termD_len c] at q
          show (if (!decide ((ds.length : Int) = 2)) = true then _ else _)
          rw [decide_eq_false c']
          exact iteT q
    | _ => exact iteT (iteT q)
end
end L2.Ch

/-! # terms put together, as data -/
namespace L2.Nk
open PySem PySem.Spec PyProof.Rows PySem.W
/-- a term: its own tuple, the coefficient, the word -/
abbrev Trm := Addr × Int × Wd
abbrev Sm := List (Wd × Int)
def getS (ys : Sm) (k : Wd) : Int := ((ys.find? fun p => decide (p.1 = k)).map (·.2)).getD 0
def addS (ys : Sm) (c : Int) (k : Wd) : Sm := if (ys.any fun p => decide (p.1 = k)) = true then ys.map (fun p => if p.1 = k then (p.1, getS ys k + c) else p) else ys ++ [(k, getS ys k + c)]
def sumsOf (ts : List (Int × Wd)) : Sm := ts.foldl (fun ys t => addS ys t.1 t.2) []
def someOf (ys : Sm) : List (Int × Wd) := (ys.filter fun p => !decide (p.2 = 0)).map fun p => (p.2, p.1)
/-- the terms put together -/
def together (ts : List (Int × Wd)) : List (Int × Wd) := (someOf (sumsOf ts)).mergeSort (dataLe false fun t => dKey t.2)
theorem sums_snoc (ts : List (Int × Wd)) (t : Int × Wd) : sumsOf (ts ++ [t]) = addS (sumsOf ts) t.1 t.2 := by simp [sumsOf, List.foldl_append]
theorem addS_len (ys : Sm) (c : Int) (k : Wd) : (addS ys c k).length ≤ ys.length + 1 := by unfold addS; split <;> simp
theorem addS_keys (ys : Sm) (c : Int) (k : Wd) : (addS ys c k).map (·.1) = if (ys.any fun p => decide (p.1 = k)) = true then ys.map (·.1) else ys.map (·.1) ++ [k] := by
  unfold addS
  split
  · rw [List.map_map]
    refine List.map_congr_left fun p _ => ?_
    show (if p.1 = k then (p.1, getS ys k + c) else p).1 = p.1
    split <;> rfl
  · simp
theorem addS_nodup {ys : Sm} (h : (ys.map (·.1)).Nodup) (c : Int) (k : Wd) : ((addS ys c k).map (·.1)).Nodup := by
  rw [addS_keys]
  split
  · exact h
  · rename_i q
    rw [List.nodup_append]
    refine ⟨h, by simp, fun a ha b hb => ?_⟩
    rw [List.mem_singleton] at hb
    subst hb
    rintro rfl
    obtain ⟨p, hp, e⟩ := List.mem_map.mp ha
    refine q ?_
    rw [List.any_eq_true]
    exact ⟨p, hp, by simp [e]⟩
theorem foldl_inv {α β : Type} (P : α → Prop) (f : α → β → α) : ∀ (l : List β) (a : α), P a → (∀ a b, P a → P (f a b)) → P (l.foldl f a)
  | [], _, h, _ => h
  | b :: l, a, h, k => foldl_inv P f l (f a b) (k a b h) k
theorem sums_nodup (ts : List (Int × Wd)) : ((sumsOf ts).map (·.1)).Nodup := foldl_inv (fun ys : Sm => (ys.map (·.1)).Nodup) _ ts [] List.nodup_nil fun ys t h => addS_nodup h t.1 t.2
theorem foldl_len : ∀ (ts : List (Int × Wd)) (ys : Sm), (ts.foldl (fun ys t => addS ys t.1 t.2) ys).length ≤ ys.length + ts.length
  | [], ys => by simp
  | t :: ts, ys => by
    have h1 := foldl_len ts (addS ys t.1 t.2)
    have h2 := addS_len ys t.1 t.2
    simp only [List.foldl_cons, List.length_cons]
    omega
theorem sums_len (ts : List (Int × Wd)) : (sumsOf ts).length ≤ ts.length := by have := foldl_len ts []; simpa [sumsOf] using this
theorem getS_mem {ys : Sm} (h : (ys.map (·.1)).Nodup) {p : Wd × Int} (hp : p ∈ ys) : getS ys p.1 = p.2 := by
  induction ys with
  | nil => cases hp
  | cons q ys ih =>
    rw [List.map_cons, List.nodup_cons] at h
    rcases List.mem_cons.mp hp with rfl | hp
    · simp [getS]
    · have ne : ¬ q.1 = p.1 := fun e => h.1 (by rw [e]; exact List.mem_map.mpr ⟨p, hp, rfl⟩)
      have := ih h.2 hp
      simpa [getS, List.find?_cons, ne] using this
/-- entries that hold the sums ys -/
abbrev AsS : List Ent → Sm → Prop := Paired fun e p => e.1 = p.1 ∧ e.2.2 = .int p.2
theorem AsS.val {xs : List Ent} {ys : Sm} (h : AsS xs ys) (k : Wd) : valN xs k = (ys.find? fun p => decide (p.1 = k)).map fun p => V.int p.2 := by
  induction h with
  | nil => rfl
  | @cons e p es ps h _ ih =>
    by_cases z : p.1 = k
    · rw [valN_pos (h.1.trans z), List.find?_cons, decide_eq_true z]; simp [h.2]
    · rw [valN_neg (fun q => z (h.1.symm.trans q)), List.find?_cons, decide_eq_false z]; exact ih
theorem AsS.get {xs : List Ent} {ys : Sm} (h : AsS xs ys) (k : Wd) : (valN xs k).getD (.int 0) = .int (getS ys k) := by
  rw [h.val k]
  unfold getS
  cases ys.find? fun p => decide (p.1 = k) <;> rfl
theorem AsS.any {xs : List Ent} {ys : Sm} (h : AsS xs ys) (k : Wd) : (xs.any fun x => decide (x.1 = k)) = ys.any fun p => decide (p.1 = k) := by
  induction h with
  | nil => rfl
  | cons h _ ih => rw [List.any_cons, List.any_cons, ih, h.1]
theorem AsS.maps {xs : List Ent} {ys : Sm} (h : AsS xs ys) (k : Wd) (n : Int) : AsS (xs.map fun x => if x.1 = k then (x.1, x.2.1, V.int n) else x) (ys.map fun p => if p.1 = k then (p.1, n) else p) := by
  induction h with
  | nil => exact .nil
  | @cons e p es ps h _ ih =>
    rw [List.map_cons, List.map_cons]
    refine .cons ?_ ih
    by_cases z : p.1 = k
    · rw [if_pos (h.1.trans z), if_pos z]; exact ⟨h.1, rfl⟩
    · rw [if_neg (fun q => z (h.1.symm.trans q)), if_neg z]; exact h
theorem AsS.put {xs : List Ent} {ys : Sm} (h : AsS xs ys) (c : Int) (k : Wd) (b : Addr) : AsS (putN xs k b (.int (getS ys k + c))) (addS ys c k) := by
  unfold putN addS
  rw [h.any k]
  by_cases q : (ys.any fun p => decide (p.1 = k)) = true
  · rw [if_pos q, if_pos q]; exact h.maps k _
  · rw [if_neg q, if_neg q]; exact Paired.snoc h ⟨rfl, rfl⟩
theorem AsS.at {xs : List Ent} {ys : Sm} (h : AsS xs ys) : ∀ {i : Nat} {e : Ent}, xs[i]? = some e → ∃ p, ys[i]? = some p ∧ e.1 = p.1 ∧ e.2.2 = .int p.2 := by
  induction h with
  | nil => intro i e q; simp at q
  | cons h _ ih =>
    intro i e q
    cases i with
    | zero => simp at q; subst q; exact ⟨_, rfl, h⟩
    | succ j => simpa using ih (by simpa using q)
theorem NKeys.put {K : Frag} {H : Hp} {xs : List Ent} {k : Wd} {b : Addr} {v : V} (h : NKeys K H xs) (hk : NKey K H k b) : NKeys K H (putN xs k b v) := by
  intro x hx
  unfold putN at hx
  split at hx
  · obtain ⟨y, hy, rfl⟩ := List.mem_map.mp hx
    have q := h y hy
    split <;> exact q
  · rcases List.mem_append.mp hx with hx | hx
    · exact h x hx
    · rw [List.mem_singleton.mp hx]; exact hk
theorem NKeys.ext {K : Frag} {H H' : Hp} {xs : List Ent} (h : NKeys K H xs) (e : LamX.ExtN H H') : NKeys K H' xs := fun x hx => nKey_ext e (h x hx)
/-- at p: a term with its coefficient -/
def TmAt (K : Frag) (H : Hp) (p : Trm) : Prop := ∃ b, SqT K H p.1 [.int p.2.1, .ref b] ∧ NKey K H p.2.2 b
theorem TmAt.ext {K : Frag} {H H' : Hp} {p : Trm} (e : LamX.ExtN H H') (h : TmAt K H p) : TmAt K H' p := by
  obtain ⟨b, h1, h2⟩ := h
  exact ⟨b, sqT_ext e h1, nKey_ext e h2⟩
def sortT (rs : List Trm) : List Trm := rs.mergeSort (dataLe false fun r => dKey r.2.2)
theorem sortW_of (rs : List Trm) : sortW (rs.map fun r => (r.1, r.2.2)) = (sortT rs).map fun r => (r.1, r.2.2) := (sort_maps (fun r : Trm => (r.1, r.2.2)) fun a _ b _ => rfl).symm
theorem sortT_told {rs : List Trm} {ts : List (Int × Wd)} (h : rs.map (·.2) = someOf (sumsOf ts)) : (sortT rs).map (·.2) = together ts := by
  unfold together sortT
  rw [← h]
  exact sort_maps (fun r : Trm => r.2) fun a _ b _ => rfl
theorem mem_sortT {rs : List Trm} {r : Trm} (h : r ∈ sortT rs) : r ∈ rs := by
  unfold sortT at h
  exact List.mem_mergeSort.mp h
theorem some_take {ys : Sm} {i : Nat} {p : Wd × Int} (h : ys[i]? = some p) : someOf (ys.take (i + 1)) = someOf (ys.take i) ++ (if p.2 = 0 then [] else [(p.2, p.1)]) := by
  unfold someOf
  rw [List.take_add_one, h]
  by_cases z : p.2 = 0
  · simp [List.filter_append, z]
  · simp [List.filter_append, z]
end L2.Nk

/-! # put_together -/
namespace L2.Fo
open PySem PySem.Spec PyProof.Rows L2.Vf L2.Dw L2.Ch L2.Nk
abbrev sPt : Stmt := top 21
abbrev nPt : List Str := ["terms", "sums", "coefficient", "letters", "found"]
def lamPt : Str := ("put_together" : Str) ++ ".<locals>." ++ "<lambda>"
section
variable {P : Program} {w : World} {K : PySem.W.Frag} {mg : Str → Option Value} {base : Heap}
/-- as Fun.ok, its code object known -/
theorem okC {x qual : Str} {st : Stmt} {f c : Addr} {fd : FuncData} {N ps : List Str} {k : Nat} {sp : Sp} (F : Fun K x qual st f fd) (hc : fd.code = .ref c) (S : FnScope N ps (defScope st)) (len : ∀ vs H Q E, sp vs H Q E → vs.length = ps.length)
    (hbody : ∀ (A : Around) (outer : List Env) (s : Shared) (H : Hp) (vs : List V) (Q : VK) (E : XK), Room k (A.deeper (envOfC qual (defScope st) s.heap.objs.size f (.ref c))) → sp vs H Q E →
      ∃ t, PSs (cxOf CX0 P w K mg base N qual (defScope st) f (.ref c) A outer s H E).nox (defBody st) t ∧ t { nx := fun _ H' => Q .non H', rt := Q } (start N vs) H) : FnOk P w K mg base CX0 (k + 1) f fd ps sp := by
  obtain ⟨oc, od, kV, doc, pm, an, cdv, ct, osl, rfl, lk, hcd⟩ := F.ex
  obtain rfl : cdv = .ref c := hc
  refine fn_of lk hcd S len fun A outer s H vs Q E hr hsp => ?_
  obtain ⟨t, h, q⟩ := hbody A outer s H vs Q E hr hsp
  exact ⟨t, h.nox, q⟩
theorem scPt : FnScope nPt ["terms"] (defScope sPt) := ⟨rfl, rfl, rfl, by decide +kernel, rfl, by decide +kernel, by decide +kernel⟩
/-- the term of put_together -/
def tPt (P : Program) (w : World) (K : PySem.W.Frag) (T : List (Addr × Str)) : TS :=
  tSeq (tAsg (tNNew P w) (gName 1))
  (tSeq (tFor (iList K (tVar 0)) (gTup K 2 (gCons (gName 2) (gCons (gName 3) gNil))) (sNPut P w K (tVar 1) (tVar 3) (tAdd (tNGet2 P w K (tVar 1) (tVar 3) (tC (.int 0))) (tVar 2))))
  (tSeq (tLock (tAsg (tLc (iKeysN P w (tVar 1)) (gName 3) (tB (tNeI (tNGet P w K (tVar 1) (tVar 3)) (tC (.int 0)))) (tTup (tCons (tNGet P w K (tVar 1) (tVar 3)) (tCons (tVar 3) tNil))) [3]) (gName 4)))
  (tRet (tSortW K T (tVar 4)))))
theorem der_pt {f c Pt : Addr} {T : List (Addr × Str)} {A : Around} {outer : List Env} {s : Shared} {H : Hp} {E : XK} (N : Nm mg) (mS : mg "sorted" = none) (TB : LamX.TabB base mg c Pt) (hmT : (Pt, lamPt) ∈ T) (hu : ∀ p ∈ T, p.1 = Pt → p.2 = lamPt)
    (hr : Room 2 (A.deeper (envOfC "put_together" (defScope sPt) s.heap.objs.size f (.ref c)))) :
    PSs (cxOf CX0 P w K mg base nPt "put_together" (defScope sPt) f (.ref c) A outer s H E).nox (defBody sPt) (tPt P w K T) := by
  have h2 : (A.deeper (envOfC "put_together" (defScope sPt) s.heap.objs.size f (.ref c))).units + 2 < cLine := by have := hr.units; omega
  refine pss_cons (ps_asg pe_nnew (pg_name (i := 1) scPt.nd rfl (Or.inr rfl))) ?_
  refine pss_cons (ps_for PassesOwn.never rfl (pi_list (pv 0)) (pg_tup rfl (pgs_cons (pg_name (i := 2) scPt.nd rfl (Or.inl rfl)) (pgs_cons (pg_name (i := 3) scPt.nd rfl (Or.inl rfl)) pgs_nil)))
    (pss_one (ps_nput h2 (pv 1) (pv 3) (pe_add (pe_nget2 h2 (pv 1) (pv 3) pe_int ⟨by rfl, by rfl, by rfl, by rfl⟩) (pv 2)) (by rfl)))) ?_
  refine pss_cons ?_ ?_
  · exact ps_lock (ps_setLc (i := 4) (own := [("letters", 3)]) (g := gName 3) (tt := tB (tNeI (tNGet P w K (tVar 1) (tVar 3)) (tC (.int 0)))) (te := tTup (tCons (tNGet P w K (tVar 1) (tVar 3)) (tCons (tVar 3) tNil))) rfl scPt.nd rfl rfl (sw_true rfl rfl rfl (by decide +kernel)) (pi_keysN (pv 1)) (blkOk_by (N := nPt) (sc := defScope sPt) (by decide +kernel))
      (fun _ _ _ _ _ => pg_name (i := 3) scPt.nd rfl (Or.inl rfl)) (fun _ _ _ _ _ => pts_one (pt_cmp (pc_neI (pe_nget h2 (pv 1) (pv 3) (fun _ _ => rfl)) pe_int))) (fun _ _ _ _ _ => pe_tup (pa_cons (pe_nget h2 (pv 1) (pv 3) (fun _ _ => rfl)) (pa_cons (pv 3) pa_nil))))
  · exact pss_one (ps_ret (pe_sortW (y := "term") (kn := 0) (by rfl) mS N.len (pv 4) hr TB rfl hmT hu ⟨rfl, rfl, rfl, by decide +kernel, rfl, rfl, rfl⟩ (fun _ _ _ _ _ _ => rfl) (by rfl) (by decide +kernel)))
end
end L2.Fo

/-! # put_together, its reading -/
namespace L2.Fo
open PySem PySem.Spec PyProof.Rows L2.Vf L2.Dw L2.Ch L2.Nk
theorem upd_two {H : Hp} {d : Addr} {o o' : HO} : upd (upd H d o) d o' = upd H d o' := by
  funext b
  by_cases e : b = d
  · rw [e, upd_same, upd_same]
  · rw [upd_ne e, upd_ne e, upd_ne e]
theorem sqT_thaw {K : PySem.W.Frag} {P : Program} {w : World} {H : Hp} {d d' c : Addr} {od : Obj} {es : List Ent} {o' : HO} {xs : List V} (e : H d = some (.frz od (NtO P w d' es))) (h : SqT K H c xs) : SqT K (upd H d o') c xs := by
  have ne : (H c = some (.tup xs) ∨ ∃ o, H c = some (.frz o (.tup xs))) → c ≠ d := fun h z => by
    rw [z, e] at h
    unfold NtO at h
    rcases h with h | ⟨o, h⟩ <;> cases h
  rcases h with h | h
  · exact .inl (by unfold Rd; rw [upd_ne (ne h)]; exact h)
  · exact .inr h
theorem nKey_thaw {K : PySem.W.Frag} {P : Program} {w : World} {H : Hp} {d d' b : Addr} {od : Obj} {es : List Ent} {o' : HO} {k : Wd} (e : H d = some (.frz od (NtO P w d' es))) (h : NKey K H k b) : NKey K (upd H d o') k b := h.mono fun _ _ => sqT_thaw e
/-- nothing but a table may have been there -/
def NewN (H : Hp) (D : Addr) : Prop := ∀ o, H D = some o → ∃ ps, o = .tbl ps
theorem newN_of {H H' : Hp} {D : Addr} (e : LamX.ExtN H H') (h : H' D = none) : NewN H D := fun o ho => by
  cases o with
  | tbl ps => exact ⟨ps, rfl⟩
  | _ => rw [e _ _ ho (fun ps z => by cases z)] at h; cases h
section
variable {P : Program} {w : World} {K : PySem.W.Frag}
theorem rd_pt2 {H : Hp} {a D0 : Addr} {T : List (Addr × Str)} {Q : VK} {xs : List Ent} {ys : Sm} {o2 o3 : Option V} (h0 : H D0 = none) (hT : LamX.Tabs T H) (hs : AsS xs ys) (nd : (ys.map (·.1)).Nodup) (hk : NKeys K H xs) (hz : xs.length < sizeLine)
    (q : ∀ (D : Addr) (rs : List Trm) (H' : Hp), LamX.ExtN H H' → LamX.Tabs T H' → NewN H D → H' D = some (.lst (rs.map fun r => V.ref r.1)) → (∀ r ∈ rs, TmAt K H' r ∧ H r.1 = none) → (∃ rs0 : List Trm, rs = sortT rs0 ∧ rs0.map (·.2) = someOf ys) → Q (.ref D) H') :
    tSeq (tLock (tAsg (tLc (iKeysN P w (tVar 1)) (gName 3) (tB (tNeI (tNGet P w K (tVar 1) (tVar 3)) (tC (.int 0)))) (tTup (tCons (tNGet P w K (tVar 1) (tVar 3)) (tCons (tVar 3) tNil))) [3]) (gName 4)))
      (tRet (tSortW K T (tVar 4))) { nx := fun _ H' => Q .non H', rt := Q } [some (.ref a), some (.ref D0), o2, o3, none] (upd H D0 (NtO P w D0 xs)) := by
  refine ⟨D0, NtO P w D0 xs, upd_same, True.intro, fun od => ?_⟩
  rw [upd_two]
  have sf : Same H (upd H D0 (.frz od (NtO P w D0 xs))) := same_new h0
  refine ⟨_, rfl, D0, od, xs, rfl, upd_same, fun D hD => ?_⟩
  have nDD : D0 ≠ D := fun e => by rw [← e, upd_same] at hD; cases hD
  refine lc_it walk_keysN (fun i H' => ∃ rs : List Trm, Same (upd H D0 (.frz od (NtO P w D0 xs))) H' ∧ H' D = some (.lst (rs.map fun r => V.ref r.1)) ∧ (∀ r ∈ rs, TmAt K H' r ∧ H r.1 = none) ∧ rs.map (·.2) = someOf (ys.take i) ∧ rs.length ≤ i) ?_ ?_ ?_ ?_
  · exact ⟨[], same_new hD, upd_same, fun r hr => absurd hr (by simp), by simp [someOf], Nat.le_refl _⟩
  · rintro i H' _ ⟨rs, s1, _⟩
    exact s1 _ _ upd_same
  · rintro i x H' H'' hi ⟨rs, s1, e1, r1, m1, l1⟩ ⟨rfl, e, he, rfl⟩
    obtain ⟨p, hp, ek, ev⟩ := hs.at he
    have eD0 : H'' D0 = some (.frz od (NtO P w D0 xs)) := s1 _ _ upd_same
    have s0 : Same H H'' := sf.trans s1
    have hk1 : NKeys K H'' xs := hk.ext (.of s0)
    have hke : NKey K H'' e.1 e.2.1 := hk1 e (List.mem_of_getElem? he)
    have hget : NGet P w K H'' D0 (.ref e.2.1) (some (.int p.2)) := by
      refine ⟨xs, e.1, e.2.1, .inr ⟨od, eD0⟩, hk1, rfl, hke, ?_⟩
      have hm := List.mem_of_getElem? hp
      have g := getS_mem nd hm
      rw [hs.val e.1, ek]
      unfold getS at g
      cases z : ys.find? (fun q => decide (q.1 = p.1)) with
      | none => exact absurd (List.find?_eq_none.mp z p hm) (by simp)
      | some r => rw [z] at g; simp at g; simp [g]
    refine ⟨rfl, ?_⟩
    refine ⟨_, rfl, _, rfl, D0, _, rfl, hget, p.2, 0, rfl, rfl, _, rfl, ?_⟩
    show (if (!decide (p.2 = 0)) = true then _ else _)
    by_cases z : p.2 = 0
    · rw [decide_eq_true z]
      refine iteF ⟨rs, s1, e1, r1, ?_, by omega⟩
      rw [some_take hp, if_pos z, m1, List.append_nil]
    · rw [decide_eq_false z]
      refine iteT ?_
      refine ⟨_, rfl, _, rfl, D0, _, rfl, hget, _, rfl, by show 2 ≤ _; rw [sizeLine_eq]; omega, fun t hq => ?_⟩
      have nt : D ≠ t := ne_of_none e1 hq
      have s2 : Same H'' (upd H'' t (.tup [.int p.2, .ref e.2.1])) := same_new hq
      have e2 : (upd H'' t (.tup [.int p.2, .ref e.2.1])) D = some (.lst (rs.map fun r => V.ref r.1)) := s2 _ _ e1
      have keepD : ∀ {c : Addr} {us : List V}, SqT K (upd H'' t (.tup [.int p.2, .ref e.2.1])) c us → SqT K (upd (upd H'' t (.tup [.int p.2, .ref e.2.1])) D (.lst ((rs.map fun r => V.ref r.1) ++ [.ref t]))) c us := fun h => sqT_upd e2 True.intro h
      have keepT : ∀ {r : Trm}, TmAt K (upd H'' t (.tup [.int p.2, .ref e.2.1])) r → TmAt K (upd (upd H'' t (.tup [.int p.2, .ref e.2.1])) D (.lst ((rs.map fun r => V.ref r.1) ++ [.ref t]))) r := fun ⟨b, h1, h2⟩ => ⟨b, keepD h1, h2.mono fun _ _ h => keepD h⟩
      refine ⟨_, e2, by rw [List.length_map]; omega, rs ++ [(t, p.2, e.1)], fun b o hb => ?_, ?_, fun r hr => ?_, ?_, by simp; omega⟩
      · have nb : b ≠ D := ne_of_none hb hD
        rw [upd_ne nb]
        exact s2 _ _ (s1 _ _ hb)
      · rw [upd_same, List.map_append]
        rfl
      · rcases List.mem_append.mp hr with hr | hr
        · exact ⟨keepT ((r1 r hr).1.ext (.of s2)), (r1 r hr).2⟩
        · rw [List.mem_singleton.mp hr]
          refine ⟨keepT ⟨e.2.1, SqT.of upd_same, nKey_ext (.of s2) hke⟩, s0.free hq⟩
      · rw [List.map_append, m1, some_take hp, if_neg z, ek]
        rfl
  · rintro H' ⟨rs, s1, e1, r1, m1, l1⟩
    have eD0 : H' D0 = some (.frz od (NtO P w D0 xs)) := s1 _ _ upd_same
    refine ⟨eD0, ?_⟩
    have s0 : Same H (upd H' D0 (NtO P w D0 xs)) := fun b o hb => by
      rw [upd_ne (ne_of_none hb h0)]
      exact s1 _ _ (sf _ _ hb)
    have tm : ∀ r ∈ rs, TmAt K (upd H' D0 (NtO P w D0 xs)) r := fun r hr => by
      obtain ⟨b, h1, h2⟩ := (r1 r hr).1
      exact ⟨b, sqT_thaw eD0 h1, nKey_thaw eD0 h2⟩
    have eD : (upd H' D0 (NtO P w D0 xs)) D = some (.lst (rs.map fun r => V.ref r.1)) := by rw [upd_ne nDD.symm]; exact e1
    refine ⟨_, rfl, hT.ext s0, D, rs.map (fun r => (r.1, r.2.2)), rfl, SqL.of (by rw [eD, List.map_map]; rfl), fun p hp => ?_, fun H2 eN T2 t ht => ?_⟩
    · obtain ⟨r, hr, rfl⟩ := List.mem_map.mp hp
      obtain ⟨b, h1, h2⟩ := tm r hr
      exact ⟨_, b, h1, h2⟩
    · have eN0 : LamX.ExtN H H2 := (LamX.ExtN.of s0).trans eN
      have s3 : Same H2 (upd H2 t (.lst ((sortW (rs.map fun r => (r.1, r.2.2))).map fun p => V.ref p.1))) := same_new ht
      refine q t (sortT rs) _ (eN0.trans (.of s3)) (T2.ext s3) (newN_of eN0 ht) ?_ (fun r hr => ?_) ⟨rs, rfl, ?_⟩
      · rw [upd_same, sortW_of, List.map_map]
        rfl
      · have hr' := mem_sortT hr
        exact ⟨((tm r hr').ext eN).ext (.of s3), (r1 r hr').2⟩
      · have : ys.take xs.length = ys := by rw [Paired.length hs]; exact List.take_length
        rw [m1, this]
end
end L2.Fo

/-! # put_together: what it promises -/
namespace L2.Fo
open PySem PySem.Spec PyProof.Rows L2.Vf L2.Dw L2.Ch L2.Nk
/-- put_together of a list of terms: a new list of new terms -/
def spPt (K : PySem.W.Frag) (T : List (Addr × Str)) : Sp := fun vs H Q _ => ∃ (a : Addr) (ts : List Trm), vs = [.ref a] ∧ SqL K H a (ts.map fun t => V.ref t.1) ∧ (∀ t ∈ ts, TmAt K H t) ∧ ts.length < sizeLine ∧ LamX.Tabs T H ∧
  ∀ (D : Addr) (rs : List Trm) (H' : Hp), LamX.ExtN H H' → LamX.Tabs T H' → NewN H D → H' D = some (.lst (rs.map fun r => V.ref r.1)) → (∀ r ∈ rs, TmAt K H' r ∧ H r.1 = none) → rs.map (·.2) = together (ts.map (·.2)) → Q (.ref D) H'
section
variable {P : Program} {w : World} {K : PySem.W.Frag} {mg : Str → Option Value} {base : Heap}
theorem rd_pt {H : Hp} {a : Addr} {ts : List Trm} {T : List (Addr × Str)} {Q : VK} (hl : SqL K H a (ts.map fun t => V.ref t.1)) (ht : ∀ t ∈ ts, TmAt K H t) (hz : ts.length < sizeLine) (hT : LamX.Tabs T H)
    (q : ∀ (D : Addr) (rs : List Trm) (H' : Hp), LamX.ExtN H H' → LamX.Tabs T H' → NewN H D → H' D = some (.lst (rs.map fun r => V.ref r.1)) → (∀ r ∈ rs, TmAt K H' r ∧ H r.1 = none) → rs.map (·.2) = together (ts.map (·.2)) → Q (.ref D) H') :
    tPt P w K T { nx := fun _ H' => Q .non H', rt := Q } (start nPt [.ref a]) H := by
  intro D0 h0
  have sl : ∀ {o : HO}, Same H (upd H D0 o) := same_new h0
  refine ⟨_, rfl, a, rfl, ⟨_, sqL_ext (.of sl) hl⟩, ?_⟩
  refine for_it (walk_list (xs := ts.map fun t => V.ref t.1)) (fun j σ H' => ∃ xs, H' = upd H D0 (NtO P w D0 xs) ∧ AsS xs (sumsOf ((ts.take j).map (·.2))) ∧ NKeys K H xs ∧ ∃ o2 o3, σ = [some (.ref a), some (.ref D0), o2, o3, none]) ?_ ?_ ?_ ?_
  · exact ⟨[], rfl, .nil, fun x hx => absurd hx (by simp), none, none, rfl⟩
  · rintro i σ H' _ ⟨xs, rfl, _⟩
    exact sqL_ext (.of sl) hl
  · rintro i x σ H1 H1' hi ⟨xs, rfl, hs, hk, o2, o3, rfl⟩ ⟨rfl, hx⟩
    rw [List.getElem?_map] at hx
    obtain ⟨t, hti, rfl⟩ := Option.map_eq_some_iff.mp hx
    obtain ⟨b, h1, h2⟩ := ht t (List.mem_of_getElem? hti)
    have h1' : SqT K (upd H D0 (NtO P w D0 xs)) t.1 [.int t.2.1, .ref b] := sqT_ext (.of sl) h1
    have h2' : NKey K (upd H D0 (NtO P w D0 xs)) t.2.2 b := nKey_ext (.of sl) h2
    have hk' : NKeys K (upd H D0 (NtO P w D0 xs)) xs := hk.ext (.of sl)
    have hln : xs.length < sizeLine := by
      have l1 := Paired.length hs
      have l2 := sums_len ((ts.take i).map (·.2))
      rw [List.length_map, List.length_take] at l2
      omega
    refine ⟨t.1, _, rfl, h1', rfl, _, _, rfl, _, _, rfl, rfl, ?_⟩
    refine ⟨_, rfl, D0, rfl, ⟨xs, .inl upd_same⟩, _, rfl, _, ⟨xs, t.2.2, b, .inl upd_same, hk', rfl, h2', rfl⟩, _, rfl, _, _, hs.get _, rfl, ?_⟩
    refine ⟨_, rfl, _, rfl, D0, _, rfl, ⟨xs, t.2.2, b, upd_same, hk', rfl, h2', hln, rfl⟩, ?_⟩
    refine ⟨_, upd_two, ?_, hk.put h2, _, _, rfl⟩
    have e : (ts.take (i + 1)).map (·.2) = (ts.take i).map (·.2) ++ [t.2] := by rw [List.take_add_one, hti]; simp
    rw [e, sums_snoc]
    exact hs.put _ _ _
  · rintro σ H' ⟨xs, rfl, hs, hk, o2, o3, rfl⟩
    have e : (ts.take (ts.map fun t => V.ref t.1).length).map (·.2) = ts.map (·.2) := by rw [List.length_map, List.take_length]
    rw [e] at hs
    have hln : xs.length < sizeLine := by
      have l1 := Paired.length hs
      have l2 := sums_len (ts.map (·.2))
      rw [List.length_map] at l2
      omega
    refine rd_pt2 h0 hT hs (sums_nodup _) hk hln fun D rs H' e1 e2 e3 e4 e5 ⟨rs0, e6, e7⟩ => q D rs H' e1 e2 e3 e4 e5 ?_
    rw [e6]
    exact sortT_told e7
theorem ok_pt {f c Pt : Addr} {fd : FuncData} {T : List (Addr × Str)} (F : Fun K "put_together" "put_together" sPt f fd) (hc : fd.code = .ref c) (N : Nm mg) (mS : mg "sorted" = none) (TB : LamX.TabB base mg c Pt) (hmT : (Pt, lamPt) ∈ T) (hu : ∀ p ∈ T, p.1 = Pt → p.2 = lamPt) :
    FnOk P w K mg base CX0 3 f fd ["terms"] (spPt K T) := by
  refine okC F hc scPt (fun vs H Q E h => ?_) fun A outer s H vs Q E hr h => ?_
  · obtain ⟨a, ts, rfl, _⟩ := h
    rfl
  · obtain ⟨a, ts, rfl, hl, ht, hz, hT, q⟩ := h
    exact ⟨_, der_pt N mS TB hmT hu hr, rd_pt hl ht hz hT q⟩
end
end L2.Fo

/-! # data that are terms -/
namespace L2.Fo
open PySem PySem.Spec PyProof.Rows L2.Vf L2.Dw L2.Ch L2.Nk
def dTrm (t : Int × Wd) : PyData := .tuple [.int t.1, dWord t.2]
theorem isI_all : ∀ {ds : List PyData}, ds.all isI = true → ∃ l : List Int, ds = l.map PyData.int
  | [], _ => ⟨[], rfl⟩
  | d :: ds, h => by
    rw [List.all_cons, Bool.and_eq_true] at h
    obtain ⟨l, rfl⟩ := isI_all h.2
    cases d with
    | int i => exact ⟨i :: l, rfl⟩
    | _ => exact absurd h.1 (by simp [isI])
theorem letD_is {n : Nat} {d : PyData} (h : letD n d = true) : ∃ l : List Int, d = dLine l := by
  cases d with
  | tuple ds =>
    have h' : ((ds.length == n && ds.all isI) && ds.all nonD) = true := h
    rw [Bool.and_eq_true, Bool.and_eq_true] at h'
    obtain ⟨l, rfl⟩ := isI_all h'.1.2
    exact ⟨l, rfl⟩
  | _ => exact absurd h (by simp [letD])
theorem letD_all {n : Nat} : ∀ {ds : List PyData}, ds.all (letD n) = true → ∃ k : Wd, ds = k.map dLine
  | [], _ => ⟨[], rfl⟩
  | d :: ds, h => by
    rw [List.all_cons, Bool.and_eq_true] at h
    obtain ⟨k, rfl⟩ := letD_all h.2
    obtain ⟨l, rfl⟩ := letD_is h.1
    exact ⟨l :: k, rfl⟩
theorem termD_is {n : Nat} {d : PyData} (h : termD n d = true) : ∃ t : Int × Wd, d = dTrm t := by
  unfold termD at h
  split at h
  · rename_i c ls
    rw [Bool.and_eq_true] at h
    obtain ⟨k, rfl⟩ := letD_all h.2
    cases c with
    | int i => exact ⟨(i, k), rfl⟩
    | _ => exact absurd h.1 (by simp [isI])
  · cases h
theorem termD_all {n : Nat} : ∀ {ds : List PyData}, ds.all (termD n) = true → ∃ ts : List (Int × Wd), ds = ts.map dTrm
  | [], _ => ⟨[], rfl⟩
  | d :: ds, h => by
    rw [List.all_cons, Bool.and_eq_true] at h
    obtain ⟨ts, rfl⟩ := termD_all h.2
    obtain ⟨t, rfl⟩ := termD_is h.1
    exact ⟨t :: ts, rfl⟩
section
variable {K : PySem.W.Frag} {H : Hp}
theorem shs_intsF : ∀ {l : List Int} {xs : List V} {as : List Addr}, Shs K H xs (l.map .int) as → xs = l.map V.int
  | [], _, _, h => by cases h; rfl
  | i :: l, _, _, h => by
    cases h with
    | cons h1 h2 =>
      cases h1
      rw [shs_intsF h2]
      rfl
theorem sh_lineT {l : List Int} {v : V} {as : List Addr} (h : Sh K H v (dLine l) as) : ∃ q, v = .ref q ∧ SqT K H q (l.map V.int) := by
  cases h with
  | tup h1 h2 =>
    rw [shs_intsF h2] at h1
    exact ⟨_, rfl, h1⟩
theorem shs_word : ∀ {k : Wd} {xs : List V} {as : List Addr}, Shs K H xs (k.map dLine) as → ∃ bs : List Addr, xs = bs.map .ref ∧ Paired (fun c l => SqT K H c (l.map V.int)) bs k
  | [], _, _, h => by cases h; exact ⟨[], rfl, .nil⟩
  | l :: k, _, _, h => by
    cases h with
    | cons h1 h2 =>
      obtain ⟨q, rfl, e⟩ := sh_lineT h1
      obtain ⟨bs, rfl, r⟩ := shs_word h2
      exact ⟨q :: bs, rfl, .cons e r⟩
theorem sh_word {k : Wd} {v : V} {as : List Addr} (h : Sh K H v (dWord k) as) : ∃ b, v = .ref b ∧ NKey K H k b := by
  cases h with
  | tup h1 h2 =>
    obtain ⟨bs, rfl, r⟩ := shs_word h2
    exact ⟨_, rfl, bs, h1, r⟩
theorem sh_trm {t : Int × Wd} {v : V} {as : List Addr} (h : Sh K H v (dTrm t) as) : ∃ a, v = .ref a ∧ TmAt K H (a, t) := by
  cases h with
  | tup h1 h2 =>
    obtain ⟨vc, vx, ac, ax, rfl, hc, hx⟩ := Shs.two h2
    cases hc
    obtain ⟨b, rfl, hk⟩ := sh_word hx
    exact ⟨_, rfl, b, h1, hk⟩
theorem shs_trms : ∀ {ts : List (Int × Wd)} {xs : List V} {as : List Addr}, Shs K H xs (ts.map dTrm) as → ∃ rs : List Trm, xs = rs.map (fun r => V.ref r.1) ∧ (∀ r ∈ rs, TmAt K H r) ∧ rs.map (·.2) = ts
  | [], _, _, h => by cases h; exact ⟨[], rfl, fun r hr => absurd hr (by simp), rfl⟩
  | t :: ts, _, _, h => by
    cases h with
    | cons h1 h2 =>
      obtain ⟨a, rfl, e⟩ := sh_trm h1
      obtain ⟨rs, rfl, r1, r2⟩ := shs_trms h2
      refine ⟨(a, t) :: rs, rfl, fun r hr => ?_, by rw [List.map_cons, r2]⟩
      rcases List.mem_cons.mp hr with rfl | hr
      · exact e
      · exact r1 r hr
/-- an instance's fields are written: what else is there stays -/
theorem sqT_ins {a p : Addr} {xs : List V} {C dx : Addr} {fs : List (Str × V)} {o : HO} (hp : H p = some (.ins C dx fs)) (h : SqT K H a xs) : SqT K (upd H p o) a xs := sqT_upd hp True.intro h
theorem nKey_ins {p b : Addr} {k : Wd} {C dx : Addr} {fs : List (Str × V)} {o : HO} (hp : H p = some (.ins C dx fs)) (h : NKey K H k b) : NKey K (upd H p o) k b := h.mono fun _ _ => sqT_ins hp
theorem tmAt_ins {p : Addr} {r : Trm} {C dx : Addr} {fs : List (Str × V)} {o : HO} (hp : H p = some (.ins C dx fs)) (h : TmAt K H r) : TmAt K (upd H p o) r := by
  obtain ⟨b, h1, h2⟩ := h
  exact ⟨b, sqT_ins hp h1, nKey_ins hp h2⟩
theorem sqL_ins {a p : Addr} {xs : List V} {C dx : Addr} {fs : List (Str × V)} {o : HO} (hp : H p = some (.ins C dx fs)) (h : SqL K H a xs) : SqL K (upd H p o) a xs := by
  rcases h with (h | ⟨od, h⟩) | h
  · exact .inl (.inl (by rw [upd_ne (fun z => by rw [z, hp] at h; cases h)]; exact h))
  · exact .inl (.inr ⟨od, by rw [upd_ne (fun z => by rw [z, hp] at h; cases h)]; exact h⟩)
  · exact .inr h
theorem tabs_ins {p : Addr} {T : List (Addr × Str)} {C dx : Addr} {fs : List (Str × V)} {o : HO} (hp : H p = some (.ins C dx fs)) (h : LamX.Tabs T H) : LamX.Tabs T (upd H p o) := fun x hx => by
  obtain ⟨ps, h1, h2, h3⟩ := h x hx
  refine ⟨ps, by rw [upd_ne (fun z => by rw [z, hp] at h1; cases h1)]; exact h1, h2, fun pos cv hc => ?_⟩
  obtain ⟨c, e1, e2⟩ := h3 pos cv hc
  exact ⟨c, e1, by rw [upd_ne (fun z => by unfold LamX.CodeO at e2; rw [z, hp] at e2; cases e2)]; exact e2⟩
end
end L2.Fo

/-! # a form made, or refused -/
namespace L2.Fo
open PySem PySem.Spec PyProof.Rows L2.Vf L2.Dw L2.Ch L2.Nk
abbrev sFo : Stmt := top 17
abbrev sFi : Stmt := inClass sFo 0
/-- at p: a form of the width n and the terms us put together, its list at D -/
def FoAt (K : PySem.W.Frag) (C : Addr) (H : Hp) (p : Addr) (n : Nat) (us : List (Int × Wd)) (D : Addr) : Prop := ∃ (dx : Addr) (rs : List Trm), H p = some (.ins C dx [("width", .int (n : Nat)), ("_terms", .ref D)]) ∧ H D = some (.lst (rs.map fun r => V.ref r.1)) ∧ (∀ r ∈ rs, TmAt K H r) ∧ rs.map (·.2) = us
/-- all but p and tables of code stays -/
def KeepN (p : Addr) (H H' : Hp) : Prop := ∀ b o, b ≠ p → (∀ ps, o ≠ .tbl ps) → H b = some o → H' b = some o
/-- what making a form ends in -/
def FiRest (K : PySem.W.Frag) (T : List (Addr × Str)) (C CN CL CT p : Addr) (vn vt : V) (dn dt : PyData) (H : Hp) (Q : VK) (E : XK) : Prop :=
  (widD dn = false ∧ ∀ d, H d = none → E (.ref CN) (some d) (upd H d (.xd [("value", vn)]))) ∨
  ∃ n : Nat, dn = .int (n : Nat) ∧ widD dn = true ∧ (((tyD dt == "list") = false ∧ ∀ d, H d = none → E (.ref CL) (some d) (upd H d (.xd [("value", vt)]))) ∨
    ∃ ds, dt = .list ds ∧ ((∃ i : Nat, (∀ j, j < i → ∀ d, ds[j]? = some d → termD n d = true) ∧ (∃ d, ds[i]? = some d ∧ termD n d = false) ∧ ∃ a xs as v, vt = .ref a ∧ SqL K H a xs ∧ Shs K H xs ds as ∧ xs[i]? = some v ∧ ∀ d, H d = none → E (.ref CT) (some d) (upd H d (.xd [("value", v)]))) ∨
      (∃ ts, ds = ts.map dTrm ∧ ds.all (termD n) = true ∧ ds.length < sizeLine ∧ ∀ H' D, KeepN p H H' → LamX.Tabs T H' → NewN H D → FoAt K C H' p n (together ts) D → Q .non H')))
def spFi (K : PySem.W.Frag) (T : List (Addr × Str)) (C CN CL CT : Addr) : Sp := fun vs H Q E => ∃ (p dx : Addr) (vn vt : V) (dn dt : PyData) (s1 s2 : List Addr), vs = [.ref p, vn, vt] ∧ H p = some (.ins C dx []) ∧ Sh K H vn dn s1 ∧ Sh K H vt dt s2 ∧ LamX.Tabs T H ∧
  FiRest K T C CN CL CT p vn vt dn dt H Q E
/-- what the written part says of an error's class and its making -/
structure ErT (P : Program) (w : World) (K : PySem.W.Frag) (mg : Str → Option Value) (base : Heap) (x : Str) (C fI : Addr) (fd : FuncData) : Prop where
  cl : ErC K C fI "value"
  fi : FnOk P w K mg base CX0 1 fI fd ["self", "value"] (spInit K "value")
  b1 : Binds K fd ["self", "value"] []
  mg_ : mg x = some (.ref C)
/-- what it says of the class Form -/
structure FoT (K : PySem.W.Frag) (mg : Str → Option Value) (C : Addr) : Prop where
  cl : Cls K C
  nW : NoAttr K C "width"
  nT : NoAttr K C "_terms"
  mg_ : mg "Form" = some (.ref C)
abbrev nFi : List Str := ["self", "width", "terms", "term"]
theorem scFi : FnScope nFi ["self", "width", "terms"] (defScope sFi) := ⟨rfl, rfl, rfl, by decide +kernel, rfl, by decide +kernel, by decide +kernel⟩
section
variable {P : Program} {w : World} {K : PySem.W.Frag} {mg : Str → Option Value} {base : Heap}
theorem ok_fi {C CN CL CT iN iL iT f fW fT fP : Addr} {T : List (Addr × Str)} {fd dW dT dP dIN dIL dIT : FuncData} (F : Fun K "__init__" "Form.__init__" sFi f fd) (N : Nm mg) (FT : FoT K mg C)
    (EN : ErT P w K mg base "InvalidNumber" CN iN dIN) (EL : ErT P w K mg base "InvalidList" CL iL dIL) (ET : ErT P w K mg base "InvalidTerm" CT iT dIT)
    (GW : FnOk P w K mg base CX0 2 fW dW ["value"] (spAsk K widD)) (mW : mg "is_width" = some (.ref fW)) (kW : PySem.W.keepIn K (.ref fW) = true) (bW : Binds K dW ["value"] [])
    (GT : FnOk P w K mg base CX0 5 fT dT ["value", "width"] (spAsk2 K termD)) (mT : mg "is_term" = some (.ref fT)) (kT : PySem.W.keepIn K (.ref fT) = true) (bT : Binds K dT ["value", "width"] [])
    (GP : FnOk P w K mg base CX0 3 fP dP ["terms"] (spPt K T)) (mP : mg "put_together" = some (.ref fP)) (kP : PySem.W.keepIn K (.ref fP) = true) (bP : Binds K dP ["terms"] []) :
    FnOk P w K mg base (L2.CX P w) 6 f fd ["self", "width", "terms"] (spFi K T C CN CL CT) := by
  refine F.okX scFi (fun vs H Q E h => ?_) fun cdv A outer s H vs Q E hr h => ?_
  · obtain ⟨p, dx, vn, vt, dn, dt, s1, s2, rfl, _⟩ := h
    rfl
  · obtain ⟨p, dx, vn, vt, dn, dt, s1, s2, rfl, hp, h1, h2, hT, q⟩ := h
    have hr2 := hr.mono (show 2 ≤ 5 by decide)
    refine ⟨_, pss_cons (ps_if (pt_not (pt_val (pe_call GW hr2 rfl mW kW bW .nil pass0 (pa_cons (pv 1) pa_nil)))) (pss_one (ps_raiseE rfl EN.cl EN.fi EN.b1 hr2 (takes_of rfl rfl rfl rfl) (by rfl) EN.mg_ (pa_cons (pv 1) pa_nil))) pss_nil)
      (pss_cons (ps_if (pt_not (pt_val (pe_callB call_isi (by rfl) N.isi boot_isi (pa_cons (pv 2) (pa_cons (pe_bltn (v := V.ty "list") (by rfl) N.lst PyProof.Rows.boot_list (by rfl)) pa_nil))))) (pss_one (ps_raiseE rfl EL.cl EL.fi EL.b1 hr2 (takes_of rfl rfl rfl rfl) (by rfl) EL.mg_ (pa_cons (pv 2) pa_nil))) pss_nil)
      (pss_cons (ps_for (passes_of rfl) rfl (pi_list (pv 2)) (pg_name (i := 3) scFi.nd rfl (Or.inl rfl))
        (pss_one (ps_if (pt_not (pt_val (pe_call GT hr rfl mT kT bT .nil pass0 (pa_cons (pv 3) (pa_cons (pv 1) pa_nil))))) (pss_one (ps_raiseE rfl ET.cl ET.fi ET.b1 hr2 (takes_of rfl rfl rfl rfl) (by rfl) ET.mg_ (pa_cons (pv 3) pa_nil))) pss_nil)))
      (pss_cons (ps_fld (pv 0) (pv 1) rfl)
      (pss_one (ps_fld (pv 0) (pe_call GP (hr.mono (by decide)) rfl mP kP bP .nil pass0 (pa_cons (pv 2) pa_nil)) rfl))))), ?_⟩
    refine ⟨_, rfl, vn, dn, s1, rfl, h1, ⟨_, rfl, ?_⟩⟩
    rcases q with ⟨e1, q⟩ | ⟨n, rfl, e1, q⟩
    · rw [e1]
      exact iteT ⟨vn, rfl, q⟩
    · rw [e1]
      cases h1
      refine iteF (isT_run (i := 2) rfl h2 (kit_list dt) ⟨_, rfl, ?_⟩)
      rcases q with ⟨e2, q⟩ | ⟨ds, rfl, q⟩
      · rw [e2]
        exact iteT ⟨vt, rfl, q⟩
      · refine iteF ?_
        obtain ⟨a, xs, as, rfl, g1, g2, q⟩ : ∃ a xs as, vt = .ref a ∧ SqL K H a xs ∧ Shs K H xs ds as ∧ ((∃ i : Nat, (∀ j, j < i → ∀ d, ds[j]? = some d → termD n d = true) ∧ (∃ d, ds[i]? = some d ∧ termD n d = false) ∧ ∃ v, xs[i]? = some v ∧ ∀ d, H d = none → E (.ref CT) (some d) (upd H d (.xd [("value", v)]))) ∨
            (∃ ts, ds = ts.map dTrm ∧ ds.all (termD n) = true ∧ ds.length < sizeLine ∧ ∀ H' D, KeepN p H H' → LamX.Tabs T H' → NewN H D → FoAt K C H' p n (together ts) D → Q .non H')) := by
          rcases q with ⟨i, q1, q2, a, xs, as, v, ev, g1, g2, hx, q⟩ | q
          · exact ⟨a, xs, as, ev, g1, g2, .inl ⟨i, q1, q2, v, hx, q⟩⟩
          · cases h2 with
            | lst g1 g2 => exact ⟨_, _, _, rfl, g1, g2, .inr q⟩
        refine ⟨_, rfl, a, rfl, ⟨_, g1⟩, ?_⟩
        refine for_it (walk_list (xs := xs)) (fun j σ H' => H' = H ∧ (∃ o, σ = [some (.ref p), some (.int n), some (.ref a), o]) ∧ ∀ i, i < j → ∀ d, ds[i]? = some d → termD n d = true) ⟨rfl, ⟨none, rfl⟩, fun i h => absurd h (by omega)⟩ ?_ ?_ ?_
        · rintro i σ H' _ ⟨rfl, _⟩
          exact g1
        · rintro i x σ H1 H1' hi ⟨rfl, ⟨o, rfl⟩, hb⟩ ⟨rfl, hx⟩
          obtain ⟨d, bs, hd, hsh⟩ := Shs.get g2 hx
          refine ⟨_, rfl, _, rfl, x, d, bs, n, rfl, hsh, ⟨_, rfl, ?_⟩⟩
          cases e : termD n d with
          | true =>
            refine iteF ⟨rfl, ⟨_, rfl⟩, fun j hj d' hd' => ?_⟩
            by_cases z : j < i
            · exact hb j z d' hd'
            · have : j = i := by omega
              subst this
              rw [hd] at hd'
              cases hd'
              exact e
          | false =>
            refine iteT ⟨x, rfl, ?_⟩
            rcases q with ⟨i', q1, ⟨d', q2, q3⟩, v, hv, q⟩ | ⟨ts, rfl, q1, _⟩
            · have : i' = i := by
                rcases Nat.lt_trichotomy i' i with z | z | z
                · rw [hb i' z d' q2] at q3; cases q3
                · exact z
                · rw [q1 i z d hd] at e; cases e
              subst this
              rw [hx] at hv
              cases hv
              exact q
            · rw [List.all_eq_true.mp q1 d (List.mem_of_getElem? hd)] at e
              cases e
        · rintro σ H' ⟨rfl, ⟨o, rfl⟩, hb⟩
          rcases q with ⟨i', q1, ⟨d', q2, q3⟩, _⟩ | ⟨ts, rfl, q1, q2, q⟩
          · rw [hb i' (by rw [Shs.length g2]; exact (List.getElem?_eq_some_iff.mp q2).1) d' q2] at q3
            cases q3
          · obtain ⟨rs, rfl, r1, r2⟩ := shs_trms g2
            refine ⟨_, rfl, _, rfl, p, C, dx, _, rfl, hp, FT.cl, FT.nW, by decide, ?_⟩
            have hlr : rs.length = ts.length := by rw [← r2, List.length_map]
            rw [List.length_map] at q2
            refine ⟨_, rfl, a, rs, rfl, sqL_ins hp g1, fun t ht => tmAt_ins hp (r1 t ht), by omega, tabs_ins hp hT, fun D rs' H2 e2 T2 nD eD tm et => ?_⟩
            have hp2 := e2 p _ upd_same (fun ps z => by cases z)
            refine ⟨_, rfl, p, C, dx, _, rfl, hp2, FT.cl, FT.nT, (by show 1 < 1000; decide), ?_⟩
            have pD : D ≠ p := fun z => by rw [z, hp2] at eD; cases eD
            refine q _ D (fun b o hb ho hH => ?_) (tabs_ins hp2 T2) (fun o ho => ?_) ⟨dx, rs', upd_same, ?_, fun r hr => tmAt_ins hp2 (tm r hr).1, ?_⟩
            · rw [upd_ne hb]
              exact e2 b o (by rw [upd_ne hb]; exact hH) ho
            · exact nD o (by rw [upd_ne pD]; exact ho)
            · rw [upd_ne pD]; exact eD
            · rw [et, r2]
end
end L2.Fo

/-! # terms() and == of a form -/
namespace L2.Fo
open PySem PySem.Spec PyProof.Rows L2.Vf L2.Dw L2.Ch L2.Nk
abbrev sTs : Stmt := inClass sFo 1
abbrev sEq : Stmt := inClass sFo 6
def dTrms (us : List (Int × Wd)) : PyData := .list (us.map dTrm)
theorem eqv_intsF : ∀ (a b : List Int), PyData.eqvAll (a.map PyData.int) (b.map PyData.int) = decide (a = b)
  | [], [] => by simp [PyData.eqvAll]
  | [], _ :: _ => by simp [PyData.eqvAll]
  | _ :: _, [] => by simp [PyData.eqvAll]
  | x :: a, y :: b => by
    simp only [List.map_cons, PyData.eqvAll, PyData.eqv, eqv_intsF a b]
    by_cases h : x = y
    · subst h; simp
    · simp [h]
theorem eqv_lineF (a b : List Int) : PyData.eqv (dLine a) (dLine b) = decide (a = b) := by
  show PyData.eqv (.tuple _) (.tuple _) = _
  rw [PyData.eqv, eqv_intsF]
theorem eqv_linesF : ∀ (a b : Wd), PyData.eqvAll (a.map dLine) (b.map dLine) = decide (a = b)
  | [], [] => by simp [PyData.eqvAll]
  | [], _ :: _ => by simp [PyData.eqvAll]
  | _ :: _, [] => by simp [PyData.eqvAll]
  | x :: a, y :: b => by
    simp only [List.map_cons, PyData.eqvAll, eqv_lineF, eqv_linesF a b]
    by_cases h : x = y
    · subst h; simp
    · simp [h]
theorem eqv_word (a b : Wd) : PyData.eqv (dWord a) (dWord b) = decide (a = b) := by
  show PyData.eqv (.tuple _) (.tuple _) = _
  rw [PyData.eqv, eqv_linesF]
theorem eqv_trm (a b : Int × Wd) : PyData.eqv (dTrm a) (dTrm b) = decide (a = b) := by
  show PyData.eqv (.tuple _) (.tuple _) = _
  rw [PyData.eqv]
  simp only [PyData.eqvAll, PyData.eqv, eqv_word]
  obtain ⟨a1, a2⟩ := a
  obtain ⟨b1, b2⟩ := b
  by_cases h : a1 = b1
  · subst h; by_cases h : a2 = b2 <;> simp [h]
  · simp [h]
theorem eqv_trmsA : ∀ (a b : List (Int × Wd)), PyData.eqvAll (a.map dTrm) (b.map dTrm) = decide (a = b)
  | [], [] => by simp [PyData.eqvAll]
  | [], _ :: _ => by simp [PyData.eqvAll]
  | _ :: _, [] => by simp [PyData.eqvAll]
  | x :: a, y :: b => by
    simp only [List.map_cons, PyData.eqvAll, eqv_trm, eqv_trmsA a b]
    by_cases h : x = y
    · subst h; simp
    · simp [h]
theorem eqv_trms (a b : List (Int × Wd)) : PyData.eqv (dTrms a) (dTrms b) = decide (a = b) := by
  show PyData.eqv (.list _) (.list _) = _
  rw [PyData.eqv, eqv_trmsA]
theorem lay_intsF : ∀ (a : List Int), PyData.canLayAll0 (a.map PyData.int) = true
  | [] => by simp [PyData.canLayAll0]
  | x :: a => by simp only [List.map_cons, PyData.canLayAll0, PyData.canLay0, lay_intsF a, Bool.and_self]
theorem lay_linesF : ∀ (m : Wd), PyData.canLayAll0 (m.map dLine) = true
  | [] => by simp [PyData.canLayAll0]
  | x :: m => by
    have : PyData.canLay0 (dLine x) = true := by unfold dLine; simp [PyData.canLay0, lay_intsF]
    simp only [List.map_cons, PyData.canLayAll0, this, lay_linesF m, Bool.and_self]
theorem lay_trms : ∀ (us : List (Int × Wd)), PyData.canLayAll0 (us.map dTrm) = true
  | [] => by simp [PyData.canLayAll0]
  | t :: us => by
    have : PyData.canLay0 (dTrm t) = true := by unfold dTrm dWord; simp [PyData.canLay0, PyData.canLayAll0, lay_linesF]
    simp only [List.map_cons, PyData.canLayAll0, this, lay_trms us, Bool.and_self]
theorem deep_trm (t : Int × Wd) : (dTrm t).depth ≤ 8 := by
  have h1 := deep_lines t.2
  simp only [dTrm, dWord, PyData.depth, PyData.depthAll]
  omega
theorem deep_trms : ∀ us : List (Int × Wd), PyData.depthAll (us.map dTrm) ≤ 8
  | [] => by simp [PyData.depthAll]
  | t :: us => by
    have h1 := deep_trms us
    have h2 := deep_trm t
    simp only [List.map_cons, PyData.depthAll]
    omega
theorem shaped_trms (us : List (Int × Wd)) : SeqAt.shaped (dTrms us) = true := by
  unfold SeqAt.shaped dTrms
  have := deep_trms us
  simp [PyData.canLay0, PyData.depth, lay_trms]
  omega
section
variable {K : PySem.W.Frag} {H : Hp}
theorem ints_shF : ∀ (l : List Int), Shs K H (l.map V.int) (l.map .int) []
  | [] => .nil
  | n :: l => .cons (as := []) (bs := []) (.int n) (ints_shF l)
theorem word_shs : ∀ {bs : List Addr} {k : Wd}, Paired (fun c l => SqT K H c (l.map V.int)) bs k → Shs K H (bs.map .ref) (k.map dLine) []
  | _, _, .nil => .nil
  | _, _, .cons h t => .cons (as := []) (bs := []) (.tup h (ints_shF _)) (word_shs t)
theorem word_sh {b : Addr} {k : Wd} (h : NKey K H k b) : Sh K H (.ref b) (dWord k) [] := by
  obtain ⟨bs, h1, h2⟩ := h
  exact .tup h1 (word_shs h2)
theorem trm_sh {r : Trm} (h : TmAt K H r) : Sh K H (.ref r.1) (dTrm r.2) [] := by
  obtain ⟨b, h1, h2⟩ := h
  exact .tup h1 (.cons (as := []) (bs := []) (.int _) (.cons (as := []) (bs := []) (word_sh h2) .nil))
theorem trms_shs : ∀ {rs : List Trm}, (∀ r ∈ rs, TmAt K H r) → Shs K H (rs.map fun r => V.ref r.1) ((rs.map (·.2)).map dTrm) []
  | [], _ => .nil
  | r :: rs, h => .cons (as := []) (bs := []) (trm_sh (h r List.mem_cons_self)) (trms_shs fun q hq => h q (List.mem_cons_of_mem _ hq))
theorem trms_sh {rs : List Trm} {D : Addr} {us : List (Int × Wd)} (hD : SqL K H D (rs.map fun r => V.ref r.1)) (h : ∀ r ∈ rs, TmAt K H r) (e : rs.map (·.2) = us) : Sh K H (.ref D) (dTrms us) [D] := by
  subst e
  exact .lst hD (trms_shs h)
end
/-- the list of the terms, new -/
def spTs (K : PySem.W.Frag) (C : Addr) : Sp := fun vs H Q _ => ∃ (p : Addr) (n : Nat) (us : List (Int × Wd)) (D : Addr), vs = [.ref p] ∧ FoAt K C H p n us D ∧
  ∀ (l : Addr) (rs : List Trm) (H' : Hp), H l = none → Same H H' → H' l = some (.lst (rs.map fun r => V.ref r.1)) → (∀ r ∈ rs, TmAt K H' r) → rs.map (·.2) = us → Q (.ref l) H'
/-- the other thing: no form, or one -/
def spEqF (K : PySem.W.Frag) (C : Addr) : Sp := fun vs H Q _ => ∃ (p : Addr) (n : Nat) (us : List (Int × Wd)) (D : Addr) (y : V), vs = [.ref p, y] ∧ FoAt K C H p n us D ∧
  ((∃ u, TyX K H y u ∧ PySem.W.kitOne K u (.ref C) = some false ∧ Q (.bl false) H) ∨ (∃ p2 n2 us2 D2, y = .ref p2 ∧ FoAt K C H p2 n2 us2 D2 ∧ Q (.bl (decide (n = n2 ∧ us = us2))) H))
/-- isinstance of own instances -/
structure IsT (K : PySem.W.Frag) (C : Addr) : Prop where
  ha : PySem.W.findIn K (.ref C) "__class__" = some (some (.builtin "object.__class__"))
  hn : PySem.W.specialIn K (.builtin "object.__class__") "__get__" = some (some (.builtin "getset_descriptor.__get__"))
  ht : PySem.W.takesIn K (.builtin "object.__class__") = some true
  hm : PySem.W.mroIn K C (.type "object") = some true
  me : PySem.W.kitOne K (.ref C) (.ref C) = some true
theorem and2 {a b : Prop} [Decidable a] [Decidable b] : decide (a ∧ b) = (decide a && decide b) := by
  by_cases h1 : a <;> by_cases h2 : b <;> simp [h1, h2]
section
variable {P : Program} {w : World} {K : PySem.W.Frag} {mg : Str → Option Value} {base : Heap}
theorem scTs : FnScope ["self"] ["self"] (defScope sTs) := ⟨rfl, rfl, rfl, by decide +kernel, rfl, by decide +kernel, by decide +kernel⟩
theorem ok_ts {C f : Addr} {fd : FuncData} (F : Fun K "terms" "Form.terms" sTs f fd) (N : Nm mg) (T : FoT K mg C) : FnOk P w K mg base CX0 1 f fd ["self"] (spTs K C) := by
  refine F.ok scTs (fun vs H Q E h => ?_) fun cdv A outer s H vs Q E hr h => ?_
  · obtain ⟨p, n, us, D, rfl, _⟩ := h
    rfl
  · obtain ⟨p, n, us, D, rfl, ⟨dx, rs, hp, hD, tm, e⟩, q⟩ := h
    refine ⟨_, pss_one (ps_ret (pe_callTy call_list_of (by rfl) N.lst PyProof.Rows.boot_list (pa_cons (pe_fld (pv 0) rfl) pa_nil))), ?_⟩
    exact ⟨_, rfl, p, C, dx, _, .ref D, rfl, hp, T.cl, T.nT, rfl, D, _, rfl, .inl (SqL.of hD), fun l hl => q l rs _ hl (same_new hl) upd_same (fun r hr => (tm r hr).ext (.of (same_new hl))) e⟩
theorem scEq : FnScope ["self", "other"] ["self", "other"] (defScope sEq) := ⟨rfl, rfl, rfl, by decide +kernel, rfl, by decide +kernel, by decide +kernel⟩
theorem ok_eq {C f : Addr} {fd : FuncData} (F : Fun K "__eq__" "Form.__eq__" sEq f fd) (N : Nm mg) (T : FoT K mg C) (I : IsT K C) : FnOk P w K mg base CX0 1 f fd ["self", "other"] (spEqF K C) := by
  refine F.ok scEq (fun vs H Q E h => ?_) fun cdv A outer s H vs Q E hr h => ?_
  · obtain ⟨p, n, us, D, y, rfl, _⟩ := h
    rfl
  · obtain ⟨p, n, us, D, y, rfl, ⟨dx, rs, hp, hD, tm, e⟩, h⟩ := h
    refine ⟨_, pss_one (ps_ret (pe_and (pe_callB call_isi (by rfl) N.isi boot_isi (pa_cons (pv 1) (pa_cons (pe_glob (v := V.ref C) (by rfl) T.mg_ (by rfl)) pa_nil))) (pe_and (pe_cmpR op_eq (pe_fld (pv 0) rfl) (pe_fld (pv 1) rfl) (nomark _)) (pe_one (pe_cmpR (Vf.op_eqD hr.units) (pe_fld (pv 0) rfl) (pe_fld (pv 1) rfl) (nomark _)))))), ?_⟩
    rcases h with ⟨u, ty, kit, q⟩ | ⟨p2, n2, us2, D2, rfl, ⟨dx2, rs2, hp2, hD2, tm2, e2⟩, q⟩
    · exact ⟨_, rfl, y, .ref C, u, .ref C, false, rfl, .own C, ty, kit, false, rfl, iteF q⟩
    · refine ⟨_, rfl, .ref p2, .ref C, .ref C, .ref C, true, rfl, .own C, .base (.ins hp2 T.cl I.ha I.hn I.ht I.hm), I.me, true, rfl, iteT ?_⟩
      refine ⟨_, rfl, p, C, dx, _, .int n, rfl, hp, T.cl, T.nW, rfl, _, rfl, p2, C, dx2, _, .int n2, rfl, hp2, T.cl, T.nW, rfl, rfl, _, rfl, ?_⟩
      have e9 : decide (V.int (n : Nat) = V.int (n2 : Nat)) = decide (n = n2) := by
        by_cases h3 : n = n2
        · simp [h3]
        · rw [decide_eq_false h3]
          refine decide_eq_false fun z => h3 ?_
          injection z with z
          omega
      rw [and2] at q
      rw [e9]
      by_cases h1 : n = n2
      · rw [decide_eq_true h1] at q ⊢
        refine iteT ⟨_, rfl, p, C, dx, _, .ref D, rfl, hp, T.cl, T.nT, rfl, _, rfl, p2, C, dx2, _, .ref D2, rfl, hp2, T.cl, T.nT, rfl, dTrms us, dTrms us2, _, _, trms_sh (SqL.of hD) tm e, trms_sh (SqL.of hD2) tm2 e2, shaped_trms us, shaped_trms us2, ?_⟩
        rw [(if_neg Bool.false_ne_true).trans (eqv_trms us us2)]
        exact q
      · rw [decide_eq_false h1] at q ⊢
        exact iteF q
end
end L2.Fo

/-! # written things: what a display of constants, lists, tuples and empty dicts makes -/
namespace L2.Lt
open PySem PySem.Spec PyProof.Rows L2.Vf L2.Dw L2.Ch
mutual
def litD : Expr → Option PyData
  | .Constant .none _ _ => some .none
  | .Constant (.bool b) _ _ => some (.bool b)
  | .Constant (.int i) _ _ => some (.int i)
  | .Constant (.str x) _ _ => some (.str x)
  | .UnaryOp .USub (.Constant (.int i) _ _) _ => some (.int (-i))
  | .List es _ => (litsD es).map .list
  | .Tuple es _ _ => (litsD es).map .tuple
  | .Dict [] [] _ => some (.dict [])
  | _ => none
def litsD : List Expr → Option (List PyData)
  | [] => some []
  | e :: es => match litD e, litsD es with
    | some d, some ds => if ds.length < 1000 then some (d :: ds) else none
    | _, _ => none
end
mutual
/-- data stands where its own lists stand, and all that is no list -/
theorem sh_stay {K : PySem.W.Frag} {H H' : Hp} : ∀ {v : V} {d : PyData} {as : List Addr}, Sh K H v d as → (∀ b u, H b = some u → ((∃ xs, u = .lst xs) → b ∈ as) → H' b = some u) → Sh K H' v d as
  | _, _, _, .non, _ => .non
  | _, _, _, .bl b, _ => .bl b
  | _, _, _, .int i, _ => .int i
  | _, _, _, .str x, _ => .str x
  | _, _, _, .lst h t, k => .lst (by
      rcases h with (h | ⟨o, h⟩) | h
      · exact .inl (.inl (k _ _ h fun _ => List.mem_cons_self))
      · exact .inl (.inr ⟨o, k _ _ h fun ⟨_, z⟩ => by cases z⟩)
      · exact .inr h) (shs_stay t fun b u e m => k b u e fun z => List.mem_cons_of_mem _ (m z))
  | _, _, _, .tup h t, k => .tup (by
      rcases h with (h | ⟨o, h⟩) | h
      · exact .inl (.inl (k _ _ h fun ⟨_, z⟩ => by cases z))
      · exact .inl (.inr ⟨o, k _ _ h fun ⟨_, z⟩ => by cases z⟩)
      · exact .inr h) (shs_stay t k)
  | _, _, _, .dK h t, k => .dK (by
      rcases h with h | ⟨o, h⟩
      · exact .inl (k _ _ h fun ⟨_, z⟩ => by cases z)
      · exact .inr ⟨o, k _ _ h fun ⟨_, z⟩ => by cases z⟩) (shs_stay t k)
theorem shs_stay {K : PySem.W.Frag} {H H' : Hp} : ∀ {xs : List V} {ds : List PyData} {as : List Addr}, Shs K H xs ds as → (∀ b u, H b = some u → ((∃ xs, u = .lst xs) → b ∈ as) → H' b = some u) → Shs K H' xs ds as
  | _, _, _, .nil, _ => .nil
  | _, _, _, .cons h t, k => .cons (sh_stay h fun b u e m => k b u e fun z => List.mem_append_left _ (m z)) (shs_stay t fun b u e m => k b u e fun z => List.mem_append_right _ (m z))
end
theorem sh_mono {K : PySem.W.Frag} {H H' : Hp} {v : V} {d : PyData} {as : List Addr} (h : Sh K H v d as) (s : Same H H') : Sh K H' v d as := sh_stay h fun b u e _ => s b u e
/-- a thing, what it is, the lists in it -/
structure Itm where
  v : V
  d : PyData
  as : List Addr
/-- what stands: data, its lists such as can be lengthened -/
structure Ok (K : PySem.W.Frag) (H : Hp) (i : Itm) : Prop where
  sh : Sh K H i.v i.d i.as
  live : ∀ a ∈ i.as, ∃ xs, H a = some (.lst xs) ∧ xs.length ≤ 1000
  top : ∀ ds, i.d = .list ds → ∃ (a : Addr) (xs : List V) (as : List Addr), i.v = .ref a ∧ i.as = a :: as ∧ H a = some (.lst xs) ∧ xs.length ≤ 1000 ∧ Shs K H xs ds as
  nd : i.as.Nodup
def Fresh (H : Hp) (i : Itm) : Prop := ∀ a ∈ i.as, H a = none ∧ a ≠ sysModules
def Apart (i j : Itm) : Prop := ∀ a ∈ i.as, a ∉ j.as
theorem Ok.mono {K : PySem.W.Frag} {H H' : Hp} {i : Itm} (h : Ok K H i) (s : Same H H') : Ok K H' i := ⟨sh_mono h.sh s, fun a m => by
  obtain ⟨xs, e, l⟩ := h.live a m
  exact ⟨xs, s _ _ e, l⟩, fun ds e => by
  obtain ⟨a, xs, as, e1, e2, e3, e4, e5⟩ := h.top ds e
  exact ⟨a, xs, as, e1, e2, s _ _ e3, e4, shs_stay e5 fun b u e _ => s b u e⟩, h.nd⟩
/-- another's list is changed -/
theorem Ok.keep {K : PySem.W.Frag} {H H' : Hp} {i : Itm} {g : Addr} (h : Ok K H i) (k : Keep g H H') (hg : ∃ xs, H g = some (.lst xs)) (n : g ∉ i.as) : Ok K H' i := by
  obtain ⟨ys, hg⟩ := hg
  have st : ∀ b u, H b = some u → ((∃ xs, u = .lst xs) → b ∈ i.as) → H' b = some u := fun b u e m => k b u (fun z => by
    rw [z, hg] at e
    cases e
    exact n (z ▸ m ⟨ys, rfl⟩)) e
  refine ⟨sh_stay h.sh fun b u e m => k b u (fun z => ?_) e, fun a m => ?_, fun ds e => ?_, h.nd⟩
  · rw [z, hg] at e
    cases e
    exact n (z ▸ m ⟨ys, rfl⟩)
  · obtain ⟨xs, e, l⟩ := h.live a m
    exact ⟨xs, k _ _ (fun z => n (z ▸ m)) e, l⟩
  · obtain ⟨a, xs, as, e1, e2, e3, e4, e5⟩ := h.top ds e
    refine ⟨a, xs, as, e1, e2, st _ _ e3 fun _ => by rw [e2]; exact List.mem_cons_self, e4, shs_stay e5 fun b u e m => st b u e fun z => by rw [e2]; exact List.mem_cons_of_mem _ (m z)⟩
/-- the things of ds, made new -/
structure Made (K : PySem.W.Frag) (H H' : Hp) (l : List Itm) (ds : List PyData) : Prop where
  same : Same H H'
  ok : ∀ i ∈ l, Ok K H' i
  new : ∀ i ∈ l, Fresh H i
  apart : l.Pairwise Apart
  ds : l.map (·.d) = ds
theorem Made.nd {K : PySem.W.Frag} {H H' : Hp} {l : List Itm} {ds : List PyData} (m : Made K H H' l ds) : (l.flatMap (·.as)).Nodup := by
  have go : ∀ {l : List Itm}, (∀ i ∈ l, i.as.Nodup) → l.Pairwise Apart → (l.flatMap (·.as)).Nodup := by
    intro l
    induction l with
    | nil => exact fun _ _ => List.nodup_nil
    | cons i l ih =>
      intro h1 h2
      rw [List.flatMap_cons, List.nodup_append]
      cases h2 with
      | cons h3 h4 =>
        refine ⟨h1 i List.mem_cons_self, ih (fun j hj => h1 j (List.mem_cons_of_mem _ hj)) h4, fun a ha b hb => ?_⟩
        rintro rfl
        obtain ⟨j, hj, ha'⟩ := List.mem_flatMap.mp hb
        exact h3 j hj a ha ha'
  exact go (fun i hi => (m.ok i hi).nd) m.apart
def tLit (K : PySem.W.Frag) (d : PyData) : TE := fun σ H Q => ∀ i H', Same H H' → Ok K H' i → Fresh H i → i.d = d → Q i.v H'
def tLits (K : PySem.W.Frag) (ds : List PyData) : TA := fun σ H Q => ∀ l H', Made K H H' l ds → Q (l.map (·.v)) H'
theorem Made.shs {K : PySem.W.Frag} {H : Hp} : ∀ {l : List Itm}, (∀ i ∈ l, Ok K H i) → Shs K H (l.map (·.v)) (l.map (·.d)) (l.flatMap (·.as))
  | [], _ => .nil
  | i :: l, h => by
    rw [List.flatMap_cons]
    exact .cons (h i List.mem_cons_self).sh (Made.shs fun j hj => h j (List.mem_cons_of_mem _ hj))
section
variable {X : Cx}
theorem lit_star {e : Expr} {d : PyData} {es : List Expr} (h : litD e = some d) : starEach (e :: es) X.env = (false, eval e X.env) :: starEach es X.env := by
  cases e <;> first | rfl | cases h
theorem one_lit {d : PyData} {v : V} {H : Hp} {Q : VK} {K : PySem.W.Frag} (q : ∀ i H', Same H H' → Ok K H' i → Fresh H i → i.d = d → Q i.v H') (hs : Sh K H v d []) (hd : ∀ ds, d ≠ .list ds) : Q v H :=
  q ⟨v, d, []⟩ H (Same.refl H) ⟨hs, fun a m => (by cases m), fun ds e => absurd e (hd ds), List.nodup_nil⟩ (fun a m => (by cases m)) rfl
mutual
theorem lit_pe : ∀ {e : Expr} {d : PyData}, litD e = some d → PE X e (tLit X.K d)
  | .Constant .none _ _, d, h => by cases h; exact ⟨fun pins s σ H Q I q => pe_non.run pins s σ H Q I (one_lit q .non fun ds z => by cases z)⟩
  | .Constant (.bool b) _ _, d, h => by cases h; exact ⟨fun pins s σ H Q I q => pe_bl.run pins s σ H Q I (one_lit q (.bl b) fun ds z => by cases z)⟩
  | .Constant (.int i) _ _, d, h => by cases h; exact ⟨fun pins s σ H Q I q => pe_int.run pins s σ H Q I (one_lit q (.int i) fun ds z => by cases z)⟩
  | .Constant (.str x) _ _, d, h => by cases h; exact ⟨fun pins s σ H Q I q => pe_str.run pins s σ H Q I (one_lit q (.str x) fun ds z => by cases z)⟩
  | .UnaryOp .USub (.Constant (.int i) _ _) _, d, h => by cases h; exact ⟨fun pins s σ H Q I q => (pe_un un_neg pe_int).run pins s σ H Q I ⟨i, rfl, one_lit q (.int (-i)) fun ds z => by cases z⟩⟩
  | .List es _, d, h => by
    simp only [litD, Option.map_eq_some_iff] at h
    obtain ⟨ds, hd, rfl⟩ := h
    refine ⟨fun pins s σ H Q I q => (pe_lstF (lits_pa hd)).run pins s σ H Q I fun l H' m => ?_⟩
    have hl := lits_len hd
    have ll : l.length = ds.length := by rw [← m.ds, List.length_map]
    refine ⟨by rw [List.length_map, sizeLine_eq]; omega, fun p hp np => ?_⟩
    have sp := same_new (o := .lst (l.map (·.v))) hp
    refine q ⟨.ref p, .list ds, p :: l.flatMap (·.as)⟩ _ (m.same.trans sp) ⟨.lst (SqL.of upd_same) ?_, fun a ha => ?_, fun ds' z => ?_, ?_⟩ (fun a ha => ?_) rfl
    · have := Made.shs (K := X.K) fun i hi => (m.ok i hi).mono sp
      rw [m.ds] at this
      exact this
    · rcases List.mem_cons.mp ha with rfl | ha
      · exact ⟨_, upd_same, by rw [List.length_map]; omega⟩
      · obtain ⟨i, hi, ha⟩ := List.mem_flatMap.mp ha
        obtain ⟨xs, e, le⟩ := (m.ok i hi).live a ha
        exact ⟨xs, sp _ _ e, le⟩
    · cases z
      have := Made.shs (K := X.K) fun i hi => (m.ok i hi).mono sp
      rw [m.ds] at this
      exact ⟨p, _, _, rfl, rfl, upd_same, by rw [List.length_map]; omega, this⟩
    · refine List.nodup_cons.mpr ⟨fun z => ?_, m.nd⟩
      obtain ⟨i, hi, ha⟩ := List.mem_flatMap.mp z
      obtain ⟨xs, e, _⟩ := (m.ok i hi).live p ha
      rw [hp] at e
      cases e
    · rcases List.mem_cons.mp ha with rfl | ha
      · exact ⟨m.same.free hp, np⟩
      · obtain ⟨i, hi, ha⟩ := List.mem_flatMap.mp ha
        exact m.new i hi a ha
  | .Tuple es _ _, d, h => by
    simp only [litD, Option.map_eq_some_iff] at h
    obtain ⟨ds, hd, rfl⟩ := h
    refine ⟨fun pins s σ H Q I q => (pe_tup (lits_pa hd)).run pins s σ H Q I fun l H' m => ?_⟩
    have hl := lits_len hd
    have ll : l.length = ds.length := by rw [← m.ds, List.length_map]
    refine ⟨by rw [List.length_map, sizeLine_eq]; omega, fun p hp => ?_⟩
    have sp := same_new (o := .tup (l.map (·.v))) hp
    refine q ⟨.ref p, .tuple ds, l.flatMap (·.as)⟩ _ (m.same.trans sp) ⟨.tup (SqT.of upd_same) ?_, fun a ha => ?_, (fun ds' z => by cases z), m.nd⟩ (fun a ha => ?_) rfl
    · have := Made.shs (K := X.K) fun i hi => (m.ok i hi).mono sp
      rw [m.ds] at this
      exact this
    · obtain ⟨i, hi, ha⟩ := List.mem_flatMap.mp ha
      obtain ⟨xs, e, le⟩ := (m.ok i hi).live a ha
      exact ⟨xs, sp _ _ e, le⟩
    · obtain ⟨i, hi, ha⟩ := List.mem_flatMap.mp ha
      exact m.new i hi a ha
  | .Dict [] [] _, d, h => by
    cases h
    refine ⟨fun pins s σ H Q I q => pe_dnewK.run pins s σ H Q I fun p hp => ?_⟩
    exact q ⟨.ref p, .dict [], []⟩ _ (same_new hp) ⟨.dK (kvs := []) (.inl upd_same) .nil, fun a m => (by cases m), fun ds z => (by cases z), List.nodup_nil⟩ (fun a m => (by cases m)) rfl
theorem lits_pa : ∀ {es : List Expr} {ds : List PyData}, litsD es = some ds → PA X es (tLits X.K ds)
  | [], ds, h => by
    cases h
    exact ⟨fun pos pins s σ H Q I q => pa_nil.run pos pins s σ H Q I (q [] H ⟨Same.refl H, fun i m => (by cases m), fun i m => (by cases m), .nil, rfl⟩)⟩
  | e :: es, ds, h => by
    simp only [litsD] at h
    split at h
    · rename_i d r he hes
      split at h
      · cases h
        refine ⟨fun pos pins s σ H Q I q => (pa_cons (lit_pe he) (lits_pa hes) (lit_star he)).run pos pins s σ H Q I fun i H1 s1 ok1 f1 e1 l H2 m => ?_⟩
        refine q (i :: l) H2 ⟨s1.trans m.same, fun j hj => ?_, fun j hj a ha => ?_, .cons (fun j hj a ha ha' => ?_) m.apart, by rw [List.map_cons, e1, m.ds]⟩
        · rcases List.mem_cons.mp hj with rfl | hj
          · exact ok1.mono m.same
          · exact m.ok j hj
        · rcases List.mem_cons.mp hj with rfl | hj
          · exact f1 a ha
          · exact ⟨s1.free (m.new j hj a ha).1, (m.new j hj a ha).2⟩
        · obtain ⟨xs, e, _⟩ := ok1.live a ha
          rw [(m.new j hj a ha').1] at e
          cases e
      · cases h
    · cases h
theorem lits_len : ∀ {es : List Expr} {ds : List PyData}, litsD es = some ds → ds.length ≤ 1000
  | [], ds, h => by cases h; exact Nat.zero_le _
  | e :: es, ds, h => by
    simp only [litsD] at h
    split at h
    · split at h
      · cases h
        simpa using (by omega : _ + 1 ≤ 1000)
      · cases h
    · cases h
end
end
end L2.Lt

/-! # made things further: what an expression yields; flat lists put together -/
namespace L2.Lt
open PySem PySem.Spec PyProof.Rows L2.Vf L2.Dw L2.Ch
/-- te makes a new thing that is d -/
def Yl (K : PySem.W.Frag) (σ : St) (te : TE) (d : PyData) : Prop := ∀ (H : Hp) (Q : VK), (∀ i H', Same H H' → Ok K H' i → Fresh H i → i.d = d → Q i.v H') → te σ H Q
def YlA (K : PySem.W.Frag) (σ : St) (ta : TA) (ds : List PyData) : Prop := ∀ (H : Hp) (Q : List V → Hp → Prop), (∀ l H', Made K H H' l ds → Q (l.map (·.v)) H') → ta σ H Q
/-- scalars -/
inductive Sc : V → PyData → Prop
  | non : Sc .non .none
  | bl (b : Bool) : Sc (.bl b) (.bool b)
  | int (i : Int) : Sc (.int i) (.int i)
  | str (x : Str) : Sc (.str x) (.str x)
/-- te makes a new list of scalars -/
def YlF (σ : St) (te : TE) (vs : List V) : Prop := ∀ (H : Hp) (Q : VK), (∀ p H', H p = none → p ≠ sysModules → Same H H' → H' p = some (.lst vs) → Q (.ref p) H') → te σ H Q
/-- te tells a value -/
def Tl (σ : St) (te : TE) (v : V) : Prop := ∀ (H : Hp) (Q : VK), Q v H → te σ H Q
section
variable {K : PySem.W.Frag} {σ : St} {te t1 t2 : TE} {ta : TA} {d : PyData} {ds : List PyData} {vs ws : List V}
theorem Sc.sh {H : Hp} {v : V} (h : Sc v d) : Sh K H v d [] := by
  cases h with
  | non => exact .non
  | bl b => exact .bl b
  | int i => exact .int i
  | str x => exact .str x
theorem scs_sh {H : Hp} : ∀ {vs : List V} {ds : List PyData}, Paired Sc vs ds → Shs K H vs ds []
  | _, _, .nil => .nil
  | _, _, .cons h t => .cons (as := []) (bs := []) h.sh (scs_sh t)
theorem Yl.lit : Yl K σ (tLit K d) d := fun H Q h => h
theorem YlA.lits : YlA K σ (tLits K ds) ds := fun H Q h => h
theorem YlA.nil : YlA K σ tNil [] := fun H Q h => h [] H ⟨Same.refl H, fun i m => (by cases m), fun i m => (by cases m), .nil, rfl⟩
theorem YlA.cons (h : Yl K σ te d) (t : YlA K σ ta ds) : YlA K σ (tCons te ta) (d :: ds) := fun H Q q =>
  h H _ fun i H1 s1 ok1 f1 e1 => t H1 _ fun l H2 m => q (i :: l) H2 ⟨s1.trans m.same, fun j hj => by
      rcases List.mem_cons.mp hj with rfl | hj
      · exact ok1.mono m.same
      · exact m.ok j hj, fun j hj a ha => by
      rcases List.mem_cons.mp hj with rfl | hj
      · exact f1 a ha
      · exact ⟨s1.free (m.new j hj a ha).1, (m.new j hj a ha).2⟩, .cons (fun j hj a ha ha' => by
      obtain ⟨xs, e, _⟩ := ok1.live a ha
      rw [(m.new j hj a ha').1] at e
      cases e) m.apart, by rw [List.map_cons, e1, m.ds]⟩
/-- things, and more things made later -/
theorem Made.app {H H1 H2 H3 : Hp} {l1 l2 : List Itm} {d1 d2 : List PyData} (m1 : Made K H H1 l1 d1) (s : Same H1 H2) (m2 : Made K H2 H3 l2 d2) : Made K H H3 (l1 ++ l2) (d1 ++ d2) := by
  refine ⟨m1.same.trans (s.trans m2.same), fun i hi => ?_, fun i hi a ha => ?_, ?_, by rw [List.map_append, m1.ds, m2.ds]⟩
  · rcases List.mem_append.mp hi with hi | hi
    · exact (m1.ok i hi).mono (s.trans m2.same)
    · exact m2.ok i hi
  · rcases List.mem_append.mp hi with hi | hi
    · exact m1.new i hi a ha
    · exact ⟨(m1.same.trans s).free (m2.new i hi a ha).1, (m2.new i hi a ha).2⟩
  · rw [List.pairwise_append]
    refine ⟨m1.apart, m2.apart, fun i hi j hj a ha ha' => ?_⟩
    obtain ⟨xs, e, _⟩ := (m1.ok i hi).live a ha
    have := s _ _ e
    rw [(m2.new j hj a ha').1] at this
    cases this
theorem YlF.one {t : TE} {v : V} (h : Tl σ t v) : YlF σ (tLstF (tCons t tNil)) [v] := fun H Q q => h H _ ⟨by show 1 ≤ sizeLine; decide, fun p hp np => q p _ hp np (same_new hp) upd_same⟩
theorem YlF.rep {k : Nat} (h : YlF σ t1 vs) (hk : Tl σ t2 (.int (k : Nat))) (h1 : k ≤ 1000) (h2 : vs.length ≤ 1000) : YlF σ (tOp rRepF t1 t2) (List.replicate k vs).flatten := fun H Q q =>
  h H _ fun p H1 hp np s e => hk H1 _ ⟨p, k, vs, rfl, rfl, e, by omega, by omega, by
      rw [sizeLine_eq]
      have a1 : vs.length * k ≤ 1000 * 1000 := Nat.mul_le_mul h2 h1
      show vs.length * k ≤ _
      omega, fun p2 hp2 np2 => q p2 _ (s.free hp2) np2 (s.trans (same_new hp2)) upd_same⟩
theorem YlF.cat (h : YlF σ t1 vs) (t : YlF σ t2 ws) (h1 : vs.length ≤ 1000) (h2 : ws.length ≤ 1000) : YlF σ (tOp rCatF t1 t2) (vs ++ ws) := fun H Q q =>
  h H _ fun p H1 hp np s e => t H1 _ fun p2 H2 hp2 np2 s2 e2 => ⟨p, p2, vs, ws, rfl, rfl, s2 _ _ e, e2, by rw [sizeLine_eq]; omega, fun p3 hp3 np3 => q p3 _ ((s.trans s2).free hp3) np3 ((s.trans s2).trans (same_new hp3)) upd_same⟩
theorem YlF.yl (h : YlF σ te vs) (hv : Paired Sc vs ds) (h1 : vs.length ≤ 1000) : Yl K σ te (.list ds) := fun H Q q =>
  h H _ fun p H1 hp np s e => q ⟨.ref p, .list ds, [p]⟩ H1 s ⟨.lst (SqL.of e) (scs_sh hv), fun a ha => by
      rcases List.mem_singleton.mp ha with rfl
      exact ⟨vs, e, h1⟩, fun ds' z => by cases z; exact ⟨p, vs, [], rfl, rfl, e, h1, scs_sh hv⟩, by simp⟩ (fun a ha => by
      rcases List.mem_singleton.mp ha with rfl
      exact ⟨hp, np⟩) rfl
theorem rep_sc {v : V} (hv : Sc v d) : ∀ k : Nat, Paired Sc (List.replicate k v) (List.replicate k d)
  | 0 => .nil
  | k + 1 => by
    rw [List.replicate_succ, List.replicate_succ]
    exact .cons hv (rep_sc hv k)
theorem rep_one {α : Type} (x : α) : ∀ k : Nat, (List.replicate k [x]).flatten = List.replicate k x
  | 0 => rfl
  | k + 1 => by rw [List.replicate_succ, List.flatten_cons, rep_one x k]; rfl
/-- (x,) * k -/
theorem Yl.tup {t : TE} {v : V} {k : Nat} (h : Tl σ t v) (hv : Sc v d) (hk : Tl σ t2 (.int (k : Nat))) (h0 : 1 ≤ k) (h1 : k ≤ 1000) : Yl K σ (tOp (rRepTA K) (tTup (tCons t tNil)) t2) (.tuple (List.replicate k d)) := by
  intro H Q q
  refine h H _ ⟨by show 1 ≤ sizeLine; decide, fun p hp => hk _ _ ⟨p, k, [v], rfl, rfl, SqT.of upd_same, by simp, by omega, by omega, by simp, fun e => ?_, fun e p2 hp2 => ?_⟩⟩
  · have ek : k = 1 := by omega
    subst ek
    exact q ⟨.ref p, .tuple [d], []⟩ _ (same_new hp) ⟨.tup (SqT.of upd_same) (scs_sh (rep_sc hv 1)), fun a ha => (by cases ha), fun ds' z => (by cases z), List.nodup_nil⟩ (fun a ha => (by cases ha)) rfl
  · have sp := same_new (o := .tup [v]) hp
    refine q ⟨.ref p2, .tuple (List.replicate k d), []⟩ _ (sp.trans (same_new hp2)) ⟨.tup (SqT.of upd_same) ?_, fun a ha => (by cases ha), fun ds' z => (by cases z), List.nodup_nil⟩ (fun a ha => (by cases ha)) rfl
    rw [show ((k : Int)).toNat = k from rfl, rep_one]
    exact scs_sh (rep_sc hv k)
end
end L2.Lt

/-! # letters drawn -/
namespace L2.Fo
open PySem PySem.Spec PyProof.Rows L2.Vf L2.Dw L2.Ch L2.Nk L2.Lt
abbrev sLr : Stmt := top 34
abbrev nLr : List Str := ["_law_purse_here", "_law_width", "_law_kinds"]
/-- a letter of n exponents up to 3 -/
def Ltr (n : Nat) (l : List Int) : Prop := l.length = n ∧ ∀ x ∈ l, 0 ≤ x ∧ x ≤ 3
def spLr (K : PySem.W.Frag) : Sp := fun vs H Q _ => ∃ (g : Addr) (n : Nat) (c : Nat), vs = [.ref g, .int (n : Nat)] ∧ 1 ≤ n ∧ n ≤ 2 ∧ Pu H g c ∧ c ≤ 1000000 ∧
  ∀ (a : Addr) (l : List Int) (H' : Hp), Ltr n l → SqT K H' a (l.map V.int) → Keep g H H' → Pu H' g (c + 3) → Q (.ref a) H'
def k1 : List (List Int) := [[0], [1], [1], [2], [3]]
def k2 : List (List Int) := [[0, 0], [1, 0], [0, 1], [1, 1], [2, 0], [0, 2], [1, 2]]
theorem ltr_k1 : ∀ l ∈ k1, Ltr 1 l := by unfold Ltr; decide
theorem ltr_k2 : ∀ l ∈ k2, Ltr 2 l := by unfold Ltr; decide
section
variable {P : Program} {w : World} {K : PySem.W.Frag} {mg : Str → Option Value} {base : Heap}
theorem scLr : FnScope nLr ["_law_purse_here", "_law_width"] (defScope sLr) := ⟨rfl, rfl, rfl, by decide +kernel, rfl, by decide +kernel, by decide +kernel⟩
/-- the last statement -/
def tLrE (K : PySem.W.Frag) : TS := tRet (tOp (rIx K) (tVar 2) (tCall spDr [] E0 (tCons (tVar 0) (tCons (tLenS K 2) tNil))))
theorem rd_lrE {D : Ends} {H0 H : Hp} {g : Addr} {n c : Nat} {i : Itm} {ks : List (List Int)} {σ : St} (h0 : σ[0]? = some (some (.ref g))) (h2 : σ[2]? = some (some i.v)) (hp : Pu H0 g c) (hc : c ≤ 1000000) (s : Same H0 H) (ok : Ok K H i) (fr : Fresh H0 i) (e : i.d = .list (ks.map dLine)) (hk : ∀ l ∈ ks, Ltr n l) (h1 : 1 ≤ ks.length) (h9 : ks.length ≤ 10)
    (q : ∀ (a : Addr) (l : List Int) (H' : Hp), Ltr n l → SqT K H' a (l.map V.int) → Keep g H0 H' → Pu H' g (c + 3) → D.rt (.ref a) H') : tLrE K D σ H := by
  obtain ⟨iv, id, ia⟩ := i
  obtain rfl : id = .list (ks.map dLine) := e
  have hs : Sh K H iv (.list (ks.map dLine)) ia := ok.sh
  have hga : g ∉ ia := fun z => by
    obtain ⟨xs, q⟩ := hp.lst
    rw [(fr g z).1] at q
    cases q
  cases hs with
  | @lst a xs _ as g1 g2 =>
    have hl : xs.length = ks.length := by rw [Shs.length g2, List.length_map]
    refine ⟨_, h2, _, h0, _, h2, a, xs, rfl, .inl g1, g, _, c, rfl, by omega, by omega, hp.mono s, by omega, fun r H1 b1 b2 k p1 => ?_⟩
    have ok2 : Ok K H1 ⟨.ref a, .list (ks.map dLine), a :: as⟩ := ok.keep k (hp.mono s).lst hga
    have hs2 : Sh K H1 (.ref a) (.list (ks.map dLine)) (a :: as) := ok2.sh
    cases hs2 with
    | @lst _ ys _ _ f1 f2 =>
      have hl2 : ys.length = ks.length := by rw [Shs.length f2, List.length_map]
      obtain ⟨j, rfl⟩ : ∃ j : Nat, r = (j : Int) := ⟨r.toNat, by omega⟩
      have hj : j < ys.length := by omega
      have hy : ys[j]? = some ys[j] := List.getElem?_eq_getElem hj
      obtain ⟨d, bs, hd, hsh⟩ := Shs.get f2 hy
      rw [List.getElem?_map] at hd
      obtain ⟨l, hlj, rfl⟩ := Option.map_eq_some_iff.mp hd
      obtain ⟨b, eb, hb⟩ := sh_lineT hsh
      refine .inl ⟨a, ys, (j : Nat), ys[j], rfl, rfl, f1, ?_, ?_⟩
      · exact atI_nat hy
      · rw [eb]
        exact q b l H1 (hk l (List.mem_of_getElem? hlj)) hb ((Keep.of s).trans k) p1
theorem ok_lr {f fD : Addr} {fd dD : FuncData} (F : Fun K "_law_letter" "_law_letter" sLr f fd) (N : Nm mg) (GD : FnOk P w K mg base CX0 2 fD dD ["_law_purse_here", "_law_out_of"] spDr) (mD : mg "_law_draw" = some (.ref fD)) (kD : PySem.W.keepIn K (.ref fD) = true) (bD : Binds K dD ["_law_purse_here", "_law_out_of"] []) : FnOk P w K mg base CX0 3 f fd ["_law_purse_here", "_law_width"] (spLr K) := by
  refine F.ok scLr (fun vs H Q E h => ?_) fun cdv A outer s H vs Q E hr h => ?_
  · obtain ⟨g, n, c, rfl, _⟩ := h
    rfl
  · obtain ⟨g, n, c, rfl, n1, n2, hp, hc, q⟩ := h
    refine ⟨tSeq (tAsg (tLit K (.list (k1.map dLine))) (gName 2)) (tSeq (tIfS (tB (tEqI (tVar 1) (tC (.int 2)))) (tAsg (tLit K (.list (k2.map dLine))) (gName 2)) tNext) (tLrE K)),
      pss_cons (ps_set (i := 2) scLr.nd rfl (.inl rfl) (lit_pe rfl))
      (pss_cons (ps_if (pt_cmp (pc_eqI (pv 1) pe_int)) (pss_one (ps_set (i := 2) scLr.nd rfl (.inl rfl) (lit_pe rfl))) pss_nil)
      (pss_one (ps_ret (pe_ix ix_seq (pv 2) (pe_call GD hr rfl mD kD bD .nil pass0 (pa_cons (pv 0) (pa_cons (pe_callB call_len_seq (by rfl) N.len PySem.boot_len (pa_cons (pv 2) pa_nil)) pa_nil))) fun _ _ => rfl)))), ?_⟩
    intro i1 H1 s1 ok1 f1 e1
    refine ⟨_, rfl, _, _, rfl, rfl, _, rfl, ?_⟩
    by_cases z : n = 2
    · subst z
      refine iteT ?_
      intro i2 H2 s2 ok2 f2 e2
      refine rd_lrE (K := K) (n := 2) (H0 := H) (i := i2) (ks := k2) rfl rfl hp hc (s1.trans s2) ok2 (fun a ha => ⟨s1.free (f2 a ha).1, (f2 a ha).2⟩) e2 ltr_k2 (by decide) (by decide) fun a l H' h1 h2 h3 h4 => q a l H' h1 h2 h3 h4
    · obtain rfl : n = 1 := by omega
      refine iteF ?_
      exact rd_lrE (K := K) (n := 1) (H0 := H) (i := i1) (ks := k1) rfl rfl hp hc s1 ok1 f1 e1 ltr_k1 (by decide) (by decide) fun a l H' h1 h2 h3 h4 => q a l H' h1 h2 h3 h4
end
end L2.Fo

/-! # what is drawn, b: lists of drawn numbers, cells, rows -/
namespace L2.Dw
open PySem PySem.Spec PyProof.Rows L2.Vf
/-- whole numbers within m -/
def In (m : Int) (cs : List Int) : Prop := ∀ c ∈ cs, -m ≤ c ∧ c ≤ m
/-- what is told of a value by the object that it names alone -/
def Flat (R : V → Hp → Prop) : Prop := ∀ v H H', R v H → (∀ a o, v = .ref a → H a = some o → H' a = some o) → R v H'
/-- v is no object of H -/
def New (v : V) (H : Hp) : Prop := ∀ a, v = .ref a → H a = none
/-- [drawn(purse) for x in range(n)]: a list of things that R tells, each drawn at the cost of k -/
theorem drawn_run {R : V → Hp → Prop} {te : TE} {σ : St} {vs : List Nat} {g : Addr} {H : Hp} {n k c i0 : Nat} {Q : Addr → Hp → Prop} (hR : Flat R) (hn : n ≤ 1000) (hp : Pu H g c)
    (hte : ∀ (x : V) (j : Nat) (H1 : Hp) (Qe : VK), j < n → Keep g H H1 → Pu H1 g (c + k * j) → (∀ v H2, New v H1 → Keep g H1 H2 → Pu H2 g (c + k * (j + 1)) → R v H2 → Qe v H2) → te ((wipe σ vs).set i0 (some x)) H1 Qe)
    (hw : ∀ x, wipe ((wipe σ vs).set i0 (some x)) vs = wipe σ vs)
    (h : ∀ D xs H', H D = none → Keep g H H' → Pu H' g (c + k * n) → xs.length = n → (∀ v ∈ xs, R v H' ∧ New v H ∧ v ≠ .ref D ∧ v ≠ .ref g) → H' D = some (.lst xs) → Q D H') :
    ∀ D, H D = none → ∃ W : Nat → Nat → Hp → Prop, (∃ m, W 0 m (upd H D (.lst []))) ∧ ∀ i m H, W i m H → ((Itr 0 n).stop i H ∧ Q D H) ∨ ((Itr 0 n).go i H ∧ ∃ Nx : Hp → Prop, (∀ H', Nx H' → ∃ m', m' < m ∧ W (i + 1) m' H') ∧ ∀ x H', (Itr 0 n).yld i H x H' →
      gName i0 x (wipe σ vs) H' fun σ2 H2 => wipe σ2 vs = wipe σ vs ∧ tYes σ2 H2 fun b H3 => if b = true then te σ2 H3 fun y H4 => ∃ acc, H4 D = some (.lst acc) ∧ acc.length < sizeLine ∧ Nx (upd H4 D (.lst (acc ++ [y]))) else Nx H3) := by
  intro D hD
  have hgD : g ≠ D := hp.ne hD
  refine lc_range (lo := 0) (n := n) (fun j H' => Keep g H H' ∧ Pu H' g (c + k * j) ∧ ∃ xs : List V, xs.length = j ∧ (∀ v ∈ xs, R v H' ∧ New v H ∧ v ≠ .ref D ∧ v ≠ .ref g) ∧ H' D = some (.lst xs)) ?_ (fun j H1 hj hP => ?_) fun H1 hP => ?_
  · exact ⟨.new .refl hD, (hp.mono (same_new hD)).le (Nat.le_add_right _ _), [], rfl, fun v hv => absurd hv (by simp), upd_same⟩
  · obtain ⟨k1, p1, xs, l1, r1, e1⟩ := hP
    refine ⟨hw _, hte _ j H1 _ hj k1 p1 fun v H2 n2 k2 p2 r2 => ?_⟩
    refine ⟨xs, k2 _ _ hgD.symm e1, by rw [l1, sizeLine_eq]; omega, ?_, ?_, xs ++ [v], by simp [l1], ?_, upd_same⟩
    · intro b o hb e
      have hbD : b ≠ D := ne_of_none e hD
      rw [upd_ne hbD]
      exact k2 _ _ hb (k1 _ _ hb e)
    · obtain ⟨x, y, z, q1, q2⟩ := p2
      exact ⟨x, y, z, by rw [upd_ne hgD]; exact q1, q2⟩
    · have nD : v ≠ .ref D := fun e => by rw [n2 D e] at e1; cases e1
      have ng : v ≠ .ref g := fun e => by
        obtain ⟨ys, q⟩ := p1.lst
        rw [n2 g e] at q
        cases q
      intro u hu
      rcases List.mem_append.mp hu with hu | hu
      · obtain ⟨a1, a2, a3, a4⟩ := r1 u hu
        refine ⟨hR _ _ _ a1 fun a o e ea => ?_, a2, a3, a4⟩
        have h1 : a ≠ D := fun z => a3 (by rw [e, z])
        have h2 : a ≠ g := fun z => a4 (by rw [e, z])
        rw [upd_ne h1]
        exact k2 _ _ h2 ea
      · rw [List.mem_singleton.mp hu]
        refine ⟨hR _ _ _ r2 fun a o e ea => ?_, fun a e => ?_, nD, ng⟩
        · rw [upd_ne (fun z => nD (by rw [e, z]))]
          exact ea
        · by_cases q : H a = none
          · exact q
          · obtain ⟨o, ho⟩ := Option.ne_none_iff_exists'.mp q
            have := k1 a o (fun z => ng (by rw [e, z])) ho
            rw [n2 a e] at this
            cases this
  · obtain ⟨k1, p1, xs, l1, r1, e1⟩ := hP
    exact h D xs H1 hD k1 p1 l1 r1 e1
/-- a number within m -/
def RInt (m : Int) : V → Hp → Prop := fun v _ => ∃ i : Int, v = .int i ∧ -m ≤ i ∧ i ≤ m
theorem flat_int {m : Int} : Flat (RInt m) := fun _ _ _ h _ => h
theorem ints_of {m : Int} {H : Hp} {P : V → Prop} : ∀ {xs : List V}, (∀ v ∈ xs, RInt m v H ∧ P v) → ∃ cs : List Int, xs = cs.map V.int ∧ In m cs
  | [], _ => ⟨[], rfl, fun c h => absurd h (by simp)⟩
  | v :: xs, h => by
    obtain ⟨⟨i, rfl, b⟩, _⟩ := h v List.mem_cons_self
    obtain ⟨cs, rfl, q⟩ := ints_of (m := m) (H := H) (P := P) fun u hu => h u (List.mem_cons_of_mem _ hu)
    refine ⟨i :: cs, rfl, fun c hc => ?_⟩
    rcases List.mem_cons.mp hc with rfl | hc
    · exact b
    · exact q c hc
end L2.Dw

/-! # terms drawn -/
namespace L2.Fo
open PySem PySem.Spec PyProof.Rows L2.Vf L2.Dw L2.Ch L2.Nk L2.Lt
theorem sqT_keep {K : PySem.W.Frag} {H H' : Hp} {a q : Addr} {xs ys : List V} (h : SqT K H a xs) (hq : H q = some (.lst ys)) (k : Keep q H H') : SqT K H' a xs := by
  rcases h with (h | ⟨o, h⟩) | h
  · exact .inl (.inl (k _ _ (fun z => by rw [z, hq] at h; cases h) h))
  · exact .inl (.inr ⟨o, k _ _ (fun z => by rw [z, hq] at h; cases h) h⟩)
  · exact .inr h
theorem pu_upd {H : Hp} {g D : Addr} {c : Nat} {o : HO} (h : Pu H g c) (n : g ≠ D) : Pu (upd H D o) g c := by
  obtain ⟨x, y, z, q1, q2⟩ := h
  exact ⟨x, y, z, by rw [upd_ne n]; exact q1, q2⟩
/-- a letter at its own tuple -/
def LtAt (K : PySem.W.Frag) (H : Hp) (n : Nat) (p : Addr × List Int) : Prop := Ltr n p.2 ∧ SqT K H p.1 (p.2.map V.int)
theorem lets_run {K : PySem.W.Frag} {σ : St} {g : Addr} {n c k : Nat} {H : Hp} {Q : Addr → Hp → Prop} (hw : ∀ x, wipe ((wipe σ [7]).set 7 (some x)) [7] = wipe σ [7]) (h0 : ∀ x, ((wipe σ [7]).set 7 (some x))[0]? = some (some (.ref g))) (h1 : ∀ x, ((wipe σ [7]).set 7 (some x))[1]? = some (some (.int (n : Nat)))) (n1 : 1 ≤ n) (n2 : n ≤ 2) (hp : Pu H g c) (hc : c + 3 * k ≤ 1000000) (hk : k ≤ 1000)
    (h : ∀ (D : Addr) (ls : List (Addr × List Int)) (H' : Hp), H D = none → Keep g H H' → Pu H' g (c + 3 * k) → ls.length = k → (∀ p ∈ ls, LtAt K H' n p) → H' D = some (.lst (ls.map fun p => V.ref p.1)) → Q D H') :
    ∀ D, H D = none → ∃ W : Nat → Nat → Hp → Prop, (∃ m, W 0 m (upd H D (.lst []))) ∧ ∀ i m H, W i m H → ((Itr 0 k).stop i H ∧ Q D H) ∨ ((Itr 0 k).go i H ∧ ∃ Nx : Hp → Prop, (∀ H', Nx H' → ∃ m', m' < m ∧ W (i + 1) m' H') ∧ ∀ x H', (Itr 0 k).yld i H x H' →
      gName 7 x (wipe σ [7]) H' fun σ2 H2 => wipe σ2 [7] = wipe σ [7] ∧ tYes σ2 H2 fun b H3 => if b = true then (tCall (spLr K) [] E0 (tCons (tVar 0) (tCons (tVar 1) tNil))) σ2 H3 fun y H4 => ∃ acc, H4 D = some (.lst acc) ∧ acc.length < sizeLine ∧ Nx (upd H4 D (.lst (acc ++ [y]))) else Nx H3) := by
  intro D hD
  have hgD : g ≠ D := hp.ne hD
  refine lc_range (lo := 0) (n := k) (fun j H' => Keep g H H' ∧ Pu H' g (c + 3 * j) ∧ ∃ ls : List (Addr × List Int), ls.length = j ∧ (∀ p ∈ ls, LtAt K H' n p) ∧ H' D = some (.lst (ls.map fun p => V.ref p.1))) ?_ (fun j H1 hj hP => ?_) fun H1 hP => ?_
  · exact ⟨.new .refl hD, (hp.mono (same_new hD)).le (Nat.le_add_right _ _), [], rfl, fun v hv => absurd hv (by simp), upd_same⟩
  · obtain ⟨k1, p1, ls, l1, r1, e1⟩ := hP
    refine ⟨hw _, _, h0 _, _, h1 _, g, n, _, rfl, n1, n2, p1, by omega, fun a l H2 hl hs k2 p2 => ?_⟩
    have e2 := k2 _ _ hgD.symm e1
    refine ⟨_, e2, by rw [List.length_map, l1, sizeLine_eq]; omega, fun b o hb e => ?_, pu_upd (p2.le (by omega)) hgD, ls ++ [(a, l)], by simp [l1], fun p hp' => ?_, by rw [upd_same, List.map_append]; rfl⟩
    · rw [upd_ne (ne_of_none e hD)]
      exact k2 _ _ hb (k1 _ _ hb e)
    · rcases List.mem_append.mp hp' with hp' | hp'
      · obtain ⟨a1, a2⟩ := r1 p hp'
        obtain ⟨ys, ey⟩ := p1.lst
        exact ⟨a1, sqT_upd e2 True.intro (sqT_keep a2 ey k2)⟩
      · rw [List.mem_singleton.mp hp']
        exact ⟨hl, sqT_upd e2 True.intro hs⟩
  · obtain ⟨k1, p1, ls, l1, r1, e1⟩ := hP
    exact h D ls H1 hD k1 p1 l1 r1 e1
theorem lets_paired {K : PySem.W.Frag} {H : Hp} {n : Nat} : ∀ {ls : List (Addr × List Int)}, (∀ p ∈ ls, LtAt K H n p) → Paired (fun c l => SqT K H c (l.map V.int)) (ls.map (·.1)) (ls.map (·.2))
  | [], _ => .nil
  | p :: ls, h => .cons (h p List.mem_cons_self).2 (lets_paired fun q hq => h q (List.mem_cons_of_mem _ hq))
end L2.Fo

/-! # terms drawn, 2 -/
namespace L2.Fo
open PySem PySem.Spec PyProof.Rows L2.Vf L2.Dw L2.Ch L2.Nk L2.Lt
abbrev sTr : Stmt := top 35
abbrev nTr : List Str := ["_law_purse_here", "_law_width", "_law_most", "_law_letters_to", "_law_found", "_law_turn", "_law_letters", "_law_place"]
/-- a drawn term: a number up to 10 ** 6, up to t letters of n exponents -/
def Drawn (n t : Nat) (x : Int × Wd) : Prop := -(10 ^ 6) ≤ x.1 ∧ x.1 ≤ 10 ^ 6 ∧ x.2.length ≤ t ∧ ∀ l ∈ x.2, Ltr n l
def spTr (K : PySem.W.Frag) : Sp := fun vs H Q _ => ∃ (g : Addr) (n m t : Nat) (c : Nat), vs = [.ref g, .int (n : Nat), .int (m : Nat), .int (t : Nat)] ∧ 1 ≤ n ∧ n ≤ 2 ∧ m ≤ 100 ∧ t ≤ 100 ∧ Pu H g c ∧ c ≤ 100000 ∧
  ∀ (D : Addr) (rs : List Trm) (H' : Hp), H D = none → Keep g H H' → Pu H' g (c + 3 + (9 + 3 * t) * m) → rs.length ≤ m → (∀ r ∈ rs, TmAt K H' r ∧ Drawn n t r.2) → H' D = some (.lst (rs.map fun r => V.ref r.1)) → Q (.ref D) H'
theorem scTr : FnScope nTr ["_law_purse_here", "_law_width", "_law_most", "_law_letters_to"] (defScope sTr) := ⟨rfl, rfl, rfl, by decide +kernel, rfl, by decide +kernel, by decide +kernel⟩
abbrev tLd (K : PySem.W.Frag) : TE := tCall (spLr K) [] E0 (tCons (tVar 0) (tCons (tVar 1) tNil))
section
variable {P : Program} {w : World} {K : PySem.W.Frag} {mg : Str → Option Value} {base : Heap}
theorem ok_tr {f fD fS fL : Addr} {fd dD dS dL : FuncData} (F : Fun K "_law_terms" "_law_terms" sTr f fd) (N : Nm mg) (GD : FnOk P w K mg base CX0 2 fD dD ["_law_purse_here", "_law_out_of"] spDr) (mD : mg "_law_draw" = some (.ref fD)) (kD : PySem.W.keepIn K (.ref fD) = true) (bD : Binds K dD ["_law_purse_here", "_law_out_of"] [])
    (GS : FnOk P w K mg base CX0 3 fS dS ["_law_purse_here", "_law_most"] spSi) (mS : mg "_law_signed" = some (.ref fS)) (kS : PySem.W.keepIn K (.ref fS) = true) (bS : Binds K dS ["_law_purse_here", "_law_most"] [])
    (GL : FnOk P w K mg base CX0 3 fL dL ["_law_purse_here", "_law_width"] (spLr K)) (mL : mg "_law_letter" = some (.ref fL)) (kL : PySem.W.keepIn K (.ref fL) = true) (bL : Binds K dL ["_law_purse_here", "_law_width"] []) :
    FnOk P w K mg base CX0 4 f fd ["_law_purse_here", "_law_width", "_law_most", "_law_letters_to"] (spTr K) := by
  refine F.ok scTr (fun vs H Q E h => ?_) fun cdv A outer s H vs Q E hr h => ?_
  · obtain ⟨g, n, m, t, c, rfl, _⟩ := h
    rfl
  · obtain ⟨g, n, m, t, c, rfl, n1, n2, hm, ht, hp, hc, q⟩ := h
    have hr2 := hr.mono (show 2 ≤ 3 by decide)
    refine ⟨_, pss_cons (ps_set (i := 4) scTr.nd rfl (.inl rfl) (pe_lst pa_nil))
      (pss_cons (ps_for PassesOwn.never rfl (pi_range1 (by rfl) N.rng (pa_cons (pe_call GD hr2 rfl mD kD bD .nil pass0 (pa_cons (pv 0) (pa_cons (pe_op op_add (pv 2) pe_int) pa_nil))) pa_nil)) (pg_name (i := 5) scTr.nd rfl (Or.inl rfl))
        (pss_cons (ps_set (i := 6) scTr.nd rfl (.inl rfl) (pe_callTy call_tuple_of (by rfl) N.tup PyProof.Rows.boot_tuple (pa_cons (pe_lc (own := [("_law_place", 7)]) (g := gName 7) (tt := tYes) (te := tLd K) rfl scTr.nd
            (pi_range1 (by rfl) N.rng (pa_cons (pe_call GD hr2 rfl mD kD bD .nil pass0 (pa_cons (pv 0) (pa_cons (pe_op op_add (pv 3) pe_int) pa_nil))) pa_nil)) (blkOk_by (N := nTr) (sc := defScope sTr) (by decide +kernel)) (fun _ _ _ _ _ => pg_name (i := 7) scTr.nd rfl (Or.inl rfl)) (fun _ _ _ _ _ => pts_nil)
            (fun _ _ _ _ _ => pe_call GL hr rfl mL kL bL .nil pass0 (pa_cons (pv 0) (pa_cons (pv 1) pa_nil)))) pa_nil)))
        (pss_one (ps_expr (pe_bm PySem.F.plainAttrs_list PySem.F.slot_list_append PySem.F.type_list_append mt_append (pv 4) (pa_cons (pe_tup (pa_cons (pe_call GS hr rfl mS kS bS .nil pass0 (pa_cons (pv 0) (pa_cons
            (pe_ix ix_list (pe_lst (pa_cons pe_int (pa_cons (pe_op op_powW pe_int pe_int) pa_nil))) (pe_call GD hr2 rfl mD kD bD .nil pass0 (pa_cons (pv 0) (pa_cons pe_int pa_nil))) (fun _ _ => rfl)) pa_nil))) (pa_cons (pv 6) pa_nil))) pa_nil))))))
      (pss_one (ps_ret (pv 4)))), ?_⟩
    refine ⟨by show 0 ≤ sizeLine; omega, fun D hD => ?_⟩
    have sD : Same H (upd H D (.lst [])) := same_new hD
    have hgD : g ≠ D := hp.ne hD
    refine ⟨_, rfl, _, rfl, _, _, rfl, rfl, g, (m : Int) + 1, c, rfl, by omega, by omega, hp.mono sD, by omega, fun r H1 b1 b2 k1 p1 => ?_⟩
    obtain ⟨j, rfl⟩ : ∃ j : Nat, r = (j : Int) := ⟨r.toNat, by omega⟩
    refine ⟨j, rfl, by omega, by omega, ?_⟩
    have bnd : ∀ i : Nat, i ≤ 100 → (9 + 3 * t) * i ≤ 309 * 100 := fun i hi => Nat.mul_le_mul (by omega) hi
    refine for_range (fun i σ H' => Keep g H H' ∧ Pu H' g (c + 3 + (9 + 3 * t) * i) ∧ ∃ rs : List Trm, rs.length = i ∧ (∀ r ∈ rs, TmAt K H' r ∧ Drawn n t r.2) ∧ H' D = some (.lst (rs.map fun r => V.ref r.1)) ∧ ∃ o5 o6, σ = [some (.ref g), some (.int (n : Nat)), some (.int (m : Nat)), some (.int (t : Nat)), some (.ref D), o5, o6, none]) ?_ ?_ ?_
    · exact ⟨(Keep.of sD).trans k1, p1, [], rfl, fun r hr => absurd hr (by simp), k1 _ _ hgD.symm upd_same, none, none, rfl⟩
    · rintro i σ H2 hi ⟨k2, p2, rs, l2, r2, e2, o5, o6, rfl⟩
      have bi := bnd i (by omega)
      refine ⟨_, rfl, _, rfl, _, _, rfl, rfl, g, (t : Int) + 1, _, rfl, by omega, by omega, p2, by omega, fun r3 H3 c1 c2 k3 p3 => ?_⟩
      obtain ⟨j3, rfl⟩ : ∃ j : Nat, r3 = (j : Int) := ⟨r3.toNat, by omega⟩
      refine ⟨j3, rfl, by omega, by omega, ?_⟩
      refine lets_run (σ := [some (.ref g), some (.int (n : Nat)), some (.int (m : Nat)), some (.int (t : Nat)), some (.ref D), some (.int (0 + (i : Int))), o6, none]) (fun _ => rfl) (fun _ => rfl) (fun _ => rfl) n1 n2 p3 (by omega) (by omega) fun L ls H4 hL k4 p4 l4 r4 e4 => ?_
      refine ⟨L, _, rfl, .inl ⟨SqL.of e4, fun T hT => ?_⟩⟩
      have e4D : H4 D = some (.lst (rs.map fun r => V.ref r.1)) := k4 _ _ hgD.symm (k3 _ _ hgD.symm e2)
      have sA : Same H4 (upd H4 T (.tup (ls.map fun p => V.ref p.1))) := same_new hT
      refine ⟨_, rfl, .inl ⟨rfl, _, SqL.of (sA _ _ e4D)⟩, ?_⟩
      refine ⟨_, rfl, 10, 6, rfl, rfl, ⟨by decide, by decide +kernel⟩, by show 2 ≤ sizeLine; rw [sizeLine_eq]; omega, fun pl hpl => ?_⟩
      have sB : Same _ (upd (upd H4 T (.tup (ls.map fun p => V.ref p.1))) pl (.lst [V.int 3, V.int (10 ^ Int.toNat 6)])) := same_new hpl
      have pB := (p4.mono sA).mono sB
      refine ⟨_, rfl, g, 2, _, rfl, by omega, by omega, pB, by omega, fun rr H6 d1 d2 k6 p6 => ?_⟩
      have hgp : pl ≠ g := fun z => by
        obtain ⟨xs, ex⟩ := (p4.mono sA).lst
        rw [z, ex] at hpl
        cases hpl
      obtain ⟨mm, m0, m1, hat⟩ : ∃ mm : Int, 0 ≤ mm ∧ mm ≤ 10 ^ 6 ∧ atI [V.int 3, V.int (10 ^ Int.toNat 6)] rr = some (V.int mm) := by
        have : rr = 0 ∨ rr = 1 := by omega
        rcases this with rfl | rfl
        · exact ⟨3, by decide, by decide, rfl⟩
        · exact ⟨10 ^ 6, by decide, by decide, rfl⟩
      refine ⟨pl, _, rr, V.int mm, rfl, rfl, SqL.of (k6 _ _ hgp upd_same), hat, ?_⟩
      refine ⟨g, mm, _, rfl, m0, by omega, p6, by omega, fun v H7 v1 v2 k7 p7 => ?_⟩
      refine ⟨_, rfl, by show 2 ≤ sizeLine; rw [sizeLine_eq]; omega, fun q hq => ?_⟩
      have sC : Same H7 (upd H7 q (.tup [V.int v, V.ref T])) := same_new hq
      have e7D : (upd H7 q (.tup [V.int v, V.ref T])) D = some (.lst (rs.map fun r => V.ref r.1)) := sC _ _ (k7 _ _ hgD.symm (k6 _ _ hgD.symm (sB _ _ (sA _ _ e4D))))
      -- tuples stay
      have t1 : ∀ a us, SqT K (upd H4 T (.tup (ls.map fun p => V.ref p.1))) a us → SqT K (upd (upd H7 q (.tup [V.int v, V.ref T])) D (.lst ((rs.map fun r => V.ref r.1) ++ [.ref q]))) a us := fun a us h => by
        have h1 := sqT_ext (.of sB) h
        obtain ⟨x1, y1⟩ := pB.lst
        obtain ⟨x2, y2⟩ := p6.lst
        exact sqT_upd e7D True.intro (sqT_ext (.of sC) (sqT_keep (sqT_keep h1 y1 k6) y2 k7))
      have t2 : ∀ a us, SqT K H2 a us → SqT K (upd (upd H7 q (.tup [V.int v, V.ref T])) D (.lst ((rs.map fun r => V.ref r.1) ++ [.ref q]))) a us := fun a us h => by
        obtain ⟨x1, y1⟩ := p2.lst
        obtain ⟨x2, y2⟩ := p3.lst
        exact t1 _ _ (sqT_ext (.of sA) (sqT_keep (sqT_keep h y1 k3) y2 k4))
      have nk : NKey K (upd H4 T (.tup (ls.map fun p => V.ref p.1))) (ls.map (·.2)) T := ⟨ls.map (·.1), SqT.of (by rw [upd_same, List.map_map]; rfl), Paired.mapP (lets_paired r4) fun _ _ h => sqT_ext (.of sA) h⟩
      refine ⟨D, _, _, rfl, rfl, e7D, by rw [List.length_map, l2, sizeLine_eq]; omega, ?_⟩
      refine ⟨fun b o hb e => ?_, pu_upd (pu_upd (p7.le ?_) (p7.ne hq)) hgD, rs ++ [(q, v, ls.map (·.2))], by simp [l2], fun r hr => ?_, by rw [upd_same, List.map_append]; rfl, _, _, rfl⟩
      · rw [upd_ne (ne_of_none e hD)]
        exact sC _ _ (k7 _ _ hb (k6 _ _ hb (sB _ _ (sA _ _ (k4 _ _ hb (k3 _ _ hb (k2 _ _ hb e)))))))
      · rw [Nat.mul_succ]
        omega
      · rcases List.mem_append.mp hr with hr | hr
        · obtain ⟨⟨b, h1, h2⟩, h3⟩ := r2 r hr
          exact ⟨⟨b, t2 _ _ h1, h2.mono t2⟩, h3⟩
        · rw [List.mem_singleton.mp hr]
          refine ⟨⟨T, sqT_upd e7D True.intro (SqT.of upd_same), nk.mono t1⟩, by show -(10 ^ 6) ≤ v; omega, by show v ≤ 10 ^ 6; omega, by show (ls.map (·.2)).length ≤ t; rw [List.length_map]; omega, fun l hl => ?_⟩
          obtain ⟨p, hp', rfl⟩ := List.mem_map.mp hl
          exact (r4 p hp').1
    · rintro σ H2 ⟨k2, p2, rs, l2, r2, e2, o5, o6, rfl⟩
      refine ⟨_, rfl, ?_⟩
      have bj := bnd j (by omega)
      simp only [Int.toNat_natCast] at p2 l2
      have le : (9 + 3 * t) * j ≤ (9 + 3 * t) * m := Nat.mul_le_mul_left _ (by omega)
      exact q D rs H2 hD k2 (p2.le (by omega)) (by omega) r2 e2
end
end L2.Fo

/-! # the law's own sums -/
namespace L2.Fo
open PySem PySem.Spec PyProof.Rows L2.Vf L2.Dw L2.Ch L2.Nk L2.Lt
abbrev sTg : Stmt := top 36
abbrev nTg : List Str := ["_law_terms_here", "_law_found", "_law_coefficient", "_law_letters", "_law_some", "_law_many"]
/-- the law's list of the terms put together: a new list -/
def spTg (K : PySem.W.Frag) : Sp := fun vs H Q _ => ∃ (a : Addr) (ts : List Trm), vs = [.ref a] ∧ SqL K H a (ts.map fun t => V.ref t.1) ∧ (∀ t ∈ ts, TmAt K H t) ∧ ts.length < sizeLine ∧
  ∀ (D : Addr) (rs : List Trm) (H' : Hp), Same H H' → H D = none → H' D = some (.lst (rs.map fun r => V.ref r.1)) → (∀ r ∈ rs, TmAt K H' r) → rs.map (·.2) = together (ts.map (·.2)) → Q (.ref D) H'
theorem scTg : FnScope nTg ["_law_terms_here"] (defScope sTg) := ⟨rfl, rfl, rfl, by decide +kernel, rfl, by decide +kernel, by decide +kernel⟩
def tTg2 (P : Program) (w : World) (K : PySem.W.Frag) : TS :=
  tSeq (tLock (tAsg (tCB (rSortP K) (tCons (tLc (iKeysN P w (tVar 1)) (gName 3) (tB (tNeI (tNGet P w K (tVar 1) (tVar 3)) (tC (.int 0)))) (tTup (tCons (tLenS K 3) (tCons (tVar 3) tNil))) [3]) tNil)) (gName 4)))
  (tRet (tLc (iList K (tVar 4)) (gTup K 2 (gCons (gName 5) (gCons (gName 3) gNil))) tYes (tTup (tCons (tNGet P w K (tVar 1) (tVar 3)) (tCons (tVar 3) tNil))) [5, 3]))
def tTg (P : Program) (w : World) (K : PySem.W.Frag) : TS :=
  tSeq (tAsg (tNNew P w) (gName 1))
  (tSeq (tFor (iList K (tVar 0)) (gTup K 2 (gCons (gName 2) (gCons (gName 3) gNil))) (sNPut P w K (tVar 1) (tVar 3) (tAdd (tNGet2 P w K (tVar 1) (tVar 3) (tC (.int 0))) (tVar 2))))
  (tTg2 P w K))
section
variable {P : Program} {w : World} {K : PySem.W.Frag} {mg : Str → Option Value} {base : Heap}
theorem boot_sorted : bootBuiltins "sorted" = some (.builtin "sorted") := by decide +kernel
theorem der_tg {f : Addr} {cdv : Value} {A : Around} {outer : List Env} {s : Shared} {H : Hp} {E : XK} (N : Nm mg) (mS : mg "sorted" = none)
    (hr : Room 0 (A.deeper (envOfC "_law_together" (defScope sTg) s.heap.objs.size f cdv))) :
    PSs (cxOf CX0 P w K mg base nTg "_law_together" (defScope sTg) f cdv A outer s H E).nox (defBody sTg) (tTg P w K) := by
  have h2 : (A.deeper (envOfC "_law_together" (defScope sTg) s.heap.objs.size f cdv)).units + 2 < cLine := by have := hr.units; omega
  refine pss_cons (ps_asg pe_nnew (pg_name (i := 1) scTg.nd rfl (Or.inr rfl))) ?_
  refine pss_cons (ps_for PassesOwn.never rfl (pi_list (pv 0)) (pg_tup rfl (pgs_cons (pg_name (i := 2) scTg.nd rfl (Or.inl rfl)) (pgs_cons (pg_name (i := 3) scTg.nd rfl (Or.inl rfl)) pgs_nil)))
    (pss_one (ps_nput h2 (pv 1) (pv 3) (pe_add (pe_nget2 h2 (pv 1) (pv 3) pe_int ⟨by rfl, by rfl, by rfl, by rfl⟩) (pv 2)) (by rfl)))) ?_
  refine pss_cons (ps_lock (ps_asg (pe_callB (L2.Nk.cr_sortedP hr.units) (by rfl) mS boot_sorted (pa_cons (pe_lc (own := [("_law_letters", 3)]) (g := gName 3) (tt := tB (tNeI (tNGet P w K (tVar 1) (tVar 3)) (tC (.int 0)))) (te := tTup (tCons (tLenS K 3) (tCons (tVar 3) tNil))) rfl scTg.nd (pi_keysN (pv 1)) (blkOk_by (N := nTg) (sc := defScope sTg) (by decide +kernel))
      (fun _ _ _ _ _ => pg_name (i := 3) scTg.nd rfl (Or.inl rfl)) (fun _ _ _ _ _ => pts_one (pt_cmp (pc_neI (pe_nget h2 (pv 1) (pv 3) (fun _ _ => rfl)) pe_int))) (fun _ _ _ _ _ => pe_tup (pa_cons (pe_callB call_len_seq (by rfl) N.len PySem.boot_len (pa_cons (pv 3) pa_nil)) (pa_cons (pv 3) pa_nil)))) pa_nil)) (pg_name (i := 4) scTg.nd rfl (Or.inl rfl)))) ?_
  exact pss_one (ps_ret (pe_lc (own := [("_law_many", 5), ("_law_letters", 3)]) (g := gTup K 2 (gCons (gName 5) (gCons (gName 3) gNil))) (tt := tYes) (te := tTup (tCons (tNGet P w K (tVar 1) (tVar 3)) (tCons (tVar 3) tNil))) rfl scTg.nd (pi_list (pv 4)) (blkOk_by (N := nTg) (sc := defScope sTg) (by decide +kernel))
      (fun _ _ _ _ _ => pg_tup rfl (pgs_cons (pg_name (i := 5) scTg.nd rfl (Or.inl rfl)) (pgs_cons (pg_name (i := 3) scTg.nd rfl (Or.inl rfl)) pgs_nil))) (fun _ _ _ _ _ => pts_nil) (fun _ _ _ _ _ => pe_tup (pa_cons (pe_nget h2 (pv 1) (pv 3) (fun _ _ => rfl)) (pa_cons (pv 3) pa_nil)))))
end
end L2.Fo

/-! # the law's own sums, their reading -/
namespace L2.Fo
open PySem PySem.Spec PyProof.Rows L2.Vf L2.Dw L2.Ch L2.Nk L2.Lt
theorem val_mem {xs : List Ent} {ys : Sm} (hs : AsS xs ys) {y : Wd × Int} (h : y ∈ ys) : valN xs y.1 = some (.int (getS ys y.1)) := by
  rw [hs.val]
  unfold getS
  cases z : ys.find? (fun q => decide (q.1 = y.1)) with
  | none => exact absurd (List.find?_eq_none.mp z y h) (by simp)
  | some r => rfl
theorem mem_some {ys : Sm} {t : Int × Wd} (h : t ∈ someOf ys) : ∃ y ∈ ys, t = (y.2, y.1) := by
  unfold someOf at h
  obtain ⟨y, hy, rfl⟩ := List.mem_map.mp h
  exact ⟨y, (List.mem_filter.mp hy).1, rfl⟩
theorem words_mem {ys : Sm} {bs : List (Addr × Wd)} (h : bs.map (·.2) = (someOf ys).map (·.2)) {p : Addr × Wd} (hp : p ∈ bs) : ∃ y ∈ ys, y.1 = p.2 := by
  have : p.2 ∈ (someOf ys).map (·.2) := by rw [← h]; exact List.mem_map.mpr ⟨p, hp, rfl⟩
  obtain ⟨t, ht, e⟩ := List.mem_map.mp this
  obtain ⟨y, hy, rfl⟩ := mem_some ht
  exact ⟨y, hy, e⟩
theorem some_words {ys : Sm} (nd : (ys.map (·.1)).Nodup) : ((someOf ys).map (·.2)).map (fun k => (getS ys k, k)) = someOf ys := by
  rw [List.map_map]
  have : ∀ t ∈ someOf ys, ((fun k => (getS ys k, k)) ∘ fun x : Int × Wd => x.2) t = t := fun t ht => by
    obtain ⟨y, hy, rfl⟩ := mem_some ht
    show (getS ys y.1, y.1) = _
    rw [getS_mem nd hy]
  calc (someOf ys).map _ = (someOf ys).map id := List.map_congr_left this
    _ = _ := List.map_id _
theorem sortW_told {ys : Sm} {bs : List (Addr × Wd)} (nd : (ys.map (·.1)).Nodup) (h : bs.map (·.2) = (someOf ys).map (·.2)) : (sortW bs).map (fun p => (getS ys p.2, p.2)) = (someOf ys).mergeSort (PySem.W.dataLe false fun t => dKey t.2) := by
  have e : bs.map (fun p => (getS ys p.2, p.2)) = someOf ys := by
    have : bs.map (fun p => (getS ys p.2, p.2)) = (bs.map (·.2)).map (fun k => (getS ys k, k)) := by rw [List.map_map]; rfl
    rw [this, h, some_words nd]
  unfold sortW
  rw [← e]
  exact PySem.W.sort_maps (fun p : Addr × Wd => (getS ys p.2, p.2)) fun a _ b _ => rfl
theorem pair_ext {K : PySem.W.Frag} {H H' : Hp} {p : Addr × Wd} (e : ∀ a us, SqT K H a us → SqT K H' a us) (h : PairAt K H p) : PairAt K H' p := by
  obtain ⟨b, h1, h2⟩ := h
  exact ⟨b, e _ _ h1, h2.mono e⟩
section
variable {P : Program} {w : World} {K : PySem.W.Frag}
theorem rd_tg2 {H : Hp} {a D0 : Addr} {Q : VK} {xs : List Ent} {ys : Sm} {o2 o3 : Option V} (h0 : H D0 = none) (hs : AsS xs ys) (nd : (ys.map (·.1)).Nodup) (hk : NKeys K H xs) (hz : xs.length < sizeLine)
    (q : ∀ (D : Addr) (rs : List Trm) (H' : Hp), Same H H' → H D = none → H' D = some (.lst (rs.map fun r => V.ref r.1)) → (∀ r ∈ rs, TmAt K H' r) → rs.map (·.2) = (someOf ys).mergeSort (PySem.W.dataLe false fun t => dKey t.2) → Q (.ref D) H') :
    tTg2 P w K { nx := fun _ H' => Q .non H', rt := Q } [some (.ref a), some (.ref D0), o2, o3, none, none] (upd H D0 (NtO P w D0 xs)) := by
  refine ⟨D0, NtO P w D0 xs, upd_same, True.intro, fun od => ?_⟩
  rw [upd_two]
  have sf : Same H (upd H D0 (.frz od (NtO P w D0 xs))) := same_new h0
  refine ⟨_, rfl, D0, od, xs, rfl, upd_same, fun D hD => ?_⟩
  have nDD : D0 ≠ D := fun e => by rw [← e, upd_same] at hD; cases hD
  have ln : xs.length = ys.length := Paired.length hs
  refine lc_it walk_keysN (fun i H' => ∃ bs : List (Addr × Wd), Same (upd H D0 (.frz od (NtO P w D0 xs))) H' ∧ H' D = some (.lst (bs.map fun r => V.ref r.1)) ∧ (∀ r ∈ bs, PairAt K H' r) ∧ bs.map (·.2) = (someOf (ys.take i)).map (·.2) ∧ bs.length ≤ i) ?_ ?_ ?_ ?_
  · exact ⟨[], same_new hD, upd_same, fun r hr => absurd hr (by simp), by simp [someOf], Nat.le_refl _⟩
  · rintro i H' _ ⟨rs, s1, _⟩
    exact s1 _ _ upd_same
  · rintro i x H' H'' hi ⟨bs, s1, e1, r1, m1, l1⟩ ⟨rfl, e, he, rfl⟩
    obtain ⟨p, hp, ek, ev⟩ := hs.at he
    have eD0 : H'' D0 = some (.frz od (NtO P w D0 xs)) := s1 _ _ upd_same
    have hk1 : NKeys K H'' xs := hk.ext (.of (sf.trans s1))
    have hke : NKey K H'' e.1 e.2.1 := hk1 e (List.mem_of_getElem? he)
    have hm := List.mem_of_getElem? hp
    have hget : NGet P w K H'' D0 (.ref e.2.1) (some (.int p.2)) := ⟨xs, e.1, e.2.1, .inr ⟨od, eD0⟩, hk1, rfl, hke, by rw [ek, val_mem hs hm, getS_mem nd hm]⟩
    refine ⟨rfl, ?_⟩
    refine ⟨_, rfl, _, rfl, D0, _, rfl, hget, p.2, 0, rfl, rfl, _, rfl, ?_⟩
    show (if (!decide (p.2 = 0)) = true then _ else _)
    by_cases z : p.2 = 0
    · rw [decide_eq_true z]
      refine iteF ⟨bs, s1, e1, r1, ?_, by omega⟩
      rw [some_take hp, if_pos z, m1, List.append_nil]
    · rw [decide_eq_false z]
      refine iteT ?_
      obtain ⟨bs0, hb1, hb2⟩ := hke
      have hl0 : (bs0.map V.ref).length = e.1.length := by rw [List.length_map]; exact Paired.length hb2
      refine ⟨_, rfl, e.2.1, _, rfl, .inr hb1, _, rfl, by show 2 ≤ _; rw [sizeLine_eq]; omega, fun t hq => ?_⟩
      rw [hl0]
      have s2 : Same H'' (upd H'' t (.tup [.int (e.1.length : Nat), .ref e.2.1])) := same_new hq
      have e2 : (upd H'' t (.tup [.int (e.1.length : Nat), .ref e.2.1])) D = some (.lst (bs.map fun r => V.ref r.1)) := s2 _ _ e1
      have keepD : ∀ (c : Addr) (us : List V), SqT K (upd H'' t (.tup [.int (e.1.length : Nat), .ref e.2.1])) c us → SqT K (upd (upd H'' t (.tup [.int (e.1.length : Nat), .ref e.2.1])) D (.lst ((bs.map fun r => V.ref r.1) ++ [.ref t]))) c us := fun c us h => sqT_upd e2 True.intro h
      refine ⟨_, e2, by rw [List.length_map]; omega, bs ++ [(t, e.1)], fun b o hb => ?_, ?_, fun r hr => ?_, ?_, by simp; omega⟩
      · rw [upd_ne (ne_of_none hb hD)]
        exact s2 _ _ (s1 _ _ hb)
      · rw [upd_same, List.map_append]
        rfl
      · rcases List.mem_append.mp hr with hr | hr
        · exact pair_ext (fun c us h => keepD c us (sqT_ext (.of s2) h)) (r1 r hr)
        · rw [List.mem_singleton.mp hr]
          exact ⟨e.2.1, keepD _ _ (SqT.of upd_same), NKey.mono ⟨bs0, hb1, hb2⟩ fun c us h => keepD c us (sqT_ext (.of s2) h)⟩
      · rw [List.map_append, m1, some_take hp, if_neg z, ek, List.map_append]
        rfl
  · rintro H' ⟨bs, s1, e1, r1, m1, l1⟩
    have eD0 : H' D0 = some (.frz od (NtO P w D0 xs)) := s1 _ _ upd_same
    rw [List.take_of_length_le (by omega)] at m1
    refine ⟨D, bs, rfl, SqL.of e1, r1, fun t ht => ?_⟩
    have nt : D0 ≠ t := fun z => by rw [← z, eD0] at ht; cases ht
    have sS : Same H' (upd H' t (.lst ((sortW bs).map fun p => V.ref p.1))) := same_new ht
    have eS0 := sS _ _ eD0
    refine ⟨eS0, ?_⟩
    have s0 : Same H (upd (upd H' t (.lst ((sortW bs).map fun p => V.ref p.1))) D0 (NtO P w D0 xs)) := fun b o hb => by
      rw [upd_ne (ne_of_none hb h0)]
      exact sS _ _ (s1 _ _ (sf _ _ hb))
    have et : (upd (upd H' t (.lst ((sortW bs).map fun p => V.ref p.1))) D0 (NtO P w D0 xs)) t = some (.lst ((sortW bs).map fun p => V.ref p.1)) := by rw [upd_ne nt.symm, upd_same]
    have pr : ∀ p ∈ sortW bs, PairAt K (upd (upd H' t (.lst ((sortW bs).map fun p => V.ref p.1))) D0 (NtO P w D0 xs)) p ∧ ∃ y ∈ ys, y.1 = p.2 := fun p hp => by
      have hp' : p ∈ bs := by unfold sortW at hp; exact List.mem_mergeSort.mp hp
      exact ⟨pair_ext (fun c us h => sqT_thaw eS0 (sqT_ext (.of sS) h)) (r1 p hp'), words_mem m1 hp'⟩
    have lb : (sortW bs).length = bs.length := by unfold sortW; exact List.length_mergeSort _
    refine ⟨_, rfl, t, rfl, ⟨_, SqL.of et⟩, fun D2 hD2 => ?_⟩
    refine lc_it (walk_list (xs := (sortW bs).map fun p => V.ref p.1)) (fun i H2 => ∃ rs : List Trm, Same (upd (upd H' t (.lst ((sortW bs).map fun p => V.ref p.1))) D0 (NtO P w D0 xs)) H2 ∧ H2 D2 = some (.lst (rs.map fun r => V.ref r.1)) ∧ (∀ r ∈ rs, TmAt K H2 r) ∧ rs.map (·.2) = ((sortW bs).take i).map (fun p => (getS ys p.2, p.2)) ∧ rs.length ≤ i) ?_ ?_ ?_ ?_
    · exact ⟨[], same_new hD2, upd_same, fun r hr => absurd hr (by simp), by simp, Nat.le_refl _⟩
    · rintro i H2 _ ⟨rs, s2, _⟩
      exact SqL.of (s2 _ _ et)
    · rintro i x H2 H2' hi ⟨rs, s2, e2, r2, m2, l2⟩ ⟨rfl, hx⟩
      rw [List.length_map] at hi
      rw [List.getElem?_map] at hx
      obtain ⟨p, hpi, rfl⟩ := Option.map_eq_some_iff.mp hx
      obtain ⟨hpr, y, hy, ey⟩ := pr p (List.mem_of_getElem? hpi)
      obtain ⟨b, g1, g2⟩ := pair_ext (fun c us h => sqT_ext (.of s2) h) hpr
      have hk2 : NKeys K H2' xs := hk.ext (.of (s0.trans s2))
      have hget : NGet P w K H2' D0 (.ref b) (some (.int (getS ys p.2))) := ⟨xs, p.2, b, .inl (s2 _ _ upd_same), hk2, rfl, g2, by rw [← ey, val_mem hs hy]⟩
      refine ⟨p.1, _, rfl, g1, rfl, _, _, rfl, _, _, rfl, rfl, rfl, ?_⟩
      refine ⟨_, rfl, _, rfl, D0, _, rfl, hget, _, rfl, by show 2 ≤ _; rw [sizeLine_eq]; omega, fun v hv => ?_⟩
      have s3 : Same H2' (upd H2' v (.tup [.int (getS ys p.2), .ref b])) := same_new hv
      have e3 := s3 _ _ e2
      have keepD : ∀ (c : Addr) (us : List V), SqT K (upd H2' v (.tup [.int (getS ys p.2), .ref b])) c us → SqT K (upd (upd H2' v (.tup [.int (getS ys p.2), .ref b])) D2 (.lst ((rs.map fun r => V.ref r.1) ++ [.ref v]))) c us := fun c us h => sqT_upd e3 True.intro h
      refine ⟨_, e3, by rw [List.length_map]; omega, rs ++ [(v, getS ys p.2, p.2)], fun b' o hb => ?_, by rw [upd_same, List.map_append]; rfl, fun r hr => ?_, ?_, by simp; omega⟩
      · rw [upd_ne (ne_of_none hb hD2)]
        exact s3 _ _ (s2 _ _ hb)
      · rcases List.mem_append.mp hr with hr | hr
        · obtain ⟨b', h1, h2⟩ := r2 r hr
          exact ⟨b', keepD _ _ (sqT_ext (.of s3) h1), h2.mono fun c us h => keepD c us (sqT_ext (.of s3) h)⟩
        · rw [List.mem_singleton.mp hr]
          exact ⟨b, keepD _ _ (SqT.of upd_same), g2.mono fun c us h => keepD c us (sqT_ext (.of s3) h)⟩
      · rw [List.map_append, m2, List.take_add_one, hpi, List.map_append]
        rfl
    · rintro H2 ⟨rs, s2, e2, r2, m2, l2⟩
      rw [List.length_map, List.take_length, sortW_told nd m1] at m2
      exact q D2 rs H2 (s0.trans s2) (s0.free hD2) e2 r2 m2
end
end L2.Fo

/-! # the law's own sums: what they promise -/
namespace L2.Fo
open PySem PySem.Spec PyProof.Rows L2.Vf L2.Dw L2.Ch L2.Nk L2.Lt
section
variable {P : Program} {w : World} {K : PySem.W.Frag} {mg : Str → Option Value} {base : Heap}
theorem rd_tg {H : Hp} {a : Addr} {ts : List Trm} {Q : VK} (hl : SqL K H a (ts.map fun t => V.ref t.1)) (ht : ∀ t ∈ ts, TmAt K H t) (hz : ts.length < sizeLine)
    (q : ∀ (D : Addr) (rs : List Trm) (H' : Hp), Same H H' → H D = none → H' D = some (.lst (rs.map fun r => V.ref r.1)) → (∀ r ∈ rs, TmAt K H' r) → rs.map (·.2) = together (ts.map (·.2)) → Q (.ref D) H') :
    tTg P w K { nx := fun _ H' => Q .non H', rt := Q } (start nTg [.ref a]) H := by
  intro D0 h0
  have sl : ∀ {o : HO}, Same H (upd H D0 o) := same_new h0
  refine ⟨_, rfl, a, rfl, ⟨_, sqL_ext (.of sl) hl⟩, ?_⟩
  refine for_it (walk_list (xs := ts.map fun t => V.ref t.1)) (fun j σ H' => ∃ xs, H' = upd H D0 (NtO P w D0 xs) ∧ AsS xs (sumsOf ((ts.take j).map (·.2))) ∧ NKeys K H xs ∧ ∃ o2 o3, σ = [some (.ref a), some (.ref D0), o2, o3, none, none]) ?_ ?_ ?_ ?_
  · exact ⟨[], rfl, .nil, fun x hx => absurd hx (by simp), none, none, rfl⟩
  · rintro i σ H' _ ⟨xs, rfl, _⟩
    exact sqL_ext (.of sl) hl
  · rintro i x σ H1 H1' hi ⟨xs, rfl, hs, hk, o2, o3, rfl⟩ ⟨rfl, hx⟩
    rw [List.getElem?_map] at hx
    obtain ⟨t, hti, rfl⟩ := Option.map_eq_some_iff.mp hx
    obtain ⟨b, h1, h2⟩ := ht t (List.mem_of_getElem? hti)
    have h1' : SqT K (upd H D0 (NtO P w D0 xs)) t.1 [.int t.2.1, .ref b] := sqT_ext (.of sl) h1
    have h2' : NKey K (upd H D0 (NtO P w D0 xs)) t.2.2 b := nKey_ext (.of sl) h2
    have hk' : NKeys K (upd H D0 (NtO P w D0 xs)) xs := hk.ext (.of sl)
    have hln : xs.length < sizeLine := by
      have l1 := Paired.length hs
      have l2 := sums_len ((ts.take i).map (·.2))
      rw [List.length_map, List.length_take] at l2
      omega
    refine ⟨t.1, _, rfl, h1', rfl, _, _, rfl, _, _, rfl, rfl, ?_⟩
    refine ⟨_, rfl, D0, rfl, ⟨xs, .inl upd_same⟩, _, rfl, _, ⟨xs, t.2.2, b, .inl upd_same, hk', rfl, h2', rfl⟩, _, rfl, _, _, hs.get _, rfl, ?_⟩
    refine ⟨_, rfl, _, rfl, D0, _, rfl, ⟨xs, t.2.2, b, upd_same, hk', rfl, h2', hln, rfl⟩, ?_⟩
    refine ⟨_, upd_two, ?_, hk.put h2, _, _, rfl⟩
    have e : (ts.take (i + 1)).map (·.2) = (ts.take i).map (·.2) ++ [t.2] := by rw [List.take_add_one, hti]; simp
    rw [e, sums_snoc]
    exact hs.put _ _ _
  · rintro σ H' ⟨xs, rfl, hs, hk, o2, o3, rfl⟩
    have e : (ts.take (ts.map fun t => V.ref t.1).length).map (·.2) = ts.map (·.2) := by rw [List.length_map, List.take_length]
    rw [e] at hs
    have hln : xs.length < sizeLine := by
      have l1 := Paired.length hs
      have l2 := sums_len (ts.map (·.2))
      rw [List.length_map] at l2
      omega
    exact rd_tg2 h0 hs (sums_nodup _) hk hln q
theorem ok_tg {f : Addr} {fd : FuncData} (F : Fun K "_law_together" "_law_together" sTg f fd) (N : Nm mg) (mS : mg "sorted" = none) : FnOk P w K mg base CX0 1 f fd ["_law_terms_here"] (spTg K) := by
  refine F.ok scTg (fun vs H Q E h => ?_) fun cdv A outer s H vs Q E hr h => ?_
  · obtain ⟨a, ts, rfl, _⟩ := h
    rfl
  · obtain ⟨a, ts, rfl, hl, ht, hz, q⟩ := h
    exact ⟨_, der_tg N mS hr, rd_tg hl ht hz q⟩
end
end L2.Fo

/-! # is_cell, is_row -/
namespace L2.Fo
open PySem PySem.Spec PyProof.Rows L2.Vf L2.Dw L2.Ch L2.Nk L2.Lt
abbrev sIc : Stmt := top 15
abbrev sIr : Stmt := top 16
/-- asked of a width: refused, or answered -/
def spIs (K : PySem.W.Frag) (CN : Addr) (p : Nat → PyData → Bool) : Sp := fun vs H Q E => ∃ (v u : V) (d e : PyData) (s1 s2 : List Addr), vs = [v, u] ∧ Sh K H v d s1 ∧ Sh K H u e s2 ∧
  ((widD e = false ∧ ∀ x, H x = none → E (.ref CN) (some x) (upd H x (.xd [("value", u)]))) ∨ (∃ n : Nat, e = .int (n : Nat) ∧ widD e = true ∧ Q (.bl (p n d)) H))
section
variable {P : Program} {w : World} {K : PySem.W.Frag} {mg : Str → Option Value} {base : Heap}
theorem scIc : FnScope ["value", "width"] ["value", "width"] (defScope sIc) := ⟨rfl, rfl, rfl, by decide +kernel, rfl, by decide +kernel, by decide +kernel⟩
theorem ok_ic {CN iN f fW fC : Addr} {fd dW dC dIN : FuncData} (F : Fun K "is_cell" "is_cell" sIc f fd) (EN : ErT P w K mg base "InvalidNumber" CN iN dIN)
    (GW : FnOk P w K mg base CX0 2 fW dW ["value"] (spAsk K widD)) (mW : mg "is_width" = some (.ref fW)) (kW : PySem.W.keepIn K (.ref fW) = true) (bW : Binds K dW ["value"] [])
    (GC : FnOk P w K mg base CX0 3 fC dC ["value", "width"] (spAsk2 K cellD)) (mC : mg "fits_cell" = some (.ref fC)) (kC : PySem.W.keepIn K (.ref fC) = true) (bC : Binds K dC ["value", "width"] []) :
    FnOk P w K mg base (L2.CX P w) 4 f fd ["value", "width"] (spIs K CN cellD) := by
  refine F.okX scIc (fun vs H Q E h => ?_) fun cdv A outer s H vs Q E hr h => ?_
  · obtain ⟨v, u, d, e, s1, s2, rfl, _⟩ := h
    rfl
  · obtain ⟨v, u, d, e, s1, s2, rfl, h1, h2, q⟩ := h
    have hr2 := hr.mono (show 2 ≤ 3 by decide)
    refine ⟨_, pss_cons (ps_if (pt_not (pt_val (pe_call GW hr2 rfl mW kW bW .nil pass0 (pa_cons (pv 1) pa_nil)))) (pss_one (ps_raiseE rfl EN.cl EN.fi EN.b1 hr2 (takes_of rfl rfl rfl rfl) (by rfl) EN.mg_ (pa_cons (pv 1) pa_nil))) pss_nil)
      (pss_one (ps_ret (pe_call GC hr rfl mC kC bC .nil pass0 (pa_cons (pv 0) (pa_cons (pv 1) pa_nil))))), ?_⟩
    refine ⟨_, rfl, u, e, s2, rfl, h2, ⟨_, rfl, ?_⟩⟩
    rcases q with ⟨e1, q⟩ | ⟨n, rfl, e1, q⟩
    · rw [e1]
      exact iteT ⟨u, rfl, q⟩
    · rw [e1]
      cases h2
      exact iteF ⟨_, rfl, _, rfl, v, d, s1, n, rfl, h1, q⟩
theorem scIr : FnScope ["value", "width"] ["value", "width"] (defScope sIr) := ⟨rfl, rfl, rfl, by decide +kernel, rfl, by decide +kernel, by decide +kernel⟩
theorem ok_ir {CN iN f fW fC : Addr} {fd dW dC dIN : FuncData} (F : Fun K "is_row" "is_row" sIr f fd) (EN : ErT P w K mg base "InvalidNumber" CN iN dIN)
    (GW : FnOk P w K mg base CX0 2 fW dW ["value"] (spAsk K widD)) (mW : mg "is_width" = some (.ref fW)) (kW : PySem.W.keepIn K (.ref fW) = true) (bW : Binds K dW ["value"] [])
    (GC : FnOk P w K mg base CX0 4 fC dC ["value", "width"] (spAsk2 K rowD)) (mC : mg "fits_row" = some (.ref fC)) (kC : PySem.W.keepIn K (.ref fC) = true) (bC : Binds K dC ["value", "width"] []) :
    FnOk P w K mg base (L2.CX P w) 5 f fd ["value", "width"] (spIs K CN rowD) := by
  refine F.okX scIr (fun vs H Q E h => ?_) fun cdv A outer s H vs Q E hr h => ?_
  · obtain ⟨v, u, d, e, s1, s2, rfl, _⟩ := h
    rfl
  · obtain ⟨v, u, d, e, s1, s2, rfl, h1, h2, q⟩ := h
    have hr2 := hr.mono (show 2 ≤ 4 by decide)
    refine ⟨_, pss_cons (ps_if (pt_not (pt_val (pe_call GW hr2 rfl mW kW bW .nil pass0 (pa_cons (pv 1) pa_nil)))) (pss_one (ps_raiseE rfl EN.cl EN.fi EN.b1 hr2 (takes_of rfl rfl rfl rfl) (by rfl) EN.mg_ (pa_cons (pv 1) pa_nil))) pss_nil)
      (pss_one (ps_ret (pe_call GC hr rfl mC kC bC .nil pass0 (pa_cons (pv 0) (pa_cons (pv 1) pa_nil))))), ?_⟩
    refine ⟨_, rfl, u, e, s2, rfl, h2, ⟨_, rfl, ?_⟩⟩
    rcases q with ⟨e1, q⟩ | ⟨n, rfl, e1, q⟩
    · rw [e1]
      exact iteT ⟨u, rfl, q⟩
    · rw [e1]
      cases h2
      exact iteF ⟨_, rfl, _, rfl, v, d, s1, n, rfl, h1, q⟩
end
end L2.Fo

/-! # what the law catches -/
namespace L2.Fo
open PySem PySem.Spec PyProof.Rows L2.Vf L2.Dw L2.Ch L2.Nk L2.Lt
abbrev sCa : Stmt := top 37
abbrev nCa : List Str := ["_law_width", "_law_terms_here", "_law_caught_here", "e", "_law_kinds"]
theorem scCa : FnScope nCa ["_law_width", "_law_terms_here"] (defScope sCa) := ⟨rfl, rfl, rfl, by decide +kernel, rfl, by decide +kernel, by decide +kernel⟩
theorem boot_repr : bootBuiltins "repr" = some (.builtin "repr") := by decide +kernel
section
variable {P : Program} {w : World} {K : PySem.W.Frag} {mg : Str → Option Value} {base : Heap}
theorem der_ca {C CN CL CT CS iN iL iT f fI : Addr} {cdv : Value} {T : List (Addr × Str)} {dIN dIL dIT dI : FuncData} {A : Around} {outer : List Env} {s : Shared} {H : Hp} {E : XK} (N : Nm mg) (FT : FoT K mg C) (mCS : mg "SumsError" = some (.ref CS))
    (EN : ErT P w K mg base "InvalidNumber" CN iN dIN) (EL : ErT P w K mg base "InvalidList" CL iL dIL) (ET : ErT P w K mg base "InvalidTerm" CT iT dIT) (M : Mk K C fI)
    (GI : FnOk P w K mg base (L2.CX P w) 6 fI dI ["self", "width", "terms"] (spFi K T C CN CL CT)) (bI : Binds K dI ["self", "width", "terms"] [])
    (hg : (A.deeper (envOfC "_law_caught" (defScope sCa) s.heap.objs.size f cdv)).guards = some []) (hr : Room 7 (A.deeper (envOfC "_law_caught" (defScope sCa) s.heap.objs.size f cdv))) :
    ∃ t, PSs (cxOf CX0 P w K mg base nCa "_law_caught" (defScope sCa) f cdv A outer s H E).nox (defBody sCa) t := by
  have hu := hr.units
  refine ⟨_, pss_cons (ps_set (i := 2) scCa.nd rfl (.inl rfl) pe_non)
      (pss_cons (ps_hold (i := 3) (c := .ref CS) rfl rfl rfl scCa.nd rfl rfl ⟨rfl, by decide, .inl mCS⟩ (fun W pn xe tk _ => pss_one (ps_expr (pe_makeS M GI hr rfl FT.mg_ bI .nil (fun σ => passAt tk σ) (pa_cons (pv 0) (pa_cons (pv 1) pa_nil))))) (fun a oe cls d pn hz hf => pss_one (ps_set (i := 2) scCa.nd rfl (.inl rfl) (pv 3))))
      (pss_cons (ps_if (pt_cmpR op_isN (pv 2) pe_non (nomark _)) (pss_one (ps_ret pe_non)) pss_nil)
      (pss_cons (ps_set (i := 4) scCa.nd rfl (.inl rfl) (pe_lst (pa_cons (pe_callB call_isiG (by rfl) N.isi boot_isi (pa_cons (pv 2) (pa_cons (pe_glob (v := V.ref CN) (by rfl) EN.mg_ (by rfl)) pa_nil))) (pa_cons (pe_callB call_isiG (by rfl) N.isi boot_isi (pa_cons (pv 2) (pa_cons (pe_glob (v := V.ref CL) (by rfl) EL.mg_ (by rfl)) pa_nil))) (pa_cons (pe_callB call_isiG (by rfl) N.isi boot_isi (pa_cons (pv 2) (pa_cons (pe_glob (v := V.ref CT) (by rfl) ET.mg_ (by rfl)) pa_nil))) pa_nil)))))
      (pss_cons (ps_if (pt_val (pe_callB call_isi (by rfl) N.isi boot_isi (pa_cons (pe_erG (pv 2)) (pa_cons (pe_bltn (v := V.ty "list") (by rfl) N.lst PyProof.Rows.boot_list (by rfl)) pa_nil)))) (pss_one (ps_expr (pe_bm PySem.F.plainAttrs_list PySem.F.slot_list_append PySem.F.type_list_append mt_append (pe_erG (pv 2)) (pa_cons pe_str pa_nil)))) pss_nil)
      (pss_one (ps_ret (pe_lst (pa_cons (pe_ifExp (pt_cmpR op_in_seq pe_bl (pv 4) (by with_unfolding_all rfl)) (pe_bm PySem.F.plainAttrs_list PySem.F.slot_list_index PySem.F.type_list_index mt_index (pv 4) (pa_cons pe_bl pa_nil)) pe_int)
        (pa_cons (pe_callB (call_reprD hg hu) (by rfl) N.rep boot_repr (pa_cons (pe_erG (pv 2)) pa_nil)) pa_nil)))))))))⟩
end
end L2.Fo

/-! # what the law catches, read -/
namespace L2.Fo
open PySem PySem.Spec PyProof.Rows L2.Vf L2.Dw L2.Ch L2.Nk L2.Lt
/-- a list gets one text more -/
def more : PyData → PyData
  | .list ds => .list (ds ++ [.str "more"])
  | d => d
/-- which thing is refused, and as what -/
def BadF (K : PySem.W.Frag) (H : Hp) (iW iT : Itm) (k : Nat) (j : Itm) : Prop :=
  (k = 0 ∧ j = iW ∧ widD iW.d = false) ∨ ∃ n : Nat, iW.d = .int (n : Nat) ∧ widD iW.d = true ∧ ((k = 1 ∧ j = iT ∧ (tyD iT.d == "list") = false) ∨
    (∃ (ds : List PyData) (i : Nat) (a : Addr) (xs : List V) (as : List Addr), k = 2 ∧ iT.d = .list ds ∧ (∀ m : Nat, m < i → ∀ d, ds[m]? = some d → termD n d = true) ∧ ds[i]? = some j.d ∧ termD n j.d = false ∧ iT.v = .ref a ∧ SqL K H a xs ∧ Sh K H iT.v iT.d (a :: as) ∧ Shs K H xs ds as ∧ xs[i]? = some j.v))
/-- the classes of errors among one another -/
structure KtF (K : PySem.W.Frag) (CN CL CT CS : Addr) : Prop where
  k00 : PySem.W.kitOne K (.ref CN) (.ref CN) = some true
  k01 : PySem.W.kitOne K (.ref CN) (.ref CL) = some false
  k02 : PySem.W.kitOne K (.ref CN) (.ref CT) = some false
  k10 : PySem.W.kitOne K (.ref CL) (.ref CN) = some false
  k11 : PySem.W.kitOne K (.ref CL) (.ref CL) = some true
  k12 : PySem.W.kitOne K (.ref CL) (.ref CT) = some false
  k20 : PySem.W.kitOne K (.ref CT) (.ref CN) = some false
  k21 : PySem.W.kitOne K (.ref CT) (.ref CL) = some false
  k22 : PySem.W.kitOne K (.ref CT) (.ref CT) = some true
  eN : PySem.W.exmOne K (.ref CN) (.ref CS) = some true
  eL : PySem.W.exmOne K (.ref CL) (.ref CS) = some true
  eT : PySem.W.exmOne K (.ref CT) (.ref CS) = some true
/-- all but the list itself stays -/
def FmJ (j : Itm) (H H' : Hp) : Prop := ∀ b u, H b = some u → ((∃ ds, j.d = .list ds) → j.v ≠ .ref b) → H' b = some u
def spCa (K : PySem.W.Frag) (T : List (Addr × Str)) : Sp := fun vs H Q _ => ∃ iW iT : Itm, vs = [iW.v, iT.v] ∧ Ok K H iW ∧ Ok K H iT ∧ LamX.Tabs T H ∧
  ((∃ (n : Nat) (ts : List (Int × Wd)), iW.d = .int (n : Nat) ∧ widD iW.d = true ∧ iT.d = .list (ts.map dTrm) ∧ (ts.map dTrm).all (termD n) = true ∧ ts.length < sizeLine ∧ ∀ H', LamX.ExtN H H' → LamX.Tabs T H' → Q .non H') ∨
   (∃ (k : Nat) (j : Itm), k < 3 ∧ BadF K H iW iT k j ∧ Ok K H j ∧ (∀ ds, j.d = .list ds → ds.length ≤ 900) ∧ Wr (more j.d) j.as ∧ ∀ D H', H D = none → FmJ j H H' → Ok K H' ⟨j.v, more j.d, j.as⟩ →
     H' D = some (.lst [.int (k : Nat), .str (more j.d).shown]) → Q (.ref D) H'))
section
variable {K : PySem.W.Frag} {H : Hp}
theorem fiRest_bad {T : List (Addr × Str)} {C CN CL CT p : Addr} {iW iT j : Itm} {k : Nat} {H0 : Hp} {Q : VK} {E : XK} (sm : Same H0 H) (h : BadF K H0 iW iT k j)
    (q : ∀ d, H d = none → E (.ref (if k = 0 then CN else if k = 1 then CL else CT)) (some d) (upd H d (.xd [("value", j.v)]))) : FiRest K T C CN CL CT p iW.v iT.v iW.d iT.d H Q E := by
  rcases h with ⟨rfl, rfl, e⟩ | ⟨n, e1, e2, ⟨rfl, rfl, e⟩ | ⟨ds, i, a, xs, as, rfl, e3, e4, e5, e6, e7, e8, e9, e10, e11⟩⟩
  · exact .inl ⟨e, q⟩
  · exact .inr ⟨n, e1, e2, .inl ⟨e, q⟩⟩
  · exact .inr ⟨n, e1, e2, .inr ⟨ds, e3, .inl ⟨i, e4, ⟨_, e5, e6⟩, a, xs, as, _, e7, sm.seq e8, Lt.shs_stay e10 fun b u e _ => sm b u e, e11, q⟩⟩⟩
end
end L2.Fo

/-! # what the law catches: its last statements read -/
namespace L2.Fo
open PySem PySem.Spec PyProof.Rows L2.Vf L2.Dw L2.Ch L2.Nk L2.Lt
theorem shs_snoc {K : PySem.W.Frag} {H : Hp} : ∀ {xs : List V} {ds : List PyData} {as : List Addr} {x : V} {d : PyData} {bs : List Addr}, Shs K H xs ds as → Sh K H x d bs → Shs K H (xs ++ [x]) (ds ++ [d]) (as ++ bs)
  | [], _, _, x, d, bs, h, g => by
    cases h
    have := Shs.cons g (Shs.nil (K := K) (H := H))
    simpa using this
  | y :: xs, _, _, x, d, bs, h, g => by
    cases h with
    | cons h1 h2 =>
      have := Shs.cons h1 (shs_snoc h2 g)
      simpa using this
/-- the value of the caught error -/
abbrev tVal (K : PySem.W.Frag) : TE := tErG K "value" (tVar 2)
def tCaR (K : PySem.W.Frag) : TS := tRet (tLst (tCons (tIf (tTest (tOp (rIn K false) (tC (.bl true)) (tVar 4))) (tBM K "list" (rIndex K) (tVar 4) (tCons (tC (.bl true)) tNil)) (tC (.int 3))) (tCons (tCB (rRepr K) (tCons (tVal K) tNil)) tNil)))
def tCaE (K : PySem.W.Frag) : TS := tSeq (tIfS (tB (tCB (rIsi K) (tCons (tVal K) (tCons (tC (.ty "list")) tNil)))) (tDrop (tBM K "list" rAppend (tVal K) (tCons (tC (.str "more")) tNil))) tNext) (tCaR K)
section
variable {K : PySem.W.Frag} {H : Hp} {a d Dk CX : Addr} {k : Nat} {o0 o1 o3 : Option V} {Q : VK} {v : V}
abbrev kinds (k : Nat) : List V := [V.bl (k == 0), V.bl (k == 1), V.bl (k == 2)]
theorem rd_caR {D : Ends} {dd : PyData} {as : List Addr} (hk : k < 3) (eK : H Dk = some (.lst (kinds k))) (eA : H a = some (exoG a (.ref CX) (some d))) (eD : H d = some (.xd [("value", v)])) (xc : ExcC K CX) (no : PySem.W.findIn K (.ref CX) "value" = some none)
    (sh : Sh K H v dd as) (wr : Wr dd as) (q : ∀ E, H E = none → D.rt (.ref E) (upd H E (.lst [.int (k : Nat), .str dd.shown]))) : tCaR K D [o0, o1, some (.ref a), o3, some (.ref Dk)] H := by
  have hin : inV (.bl true) (kinds k) = true := by
    match k, hk with
    | 0, _ => rfl
    | 1, _ => rfl
    | 2, _ => rfl
  have hget : (kinds k)[k]? = some (.bl true) := by
    match k, hk with
    | 0, _ => rfl
    | 1, _ => rfl
    | 2, _ => rfl
  have hno : ∀ (m : Nat) (z : V), m < k → (kinds k)[m]? = some z → eqV z (.bl true) = false := by
    intro m z hm hz
    match k, hk, m, hm with
    | 1, _, 0, _ => cases hz; rfl
    | 2, _, 0, _ => cases hz; rfl
    | 2, _, 1, _ => cases hz; rfl
  refine ⟨.ref Dk, rfl, Dk, kinds k, rfl, .inl (SqL.of eK), rfl, rfl, true, congrArg V.bl hin, iteT ?_⟩
  refine ⟨.ref Dk, rfl, .inl ⟨rfl, _, SqL.of eK⟩, Dk, kinds k, .bl true, k, .bl true, rfl, rfl, SqL.of eK, rfl, rfl, hget, rfl, hno, ?_⟩
  exact ⟨.ref a, rfl, a, CX, d, _, v, rfl, eA, eD, rfl, xc, no, v, dd, as, rfl, sh, wr, (by show 2 ≤ sizeLine; decide), q⟩
/-- what stays where a list gets one text more -/
theorem more_sh {b : Addr} {xs : List V} {ds : List PyData} {as : List Addr} (e : H b = some (.lst xs)) (h : Shs K H xs ds as) (nd : b ∉ as) : Sh K (upd H b (.lst (xs ++ [.str "more"]))) (.ref b) (.list (ds ++ [.str "more"])) (b :: as) := by
  have h2 : Shs K (upd H b (.lst (xs ++ [.str "more"]))) xs ds as := Lt.shs_stay h fun c u ec m => by
    rw [upd_ne fun z => ?_]
    · exact ec
    · rw [z, e] at ec
      cases ec
      exact nd (z ▸ m ⟨_, rfl⟩)
  have := shs_snoc h2 (.str "more")
  rw [List.append_nil] at this
  exact .lst (SqL.of upd_same) this
theorem rd_caE {D : Ends} {j : Itm} (hk : k < 3) (eK : H Dk = some (.lst (kinds k))) (eA : H a = some (exoG a (.ref CX) (some d))) (eD : H d = some (.xd [("value", j.v)])) (xc : ExcC K CX) (no : PySem.W.findIn K (.ref CX) "value" = some none)
    (ok : Ok K H j) (nK : Dk ∉ j.as) (hl : ∀ ds, j.d = .list ds → ds.length ≤ 900) (wr : Wr (more j.d) j.as)
    (q : ∀ E H', H E = none → FmJ j H H' → Ok K H' ⟨j.v, more j.d, j.as⟩ → H' E = some (.lst [.int (k : Nat), .str (more j.d).shown]) → D.rt (.ref E) H') :
    tCaE K D [o0, o1, some (.ref a), o3, some (.ref Dk)] H := by
  refine ⟨.ref a, rfl, a, CX, d, _, j.v, rfl, eA, eD, rfl, xc, no, j.v, .ty "list", _, .type "list", (tyD j.d == "list"), rfl, .ty "list", sh_ty ok.sh, kit_ty (kit_list j.d), _, rfl, ?_⟩
  obtain ⟨jv, jd, ja⟩ := j
  have sh : Sh K H jv jd ja := ok.sh
  cases sh with
  | lst h1 h2 =>
    rename_i b xs ds as
    refine iteT ?_
    clear h1 h2
    obtain ⟨b', ys, as', eb, ea, ey, ly, h2⟩ := ok.top ds rfl
    cases eb
    cases ea
    have lds := hl ds rfl
    have leq : ys.length = ds.length := Shs.length h2
    have bK : b ≠ Dk := fun z => nK (z ▸ List.mem_cons_self)
    have bA : b ≠ a := fun z => by rw [z, eA] at ey; cases ey
    have bD : b ≠ d := fun z => by rw [z, eD] at ey; cases ey
    have nb : b ∉ as := (List.nodup_cons.mp ok.nd).1
    refine ⟨.ref a, rfl, a, CX, d, _, .ref b, rfl, eA, eD, rfl, xc, no, .inl ⟨rfl, _, SqL.of ey⟩, b, ys, .str "more", rfl, rfl, ey, by rw [sizeLine_eq]; omega, ?_⟩
    refine rd_caR (k := k) (Dk := Dk) (a := a) (d := d) (CX := CX) (v := .ref b) hk (by rw [upd_ne bK.symm]; exact eK) (by rw [upd_ne bA.symm]; exact eA) (by rw [upd_ne bD.symm]; exact eD) xc no (more_sh ey h2 nb) wr fun E hE => ?_
    have nE : H E = none := by
      by_cases z : E = b
      · rw [z, upd_same] at hE; cases hE
      · rw [upd_ne z] at hE; exact hE
    have bE : b ≠ E := ne_of_none ey nE
    have eb2 : (upd (upd H b (.lst (ys ++ [.str "more"]))) E (.lst [.int (k : Nat), .str (more (.list ds)).shown])) b = some (.lst (ys ++ [.str "more"])) := by rw [upd_ne bE, upd_same]
    have shm := sh_mono (more_sh (K := K) ey h2 nb) (same_new (o := .lst [.int (k : Nat), .str (more (.list ds)).shown]) hE)
    refine q E _ nE (fun c u ec hn => ?_) ⟨shm, fun c hc => ?_, fun ds' e => ?_, ok.nd⟩ upd_same
    · have cb : c ≠ b := fun z => hn ⟨ds, rfl⟩ (by rw [z])
      have cE : c ≠ E := ne_of_none ec nE
      rw [upd_ne cE, upd_ne cb]
      exact ec
    · rcases List.mem_cons.mp hc with rfl | hc
      · exact ⟨_, eb2, by rw [List.length_append]; simp; omega⟩
      · obtain ⟨zs, ez, lz⟩ := ok.live c (List.mem_cons_of_mem _ hc)
        have cb : c ≠ b := fun z => nb (by rw [← z]; exact hc)
        exact ⟨zs, by rw [upd_ne (ne_of_none ez nE), upd_ne cb]; exact ez, lz⟩
    · have e' : ds ++ [.str "more"] = ds' := by cases e; rfl
      subst e'
      have hs2 : Shs K (upd H b (.lst (ys ++ [.str "more"]))) ys ds as := Lt.shs_stay h2 fun c u ec m => by
        rw [upd_ne fun z => ?_]
        · exact ec
        · rw [z, ey] at ec
          cases ec
          exact nb (z ▸ m ⟨_, rfl⟩)
      have hs3 := shs_snoc (Lt.shs_stay hs2 fun c u ec _ => same_new (o := .lst [.int (k : Nat), .str (more (.list ds)).shown]) hE _ _ ec) (.str "more")
      rw [List.append_nil] at hs3
      exact ⟨b, _, as, rfl, rfl, eb2, by rw [List.length_append]; simp; omega, hs3⟩
  | _ =>
    refine iteF ?_
    refine rd_caR (k := k) (Dk := Dk) (a := a) (d := d) (CX := CX) hk eK eA eD xc no ok.sh wr fun E hE => q E _ hE (fun c u ec _ => same_new hE _ _ ec) (ok.mono (same_new hE)) upd_same
end
end L2.Fo

/-! # what the law catches: the promise -/
namespace L2.Fo
open PySem PySem.Spec PyProof.Rows L2.Vf L2.Dw L2.Ch L2.Nk L2.Lt
/-- what stands where the error is caught -/
abbrev hpCa (H : Hp) (x dx C d a CX : Addr) (v : V) : Hp := upd (upd (upd (upd H dx (.own x)) x (.ins C dx [])) d (.xd [("value", v)])) a (exoG a (.ref CX) (some d))
section
variable {P : Program} {w : World} {K : PySem.W.Frag} {mg : Str → Option Value} {base : Heap}
theorem ok_ca {C CN CL CT CS iN iL iT f fI : Addr} {fd : FuncData} {T : List (Addr × Str)} {dIN dIL dIT dI : FuncData} (F : Fun K "_law_caught" "_law_caught" sCa f fd) (N : Nm mg) (FT : FoT K mg C) (mCS : mg "SumsError" = some (.ref CS)) (Kt : KtF K CN CL CT CS)
    (EN : ErT P w K mg base "InvalidNumber" CN iN dIN) (EL : ErT P w K mg base "InvalidList" CL iL dIL) (ET : ErT P w K mg base "InvalidTerm" CT iT dIT) (M : Mk K C fI)
    (GI : FnOk P w K mg base (L2.CX P w) 6 fI dI ["self", "width", "terms"] (spFi K T C CN CL CT)) (bI : Binds K dI ["self", "width", "terms"] []) : FnG P w K mg base CX0 8 f fd ["_law_width", "_law_terms_here"] (spCa K T) := by
  refine okG F scCa (fun vs H Q E h => ?_) fun cdv A outer s H vs Q E hg hr h => ?_
  · obtain ⟨iW, iT, rfl, _⟩ := h
    rfl
  · obtain ⟨iW, iT, rfl, oW, oT, hT, h⟩ := h
    have hu := hr.units
    refine ⟨_, pss_cons (ps_set (i := 2) scCa.nd rfl (.inl rfl) pe_non)
        (pss_cons (ps_hold (i := 3) (c := .ref CS) rfl rfl rfl scCa.nd rfl rfl ⟨rfl, by decide, .inl mCS⟩ (fun W pn xe tk _ => pss_one (ps_expr (pe_makeS M GI hr rfl FT.mg_ bI .nil (fun σ => passAt tk σ) (pa_cons (pv 0) (pa_cons (pv 1) pa_nil))))) (fun a oe cls d pn hz hf => pss_one (ps_set (i := 2) scCa.nd rfl (.inl rfl) (pv 3))))
        (pss_cons (ps_if (pt_cmpR op_isN (pv 2) pe_non (nomark _)) (pss_one (ps_ret pe_non)) pss_nil)
        (pss_cons (ps_set (i := 4) scCa.nd rfl (.inl rfl) (pe_lst (pa_cons (pe_callB call_isiG (by rfl) N.isi boot_isi (pa_cons (pv 2) (pa_cons (pe_glob (v := V.ref CN) (by rfl) EN.mg_ (by rfl)) pa_nil))) (pa_cons (pe_callB call_isiG (by rfl) N.isi boot_isi (pa_cons (pv 2) (pa_cons (pe_glob (v := V.ref CL) (by rfl) EL.mg_ (by rfl)) pa_nil))) (pa_cons (pe_callB call_isiG (by rfl) N.isi boot_isi (pa_cons (pv 2) (pa_cons (pe_glob (v := V.ref CT) (by rfl) ET.mg_ (by rfl)) pa_nil))) pa_nil)))))
        (pss_cons (t := tIfS (tB (tCB (rIsi K) (tCons (tVal K) (tCons (tC (.ty "list")) tNil)))) (tDrop (tBM K "list" rAppend (tVal K) (tCons (tC (.str "more")) tNil))) tNext) (u := tCaR K) (ps_if (pt_val (pe_callB call_isi (by rfl) N.isi boot_isi (pa_cons (pe_erG (pv 2)) (pa_cons (pe_bltn (v := V.ty "list") (by rfl) N.lst PyProof.Rows.boot_list (by rfl)) pa_nil)))) (pss_one (ps_expr (pe_bm PySem.F.plainAttrs_list PySem.F.slot_list_append PySem.F.type_list_append mt_append (pe_erG (pv 2)) (pa_cons pe_str pa_nil)))) pss_nil)
        (pss_one (ps_ret (pe_lst (pa_cons (pe_ifExp (pt_cmpR op_in_seq pe_bl (pv 4) (by with_unfolding_all rfl)) (pe_bm PySem.F.plainAttrs_list PySem.F.slot_list_index PySem.F.type_list_index mt_index (pv 4) (pa_cons pe_bl pa_nil)) pe_int)
          (pa_cons (pe_callB (call_reprD hg hu) (by rfl) N.rep boot_repr (pa_cons (pe_erG (pv 2)) pa_nil)) pa_nil))))))))), ?_⟩
    refine ⟨_, rfl, _, rfl, rfl, fun x dx hx hdx ne => ?_⟩
    have sd : Same H (upd H dx (.own x)) := same_new hdx
    have sM : Same H (upd (upd H dx (.own x)) x (.ins C dx [])) := sd.trans (same_new (by rw [upd_ne ne.symm]; exact hx))
    refine ⟨x, dx, iW.v, iT.v, iW.d, iT.d, _, _, rfl, upd_same, sh_mono oW.sh sM, sh_mono oT.sh sM, hT.ext sM, ?_⟩
    rcases h with ⟨n, ts, e1, e2, e3, e4, e5, q⟩ | ⟨k, j, hk, hB, oj, hl, hW, q⟩
    · refine .inr ⟨n, e1, e2, .inr ⟨_, e3, .inr ⟨ts, rfl, e4, by rw [List.length_map]; exact e5, fun H' D kN T' nD fo => ⟨rfl, ?_⟩⟩⟩⟩
      have eN : LamX.ExtN H H' := fun b o hb ho => kN b o (ne_of_none hb hx) ho (sM _ _ hb)
      exact ⟨_, rfl, rfl, _, rfl, iteT (q H' eN T')⟩
    · refine fiRest_bad sM hB fun d hd => ?_
      obtain ⟨CX, eCX, xc, no, kn, kl, kt, ex⟩ : ∃ CX : Addr, (if k = 0 then CN else if k = 1 then CL else CT) = CX ∧ ExcC K CX ∧ PySem.W.findIn K (.ref CX) "value" = some none ∧ PySem.W.kitOne K (.ref CX) (.ref CN) = some (k == 0) ∧ PySem.W.kitOne K (.ref CX) (.ref CL) = some (k == 1) ∧ PySem.W.kitOne K (.ref CX) (.ref CT) = some (k == 2) ∧ PySem.W.exmOne K (.ref CX) (.ref CS) = some true := by
        match k, hk with
        | 0, _ => exact ⟨CN, rfl, EN.cl.xc, EN.cl.no, Kt.k00, Kt.k01, Kt.k02, Kt.eN⟩
        | 1, _ => exact ⟨CL, rfl, EL.cl.xc, EL.cl.no, Kt.k10, Kt.k11, Kt.k12, Kt.eL⟩
        | 2, _ => exact ⟨CT, rfl, ET.cl.xc, ET.cl.no, Kt.k20, Kt.k21, Kt.k22, Kt.eT⟩
      rw [eCX]
      refine ⟨ex, fun a ha => ⟨_, rfl, ?_⟩⟩
      have s1 := sM.trans (same_new (o := .xd [("value", j.v)]) hd)
      have s2 : Same H (hpCa H x dx C d a CX j.v) := s1.trans (same_new ha)
      have ea : (hpCa H x dx C d a CX j.v) a = some (exoG a (.ref CX) (some d)) := upd_same
      have ed : (hpCa H x dx C d a CX j.v) d = some (.xd [("value", j.v)]) := (upd_ne (ne_of_none (upd_same (a := d)) ha)).trans upd_same
      refine ⟨_, rfl, rfl, _, rfl, iteF ?_⟩
      refine ⟨_, rfl, .inr ⟨a, CX, d, _, .ref CN, .ref CN, _, rfl, ea, ed, xc, .own CN, kn, ?_⟩⟩
      refine ⟨_, rfl, .inr ⟨a, CX, d, _, .ref CL, .ref CL, _, rfl, ea, ed, xc, .own CL, kl, ?_⟩⟩
      refine ⟨_, rfl, .inr ⟨a, CX, d, _, .ref CT, .ref CT, _, rfl, ea, ed, xc, .own CT, kt, ?_⟩⟩
      refine ⟨(by show 3 ≤ sizeLine; decide), fun Dk hDk => ?_⟩
      have sk : Same (hpCa H x dx C d a CX j.v) (upd (hpCa H x dx C d a CX j.v) Dk (.lst (kinds k))) := same_new hDk
      have sAll := s2.trans sk
      have nDk : H Dk = none := s2.free hDk
      have nK : Dk ∉ j.as := fun z => by
        obtain ⟨xs, e, _⟩ := oj.live _ z
        rw [nDk] at e
        cases e
      exact rd_caE (K := K) (H := upd (hpCa H x dx C d a CX j.v) Dk (.lst (kinds k))) (D := { nx := fun _ H' => Q .non H', rt := Q }) (o0 := some iW.v) (o1 := some iT.v) (o3 := none) (a := a) (d := d) (Dk := Dk) (CX := CX) (k := k) (j := j) hk upd_same (sk _ _ ea) (sk _ _ ed) xc no (oj.mono sAll) nK hl hW
        fun E H' hE fr ok2 eE => q E H' (sAll.free hE) (fun b u e hn => fr b u (sAll _ _ e) hn) ok2 eE
end
end L2.Fo

/-! # numbers, terms: that they can be shown; what is told of a refusal, as data -/
namespace L2.Fo
open PySem PySem.Spec PyProof.Rows L2.Vf L2.Dw L2.Ch L2.Nk L2.Lt
/-- numbers of at most fifty digits -/
def Dg (ns : List Int) : Prop := ∀ x ∈ ns, x.natAbs < 10 ^ 50
/-- what can be shown, of so much bulk, so deep -/
structure Sw (d : PyData) (b k : Nat) : Prop where
  short : d.leavesShort 51 = true
  bulk : d.bulk ≤ b
  show_ : d.showable = true
  deep : d.depth ≤ k
  dct : d.hasDict = false
structure Sws (ds : List PyData) (b k : Nat) : Prop where
  short : PyData.leavesShortAll 51 ds = true
  bulk : PyData.bulkAll ds ≤ b
  show_ : PyData.showableAll ds = true
  deep : PyData.depthAll ds ≤ k
  dct : PyData.hasDictAll ds = false
theorem Sws.nil {k : Nat} : Sws [] 0 k := ⟨by simp [PyData.leavesShortAll], by simp [PyData.bulkAll], by simp [PyData.showableAll], by simp [PyData.depthAll], by simp [PyData.hasDictAll]⟩
theorem Sws.cons {d : PyData} {ds : List PyData} {a b k : Nat} (h : Sw d a k) (t : Sws ds b k) : Sws (d :: ds) (a + 1 + b) k := by
  refine ⟨?_, ?_, ?_, ?_, ?_⟩
  · simp [PyData.leavesShortAll, h.short, t.short]
  · have := h.bulk; have := t.bulk; simp only [PyData.bulkAll]; omega
  · simp [PyData.showableAll, h.show_, t.show_]
  · have := h.deep; have := t.deep; simp only [PyData.depthAll]; omega
  · simp [PyData.hasDictAll, h.dct, t.dct]
theorem Sw.lst {ds : List PyData} {b k : Nat} (t : Sws ds b k) : Sw (.list ds) b (k + 1) := by
  refine ⟨?_, ?_, ?_, ?_, ?_⟩
  · simp only [PyData.leavesShort]; exact t.short
  · simp only [PyData.bulk]; exact t.bulk
  · simp only [PyData.showable]; exact t.show_
  · have := t.deep; simp only [PyData.depth]; omega
  · simp only [PyData.hasDict]; exact t.dct
theorem Sw.tup {ds : List PyData} {b k : Nat} (t : Sws ds b k) : Sw (.tuple ds) b (k + 1) := by
  refine ⟨?_, ?_, ?_, ?_, ?_⟩
  · simp only [PyData.leavesShort]; exact t.short
  · simp only [PyData.bulk]; exact t.bulk
  · simp only [PyData.showable]; exact t.show_
  · have := t.deep; simp only [PyData.depth]; omega
  · simp only [PyData.hasDict]; exact t.dct
theorem Sw.int {x : Int} {k : Nat} (h : x.natAbs < 10 ^ 50) : Sw (.int x) 0 k := by
  refine ⟨?_, ?_, ?_, ?_, ?_⟩
  · refine decide_eq_true ?_
    have e := int_text_length_le10 (k := 50) (by decide) h
    show (Str.ofString (toString x)).length ≤ 51
    rw [PySem.ofString_length]; exact e
  · simp [PyData.bulk]
  · refine decide_eq_true ?_
    by_cases z : x.natAbs = 0
    · rw [z]; decide
    · exact (Nat.log2_lt z).mpr (Nat.lt_of_lt_of_le h (by decide +kernel))
  · simp [PyData.depth]
  · simp [PyData.hasDict]
theorem Sw.bool {b : Bool} {k : Nat} : Sw (.bool b) 0 k := ⟨by simp [PyData.leavesShort], by simp [PyData.bulk], by simp [PyData.showable], by simp [PyData.depth], by simp [PyData.hasDict]⟩
theorem Sws.of {α : Type} {f : α → PyData} {b k : Nat} : ∀ {xs : List α}, (∀ x ∈ xs, Sw (f x) b k) → Sws (xs.map f) ((b + 1) * xs.length) k
  | [], _ => by simpa using Sws.nil
  | x :: xs, h => by
    have t := Sws.of (xs := xs) fun y hy => h y (List.mem_cons_of_mem _ hy)
    have := Sws.cons (h x List.mem_cons_self) t
    rw [List.map_cons, List.length_cons, Nat.mul_succ, Nat.add_comm]
    exact this
theorem Sw.wr {d : PyData} {b k : Nat} {as : List Addr} (h : Sw d b k) (hb : b ≤ 100000) (hk : k ≤ 50) : Wr d as := by
  refine ⟨h.show_, Nat.le_trans h.deep hk, ?_, fun z => ?_⟩
  · have z := PyData.shown_le_bulk 51 (by decide) d h.short
    have : (51 + 2) * d.bulk ≤ 53 * 100000 := Nat.mul_le_mul_left 53 (Nat.le_trans h.bulk hb)
    rw [sizeLine_eq]
    omega
  · rw [h.dct] at z
    cases z
theorem Sw.ints {ns : List Int} (h : Dg ns) : Sws (ns.map .int) ns.length 0 := by
  have := Sws.of (f := PyData.int) (b := 0) (k := 0) (xs := ns) fun x hx => .int (h x hx)
  simpa using this
theorem Sw.le {d : PyData} {b c k : Nat} (h : Sw d b k) (l : b ≤ c) : Sw d c k := ⟨h.short, Nat.le_trans h.bulk l, h.show_, h.deep, h.dct⟩
theorem Sw.deeper {d : PyData} {b k k' : Nat} (h : Sw d b k) (l : k ≤ k') : Sw d b k' := ⟨h.short, h.bulk, h.show_, Nat.le_trans h.deep l, h.dct⟩
/-- a term that the law draws, or one like it -/
def Sml (n : Nat) (x : Int × Wd) : Prop := x.1.natAbs < 10 ^ 50 ∧ x.2.length ≤ 3 ∧ ∀ l ∈ x.2, Ltr n l
theorem sw_let {n : Nat} {l : List Int} (h : Ltr n l) (hn : n ≤ 2) : Sw (dLine l) 2 1 := by
  have b : (10 : Nat) ^ 50 > 3 := by decide +kernel
  refine (Sw.tup (Sw.ints fun x hx => ?_)).le (by rw [h.1]; exact hn)
  have := h.2 x hx
  omega
theorem sw_wd {n : Nat} {k : Wd} (h : ∀ l ∈ k, Ltr n l) (hn : n ≤ 2) (hk : k.length ≤ 3) : Sw (dWord k) 9 2 := by
  refine (Sw.tup (Sws.of (f := dLine) (b := 2) (k := 1) fun l hl => sw_let (h l hl) hn)).le ?_
  have := Nat.mul_le_mul_left (2 + 1) hk
  omega
theorem sw_trm {n : Nat} {t : Int × Wd} (h : Sml n t) (hn : n ≤ 2) : Sw (dTrm t) 11 3 :=
  (Sw.tup (Sws.cons (Sw.int (k := 2) h.1) (Sws.cons (sw_wd h.2.2 hn h.2.1) Sws.nil))).le (by omega)
theorem sw_trms {n : Nat} {ts : List (Int × Wd)} (h : ∀ t ∈ ts, Sml n t) (hn : n ≤ 2) (hl : ts.length ≤ 1000) : Sws (ts.map dTrm) 12000 3 := by
  have := Sws.of (f := dTrm) (b := 11) (k := 3) fun t ht => sw_trm (h t ht) hn
  exact ⟨this.short, Nat.le_trans this.bulk (by have := Nat.mul_le_mul_left (11 + 1) hl; omega), this.show_, this.deep, this.dct⟩
/-! ### no sign beyond the last -/
def Hi (d : PyData) : Prop := ∀ k : Nat, 0x110000 ≤ k → k ∉ d.shown.cps.toList
theorem hi_int (i : Int) : Hi (.int i) := fun k hk => shown_int_free' ⟨by omega, .inr (by omega)⟩ i
theorem hi_join {ts : List Str} {k : Nat} (hk : 0x110000 ≤ k) (h : ∀ t ∈ ts, k ∉ t.cps.toList) : k ∉ (Str.join ", " ts).cps.toList := by
  rw [mem_join]
  rintro (⟨t, ht, hc⟩ | ⟨_, hm⟩)
  · exact h t ht hc
  · rw [signs_sep] at hm
    simp only [List.mem_cons, List.not_mem_nil, or_false] at hm
    omega
theorem hi_tup {xs : List PyData} (h : ∀ x ∈ xs, Hi x) : Hi (.tuple xs) := fun k hk => by
  rw [PyData.shown_tuple, ← PyData.shownAll_length xs, mem_cps_append, mem_cps_append, signs_lparen, signs_tuple_end]
  rintro ((hm | hm) | hm)
  · simp only [List.mem_cons, List.not_mem_nil, or_false] at hm
    omega
  · exact hi_join hk (shownAll_free fun x hx => h x hx k hk) hm
  · split at hm
    · simp only [List.mem_cons, List.not_mem_nil, or_false] at hm
      omega
    · simp only [List.mem_cons, List.not_mem_nil, or_false] at hm
      omega
theorem hi_trm (t : Int × Wd) : Hi (dTrm t) := hi_tup fun x hx => by
  rcases List.mem_cons.mp hx with rfl | hx
  · exact hi_int _
  · rw [List.mem_singleton.mp hx]
    refine hi_tup fun y hy => ?_
    obtain ⟨l, _, rfl⟩ := List.mem_map.mp hy
    refine hi_tup fun z hz => ?_
    obtain ⟨i, _, rfl⟩ := List.mem_map.mp hz
    exact hi_int i
theorem hi_trms (ts : List (Int × Wd)) : Hi (.tuple (ts.map dTrm)) := hi_tup fun x hx => by
  obtain ⟨t, _, rfl⟩ := List.mem_map.mp hx
  exact hi_trm t
theorem Hi.ok {d : PyData} (h : Hi d) : PyData.strOk d.shown = true := by
  unfold PyData.strOk
  rw [← Array.all_toList, List.all_eq_true]
  intro c hc
  rw [decide_eq_true_eq]
  exact Nat.lt_of_not_le fun hk => h c hk hc
/-! ### what caught tells -/
def kd (k : Nat) (x : Str) : PyData := .list [.int (k : Nat), .str x]
theorem kd_shaped {k : Nat} {x : Str} (h : PyData.strOk x = true) : SeqAt.shaped (kd k x) = true := by
  unfold SeqAt.shaped kd
  simp [PyData.canLay0, PyData.canLayAll0, h, PyData.depth, PyData.depthAll]
theorem kd_eqv {k : Nat} {x : Str} : PyData.eqv (kd k x) (kd k x) = true := by
  unfold kd
  simp [PyData.eqv, PyData.eqvAll]
end L2.Fo

/-! # made things that name what stands already -/
namespace L2.Lt
open PySem PySem.Spec PyProof.Rows L2.Vf L2.Dw L2.Ch L2.Nk L2.Fo
/-- list(x): the new list is not the table of modules -/
def rListF (K : PySem.W.Frag) : List V → Hp → VK → Prop := fun xs H Q => ∃ p ys, xs = [.ref p] ∧ (SqL K H p ys ∨ SqT K H p ys) ∧ ∀ l, H l = none → l ≠ sysModules → Q (.ref l) (upd H l (.lst ys))
theorem call_listF {X : Cx} : CallR X (.type "list") (rListF X.K) := by
  rintro pins s σ H xs us Q I r ⟨p, ys, rfl, hq, q⟩
  obtain ⟨u, rfl, rx⟩ := vals1 r
  cases rx
  have done : ∀ (its : List Value), Vals ys its → ys.length ≤ sizeLine → ∀ (h2 : Heap) (c : Nat), (∀ b x, s.heap.get? b = some x → h2.get? b = some x) → h2.get? s.heap.objs.size = some { cls := .type "list", dict := none, data := .seq its.toArray c, slots := #[] } →
      EP X pins σ Q (.ref s.heap.objs.size) { s with heap := h2 } := fun its rv hz h2 c kp e => by
    refine ⟨.ref s.heap.objs.size, upd H s.heap.objs.size (.lst ys), I.laid (t' := s.toks) kp (Nat.le_refl _) ?_, rfl, q _ (I.hok.fresh (Nat.le_refl _)) (Nat.ne_of_gt I.big)⟩
    exact ⟨hz, its, c, rv, e⟩
  rcases hq with hq | hq
  · obtain ⟨its, rv, pl, hz⟩ := I.list hq
    have hl := rv.length
    obtain ⟨o, ho, hc, n, hd⟩ := pl.isList
    refine call_list_seq p (.inl rfl) ho hc hd (fun h2 c kp e => done its rv hz h2 c kp e) ?_
    rw [List.size_toArray, ← hl]
    omega
  · obtain ⟨its, rv, pl, hz⟩ := I.tuple hq
    have hl := rv.length
    obtain ⟨o, ho, hc, n, hd⟩ := pl
    refine call_list_seq p (.inr rfl) ho hc hd (fun h2 c kp e => done its rv hz h2 c kp e) ?_
    rw [List.size_toArray, ← hl]
    omega
/-- what is true of a heap stays true where more is made -/
def Stb (R : Hp → Prop) : Prop := ∀ H H', R H → Same H H' → R H'
def YR (K : PySem.W.Frag) (R : Hp → Prop) (σ : St) (te : TE) (d : PyData) : Prop := ∀ (H : Hp) (Q : VK), R H → (∀ i H', Same H H' → Ok K H' i → Fresh H i → i.d = d → Q i.v H') → te σ H Q
def YRA (K : PySem.W.Frag) (R : Hp → Prop) (σ : St) (ta : TA) (ds : List PyData) : Prop := ∀ (H : Hp) (Q : List V → Hp → Prop), R H → (∀ l H', Made K H H' l ds → Q (l.map (·.v)) H') → ta σ H Q
/-- a tuple of whole numbers -/
def YT (K : PySem.W.Frag) (R : Hp → Prop) (σ : St) (te : TE) (ns : List Int) : Prop := ∀ (H : Hp) (Q : VK), R H → (∀ a H', Same H H' → SqT K H' a (ns.map V.int) → Q (.ref a) H') → te σ H Q
theorem ok_nolist {K : PySem.W.Frag} {H : Hp} {v : V} {d : PyData} (h : Sh K H v d []) (nl : ∀ ds, d ≠ .list ds) : Ok K H ⟨v, d, []⟩ := ⟨h, fun a m => (by cases m), fun ds e => absurd e (nl ds), List.nodup_nil⟩
theorem fresh_nil {H : Hp} {v : V} {d : PyData} : Fresh H ⟨v, d, []⟩ := fun a m => (by cases m)
section
variable {K : PySem.W.Frag} {R : Hp → Prop} {σ : St} {te t1 t2 : TE} {ta : TA} {d : PyData} {ds : List PyData} {ns ms : List Int}
theorem Yl.r (h : Yl K σ te d) : YR K R σ te d := fun H Q _ q => h H Q q
theorem YR.lit : YR K R σ (tLit K d) d := fun H Q _ q => q
theorem YRA.lits : YRA K R σ (tLits K ds) ds := fun H Q _ q => q
theorem YRA.nil : YRA K R σ tNil [] := fun H Q _ h => h [] H ⟨Same.refl H, fun i m => (by cases m), fun i m => (by cases m), .nil, rfl⟩
theorem YRA.cons (st : Stb R) (h : YR K R σ te d) (t : YRA K R σ ta ds) : YRA K R σ (tCons te ta) (d :: ds) := fun H Q r q =>
  h H _ r fun i H1 s1 ok1 f1 e1 => t H1 _ (st _ _ r s1) fun l H2 m => q (i :: l) H2 ⟨s1.trans m.same, fun j hj => by
      rcases List.mem_cons.mp hj with rfl | hj
      · exact ok1.mono m.same
      · exact m.ok j hj, fun j hj a ha => by
      rcases List.mem_cons.mp hj with rfl | hj
      · exact f1 a ha
      · exact ⟨s1.free (m.new j hj a ha).1, (m.new j hj a ha).2⟩, .cons (fun j hj a ha ha' => by
      obtain ⟨xs, e, _⟩ := ok1.live a ha
      rw [(m.new j hj a ha').1] at e
      cases e) m.apart, by rw [List.map_cons, e1, m.ds]⟩
/-- a tuple of made things -/
theorem made_tup {H H' : Hp} {l : List Itm} {p : Addr} (m : Made K H H' l ds) (hp : H' p = none) (hl : ds.length ≤ 1000) : Ok K (upd H' p (.tup (l.map (·.v)))) ⟨.ref p, .tuple ds, l.flatMap (·.as)⟩ := by
  have sp := same_new (o := .tup (l.map (·.v))) hp
  refine ⟨.tup (SqT.of upd_same) ?_, fun a ha => ?_, (fun ds' z => by cases z), m.nd⟩
  · have := Made.shs (K := K) fun i hi => (m.ok i hi).mono sp
    rw [m.ds] at this
    exact this
  · obtain ⟨i, hi, ha⟩ := List.mem_flatMap.mp ha
    obtain ⟨xs, e, le⟩ := (m.ok i hi).live a ha
    exact ⟨xs, sp _ _ e, le⟩
theorem made_lst {H H' : Hp} {l : List Itm} {p : Addr} (m : Made K H H' l ds) (hp : H' p = none) (hl : ds.length ≤ 1000) : Ok K (upd H' p (.lst (l.map (·.v)))) ⟨.ref p, .list ds, p :: l.flatMap (·.as)⟩ := by
  have sp := same_new (o := .lst (l.map (·.v))) hp
  have ll : l.length = ds.length := by rw [← m.ds, List.length_map]
  have hsh : Shs K (upd H' p (.lst (l.map (·.v)))) (l.map (·.v)) ds (l.flatMap (·.as)) := by
    have := Made.shs (K := K) fun i hi => (m.ok i hi).mono sp
    rw [m.ds] at this
    exact this
  refine ⟨.lst (SqL.of upd_same) hsh, fun a ha => ?_, fun ds' z => ?_, List.nodup_cons.mpr ⟨fun z => ?_, m.nd⟩⟩
  · rcases List.mem_cons.mp ha with rfl | ha
    · exact ⟨_, upd_same, by rw [List.length_map]; omega⟩
    · obtain ⟨i, hi, ha⟩ := List.mem_flatMap.mp ha
      obtain ⟨xs, e, le⟩ := (m.ok i hi).live a ha
      exact ⟨xs, sp _ _ e, le⟩
  · cases z
    exact ⟨p, _, _, rfl, rfl, upd_same, by rw [List.length_map]; omega, hsh⟩
  · obtain ⟨i, hi, ha⟩ := List.mem_flatMap.mp z
    obtain ⟨xs, e, _⟩ := (m.ok i hi).live p ha
    rw [hp] at e
    cases e
theorem made_new {H H' : Hp} {l : List Itm} (m : Made K H H' l ds) : ∀ a ∈ l.flatMap (·.as), H a = none ∧ a ≠ sysModules := fun a ha => by
  obtain ⟨i, hi, ha⟩ := List.mem_flatMap.mp ha
  exact m.new i hi a ha
theorem YR.tup (t : YRA K R σ ta ds) (hl : ds.length ≤ 1000 := by exact Nat.le_of_ble_eq_true rfl) : YR K R σ (tTup ta) (.tuple ds) := fun H Q r q =>
  t H _ r fun l H' m => ⟨by rw [List.length_map, sizeLine_eq, show l.length = ds.length by rw [← m.ds, List.length_map]]; omega, fun p hp =>
    q ⟨.ref p, .tuple ds, l.flatMap (·.as)⟩ _ (m.same.trans (same_new hp)) (made_tup m hp hl) (fun a ha => made_new m a ha) rfl⟩
theorem YR.lst (t : YRA K R σ ta ds) (hl : ds.length ≤ 1000 := by exact Nat.le_of_ble_eq_true rfl) : YR K R σ (tLstF ta) (.list ds) := fun H Q r q =>
  t H _ r fun l H' m => ⟨by rw [List.length_map, sizeLine_eq, show l.length = ds.length by rw [← m.ds, List.length_map]]; omega, fun p hp np =>
    q ⟨.ref p, .list ds, p :: l.flatMap (·.as)⟩ _ (m.same.trans (same_new hp)) (made_lst m hp hl) (fun a ha => by
      rcases List.mem_cons.mp ha with rfl | ha
      · exact ⟨m.same.free hp, np⟩
      · exact made_new m a ha) rfl⟩
/-- what stands already, without lists -/
theorem YR.var {v : V} {i : Nat} (hσ : σ[i]? = some (some v)) (h : ∀ H, R H → Sh K H v d []) (nl : ∀ ds, d ≠ .list ds) : YR K R σ (tVar i) d := fun H Q r q =>
  ⟨_, hσ, q ⟨v, d, []⟩ H (Same.refl H) (ok_nolist (h H r) nl) fresh_nil rfl⟩
theorem YR.yt (h : YR K R σ te (dLine ns)) : YT K R σ te ns := fun H Q r q => h H Q r fun i H' s ok f e => by
  have sh := ok.sh
  rw [e] at sh
  obtain ⟨a, ea, hs⟩ := sh_lineT sh
  rw [ea]
  exact q a H' s hs
theorem YT.yr (h : YT K R σ te ns) : YR K R σ te (dLine ns) := fun H Q r q => h H Q r fun a H' s hs =>
  q ⟨.ref a, dLine ns, []⟩ H' s (ok_nolist (.tup hs (ints_shF ns)) fun ds e => by cases e) fresh_nil rfl
theorem YT.cat (st : Stb R) (h1 : YT K R σ t1 ns) (h2 : YT K R σ t2 ms) (hl : ns.length + ms.length ≤ 1000) : YT K R σ (tOp (rCatA K) t1 t2) (ns ++ ms) := fun H Q r q =>
  h1 H _ r fun a H1 s1 e1 => h2 H1 _ (st _ _ r s1) fun b H2 s2 e2 => by
    refine ⟨a, b, ns.map V.int, ms.map V.int, rfl, rfl, sqT_ext (.of s2) e1, e2, by rw [List.length_map, List.length_map, sizeLine_eq]; omega, fun z => ?_, fun _ z => ?_, fun _ _ p hp => ?_⟩
    · obtain rfl : ns = [] := by simpa using z
      exact q b H2 (s1.trans s2) e2
    · obtain rfl : ms = [] := by simpa using z
      rw [List.append_nil] at q
      exact q a H2 (s1.trans s2) (sqT_ext (.of s2) e1)
    · exact q p _ ((s1.trans s2).trans (same_new hp)) (by rw [List.map_append]; exact SqT.of upd_same)
theorem cut_init (xs : List V) : cutV xs none (some (-1)) = xs.dropLast := by
  unfold cutV
  have h1 : HT.sIx xs.length 0 none = 0 := rfl
  have h2 : HT.sIx xs.length xs.length (some (-1)) = xs.length - 1 := by simp [HT.sIx]; omega
  rw [h1, h2, List.drop_zero, Nat.sub_zero, List.dropLast_eq_take]
theorem cut_rest (xs : List V) : cutV xs (some 1) none = xs.drop 1 := by
  unfold cutV
  have h2 : HT.sIx xs.length xs.length none = xs.length := rfl
  cases xs with
  | nil => simp
  | cons x xs =>
    have h1 : HT.sIx (x :: xs).length 0 (some 1) = 1 := by simp [HT.sIx]
    rw [h1, h2]
    simp
/-- t[:-1] -/
theorem YT.init (h : YT K R σ te ns) : YT K R σ (tSl (rSlA K) te tNoPart (tPart (tUn (rU fun i => .int (-i)) (tC (.int 1))))) ns.dropLast := fun H Q r q =>
  h H _ r fun a H1 s1 e1 => ⟨1, rfl, -1, rfl, a, _, rfl, e1, fun w => by
      have w2 : (ns.map V.int).length - 1 = (ns.map V.int).length := by
        have := w.2
        have e : HT.sIx (ns.map V.int).length (ns.map V.int).length (some (-1)) = (ns.map V.int).length - 1 := by simp [HT.sIx]; omega
        rw [e] at this
        exact this
      rw [List.length_map] at w2
      have : ns = [] := List.length_eq_zero_iff.mp (by omega)
      subst this
      exact q a H1 s1 e1, fun _ p hp => q p _ (s1.trans (same_new hp)) (by rw [cut_init, ← List.map_dropLast]; exact SqT.of upd_same)⟩
/-- t[1:] -/
theorem YT.rest (h : YT K R σ te ns) : YT K R σ (tSl (rSlA K) te (tPart (tC (.int 1))) tNoPart) (ns.drop 1) := fun H Q r q =>
  h H _ r fun a H1 s1 e1 => ⟨1, rfl, a, _, rfl, e1, fun w => by
      have w1 : min 1 (ns.map V.int).length = 0 := by
        have := w.1
        rw [show (some (1 : Int)) = some (((1 : Nat) : Int)) from rfl, HT.sIx_nat] at this
        exact this
      rw [List.length_map] at w1
      have : ns = [] := List.length_eq_zero_iff.mp (by omega)
      subst this
      exact q a H1 s1 e1, fun _ p hp => q p _ (s1.trans (same_new hp)) (by rw [cut_rest, ← List.map_drop]; exact SqT.of upd_same)⟩
/-- list(t) -/
theorem YR.listT (h : YT K R σ te ns) (hl : ns.length ≤ 1000) : YR K R σ (tCB (rListF K) (tCons te tNil)) (.list (ns.map .int)) := fun H Q r q =>
  h H _ r fun a H1 s1 e1 => ⟨a, _, rfl, .inr e1, fun l hl' nl => q ⟨.ref l, .list (ns.map .int), [l]⟩ _ (s1.trans (same_new hl')) ⟨.lst (SqL.of upd_same) (ints_shF ns), fun b hb => by
      rw [List.mem_singleton.mp hb]
      exact ⟨_, upd_same, by rw [List.length_map]; exact hl⟩, fun ds e => by
      cases e
      exact ⟨l, _, [], rfl, rfl, upd_same, by rw [List.length_map]; exact hl, ints_shF ns⟩, by simp⟩ (fun b hb => by
      rw [List.mem_singleton.mp hb]
      exact ⟨s1.free hl', nl⟩) rfl⟩
end
end L2.Lt

/-! # what does not fit: the odd things, and the walk over them -/
namespace L2.Fo
open PySem PySem.Spec PyProof.Rows L2.Vf L2.Dw L2.Ch L2.Nk L2.Lt
/-- the letter of ones -/
def one (n : Nat) : List Int := List.replicate n 1
abbrev dL (n : Nat) : PyData := dLine (one n)
abbrev dR (n : Nat) (d : PyData) : PyData := .tuple (List.replicate n d)
def oA : List PyData := [.none, .int 0, .int 3, .int (-1), .bool true, .str "1", .list [.int 1], .dict [], .tuple [.int 1]]
def o1 (n : Nat) : List PyData := [.none, .int 3, .tuple [], .tuple [.int 1], .list [.int 1, .tuple [dL n]], .tuple [.int 1, .list [dL n]], .tuple [.int 1, .tuple [.list ((one n).map .int)]], .tuple [.int 1, .tuple [dL n], .int 0]]
def o2 (n : Nat) : List PyData := [.tuple [.bool true, .tuple [dL n]], .dict [], .tuple [.int 1, .tuple [.none, dL n]], .tuple [.int 1, .tuple [dR n (.int (-1)), dL n]]]
def o3 (n : Nat) : List PyData := [.tuple [.int 1, .tuple [dLine ((one n).dropLast ++ [-1])]], .tuple [.int 1, .tuple [dL n, dR n .none, dL n]]]
def o4 (n : Nat) : List PyData := [.tuple [.int 1, .none], .tuple [.str "1", .tuple []], .tuple [.none, .tuple [dL n]], .tuple [.int 1, .tuple [dR n (.int (-1))]], .tuple [.int 1, .tuple [dLine (one n ++ [0])]]]
def o5 (n : Nat) : List PyData := [.tuple [.int 1, .tuple [dLine ((one n).drop 1)]]]
def o6 (n : Nat) : List PyData := [.tuple [.int 1, .tuple [dR n (.bool true)]], .tuple [.int 1, .tuple [dR n .none]], .tuple [.int 1, .tuple [.int 1]], .tuple [.int 1, .str "a"], .tuple [.int 1, .tuple [.dict []]]]
def o7 (n : Nat) : List PyData := [.tuple [.tuple [.int 1, .tuple [dL n]]]]
def o8 (n : Nat) : List PyData := [.tuple [.int 1, .tuple [dL n, .none]], .tuple [.int 1, .tuple [dL n, dLine ([-1] ++ (one n).drop 1)]], .tuple [.list [.int 1], .tuple []], .str "", .bool true]
def oC (n : Nat) : List PyData := (((((((o1 n ++ o2 n) ++ o3 n) ++ o4 n) ++ o5 n) ++ o6 n) ++ o7 n) ++ o8 n)
/-- it can be shown and compared, lengthened once -/
def okD (d : PyData) : Bool := (more d).showable && decide ((more d).depth ≤ 50) && decide ((more d).shown.length ≤ 1000) && PyData.strOk (more d).shown && (match d with
  | .list ds => decide (ds.length ≤ 900)
  | _ => true)
theorem tbA : oA.all (fun d => okD d && okD (more d) && !widD d && !widD (more d)) = true := by decide +kernel
theorem tbC1 : (oC 1).all (fun d => okD d && !termD 1 d) = true := by decide +kernel
theorem tbC2 : (oC 2).all (fun d => okD d && !termD 2 d) = true := by decide +kernel
theorem tbC {n : Nat} (n1 : 1 ≤ n) (n2 : n ≤ 2) : (oC n).all (fun d => okD d && !termD n d) = true := by
  rcases (by omega : n = 1 ∨ n = 2) with rfl | rfl
  · exact tbC1
  · exact tbC2
structure OkD (d : PyData) (as : List Addr) : Prop where
  wr : Wr (more d) as
  so : PyData.strOk (more d).shown = true
  hl : ∀ ds, d = .list ds → ds.length ≤ 900
theorem okD_is {d : PyData} {as : List Addr} (h : okD d = true) (f : ∀ a ∈ as, a ≠ sysModules) : OkD d as := by
  unfold okD at h
  simp only [Bool.and_eq_true, decide_eq_true_eq] at h
  obtain ⟨⟨⟨⟨h1, h2⟩, h3⟩, h4⟩, h5⟩ := h
  refine ⟨⟨h1, h2, by rw [sizeLine_eq]; omega, fun _ m => f _ m rfl⟩, h4, fun ds e => ?_⟩
  subst e
  simpa using h5
/-- all but the lists in the odd things stays -/
def Frm (L : List Itm) (He H' : Hp) : Prop := ∀ b u, He b = some u → (∀ it ∈ L, b ∉ it.as) → H' b = some u
theorem Frm.refl {L : List Itm} {He : Hp} : Frm L He He := fun _ _ e _ => e
/-- all but the lists of one thing stays -/
def Fr1 (it : Itm) (H H' : Hp) : Prop := ∀ b u, H b = some u → b ∉ it.as → H' b = some u
section
variable {K : PySem.W.Frag} {L : List Itm} {He H0 H H1 H' : Hp} {it : Itm}
theorem ok_fr1 {i j : Itm} (h : Ok K H j) (hi : Ok K H i) (f : Fr1 i H H') (ap : Apart i j) : Ok K H' j := by
  have st : ∀ b u, H b = some u → ((∃ xs, u = .lst xs) → b ∈ j.as) → H' b = some u := fun b u e m => f b u e fun hb => by
    obtain ⟨xs, q, _⟩ := hi.live b hb
    rw [q] at e
    cases e
    exact ap b hb (m ⟨xs, rfl⟩)
  refine ⟨sh_stay h.sh st, fun a m => ?_, fun ds e => ?_, h.nd⟩
  · obtain ⟨xs, e, l⟩ := h.live a m
    exact ⟨xs, f _ _ e fun z => ap a z m, l⟩
  · obtain ⟨a, xs, as, e1, e2, e3, e4, e5⟩ := h.top ds e
    refine ⟨a, xs, as, e1, e2, st _ _ e3 fun _ => by rw [e2]; exact List.mem_cons_self, e4, shs_stay e5 fun b u e m => st b u e fun z => by rw [e2]; exact List.mem_cons_of_mem _ (m z)⟩
theorem fmj_fr1 (ok : Ok K H it) (f : FmJ it H H') : Fr1 it H H' := fun b u e nb => f b u e fun ⟨ds, hd⟩ z => by
  obtain ⟨a, xs, as, e1, e2, _⟩ := ok.top ds hd
  rw [e1] at z
  cases z
  exact nb (by rw [e2]; exact List.mem_cons_self)
theorem Fr1.trans {H2 : Hp} (a : Fr1 it H H1) (b : Fr1 it H1 H2) : Fr1 it H H2 := fun c u e n => b c u (a c u e n) n
theorem Fr1.same (a : Fr1 it H H1) (s : Same H1 H') : Fr1 it H H' := fun c u e n => s _ _ (a c u e n)
theorem odds_loop {σ0 : St} {G : Addr} {tb : TS} {D : Ends} {i0 : Nat} (hi : i0 < σ0.length) (hG : He G = some (.lst (L.map (·.v)))) (hGn : ∀ it ∈ L, G ∉ it.as) (hok : ∀ it ∈ L, Ok K He it) (hap : L.Pairwise Apart)
    (hc : ∀ it ∈ L, ∀ (H1 : Hp) (N : Ends), Frm L He H1 → Ok K H1 it → (∀ H2, Fr1 it H1 H2 → N.nx (σ0.set i0 (some it.v)) H2) → tb N (σ0.set i0 (some it.v)) H1)
    (hd : ∀ o3 H', Frm L He H' → D.nx (σ0.set i0 o3) H') (o3 : Option V) :
    ∃ W : Nat → Nat → St → Hp → Prop, (∃ m, W 0 m (σ0.set i0 o3) He) ∧ ∀ i m σ H, W i m σ H →
      ((Itl K G).stop i H ∧ D.nx σ H) ∨ ((Itl K G).go i H ∧ ∃ N : St → Hp → Prop, (∀ σ' H', N σ' H' → ∃ m', m' < m ∧ W (i + 1) m' σ' H') ∧ ∀ x H', (Itl K G).yld i H x H' → gName i0 x σ H' fun σ2 H2 => tb { D with nx := N, ct := N, bk := D.nx } σ2 H2) := by
  refine for_list (xs := L.map (·.v)) (fun n σ H' => (∃ o3, σ = σ0.set i0 o3) ∧ Frm L He H' ∧ ∀ k it, n ≤ k → L[k]? = some it → Ok K H' it)
    ⟨⟨o3, rfl⟩, .refl, fun k it _ h => hok it (List.mem_of_getElem? h)⟩ (fun n σ H' _ hP => SqL.of (hP.2.1 _ _ hG hGn)) (fun n x σ H' hx hP => ?_) fun σ H' hP => ?_
  · obtain ⟨⟨o3, rfl⟩, fr, ok⟩ := hP
    rw [List.getElem?_map] at hx
    cases e : L[n]? with
    | none => rw [e] at hx; cases hx
    | some it =>
      rw [e] at hx
      cases hx
      have hm := List.mem_of_getElem? e
      have oi := ok n it (Nat.le_refl _) e
      show tb _ ((σ0.set i0 o3).set i0 (some it.v)) H'
      rw [List.set_set]
      refine hc it hm H' _ fr oi fun H2 f1 => ⟨⟨some it.v, rfl⟩, fun b u q nb => f1 _ _ (fr b u q nb) (nb it hm), fun k it' hk hk' => ?_⟩
      refine ok_fr1 (ok k it' (by omega) hk') oi f1 ?_
      rw [List.pairwise_iff_getElem] at hap
      obtain ⟨h1, e1⟩ := List.getElem?_eq_some_iff.mp e
      obtain ⟨h2, e2⟩ := List.getElem?_eq_some_iff.mp hk'
      have := hap n k h1 h2 (by omega)
      rw [e1, e2] at this
      exact this
  · obtain ⟨⟨o3, rfl⟩, fr, _⟩ := hP
    exact hd o3 H' fr
/-- tables of code stay beside the odd things -/
theorem tabs_frm {T : List (Addr × Str)} (hok : ∀ it ∈ L, Ok K He it) (f : Frm L He H') (h : LamX.Tabs T He) : LamX.Tabs T H' := by
  have st : ∀ b u, He b = some u → (∀ xs, u ≠ .lst xs) → H' b = some u := fun b u e n => f b u e fun it hit hb => by
    obtain ⟨xs, q, _⟩ := (hok it hit).live b hb
    rw [q] at e
    cases e
    exact n _ rfl
  intro x hx
  obtain ⟨ps, h1, h2, h3⟩ := h x hx
  refine ⟨ps, st _ _ h1 (fun xs z => by cases z), h2, fun pos cv hc => ?_⟩
  obtain ⟨c, e1, e2⟩ := h3 pos cv hc
  exact ⟨c, e1, by unfold LamX.CodeO at e2 ⊢; exact st _ _ e2 (fun xs z => by cases z)⟩
theorem tabs_fr1 {T : List (Addr × Str)} (ok : Ok K H it) (f : Fr1 it H H') (h : LamX.Tabs T H) : LamX.Tabs T H' :=
  tabs_frm (L := [it]) (fun j hj => by rw [List.mem_singleton.mp hj]; exact ok) (fun b u e n => f b u e (n it (List.mem_singleton.mpr rfl))) h
theorem made_mono {l : List Itm} {ds : List PyData} {H2 : Hp} (m : Made K H H1 l ds) (s : Same H1 H2) : Made K H H2 l ds := ⟨m.same.trans s, fun i hi => (m.ok i hi).mono s, m.new, m.apart, m.ds⟩
/-- what stood stays beside new things -/
theorem frm_same {ds : List PyData} (m : Made K H He L ds) (f : Frm L He H') : Same H H' := fun b u e => f b u (m.same _ _ e) fun it hit ha => by
  have := (m.new it hit b ha).1
  rw [e] at this
  cases this
end
end L2.Fo

/-! # what does not fit: one turn -/
namespace L2.Fo
open PySem PySem.Spec PyProof.Rows L2.Vf L2.Dw L2.Ch L2.Nk L2.Lt
abbrev tLsT (K : PySem.W.Frag) : TE := tCB (rListF K) (tCons (tVar 1) tNil)
abbrev tCa1 (K : PySem.W.Frag) (T : List (Addr × Str)) : TE := tCall (spCa K T) [] E0 (tCons (tVar 3) (tCons (tC .non) tNil))
abbrev tCa2 (K : PySem.W.Frag) (T : List (Addr × Str)) : TE := tCall (spCa K T) [] E0 (tCons (tVar 3) (tCons (tLsT K) tNil))
abbrev tCa3 (K : PySem.W.Frag) (T : List (Addr × Str)) : TE := tCall (spCa K T) [] E0 (tCons (tVar 0) (tCons (tVar 3) tNil))
abbrev tCa4 (K : PySem.W.Frag) (T : List (Addr × Str)) : TE := tCall (spCa K T) [] E0 (tCons (tVar 0) (tCons (tOp rCatF (tLsT K) (tLstF (tCons (tVar 3) (tCons (tC .non) tNil)))) tNil))
abbrev tDue (K : PySem.W.Frag) (k : Nat) : TE := tLst (tCons (tC (.int (k : Nat))) (tCons (tCB (rRepr K) (tCons (tVar 3) tNil)) tNil))
abbrev tNe (K : PySem.W.Frag) (c : TE) (k : Nat) : TT := tTest (tOp (Vf.rEqD K true) c (tDue K k))
/-- the terms, at a list of their own -/
def TsAt (K : PySem.W.Frag) (H : Hp) (a : Addr) (rs : List Trm) : Prop := SqL K H a (rs.map fun r => V.ref r.1) ∧ ∀ r ∈ rs, TmAt K H r
section
variable {K : PySem.W.Frag} {T : List (Addr × Str)} {H H1 : Hp} {σ : St} {n k : Nat} {a : Addr} {rs : List Trm} {j : Itm}
theorem TsAt.mono (h : TsAt K H a rs) (s : Same H H1) : TsAt K H1 a rs := ⟨sqL_ext (.of s) h.1, fun r hr => (h.2 r hr).ext (.of s)⟩
/-- a copy of the terms, as a thing -/
theorem ts_item {B : Addr} (h : TsAt K H a rs) (e : H B = some (.lst (rs.map fun r => V.ref r.1))) (hl : rs.length ≤ 1000) : Ok K H ⟨.ref B, .list ((rs.map (·.2)).map dTrm), [B]⟩ :=
  ⟨trms_sh (us := rs.map fun r : Trm => r.2) (SqL.of e) h.2 rfl, fun b hb => by
    rw [List.mem_singleton.mp hb]
    exact ⟨_, e, by rw [List.length_map]; exact hl⟩, fun ds z => by
    cases z
    exact ⟨B, _, [], rfl, rfl, e, by rw [List.length_map]; exact hl, trms_shs h.2⟩, by simp⟩
theorem ls_run (h1 : σ[1]? = some (some (.ref a))) (h : TsAt K H a rs) {Q : VK} (q : ∀ B, H B = none → B ≠ sysModules → TsAt K (upd H B (.lst (rs.map fun r => V.ref r.1))) a rs → Q (.ref B) (upd H B (.lst (rs.map fun r => V.ref r.1)))) : tLsT K σ H Q :=
  ⟨_, h1, a, _, rfl, .inl h.1, fun B hB nB => q B hB nB (h.mono (same_new hB))⟩
theorem cmp_run {tc : TE} {Q : Bool → Hp → Prop} (h3 : σ[3]? = some (some j.v)) (w : OkD j.d j.as)
    (hc : ∀ QC : VK, (∀ D H2, H D = none → FmJ j H H2 → Ok K H2 ⟨j.v, more j.d, j.as⟩ → H2 D = some (.lst [.int (k : Nat), .str (more j.d).shown]) → QC (.ref D) H2) → tc σ H QC)
    (q : ∀ H3, FmJ j H H3 → Ok K H3 ⟨j.v, more j.d, j.as⟩ → Q false H3) : tNe K tc k σ H Q := by
  refine hc _ fun D H2 hD f ok2 eD => ?_
  refine ⟨_, h3, j.v, more j.d, j.as, rfl, ok2.sh, w.wr, (by show 2 ≤ sizeLine; decide), fun E hE => ?_⟩
  have s2 := same_new (o := .lst [V.int (k : Nat), V.str (more j.d).shown]) hE
  have sh : ∀ {a : Addr} {H : Hp}, H a = some (.lst [V.int (k : Nat), V.str (more j.d).shown]) → Sh K H (.ref a) (kd k (more j.d).shown) [a] := fun h => .lst (as := []) (SqL.of h) (.cons (as := []) (bs := []) (.int _) (.cons (as := []) (bs := []) (.str _) .nil))
  refine ⟨kd k (more j.d).shown, kd k (more j.d).shown, _, _, sh (s2 _ _ eD), sh upd_same, kd_shaped w.so, kd_shaped w.so, _, rfl, ?_⟩
  rw [(if_pos rfl).trans (congrArg not kd_eqv)]
  exact q _ (fun b u e hn => s2 _ _ (f b u e hn)) (ok2.mono s2)
/-- no width: asked twice -/
theorem turnA {it : Itm} {N : Ends} (h1 : σ[1]? = some (some (.ref a))) (h3 : σ[3]? = some (some it.v)) (ok : Ok K H it) (w : OkD it.d it.as) (w2 : OkD (more it.d) it.as) (hw : widD it.d = false) (hw2 : widD (more it.d) = false) (ts : ∀ H1, Fr1 it H H1 → TsAt K H1 a rs) (hl : rs.length ≤ 1000) (hT : LamX.Tabs T H)
    (q : ∀ H2, Fr1 it H H2 → N.nx σ H2) : tIfS (tOr (tNe K (tCa1 K T) 0) (tNe K (tCa2 K T) 0)) (tRet (tC (.bl false))) tNext N σ H := by
  refine cmp_run (j := it) h3 w (fun QC qc => ⟨_, h3, it, ⟨.non, .none, []⟩, rfl, ok, ok_nolist .non (fun ds e => by cases e), hT, .inr ⟨0, it, by decide, .inl ⟨rfl, rfl, hw⟩, ok, w.hl, w.wr, qc⟩⟩) fun H3 f3 ok3 => ?_
  have fr3 := fmj_fr1 ok f3
  refine iteF ?_
  refine cmp_run (j := ⟨it.v, more it.d, it.as⟩) h3 w2 (fun QC qc => ⟨_, h3, ls_run h1 (ts H3 fr3) fun B hB nB tsB => ?_⟩) fun H4 f4 ok4 => ?_
  · have sB := same_new (o := .lst (rs.map fun r => V.ref r.1)) hB
    refine ⟨⟨it.v, more it.d, it.as⟩, ⟨.ref B, .list ((rs.map (·.2)).map dTrm), [B]⟩, rfl, ok3.mono sB, ts_item tsB upd_same hl, (tabs_fr1 ok fr3 hT).ext sB, .inr ⟨0, _, by decide, .inl ⟨rfl, rfl, hw2⟩, ok3.mono sB, w2.hl, w2.wr, fun D H4 hD f4 ok4 eD => qc D H4 (sB.free hD) (fun b u e hn => f4 b u (sB _ _ e) hn) ok4 eD⟩⟩
  · refine iteF (q H4 (fr3.trans ?_))
    exact fmj_fr1 (it := ⟨it.v, more it.d, it.as⟩) ok3 f4
/-- no list -/
theorem turnB {it : Itm} {N : Ends} (n1 : 1 ≤ n) (n2 : n ≤ 2) (h0 : σ[0]? = some (some (.int (n : Nat)))) (h3 : σ[3]? = some (some it.v)) (ok : Ok K H it) (w : OkD it.d it.as) (hw : (tyD it.d == "list") = false) (hT : LamX.Tabs T H)
    (q : ∀ H2, Fr1 it H H2 → N.nx σ H2) : tIfS (tNe K (tCa3 K T) 1) (tRet (tC (.bl false))) tNext N σ H := by
  have wn : widD (.int (n : Nat)) = true := by
    show (decide (1 ≤ (n : Int)) && decide ((n : Int) ≤ 2)) = true
    rw [decide_eq_true (by omega), decide_eq_true (by omega)]
    rfl
  refine cmp_run (j := it) h3 w (fun QC qc => ⟨_, h0, _, h3, ⟨.int (n : Nat), .int (n : Nat), []⟩, it, rfl, ok_nolist (.int _) (fun ds e => by cases e), ok, hT, .inr ⟨1, it, by decide, .inr ⟨n, rfl, wn, .inl ⟨rfl, rfl, hw⟩⟩, ok, w.hl, w.wr, qc⟩⟩) fun H3 f3 ok3 => ?_
  exact iteF (q H3 (fmj_fr1 ok f3))
theorem shs_app : ∀ {xs ys : List V} {ds es : List PyData} {as bs : List Addr}, Shs K H xs ds as → Shs K H ys es bs → Shs K H (xs ++ ys) (ds ++ es) (as ++ bs)
  | [], _, _, _, _, _, h, g => by cases h; exact g
  | x :: xs, _, _, _, _, _, h, g => by
    cases h with
    | cons h1 h2 =>
      have := Shs.cons h1 (shs_app h2 g)
      rw [List.append_assoc]
      exact this
/-- no term behind the terms -/
theorem turnC {it : Itm} {N : Ends} (n1 : 1 ≤ n) (n2 : n ≤ 2) (h0 : σ[0]? = some (some (.int (n : Nat)))) (h1 : σ[1]? = some (some (.ref a))) (h3 : σ[3]? = some (some it.v)) (ok : Ok K H it) (w : OkD it.d it.as) (hw : termD n it.d = false) (ts : TsAt K H a rs) (tm : ((rs.map (·.2)).map dTrm).all (termD n) = true) (hl : rs.length ≤ 900) (hT : LamX.Tabs T H)
    (q : ∀ H2, Fr1 it H H2 → N.nx σ H2) : tIfS (tNe K (tCa4 K T) 2) (tRet (tC (.bl false))) tNext N σ H := by
  have wn : widD (.int (n : Nat)) = true := by
    show (decide (1 ≤ (n : Int)) && decide ((n : Int) ≤ 2)) = true
    rw [decide_eq_true (by omega), decide_eq_true (by omega)]
    rfl
  refine cmp_run (j := it) h3 w (fun QC qc => ⟨_, h0, ls_run h1 ts fun B hB nB tsB => ⟨_, h3, (by show 2 ≤ sizeLine; decide), fun B2 hB2 nB2 => ?_⟩⟩) fun H3 f3 ok3 => iteF (q H3 (fmj_fr1 ok f3))
  have sB := same_new (o := .lst (rs.map fun r => V.ref r.1)) hB
  have sB2 := same_new (o := .lst [it.v, .non]) hB2
  refine ⟨B, B2, rs.map (fun r => V.ref r.1), [it.v, .non], rfl, rfl, sB2 _ _ upd_same, upd_same, by rw [List.length_map, sizeLine_eq]; simp; omega, fun B3 hB3 nB3 => ?_⟩
  have sB3 := same_new (o := .lst (rs.map (fun r => V.ref r.1) ++ [it.v, .non])) hB3
  have s := (sB.trans sB2).trans sB3
  have ts3 := ts.mono s
  have ok3 := ok.mono s
  have shs : Shs K (upd (upd (upd H B (.lst (rs.map fun r => V.ref r.1))) B2 (.lst [it.v, .non])) B3 (.lst (rs.map (fun r => V.ref r.1) ++ [it.v, .non]))) (rs.map (fun r => V.ref r.1) ++ [it.v, .non]) ((rs.map (·.2)).map dTrm ++ [it.d, .none]) it.as := by
    have := shs_app (trms_shs ts3.2) (Shs.cons ok3.sh (Shs.cons .non .nil))
    simpa using this
  have e3 : (upd (upd (upd H B (.lst (rs.map fun r => V.ref r.1))) B2 (.lst [it.v, .non])) B3 (.lst (rs.map (fun r => V.ref r.1) ++ [it.v, .non]))) B3 = some (.lst (rs.map (fun r => V.ref r.1) ++ [it.v, .non])) := upd_same
  have b3 : B3 ∉ it.as := fun z => by
    obtain ⟨xs, e, _⟩ := ok.live _ z
    rw [(sB.trans sB2).free hB3] at e
    cases e
  have lB : (rs.map (fun r => V.ref r.1) ++ [it.v, V.non]).length ≤ 1000 := by rw [List.length_append, List.length_map]; simp; omega
  have okB : Ok K (upd (upd (upd H B (.lst (rs.map fun r => V.ref r.1))) B2 (.lst [it.v, .non])) B3 (.lst (rs.map (fun r => V.ref r.1) ++ [it.v, .non]))) ⟨.ref B3, .list ((rs.map (·.2)).map dTrm ++ [it.d, .none]), B3 :: it.as⟩ := ⟨.lst (SqL.of e3) shs, fun b hb => by
      rcases List.mem_cons.mp hb with rfl | hb
      · exact ⟨_, e3, lB⟩
      · exact ok3.live b hb, fun ds z => by
      cases z
      exact ⟨B3, _, it.as, rfl, rfl, e3, lB, shs⟩, List.nodup_cons.mpr ⟨b3, ok.nd⟩⟩
  have lr : ((rs.map (·.2)).map dTrm).length = rs.length := by rw [List.length_map, List.length_map]
  refine ⟨⟨.int (n : Nat), .int (n : Nat), []⟩, ⟨.ref B3, .list ((rs.map (·.2)).map dTrm ++ [it.d, .none]), B3 :: it.as⟩, rfl, ok_nolist (.int _) (fun ds e => by cases e), okB, hT.ext s, .inr ⟨2, it, by decide, .inr ⟨n, rfl, wn, .inr ⟨_, rs.length, B3, _, it.as, rfl, rfl, fun m hm d hd => ?_, ?_, hw, rfl, SqL.of e3, okB.sh, shs, ?_⟩⟩, ok3, w.hl, w.wr, fun D H4 hD f4 ok4 eD => qc D H4 (s.free hD) (fun b u e hn => f4 b u (s _ _ e) hn) ok4 eD⟩⟩
  · rw [List.getElem?_append_left (by rw [lr]; exact hm)] at hd
    exact List.all_eq_true.mp tm d (List.mem_of_getElem? hd)
  · rw [List.getElem?_append_right (by rw [lr]; exact Nat.le_refl _), lr, Nat.sub_self]
    rfl
  · rw [List.getElem?_append_right (by rw [List.length_map]; exact Nat.le_refl _), List.length_map, Nat.sub_self]
    rfl
end
end L2.Fo

/-! # what does not fit: the odd things made -/
namespace L2.Fo
open PySem PySem.Spec PyProof.Rows L2.Vf L2.Dw L2.Ch L2.Nk L2.Lt
abbrev sRf : Stmt := top 38
abbrev nRf : List Str := ["_law_width", "_law_terms_here", "_law_letter_here", "_law_odd", "_law_odds"]
theorem scRf : FnScope nRf ["_law_width", "_law_terms_here"] (defScope sRf) := ⟨rfl, rfl, rfl, by decide +kernel, rfl, by decide +kernel, by decide +kernel⟩
abbrev ta1 (K : PySem.W.Frag) : TA := (tCons (tLit K (.none)) (tCons (tLit K (.int 3)) (tCons (tLit K (.tuple [])) (tCons (tLit K (.tuple [.int 1])) (tCons (tLstF (tCons (tLit K (.int 1)) (tCons (tTup (tCons (tVar 2) tNil)) tNil))) (tCons (tTup (tCons (tLit K (.int 1)) (tCons (tLstF (tCons (tVar 2) tNil)) tNil))) (tCons (tTup (tCons (tLit K (.int 1)) (tCons (tTup (tCons (tCB (rListF K) (tCons (tVar 2) tNil)) tNil)) tNil))) (tCons (tTup (tCons (tLit K (.int 1)) (tCons (tTup (tCons (tVar 2) tNil)) (tCons (tLit K (.int 0)) tNil)))) tNil))))))))
abbrev ta2 (K : PySem.W.Frag) : TA := (tCons (tTup (tCons (tLit K (.bool true)) (tCons (tTup (tCons (tVar 2) tNil)) tNil))) (tCons (tLit K (.dict [])) (tCons (tTup (tCons (tLit K (.int 1)) (tCons (tTup (tCons (tLit K (.none)) (tCons (tVar 2) tNil))) tNil))) (tCons (tTup (tCons (tLit K (.int 1)) (tCons (tTup (tCons (tOp (rRepTA K) (tTup (tCons (tUn (rU fun i => .int (-i)) (tC (.int 1))) tNil)) (tVar 0)) (tCons (tVar 2) tNil))) tNil))) tNil))))
abbrev ta3 (K : PySem.W.Frag) : TA := (tCons (tTup (tCons (tLit K (.int 1)) (tCons (tTup (tCons (tOp (rCatA K) (tSl (rSlA K) (tVar 2) tNoPart (tPart (tUn (rU fun i => .int (-i)) (tC (.int 1))))) (tLit K (.tuple [.int (-1)]))) tNil)) tNil))) (tCons (tTup (tCons (tLit K (.int 1)) (tCons (tTup (tCons (tVar 2) (tCons (tOp (rRepTA K) (tTup (tCons (tC .non) tNil)) (tVar 0)) (tCons (tVar 2) tNil)))) tNil))) tNil))
abbrev ta4 (K : PySem.W.Frag) : TA := (tCons (tLit K (.tuple [.int 1, .none])) (tCons (tLit K (.tuple [.str "1", .tuple []])) (tCons (tTup (tCons (tLit K (.none)) (tCons (tTup (tCons (tVar 2) tNil)) tNil))) (tCons (tTup (tCons (tLit K (.int 1)) (tCons (tTup (tCons (tOp (rRepTA K) (tTup (tCons (tUn (rU fun i => .int (-i)) (tC (.int 1))) tNil)) (tVar 0)) tNil)) tNil))) (tCons (tTup (tCons (tLit K (.int 1)) (tCons (tTup (tCons (tOp (rCatA K) (tVar 2) (tLit K (.tuple [.int 0]))) tNil)) tNil))) tNil)))))
abbrev ta5 (K : PySem.W.Frag) : TA := (tCons (tTup (tCons (tLit K (.int 1)) (tCons (tTup (tCons (tSl (rSlA K) (tVar 2) (tPart (tC (.int 1))) tNoPart) tNil)) tNil))) tNil)
abbrev ta6 (K : PySem.W.Frag) : TA := (tCons (tTup (tCons (tLit K (.int 1)) (tCons (tTup (tCons (tOp (rRepTA K) (tTup (tCons (tC (.bl true)) tNil)) (tVar 0)) tNil)) tNil))) (tCons (tTup (tCons (tLit K (.int 1)) (tCons (tTup (tCons (tOp (rRepTA K) (tTup (tCons (tC .non) tNil)) (tVar 0)) tNil)) tNil))) (tCons (tLit K (.tuple [.int 1, .tuple [.int 1]])) (tCons (tLit K (.tuple [.int 1, .str "a"])) (tCons (tLit K (.tuple [.int 1, .tuple [.dict []]])) tNil)))))
abbrev ta7 (K : PySem.W.Frag) : TA := (tCons (tTup (tCons (tTup (tCons (tLit K (.int 1)) (tCons (tTup (tCons (tVar 2) tNil)) tNil))) tNil)) tNil)
abbrev ta8 (K : PySem.W.Frag) : TA := (tCons (tTup (tCons (tLit K (.int 1)) (tCons (tTup (tCons (tVar 2) (tCons (tLit K (.none)) tNil))) tNil))) (tCons (tTup (tCons (tLit K (.int 1)) (tCons (tTup (tCons (tVar 2) (tCons (tOp (rCatA K) (tLit K (.tuple [.int (-1)])) (tSl (rSlA K) (tVar 2) (tPart (tC (.int 1))) tNoPart)) tNil))) tNil))) (tCons (tLit K (.tuple [.list [.int 1], .tuple []])) (tCons (tLit K (.str "")) (tCons (tLit K (.bool true)) tNil)))))
/-- tuple(the terms) -/
def rTupT (K : PySem.W.Frag) : List V → Hp → VK → Prop := fun xs H Q => ∃ p ys, xs = [.ref p] ∧
  ((SqL K H p ys ∧ ∀ l, H l = none → Q (.ref l) (upd H l (.tup ys))) ∨ (SqT K H p ys ∧ Q (.ref p) H))
abbrev taB (K : PySem.W.Frag) : TA := tCons (tLit K (.none)) (tCons (tLit K (.int 3)) (tCons (tCB (rTupT K) (tCons (tVar 1) tNil)) (tCons (tLit K (.str "")) (tCons (tLit K (.dict [])) (tCons (tLit K (.bool true)) tNil)))))
abbrev tBoA (K : PySem.W.Frag) (T : List (Addr × Str)) : TS := tIfS (tOr (tNe K (tCa1 K T) 0) (tNe K (tCa2 K T) 0)) (tRet (tC (.bl false))) tNext
abbrev tBoB (K : PySem.W.Frag) (T : List (Addr × Str)) : TS := tIfS (tNe K (tCa3 K T) 1) (tRet (tC (.bl false))) tNext
abbrev tBoC (K : PySem.W.Frag) (T : List (Addr × Str)) : TS := tIfS (tNe K (tCa4 K T) 2) (tRet (tC (.bl false))) tNext
abbrev tAdd4 (ta : TA) : TS := tAsg (tOp rCatF (tVar 4) (tLstF ta)) (gName 4)
def tRfE (K : PySem.W.Frag) (T : List (Addr × Str)) : TS := tRet (tOp (fun x y H Q => y = .non ∧ Q (.bl (decide (x = .non))) H) (tCall (spCa K T) [] E0 (tCons (tVar 0) (tCons (tLsT K) tNil))) (tC .non))
def tRfC (K : PySem.W.Frag) (T : List (Addr × Str)) : TS := tSeq (tFor (iList K (tOp rCatF (tVar 4) (tLstF (ta8 K)))) (gName 3) (tBoC K T)) (tRfE K T)
def tRfD (K : PySem.W.Frag) (T : List (Addr × Str)) : TS := tSeq (tAsg (tLstF (ta1 K)) (gName 4)) (tSeq (tAdd4 (ta2 K)) (tSeq (tAdd4 (ta3 K)) (tSeq (tAdd4 (ta4 K)) (tSeq (tAdd4 (ta5 K)) (tSeq (tAdd4 (ta6 K)) (tSeq (tAdd4 (ta7 K)) (tRfC K T)))))))
def tRfB (K : PySem.W.Frag) (T : List (Addr × Str)) : TS := tSeq (tFor (iList K (tLstF (taB K))) (gName 3) (tBoB K T)) (tRfD K T)
def tRfA (K : PySem.W.Frag) (T : List (Addr × Str)) : TS := tSeq (tFor (iList K (tLstF (tLits K oA))) (gName 3) (tBoA K T)) (tRfB K T)
def tRf (K : PySem.W.Frag) (T : List (Addr × Str)) : TS := tSeq (tAsg (tOp (rRepTA K) (tTup (tCons (tC (.int 1)) tNil)) (tVar 0)) (gName 2)) (tRfA K T)
section
variable {K : PySem.W.Frag} {R : Hp → Prop} {σ : St} {n : Nat}
theorem ya1 (yv : YR K R σ (tVar 2) (dL n)) (yw : Tl σ (tVar 0) (.int (n : Nat))) (st : Stb R) (n1 : 1 ≤ n) (n2 : n ≤ 2) : YRA K R σ (ta1 K) (o1 n) := by
  have yt := YR.yt yv
  have n1000 : n ≤ 1000 := by omega
  have ytl : (one n).length ≤ 1000 := by simp [one]; omega
  exact (YRA.cons st YR.lit (YRA.cons st YR.lit (YRA.cons st YR.lit (YRA.cons st YR.lit (YRA.cons st (YR.lst (YRA.cons st YR.lit (YRA.cons st (YR.tup (YRA.cons st yv YRA.nil)) YRA.nil))) (YRA.cons st (YR.tup (YRA.cons st YR.lit (YRA.cons st (YR.lst (YRA.cons st yv YRA.nil)) YRA.nil))) (YRA.cons st (YR.tup (YRA.cons st YR.lit (YRA.cons st (YR.tup (YRA.cons st (YR.listT yt ytl) YRA.nil)) YRA.nil))) (YRA.cons st (YR.tup (YRA.cons st YR.lit (YRA.cons st (YR.tup (YRA.cons st yv YRA.nil)) (YRA.cons st YR.lit YRA.nil)))) YRA.nil))))))))
theorem ya2 (yv : YR K R σ (tVar 2) (dL n)) (yw : Tl σ (tVar 0) (.int (n : Nat))) (st : Stb R) (n1 : 1 ≤ n) (n2 : n ≤ 2) : YRA K R σ (ta2 K) (o2 n) := by
  have yt := YR.yt yv
  have n1000 : n ≤ 1000 := by omega
  have ytl : (one n).length ≤ 1000 := by simp [one]; omega
  exact (YRA.cons st (YR.tup (YRA.cons st YR.lit (YRA.cons st (YR.tup (YRA.cons st yv YRA.nil)) YRA.nil))) (YRA.cons st YR.lit (YRA.cons st (YR.tup (YRA.cons st YR.lit (YRA.cons st (YR.tup (YRA.cons st YR.lit (YRA.cons st yv YRA.nil))) YRA.nil))) (YRA.cons st (YR.tup (YRA.cons st YR.lit (YRA.cons st (YR.tup (YRA.cons st (Yl.r (Yl.tup (v := (.int (-1))) (fun H Q q => ⟨1, rfl, q⟩) (.int (-1)) yw n1 n1000)) (YRA.cons st yv YRA.nil))) YRA.nil))) YRA.nil))))
theorem ya3 (yv : YR K R σ (tVar 2) (dL n)) (yw : Tl σ (tVar 0) (.int (n : Nat))) (st : Stb R) (n1 : 1 ≤ n) (n2 : n ≤ 2) : YRA K R σ (ta3 K) (o3 n) := by
  have yt := YR.yt yv
  have n1000 : n ≤ 1000 := by omega
  have ytl : (one n).length ≤ 1000 := by simp [one]; omega
  exact (YRA.cons st (YR.tup (YRA.cons st YR.lit (YRA.cons st (YR.tup (YRA.cons st (YT.yr (YT.cat st (YT.init yt) (YR.yt (ns := [(-1)]) YR.lit) (by simp [one]; omega))) YRA.nil)) YRA.nil))) (YRA.cons st (YR.tup (YRA.cons st YR.lit (YRA.cons st (YR.tup (YRA.cons st yv (YRA.cons st (Yl.r (Yl.tup (v := .non) (fun H Q q => q) .non yw n1 n1000)) (YRA.cons st yv YRA.nil)))) YRA.nil))) YRA.nil))
theorem ya4 (yv : YR K R σ (tVar 2) (dL n)) (yw : Tl σ (tVar 0) (.int (n : Nat))) (st : Stb R) (n1 : 1 ≤ n) (n2 : n ≤ 2) : YRA K R σ (ta4 K) (o4 n) := by
  have yt := YR.yt yv
  have n1000 : n ≤ 1000 := by omega
  have ytl : (one n).length ≤ 1000 := by simp [one]; omega
  exact (YRA.cons st YR.lit (YRA.cons st YR.lit (YRA.cons st (YR.tup (YRA.cons st YR.lit (YRA.cons st (YR.tup (YRA.cons st yv YRA.nil)) YRA.nil))) (YRA.cons st (YR.tup (YRA.cons st YR.lit (YRA.cons st (YR.tup (YRA.cons st (Yl.r (Yl.tup (v := (.int (-1))) (fun H Q q => ⟨1, rfl, q⟩) (.int (-1)) yw n1 n1000)) YRA.nil)) YRA.nil))) (YRA.cons st (YR.tup (YRA.cons st YR.lit (YRA.cons st (YR.tup (YRA.cons st (YT.yr (YT.cat st yt (YR.yt (ns := [0]) YR.lit) (by simp [one]; omega))) YRA.nil)) YRA.nil))) YRA.nil)))))
theorem ya5 (yv : YR K R σ (tVar 2) (dL n)) (yw : Tl σ (tVar 0) (.int (n : Nat))) (st : Stb R) (n1 : 1 ≤ n) (n2 : n ≤ 2) : YRA K R σ (ta5 K) (o5 n) := by
  have yt := YR.yt yv
  have n1000 : n ≤ 1000 := by omega
  have ytl : (one n).length ≤ 1000 := by simp [one]; omega
  exact (YRA.cons st (YR.tup (YRA.cons st YR.lit (YRA.cons st (YR.tup (YRA.cons st (YT.yr (YT.rest yt)) YRA.nil)) YRA.nil))) YRA.nil)
theorem ya6 (yv : YR K R σ (tVar 2) (dL n)) (yw : Tl σ (tVar 0) (.int (n : Nat))) (st : Stb R) (n1 : 1 ≤ n) (n2 : n ≤ 2) : YRA K R σ (ta6 K) (o6 n) := by
  have yt := YR.yt yv
  have n1000 : n ≤ 1000 := by omega
  have ytl : (one n).length ≤ 1000 := by simp [one]; omega
  exact (YRA.cons st (YR.tup (YRA.cons st YR.lit (YRA.cons st (YR.tup (YRA.cons st (Yl.r (Yl.tup (v := (.bl true)) (fun H Q q => q) (.bl true) yw n1 n1000)) YRA.nil)) YRA.nil))) (YRA.cons st (YR.tup (YRA.cons st YR.lit (YRA.cons st (YR.tup (YRA.cons st (Yl.r (Yl.tup (v := .non) (fun H Q q => q) .non yw n1 n1000)) YRA.nil)) YRA.nil))) (YRA.cons st YR.lit (YRA.cons st YR.lit (YRA.cons st YR.lit YRA.nil)))))
theorem ya7 (yv : YR K R σ (tVar 2) (dL n)) (yw : Tl σ (tVar 0) (.int (n : Nat))) (st : Stb R) (n1 : 1 ≤ n) (n2 : n ≤ 2) : YRA K R σ (ta7 K) (o7 n) := by
  have yt := YR.yt yv
  have n1000 : n ≤ 1000 := by omega
  have ytl : (one n).length ≤ 1000 := by simp [one]; omega
  exact (YRA.cons st (YR.tup (YRA.cons st (YR.tup (YRA.cons st YR.lit (YRA.cons st (YR.tup (YRA.cons st yv YRA.nil)) YRA.nil))) YRA.nil)) YRA.nil)
theorem ya8 (yv : YR K R σ (tVar 2) (dL n)) (yw : Tl σ (tVar 0) (.int (n : Nat))) (st : Stb R) (n1 : 1 ≤ n) (n2 : n ≤ 2) : YRA K R σ (ta8 K) (o8 n) := by
  have yt := YR.yt yv
  have n1000 : n ≤ 1000 := by omega
  have ytl : (one n).length ≤ 1000 := by simp [one]; omega
  exact (YRA.cons st (YR.tup (YRA.cons st YR.lit (YRA.cons st (YR.tup (YRA.cons st yv (YRA.cons st YR.lit YRA.nil))) YRA.nil))) (YRA.cons st (YR.tup (YRA.cons st YR.lit (YRA.cons st (YR.tup (YRA.cons st yv (YRA.cons st (YT.yr (YT.cat st (YR.yt (ns := [(-1)]) YR.lit) (YT.rest yt) (by simp [one]; omega))) YRA.nil))) YRA.nil))) (YRA.cons st YR.lit (YRA.cons st YR.lit (YRA.cons st YR.lit YRA.nil)))))
end
section
variable {P : Program} {w : World} {K : PySem.W.Frag} {mg : Str → Option Value} {base : Heap} {T : List (Addr × Str)}
theorem der_rf {f fC : Addr} {cdv : Value} {dC : FuncData} {A : Around} {outer : List Env} {s : Shared} {H : Hp} {E : XK} (N : Nm mg) (GC : FnG P w K mg base CX0 8 fC dC ["_law_width", "_law_terms_here"] (spCa K T)) (mC : mg "_law_caught" = some (.ref fC)) (kC : PySem.W.keepIn K (.ref fC) = true) (bC : Binds K dC ["_law_width", "_law_terms_here"] [])
    (hg : (A.deeper (envOfC "_law_refused" (defScope sRf) s.heap.objs.size f cdv)).guards = some []) (hr : Room 8 (A.deeper (envOfC "_law_refused" (defScope sRf) s.heap.objs.size f cdv))) :
    PSs (cxOf CX0 P w K mg base nRf "_law_refused" (defScope sRf) f cdv A outer s H E).nox (defBody sRf) (tRf K T) := by
  have hu := hr.units
  refine pss_cons (ps_set (i := 2) scRf.nd rfl (.inl rfl) (pe_op op_repTA (pe_tup (pa_cons pe_int pa_nil)) (pv 0))) ?_
  refine pss_cons (ps_for PassesOwn.never rfl (pi_list (pe_lstF (lits_pa rfl))) (pg_name (i := 3) scRf.nd rfl (Or.inl rfl))
    (pss_one (ps_if (PW.pt (pw_or (pt_cmpR (Vf.op_neD hu) (pe_callG GC hg hr rfl mC kC bC .nil pass0 (pa_cons (pv 3) (pa_cons pe_non pa_nil))) (pe_lst (pa_cons pe_int (pa_cons (pe_callB (call_reprD hg hu) (by rfl) N.rep boot_repr (pa_cons (pv 3) pa_nil)) pa_nil))) (nomark _))
      (pw_or1 (pt_cmpR (Vf.op_neD hu) (pe_callG GC hg hr rfl mC kC bC .nil pass0 (pa_cons (pv 3) (pa_cons (pe_callTy call_listF (by rfl) N.lst PyProof.Rows.boot_list (pa_cons (pv 1) pa_nil)) pa_nil))) (pe_lst (pa_cons pe_int (pa_cons (pe_callB (call_reprD hg hu) (by rfl) N.rep boot_repr (pa_cons (pv 3) pa_nil)) pa_nil))) (nomark _))))) (pss_one (ps_ret pe_bl)) pss_nil))) ?_
  refine pss_cons (ps_for PassesOwn.never rfl (pi_list (pe_lstF (pa_cons (lit_pe rfl) (pa_cons (lit_pe rfl) (pa_cons (pe_callTy call_tuple_of (by rfl) N.tup PyProof.Rows.boot_tuple (pa_cons (pv 1) pa_nil)) (pa_cons (lit_pe rfl) (pa_cons (lit_pe rfl) (pa_cons (lit_pe rfl) pa_nil)))))))) (pg_name (i := 3) scRf.nd rfl (Or.inl rfl))
    (pss_one (ps_if (pt_cmpR (Vf.op_neD hu) (pe_callG GC hg hr rfl mC kC bC .nil pass0 (pa_cons (pv 0) (pa_cons (pv 3) pa_nil))) (pe_lst (pa_cons pe_int (pa_cons (pe_callB (call_reprD hg hu) (by rfl) N.rep boot_repr (pa_cons (pv 3) pa_nil)) pa_nil))) (nomark _)) (pss_one (ps_ret pe_bl)) pss_nil))) ?_
  refine pss_cons (ps_set (i := 4) scRf.nd rfl (.inl rfl) (pe_lstF (pa_cons (lit_pe rfl) (pa_cons (lit_pe rfl) (pa_cons (lit_pe rfl) (pa_cons (lit_pe rfl) (pa_cons (pe_lstF (pa_cons (lit_pe rfl) (pa_cons (pe_tup (pa_cons (pv 2) pa_nil)) pa_nil))) (pa_cons (pe_tup (pa_cons (lit_pe rfl) (pa_cons (pe_lstF (pa_cons (pv 2) pa_nil)) pa_nil))) (pa_cons (pe_tup (pa_cons (lit_pe rfl) (pa_cons (pe_tup (pa_cons (pe_callTy call_listF (by rfl) N.lst PyProof.Rows.boot_list (pa_cons (pv 2) pa_nil)) pa_nil)) pa_nil))) (pa_cons (pe_tup (pa_cons (lit_pe rfl) (pa_cons (pe_tup (pa_cons (pv 2) pa_nil)) (pa_cons (lit_pe rfl) pa_nil)))) pa_nil)))))))))) ?_
  refine pss_cons (ps_set (i := 4) scRf.nd rfl (.inl rfl) (pe_op op_catF (pv 4) (pe_lstF (pa_cons (pe_tup (pa_cons (lit_pe rfl) (pa_cons (pe_tup (pa_cons (pv 2) pa_nil)) pa_nil))) (pa_cons (lit_pe rfl) (pa_cons (pe_tup (pa_cons (lit_pe rfl) (pa_cons (pe_tup (pa_cons (lit_pe rfl) (pa_cons (pv 2) pa_nil))) pa_nil))) (pa_cons (pe_tup (pa_cons (lit_pe rfl) (pa_cons (pe_tup (pa_cons (pe_op op_repTA (pe_tup (pa_cons (pe_un un_neg pe_int) pa_nil)) (pv 0)) (pa_cons (pv 2) pa_nil))) pa_nil))) pa_nil))))))) ?_
  refine pss_cons (ps_set (i := 4) scRf.nd rfl (.inl rfl) (pe_op op_catF (pv 4) (pe_lstF (pa_cons (pe_tup (pa_cons (lit_pe rfl) (pa_cons (pe_tup (pa_cons (pe_op op_catA (pe_slice sl_tupA (pv 2) po_none (po_some (pe_un un_neg pe_int))) (lit_pe rfl)) pa_nil)) pa_nil))) (pa_cons (pe_tup (pa_cons (lit_pe rfl) (pa_cons (pe_tup (pa_cons (pv 2) (pa_cons (pe_op op_repTA (pe_tup (pa_cons pe_non pa_nil)) (pv 0)) (pa_cons (pv 2) pa_nil)))) pa_nil))) pa_nil))))) ?_
  refine pss_cons (ps_set (i := 4) scRf.nd rfl (.inl rfl) (pe_op op_catF (pv 4) (pe_lstF (pa_cons (lit_pe rfl) (pa_cons (lit_pe rfl) (pa_cons (pe_tup (pa_cons (lit_pe rfl) (pa_cons (pe_tup (pa_cons (pv 2) pa_nil)) pa_nil))) (pa_cons (pe_tup (pa_cons (lit_pe rfl) (pa_cons (pe_tup (pa_cons (pe_op op_repTA (pe_tup (pa_cons (pe_un un_neg pe_int) pa_nil)) (pv 0)) pa_nil)) pa_nil))) (pa_cons (pe_tup (pa_cons (lit_pe rfl) (pa_cons (pe_tup (pa_cons (pe_op op_catA (pv 2) (lit_pe rfl)) pa_nil)) pa_nil))) pa_nil)))))))) ?_
  refine pss_cons (ps_set (i := 4) scRf.nd rfl (.inl rfl) (pe_op op_catF (pv 4) (pe_lstF (pa_cons (pe_tup (pa_cons (lit_pe rfl) (pa_cons (pe_tup (pa_cons (pe_slice sl_tupA (pv 2) (po_some pe_int) po_none) pa_nil)) pa_nil))) pa_nil)))) ?_
  refine pss_cons (ps_set (i := 4) scRf.nd rfl (.inl rfl) (pe_op op_catF (pv 4) (pe_lstF (pa_cons (pe_tup (pa_cons (lit_pe rfl) (pa_cons (pe_tup (pa_cons (pe_op op_repTA (pe_tup (pa_cons pe_bl pa_nil)) (pv 0)) pa_nil)) pa_nil))) (pa_cons (pe_tup (pa_cons (lit_pe rfl) (pa_cons (pe_tup (pa_cons (pe_op op_repTA (pe_tup (pa_cons pe_non pa_nil)) (pv 0)) pa_nil)) pa_nil))) (pa_cons (lit_pe rfl) (pa_cons (lit_pe rfl) (pa_cons (lit_pe rfl) pa_nil)))))))) ?_
  refine pss_cons (ps_set (i := 4) scRf.nd rfl (.inl rfl) (pe_op op_catF (pv 4) (pe_lstF (pa_cons (pe_tup (pa_cons (pe_tup (pa_cons (lit_pe rfl) (pa_cons (pe_tup (pa_cons (pv 2) pa_nil)) pa_nil))) pa_nil)) pa_nil)))) ?_
  refine pss_cons (ps_for PassesOwn.never rfl (pi_list (pe_op op_catF (pv 4) (pe_lstF (pa_cons (pe_tup (pa_cons (lit_pe rfl) (pa_cons (pe_tup (pa_cons (pv 2) (pa_cons (lit_pe rfl) pa_nil))) pa_nil))) (pa_cons (pe_tup (pa_cons (lit_pe rfl) (pa_cons (pe_tup (pa_cons (pv 2) (pa_cons (pe_op op_catA (lit_pe rfl) (pe_slice sl_tupA (pv 2) (po_some pe_int) po_none)) pa_nil))) pa_nil))) (pa_cons (lit_pe rfl) (pa_cons (lit_pe rfl) (pa_cons (lit_pe rfl) pa_nil)))))))) (pg_name (i := 3) scRf.nd rfl (Or.inl rfl))
    (pss_one (ps_if (pt_cmpR (Vf.op_neD hu) (pe_callG GC hg hr rfl mC kC bC .nil pass0 (pa_cons (pv 0) (pa_cons (pe_op op_catF (pe_callTy call_listF (by rfl) N.lst PyProof.Rows.boot_list (pa_cons (pv 1) pa_nil)) (pe_lstF (pa_cons (pv 3) (pa_cons pe_non pa_nil)))) pa_nil))) (pe_lst (pa_cons pe_int (pa_cons (pe_callB (call_reprD hg hu) (by rfl) N.rep boot_repr (pa_cons (pv 3) pa_nil)) pa_nil))) (nomark _)) (pss_one (ps_ret pe_bl)) pss_nil))) ?_
  exact pss_one (ps_ret (pe_cmpR op_isN (pe_callG GC hg hr rfl mC kC bC .nil pass0 (pa_cons (pv 0) (pa_cons (pe_callTy call_listF (by rfl) N.lst PyProof.Rows.boot_list (pa_cons (pv 1) pa_nil)) pa_nil))) pe_non (nomark _)))
end
end L2.Fo

/-! # what does not fit: the walks read -/
namespace L2.Fo
open PySem PySem.Spec PyProof.Rows L2.Vf L2.Dw L2.Ch L2.Nk L2.Lt
/-- the terms, the letter, the tables of code stand -/
structure RfC (K : PySem.W.Frag) (T : List (Addr × Str)) (H : Hp) (a lt : Addr) (rs : List Trm) (n : Nat) : Prop where
  n1 : 1 ≤ n
  n2 : n ≤ 2
  ts : TsAt K H a rs
  hl : rs.length ≤ 100
  sm : ∀ r ∈ rs, Sml n r.2
  tb : LamX.Tabs T H
  sh : Sh K H (.ref lt) (dL n) []
theorem RfC.mono {K : PySem.W.Frag} {T : List (Addr × Str)} {H H' : Hp} {a lt : Addr} {rs : List Trm} {n : Nat} (h : RfC K T H a lt rs n) (s : Same H H') : RfC K T H' a lt rs n := ⟨h.n1, h.n2, h.ts.mono s, h.hl, h.sm, h.tb.ext s, sh_mono h.sh s⟩
theorem wid_yes {n : Nat} (n1 : 1 ≤ n) (n2 : n ≤ 2) : widD (.int (n : Nat)) = true := by
  show (decide (1 ≤ (n : Int)) && decide ((n : Int) ≤ 2)) = true
  rw [decide_eq_true (by omega), decide_eq_true (by omega)]
  rfl
theorem let_yes {n : Nat} {l : List Int} (h : Ltr n l) : letD n (dLine l) = true := by
  show (((l.map PyData.int).length == n && (l.map PyData.int).all isI) && (l.map PyData.int).all nonD) = true
  rw [Bool.and_eq_true, Bool.and_eq_true]
  refine ⟨⟨by rw [List.length_map, h.1]; simp, ?_⟩, ?_⟩
  · rw [List.all_eq_true]
    intro d hd
    obtain ⟨i, _, rfl⟩ := List.mem_map.mp hd
    rfl
  · rw [List.all_eq_true]
    intro d hd
    obtain ⟨i, hi, rfl⟩ := List.mem_map.mp hd
    exact decide_eq_true (h.2 i hi).1
theorem sml_term {n : Nat} {t : Int × Wd} (h : ∀ l ∈ t.2, Ltr n l) : termD n (dTrm t) = true := by
  show (isI (.int t.1) && (t.2.map dLine).all (letD n)) = true
  rw [Bool.and_eq_true]
  refine ⟨rfl, ?_⟩
  rw [List.all_eq_true]
  intro d hd
  obtain ⟨l, hl, rfl⟩ := List.mem_map.mp hd
  exact let_yes (h l hl)
theorem sml_all {n : Nat} {us : List (Int × Wd)} (h : ∀ t ∈ us, ∀ l ∈ t.2, Ltr n l) : (us.map dTrm).all (termD n) = true := by
  rw [List.all_eq_true]
  intro d hd
  obtain ⟨t, ht, rfl⟩ := List.mem_map.mp hd
  exact sml_term (h t ht)
theorem RfC.tm {K : PySem.W.Frag} {T : List (Addr × Str)} {H : Hp} {a lt : Addr} {rs : List Trm} {n : Nat} (h : RfC K T H a lt rs n) : ((rs.map (·.2)).map dTrm).all (termD n) = true := sml_all fun t ht => by
  obtain ⟨r, hr, rfl⟩ := List.mem_map.mp ht
  exact (h.sm r hr).2.2
abbrev sg (n : Nat) (a lt : Addr) (x3 x4 : Option V) : St := [some (.int (n : Nat)), some (.ref a), some (.ref lt), x3, x4]
section
variable {K : PySem.W.Frag} {T : List (Addr × Str)} {H H0 : Hp} {σ : St} {n : Nat} {a lt : Addr} {rs : List Trm} {x3 x4 : Option V} {D : Ends}
theorem odds_add {G : Addr} {L : List Itm} {ds ds2 : List PyData} {ta : TA} (h4 : σ[4]? = some (some (.ref G))) (eG : H G = some (.lst (L.map (·.v)))) (m : Made K H0 H L ds) (y : YRA K (Same H) σ ta ds2) (hl : ds.length + ds2.length ≤ 900) {Q : VK}
    (q : ∀ G' l2 H', Same H H' → Made K H0 H' (L ++ l2) (ds ++ ds2) → H0 G' = none → H' G' = some (.lst ((L ++ l2).map (·.v))) → (∀ it ∈ L ++ l2, G' ∉ it.as) → Q (.ref G') H') : tOp rCatF (tVar 4) (tLstF ta) σ H Q := by
  refine ⟨_, h4, y H _ (Same.refl H) fun l2 H1 m2 => ?_⟩
  have ll : L.length = ds.length := by rw [← m.ds, List.length_map]
  have ll2 : l2.length = ds2.length := by rw [← m2.ds, List.length_map]
  refine ⟨by rw [List.length_map, ll2, sizeLine_eq]; omega, fun p hp np => ⟨G, p, _, _, rfl, rfl, same_new hp _ _ (m2.same _ _ eG), upd_same, by rw [List.length_map, List.length_map, ll, ll2, sizeLine_eq]; omega, fun G' hG' nG' => ?_⟩⟩
  have sP := same_new (o := .lst (l2.map (·.v))) hp
  have sG := same_new (o := .lst (L.map (·.v) ++ l2.map (·.v))) hG'
  have m12 := m.app (Same.refl H) m2
  refine q G' l2 _ (m2.same.trans (sP.trans sG)) (made_mono m12 (sP.trans sG)) ((m12.same.trans sP).free hG') (by rw [upd_same, List.map_append]) fun it hit ha => ?_
  obtain ⟨xs, e, _⟩ := (m12.ok it hit).live _ ha
  have := sP _ _ e
  rw [hG'] at this
  cases this
theorem same_stb {H : Hp} : Stb (Same H) := fun _ _ h s => h.trans s
theorem yv_of (c : RfC K T H a lt rs n) : YR K (Same H) (sg n a lt x3 x4) (tVar 2) (dL n) := YR.var rfl (fun _ s => sh_mono c.sh s) fun ds e => by cases e
theorem yw_of : Tl (sg n a lt x3 x4) (tVar 0) (.int (n : Nat)) := fun H Q q => ⟨_, rfl, q⟩
theorem okD_mem {ds : List PyData} {p : PyData → Bool} {L : List Itm} {H0 H1 : Hp} {it : Itm} (h : ds.all (fun d => okD d && p d) = true) (m : Made K H0 H1 L ds) (hit : it ∈ L) : OkD it.d it.as ∧ p it.d = true := by
  have hd : it.d ∈ L.map (·.d) := List.mem_map.mpr ⟨it, hit, rfl⟩
  rw [m.ds] at hd
  have := List.all_eq_true.mp h _ hd
  rw [Bool.and_eq_true] at this
  exact ⟨okD_is this.1 fun a ha => (m.new it hit a ha).2, this.2⟩
/-- the end: what fits is made -/
theorem rfE (c : RfC K T H a lt rs n) (q : ∀ H', LamX.ExtN H H' → LamX.Tabs T H' → D.rt (.bl true) H') : tRfE K T D (sg n a lt x3 x4) H := by
  refine ⟨_, rfl, ls_run (σ := sg n a lt x3 x4) rfl c.ts fun B hB nB tsB => ?_⟩
  have sB := same_new (o := .lst (rs.map fun r => V.ref r.1)) hB
  refine ⟨⟨.int (n : Nat), .int (n : Nat), []⟩, ⟨.ref B, .list ((rs.map (·.2)).map dTrm), [B]⟩, rfl, ok_nolist (.int _) (fun ds e => by cases e), ts_item tsB upd_same (by have := c.hl; omega), c.tb.ext sB, .inl ⟨n, rs.map (·.2), rfl, wid_yes c.n1 c.n2, rfl, c.tm, ?_, fun H' e t => ⟨rfl, ?_⟩⟩⟩
  · rw [List.length_map, sizeLine_eq]
    have := c.hl
    omega
  · exact q H' (fun b o hb ho => e b o (sB _ _ hb) ho) t
end
end L2.Fo

/-! # what does not fit: the walks read -/
namespace L2.Fo
open PySem PySem.Spec PyProof.Rows L2.Vf L2.Dw L2.Ch L2.Nk L2.Lt
section
variable {K : PySem.W.Frag} {T : List (Addr × Str)} {H H0 : Hp} {σ : St} {n : Nat} {a lt : Addr} {rs : List Trm} {x3 x4 : Option V} {D : Ends}
theorem rfC {G : Addr} {L : List Itm} (c : RfC K T H a lt rs n) (eG : H G = some (.lst (L.map (·.v)))) (m : Made K H0 H L (((((((o1 n ++ o2 n) ++ o3 n) ++ o4 n) ++ o5 n) ++ o6 n) ++ o7 n))) (c0 : RfC K T H0 a lt rs n) (q : ∀ H', LamX.ExtN H0 H' → LamX.Tabs T H' → D.rt (.bl true) H') :
    tRfC K T D (sg n a lt x3 (some (.ref G))) H := by
  refine odds_add (σ := sg n a lt x3 (some (.ref G))) rfl eG m (ya8 (yv_of c) yw_of same_stb c.n1 c.n2) (by show (26 : Nat) + 5 ≤ 900; decide) fun G' l2 H1 s1 m1 n0 e1 nG => ?_
  refine ⟨G', rfl, ⟨_, SqL.of e1⟩, ?_⟩
  refine odds_loop (L := L ++ l2) (σ0 := sg n a lt none (some (.ref G))) (i0 := 3) (show 3 < 5 by decide) e1 nG m1.ok m1.apart (fun it hit H2 N fr ok2 k => ?_) (fun o3 H2 fr => ?_) x3
  · have s2 : Same H0 H2 := frm_same m1 fr
    have c2 := c0.mono s2
    obtain ⟨w, hw⟩ := okD_mem (p := fun d => !termD n d) (tbC c.n1 c.n2) m1 hit
    exact turnC (σ := sg n a lt (some it.v) (some (.ref G))) c.n1 c.n2 rfl rfl rfl ok2 w (by simpa using hw) c2.ts c2.tm (by have := c.hl; omega) c2.tb fun H3 f3 => k H3 f3
  · have s2 : Same H0 H2 := frm_same m1 fr
    show tRfE K T D (sg n a lt o3 (some (.ref G))) H2
    exact rfE (c0.mono s2) fun H' e t => q H' (fun b o hb ho => e b o (s2 _ _ hb) ho) t
end
end L2.Fo

/-! # what does not fit: the walks read -/
namespace L2.Fo
open PySem PySem.Spec PyProof.Rows L2.Vf L2.Dw L2.Ch L2.Nk L2.Lt
section
variable {K : PySem.W.Frag} {T : List (Addr × Str)} {H H0 : Hp} {σ : St} {n : Nat} {a lt : Addr} {rs : List Trm} {x3 x4 : Option V} {D : Ends}
theorem add_step {ta : TA} {u : TS} {G : Addr} {L : List Itm} {ds ds2 : List PyData} (eG : H G = some (.lst (L.map (·.v)))) (m : Made K H0 H L ds) (y : YRA K (Same H) (sg n a lt x3 (some (.ref G))) ta ds2) (hl : ds.length + ds2.length ≤ 900)
    (k : ∀ G' l2 H', Same H H' → Made K H0 H' (L ++ l2) (ds ++ ds2) → H' G' = some (.lst ((L ++ l2).map (·.v))) → u D (sg n a lt x3 (some (.ref G'))) H') : tSeq (tAdd4 ta) u D (sg n a lt x3 (some (.ref G))) H := by
  refine odds_add (σ := sg n a lt x3 (some (.ref G))) rfl eG m y hl fun G' l2 H' s m' _ e _ => ?_
  exact k G' l2 H' s m' e
theorem first_step {ta : TA} {u : TS} {ds : List PyData} (y : YRA K (Same H) (sg n a lt x3 x4) ta ds) (hl : ds.length ≤ 900)
    (k : ∀ G' l2 H', Same H H' → Made K H H' l2 ds → H' G' = some (.lst (l2.map (·.v))) → u D (sg n a lt x3 (some (.ref G'))) H') : tSeq (tAsg (tLstF ta) (gName 4)) u D (sg n a lt x3 x4) H := by
  refine y H _ (Same.refl H) fun l1 H1 m1 => ?_
  have ll : l1.length = ds.length := by rw [← m1.ds, List.length_map]
  refine ⟨by rw [List.length_map, ll, sizeLine_eq]; omega, fun p hp np => ?_⟩
  have sp := same_new (o := .lst (l1.map (·.v))) hp
  exact k p l1 _ (m1.same.trans sp) (made_mono m1 sp) upd_same
theorem rfD (c : RfC K T H a lt rs n) (q : ∀ H', LamX.ExtN H H' → LamX.Tabs T H' → D.rt (.bl true) H') : tRfD K T D (sg n a lt x3 x4) H := by
  unfold tRfD
  refine first_step (ya1 (yv_of c) yw_of same_stb c.n1 c.n2) (by show (8 : Nat) ≤ 900; decide) fun G1 l1 H1 s1 m1 e1 => ?_
  have c1 := c.mono s1
  refine add_step e1 m1 (ya2 (yv_of c1) yw_of same_stb c.n1 c.n2) (by show (8 : Nat) + 4 ≤ 900; decide) fun G2 l2 H2 s2 m2 e2 => ?_
  have c2 := c1.mono s2
  refine add_step e2 m2 (ya3 (yv_of c2) yw_of same_stb c.n1 c.n2) (by show (12 : Nat) + 2 ≤ 900; decide) fun G3 l3 H3 s3 m3 e3 => ?_
  have c3 := c2.mono s3
  refine add_step e3 m3 (ya4 (yv_of c3) yw_of same_stb c.n1 c.n2) (by show (14 : Nat) + 5 ≤ 900; decide) fun G4 l4 H4 s4 m4 e4 => ?_
  have c4 := c3.mono s4
  refine add_step e4 m4 (ya5 (yv_of c4) yw_of same_stb c.n1 c.n2) (by show (19 : Nat) + 1 ≤ 900; decide) fun G5 l5 H5 s5 m5 e5 => ?_
  have c5 := c4.mono s5
  refine add_step e5 m5 (ya6 (yv_of c5) yw_of same_stb c.n1 c.n2) (by show (20 : Nat) + 5 ≤ 900; decide) fun G6 l6 H6 s6 m6 e6 => ?_
  have c6 := c5.mono s6
  refine add_step e6 m6 (ya7 (yv_of c6) yw_of same_stb c.n1 c.n2) (by show (25 : Nat) + 1 ≤ 900; decide) fun G7 l7 H7 s7 m7 e7 => ?_
  exact rfC (c6.mono s7) e7 m7 c q
end
end L2.Fo

/-! # what does not fit: the whole def -/
namespace L2.Fo
open PySem PySem.Spec PyProof.Rows L2.Vf L2.Dw L2.Ch L2.Nk L2.Lt
def oB (us : List (Int × Wd)) : List PyData := [.none, .int 3, .tuple (us.map dTrm), .str "", .dict [], .bool true]
section
variable {K : PySem.W.Frag} {T : List (Addr × Str)} {H H0 : Hp} {σ : St} {n : Nat} {a lt : Addr} {rs : List Trm} {x3 x4 : Option V} {D : Ends}
/-- tuple(the terms), as a thing -/
theorem y_tupT {R : Hp → Prop} (h1 : σ[1]? = some (some (.ref a))) (h : ∀ H, R H → TsAt K H a rs) : YR K R σ (tCB (rTupT K) (tCons (tVar 1) tNil)) (.tuple ((rs.map fun r : Trm => r.2).map dTrm)) := fun H Q r q => by
  have ts := h H r
  refine ⟨_, h1, a, _, rfl, .inl ⟨ts.1, fun B hB => ?_⟩⟩
  have sB := same_new (o := .tup (rs.map fun r => V.ref r.1)) hB
  exact q ⟨.ref B, .tuple ((rs.map fun r : Trm => r.2).map dTrm), []⟩ _ sB (ok_nolist (.tup (SqT.of upd_same) (trms_shs fun r hr => (ts.2 r hr).ext (.of sB))) fun ds e => by cases e) fresh_nil rfl
theorem yaB (c : RfC K T H a lt rs n) : YRA K (Same H) (sg n a lt x3 x4) (taB K) (oB (rs.map fun r : Trm => r.2)) :=
  YRA.cons same_stb YR.lit (YRA.cons same_stb YR.lit (YRA.cons same_stb (y_tupT rfl fun H' s => c.ts.mono s) (YRA.cons same_stb YR.lit (YRA.cons same_stb YR.lit (YRA.cons same_stb YR.lit YRA.nil)))))
theorem okd_lit {d : PyData} {as : List Addr} {p : Bool} (h : okD d && p = true) (f : ∀ a ∈ as, a ≠ sysModules) : OkD d as := okD_is (Bool.and_eq_true_iff.mp h).1 f
theorem okB {it : Itm} {l : List Itm} {H1 : Hp} (c : RfC K T H a lt rs n) (m : Made K H H1 l (oB (rs.map fun r : Trm => r.2))) (hit : it ∈ l) : OkD it.d it.as ∧ (tyD it.d == "list") = false := by
  have f : ∀ b ∈ it.as, b ≠ sysModules := fun b hb => (m.new it hit b hb).2
  have hd : it.d ∈ l.map (·.d) := List.mem_map.mpr ⟨it, hit, rfl⟩
  rw [m.ds] at hd
  unfold oB at hd
  simp only [List.mem_cons, List.not_mem_nil, or_false] at hd
  rcases hd with e | e | e | e | e | e
  · rw [e]; exact ⟨okD_is (by decide +kernel) f, rfl⟩
  · rw [e]; exact ⟨okD_is (by decide +kernel) f, rfl⟩
  · rw [e]
    have sw := Sw.tup (sw_trms (n := n) (ts := rs.map fun r : Trm => r.2) (fun t ht => by
      obtain ⟨r, hr, rfl⟩ := List.mem_map.mp ht
      exact c.sm r hr) c.n2 (by rw [List.length_map]; have := c.hl; omega))
    exact ⟨⟨Sw.wr sw (by decide) (by decide), (hi_trms _).ok, fun ds z => by cases z⟩, rfl⟩
  · rw [e]; exact ⟨okD_is (by decide +kernel) f, rfl⟩
  · rw [e]; exact ⟨okD_is (by decide +kernel) f, rfl⟩
  · rw [e]; exact ⟨okD_is (by decide +kernel) f, rfl⟩
theorem walk_disp {ta : TA} {tb u : TS} {ds : List PyData} (y : YRA K (Same H) (sg n a lt x3 x4) ta ds) (hl : ds.length ≤ 900)
    (hc : ∀ l H1, Made K H H1 l ds → ∀ it ∈ l, ∀ (H2 : Hp) (N : Ends), Frm l H1 H2 → Ok K H2 it → (∀ H3, Fr1 it H2 H3 → N.nx (sg n a lt (some it.v) x4) H3) → tb N (sg n a lt (some it.v) x4) H2)
    (hd : ∀ o3 H2, Same H H2 → u D (sg n a lt o3 x4) H2) : tSeq (tFor (iList K (tLstF ta)) (gName 3) tb) u D (sg n a lt x3 x4) H := by
  refine y H _ (Same.refl H) fun l H1 m => ?_
  have ll : l.length = ds.length := by rw [← m.ds, List.length_map]
  refine ⟨by rw [List.length_map, ll, sizeLine_eq]; omega, fun G hG nG => ⟨G, rfl, ⟨_, SqL.of upd_same⟩, ?_⟩⟩
  have sG := same_new (o := .lst (l.map (·.v))) hG
  have m1 := made_mono m sG
  refine odds_loop (L := l) (σ0 := sg n a lt none x4) (i0 := 3) (show 3 < 5 by decide) upd_same (fun it hit ha => ?_) m1.ok m1.apart (fun it hit H2 N fr ok2 k => hc l _ m1 it hit H2 N fr ok2 k) (fun o3 H2 fr => hd o3 H2 (frm_same m1 fr)) x3
  obtain ⟨xs, e, _⟩ := (m.ok it hit).live _ ha
  rw [hG] at e
  cases e
theorem rfB (c : RfC K T H a lt rs n) (q : ∀ H', LamX.ExtN H H' → LamX.Tabs T H' → D.rt (.bl true) H') : tRfB K T D (sg n a lt x3 x4) H := by
  unfold tRfB
  refine walk_disp (yaB c) (by show (6 : Nat) ≤ 900; decide) (fun l H1 m it hit H2 N fr ok2 k => ?_) fun o3 H2 s2 => ?_
  · obtain ⟨w, hw⟩ := okB c m hit
    exact turnB (σ := sg n a lt (some it.v) x4) c.n1 c.n2 rfl rfl ok2 w hw (c.mono (frm_same m fr)).tb fun H3 f3 => k H3 f3
  · exact rfD (c.mono s2) fun H' e t => q H' (fun b o hb ho => e b o (s2 _ _ hb) ho) t
theorem okA {it : Itm} {l : List Itm} {H1 : Hp} (m : Made K H H1 l oA) (hit : it ∈ l) : OkD it.d it.as ∧ OkD (more it.d) it.as ∧ widD it.d = false ∧ widD (more it.d) = false := by
  have f : ∀ b ∈ it.as, b ≠ sysModules := fun b hb => (m.new it hit b hb).2
  have hd : it.d ∈ l.map (·.d) := List.mem_map.mpr ⟨it, hit, rfl⟩
  rw [m.ds] at hd
  have := List.all_eq_true.mp tbA _ hd
  simp only [Bool.and_eq_true, Bool.not_eq_true'] at this
  exact ⟨okD_is this.1.1.1 f, okD_is this.1.1.2 f, this.1.2, this.2⟩
theorem rfA (c : RfC K T H a lt rs n) (q : ∀ H', LamX.ExtN H H' → LamX.Tabs T H' → D.rt (.bl true) H') : tRfA K T D (sg n a lt x3 x4) H := by
  unfold tRfA
  refine walk_disp (ta := tLits K oA) (ds := oA) YRA.lits (by show (9 : Nat) ≤ 900; decide) (fun l H1 m it hit H2 N fr ok2 k => ?_) fun o3 H2 s2 => ?_
  · have s2 : Same H H2 := frm_same m fr
    obtain ⟨w, w2, hw, hw2⟩ := okA m hit
    refine turnA (a := a) (rs := rs) (σ := sg n a lt (some it.v) x4) rfl rfl ok2 w w2 hw hw2 (fun H3 f3 => ?_) (by have := c.hl; omega) (c.mono s2).tb fun H3 f3 => k H3 f3
    refine c.ts.mono fun b u e => f3 b u (s2 _ _ e) fun hb => ?_
    rw [(m.new it hit b hb).1] at e
    cases e
  · exact rfB (c.mono s2) fun H' e t => q H' (fun b o hb ho => e b o (s2 _ _ hb) ho) t
end
/-- all that does not fit is refused -/
def spRf (K : PySem.W.Frag) (T : List (Addr × Str)) : Sp := fun vs H Q _ => ∃ (n : Nat) (a : Addr) (rs : List Trm), vs = [.int (n : Nat), .ref a] ∧ 1 ≤ n ∧ n ≤ 2 ∧ TsAt K H a rs ∧ rs.length ≤ 100 ∧ (∀ r ∈ rs, Sml n r.2) ∧ LamX.Tabs T H ∧
  ∀ H', LamX.ExtN H H' → LamX.Tabs T H' → Q (.bl true) H'
section
variable {P : Program} {w : World} {K : PySem.W.Frag} {mg : Str → Option Value} {base : Heap} {T : List (Addr × Str)}
theorem ok_rf {f fC : Addr} {fd dC : FuncData} (F : Fun K "_law_refused" "_law_refused" sRf f fd) (N : Nm mg) (GC : FnG P w K mg base CX0 8 fC dC ["_law_width", "_law_terms_here"] (spCa K T)) (mC : mg "_law_caught" = some (.ref fC)) (kC : PySem.W.keepIn K (.ref fC) = true) (bC : Binds K dC ["_law_width", "_law_terms_here"] []) :
    FnG P w K mg base CX0 9 f fd ["_law_width", "_law_terms_here"] (spRf K T) := by
  refine okG F scRf (fun vs H Q E h => ?_) fun cdv A outer s H vs Q E hg hr h => ?_
  · obtain ⟨n, a, rs, rfl, _⟩ := h
    rfl
  · obtain ⟨n, a, rs, rfl, n1, n2, ts, hl, sm, hT, q⟩ := h
    refine ⟨tRf K T, der_rf N GC mC kC bC hg hr, ?_⟩
    refine Yl.tup (K := K) (σ := start nRf [.int n, .ref a]) (k := n) (v := .int 1) (t2 := tVar 0) (fun H Q q => q) (.int 1) (fun H Q q => ⟨_, rfl, q⟩) n1 (by omega) H _ fun i H1 s1 ok1 f1 e1 => ?_
    have sh := ok1.sh
    rw [e1, show (PyData.tuple (List.replicate n (.int 1))) = dL n by unfold dL dLine one; rw [List.map_replicate]] at sh
    obtain ⟨lt, el, hs⟩ := sh_lineT sh
    rw [el]
    show tRfA K T _ (sg n a lt none none) H1
    have c : RfC K T H1 a lt rs n := ⟨n1, n2, ts.mono s1, hl, sm, hT.ext s1, .tup hs (ints_shF _)⟩
    exact rfA c fun H' e t => q H' (fun b o hb ho => e b o (s1 _ _ hb) ho) t
end
end L2.Fo

/-! # what counts as a cell or a row, told: data that is shared; what is due -/
namespace L2.Fo
open PySem PySem.Spec PyProof.Rows L2.Vf L2.Dw L2.Ch L2.Nk L2.Lt
theorem passC {X : Cx} : Passes (L2.CX X.prog X.w) X E0 := fun _ _ _ _ _ _ _ h => by
  obtain ⟨_, _, _, _, _, _, _, _, _, _, _, _, hE⟩ := h
  exact hE.elim
/-- te tells data, whoever else holds it -/
def YS (K : PySem.W.Frag) (R : Hp → Prop) (σ : St) (te : TE) (d : PyData) : Prop := ∀ (H : Hp) (Q : VK), R H → (∀ v as H', Same H H' → Sh K H' v d as → Q v H') → te σ H Q
def YSA (K : PySem.W.Frag) (R : Hp → Prop) (σ : St) (ta : TA) (ds : List PyData) : Prop := ∀ (H : Hp) (Q : List V → Hp → Prop), R H → (∀ vs as H', Same H H' → Shs K H' vs ds as → Q vs H') → ta σ H Q
section
variable {K : PySem.W.Frag} {R : Hp → Prop} {σ : St} {te : TE} {ta : TA} {d : PyData} {ds : List PyData}
theorem shs_mono {K : PySem.W.Frag} {H H' : Hp} {xs : List V} {ds : List PyData} {as : List Addr} (h : Shs K H xs ds as) (s : Same H H') : Shs K H' xs ds as := Lt.shs_stay h fun b u e _ => s b u e
theorem YSA.nil : YSA K R σ tNil [] := fun H Q _ q => q [] [] H (Same.refl H) .nil
theorem YSA.cons (st : Stb R) (h : YS K R σ te d) (t : YSA K R σ ta ds) : YSA K R σ (tCons te ta) (d :: ds) := fun H Q r q =>
  h H _ r fun v as H1 s1 e1 => t H1 _ (st _ _ r s1) fun vs bs H2 s2 e2 => q (v :: vs) (as ++ bs) H2 (s1.trans s2) (.cons (sh_mono e1 s2) e2)
theorem YS.tup (t : YSA K R σ ta ds) (hl : ds.length ≤ 1000 := by exact Nat.le_of_ble_eq_true rfl) : YS K R σ (tTup ta) (.tuple ds) := fun H Q r q =>
  t H _ r fun vs as H1 s1 e1 => ⟨by rw [Shs.length e1, sizeLine_eq]; omega, fun p hp => q _ as _ (s1.trans (same_new hp)) (.tup (SqT.of upd_same) (shs_mono e1 (same_new hp)))⟩
theorem YS.lst (t : YSA K R σ ta ds) (hl : ds.length ≤ 1000 := by exact Nat.le_of_ble_eq_true rfl) : YS K R σ (tLstF ta) (.list ds) := fun H Q r q =>
  t H _ r fun vs as H1 s1 e1 => ⟨by rw [Shs.length e1, sizeLine_eq]; omega, fun p hp _ => q _ (p :: as) _ (s1.trans (same_new hp)) (.lst (SqL.of upd_same) (shs_mono e1 (same_new hp)))⟩
theorem YS.var {v : V} {i : Nat} (hσ : σ[i]? = some (some v)) (h : ∀ H, R H → ∃ as, Sh K H v d as) : YS K R σ (tVar i) d := fun H Q r q => by
  obtain ⟨as, e⟩ := h H r
  exact ⟨_, hσ, q v as H (Same.refl H) e⟩
end
/-! ### what is due -/
abbrev tRp (K : PySem.W.Frag) (t : TE) : TE := tCB (rRepr K) (tCons t tNil)
abbrev tDu1 (K : PySem.W.Frag) : TE := tAndV (tIsT K 2 "tuple") (tEqI (tLenS K 2) (tVar 0))
abbrev tFil (K : PySem.W.Frag) : TE := tLc (iTup K (tVar 2)) (gName 10) (tOr (tB (tIsT K 10 "bool")) (tNot (tB (tIsT K 10 "int")))) (tVar 10) [10]
abbrev tDu2 (K : PySem.W.Frag) : TE := tOp (Vf.rEqD K false) (tFil K) (tLst tNil)
def fil (ds : List PyData) : List PyData := ds.filter fun d => !isI d
theorem fil_snoc (ds : List PyData) (d : PyData) : fil (ds ++ [d]) = if isI d then fil ds else fil ds ++ [d] := by
  unfold fil
  rw [List.filter_append]
  cases h : isI d <;> simp [h]
theorem fil_eqv (ds : List PyData) : PyData.eqv (.list (fil ds)) (.list []) = ds.all isI := by
  show PyData.eqvAll (fil ds) [] = _
  unfold fil
  induction ds with
  | nil => simp [PyData.eqvAll]
  | cons d ds ih =>
    rw [List.filter_cons, List.all_cons]
    cases h : isI d
    · simp [PyData.eqvAll]
    · simpa using ih
section
variable {K : PySem.W.Frag} {H : Hp}
theorem fil_run {σ : St} {b : Addr} {xs : List V} {ds : List PyData} {as : List Addr} (hσ : σ.length = 12) (h2 : σ[2]? = some (some (.ref b))) (hx : SqT K H b xs) (hs : Shs K H xs ds as) (hl : ds.length ≤ 1000) {Q : VK}
    (q : ∀ D ys bs H', Same H H' → SqL K H' D ys → Shs K H' ys (fil ds) bs → Q (.ref D) H') : tFil K σ H Q := by
  refine ⟨_, h2, b, rfl, ⟨_, hx⟩, fun D hD => ?_⟩
  have lx := Shs.length hs
  refine lc_tup (xs := xs) (fun j H' => Same H H' ∧ ∃ ys bs, H' D = some (.lst ys) ∧ Shs K H ys (fil (ds.take j)) bs ∧ ys.length ≤ j) ?_ ?_ ?_ ?_
  · exact ⟨same_new hD, [], [], upd_same, .nil, Nat.le_refl _⟩
  · rintro i H' _ ⟨s, _⟩
    exact sqT_ext (.of s) hx
  · rintro i x H' hi ⟨s, ys, bs, eD, sy, ly⟩
    obtain ⟨d, cs, hd, hsh⟩ := Shs.get hs hi
    have hsh' : Sh K H' x d cs := sh_mono hsh s
    have hi1 : i < ds.length := (List.getElem?_eq_some_iff.mp hd).1
    have et : ds.take (i + 1) = ds.take i ++ [d] := by rw [List.take_add_one, hd]; rfl
    have w : wipe ((wipe σ [10]).set 10 (some x)) [10] = wipe σ [10] := by simp [wipe, List.set_set]
    have g : ((wipe σ [10]).set 10 (some x))[10]? = some (some x) := List.getElem?_set_self (by simp [wipe, hσ])
    refine ⟨w, isT_run g hsh' (kit_bool d) ⟨_, rfl, ?_⟩⟩
    have keep : isI d = false → ∃ acc, H' D = some (.lst acc) ∧ acc.length < sizeLine ∧ (Same H (upd H' D (.lst (acc ++ [x]))) ∧ ∃ ys bs, (upd H' D (.lst (acc ++ [x]))) D = some (.lst ys) ∧ Shs K H ys (fil (ds.take (i + 1))) bs ∧ ys.length ≤ i + 1) := fun hI => by
      refine ⟨ys, eD, by rw [sizeLine_eq]; omega, fun c u e => by rw [upd_ne (ne_of_none e hD)]; exact s _ _ e, ys ++ [x], bs ++ cs, upd_same, ?_, by rw [List.length_append]; simp; omega⟩
      rw [et, fil_snoc, if_neg (by rw [hI]; exact Bool.false_ne_true)]
      exact shs_snoc sy hsh
    have drop : isI d = true → Same H H' ∧ ∃ ys bs, H' D = some (.lst ys) ∧ Shs K H ys (fil (ds.take (i + 1))) bs ∧ ys.length ≤ i + 1 := fun hI => by
      refine ⟨s, ys, bs, eD, ?_, by omega⟩
      rw [et, fil_snoc, if_pos hI]
      exact sy
    cases d with
    | bool b => exact iteT (iteT ⟨_, g, keep rfl⟩)
    | int k => exact iteF (isT_run g hsh' (kit_int _) ⟨_, rfl, iteF (drop rfl)⟩)
    | _ => exact iteF (isT_run g hsh' (kit_int _) ⟨_, rfl, iteT ⟨_, g, keep rfl⟩⟩)
  · rintro H' ⟨s, ys, bs, eD, sy, _⟩
    rw [List.take_of_length_le (by omega)] at sy
    exact q D ys bs H' s (SqL.of eD) (shs_mono sy s)
end
end L2.Fo

/-! # what counts as a cell or a row, told: one thing -/
namespace L2.Fo
open PySem PySem.Spec PyProof.Rows L2.Vf L2.Dw L2.Ch L2.Nk L2.Lt
def tupN (n : Nat) : PyData → Bool
  | .tuple ds => ds.length == n
  | _ => false
abbrev tGd (K : PySem.W.Frag) : TE := tOp (rRepTA K) (tTup (tCons (tC (.int 7)) tNil)) (tVar 0)
abbrev tRws (K : PySem.W.Frag) : TE := tLstF (tCons (tLstF (tCons (tVar 2) tNil)) (tCons (tLstF (tCons (tVar 4) (tCons (tVar 2) tNil))) (tCons (tLstF (tCons (tVar 2) (tCons (tVar 4) tNil))) (tCons (tLstF (tCons (tVar 4) (tCons (tVar 2) (tCons (tVar 4) tNil)))) (tCons (tTup (tCons (tVar 2) tNil)) (tCons (tVar 2) (tCons (tLstF (tCons (tLstF (tCons (tVar 2) tNil)) tNil)) tNil)))))))
abbrev tLcR (K : PySem.W.Frag) (CN : Addr) : TE := tLc (iList K (tVar 5)) (gName 11) tYes (tCall (spIs K CN rowD) [] E0 (tCons (tVar 11) (tCons (tVar 0) tNil))) [11]
abbrev tDus : TE := tOp rCatF (tOp rRepF (tLstF (tCons (tVar 3) tNil)) (tC (.int 4))) (tOp rRepF (tLstF (tCons (tC (.bl false)) tNil)) (tC (.int 3)))
def tU1c (K : PySem.W.Frag) (CN : Addr) : TS := tSeq (tAsg (tRws K) (gName 5)) (tIfS (tTest (tOp rNe (tRp K (tLcR K CN)) (tRp K tDus))) (tRet (tC (.bl false))) tNext)
def tU1b (K : PySem.W.Frag) (CN : Addr) : TS := tSeq (tIfS (tTest (tOp rNe (tRp K (tCall (spIs K CN cellD) [] E0 (tCons (tVar 2) (tCons (tVar 0) tNil)))) (tRp K (tVar 3)))) (tRet (tC (.bl false))) tNext) (tSeq (tAsg (tGd K) (gName 4)) (tU1c K CN))
def tU1 (K : PySem.W.Frag) (CN : Addr) : TS := tSeq (tAsg (tDu1 K) (gName 3)) (tSeq (tIfS (tB (tVar 3)) (tAsg (tDu2 K) (gName 3)) tNext) (tU1b K CN))
abbrev su (n : Nat) (x1 x2 x3 x4 x5 x6 x7 x8 x9 : Option V) : St := [some (.int (n : Nat)), x1, x2, x3, x4, x5, x6, x7, x8, x9, none, none]
abbrev dG (n : Nat) : PyData := .tuple (List.replicate n (.int 7))
def dRws (n : Nat) (d : PyData) : List PyData := [.list [d], .list [dG n, d], .list [d, dG n], .list [dG n, d, dG n], .tuple [d], d, .list [.list [d]]]
theorem cell_G (n : Nat) : cellD n (dG n) = true := by
  show ((List.replicate n (PyData.int 7)).length == n && (List.replicate n (PyData.int 7)).all isI) = true
  rw [List.length_replicate, Bool.and_eq_true]
  refine ⟨by simp, ?_⟩
  rw [List.all_eq_true]
  intro x hx
  rw [(List.mem_replicate.mp hx).2]
  rfl
theorem rows_due {n : Nat} {d : PyData} (h : rowD n d = false) : (dRws n d).map (rowD n) = List.replicate 4 (cellD n d) ++ List.replicate 3 false := by
  have g := cell_G n
  have e1 : rowD n (.list [d]) = cellD n d := by simp [rowD]
  have e2 : rowD n (.list [dG n, d]) = cellD n d := by simp [rowD, g]
  have e3 : rowD n (.list [d, dG n]) = cellD n d := by simp [rowD, g]
  have e4 : rowD n (.list [dG n, d, dG n]) = cellD n d := by simp [rowD, g]
  have e5 : rowD n (.tuple [d]) = false := rfl
  have e7 : rowD n (.list [.list [d]]) = false := by simp [rowD, cellD]
  unfold dRws
  simp only [List.map_cons, List.map_nil, e1, e2, e3, e4, e5, e7, h]
  rfl
section
variable {K : PySem.W.Frag} {H : Hp} {n : Nat} {CN : Addr} {v : V} {d : PyData} {as : List Addr} {x1 x2 x3 x4 x5 x6 x7 x8 x9 : Option V} {N : Ends}
theorem bools_shs : ∀ bs : List Bool, Shs K H (bs.map V.bl) (bs.map .bool) []
  | [] => .nil
  | b :: bs => .cons (as := []) (bs := []) (.bl b) (bools_shs bs)
theorem bools_wr {bs : List Bool} {as : List Addr} (h : bs.length ≤ 100) : Wr (.list (bs.map .bool)) as := by
  have := Sw.lst (Sws.of (f := PyData.bool) (b := 0) (k := 0) (xs := bs) fun x _ => Sw.bool)
  exact Sw.wr this (by simp; omega) (by decide)
theorem rows_run {σ : St} {Rw : Addr} {xs : List V} {ds : List PyData} (hσ : σ.length = 12) (n1 : 1 ≤ n) (n2 : n ≤ 2) (h0 : σ[0]? = some (some (.int (n : Nat)))) (h5 : σ[5]? = some (some (.ref Rw))) (hx : SqL K H Rw xs) (hs : Shs K H xs ds as) (hl : ds.length ≤ 1000) {Q : VK}
    (q : ∀ D H', Same H H' → SqL K H' D ((ds.map (rowD n)).map V.bl) → Q (.ref D) H') : tLcR K CN σ H Q := by
  refine ⟨_, h5, Rw, rfl, ⟨_, hx⟩, fun D hD => ?_⟩
  have lx := Shs.length hs
  refine lc_list (xs := xs) (fun j H' => Same H H' ∧ H' D = some (.lst (((ds.take j).map (rowD n)).map V.bl))) ?_ ?_ ?_ ?_
  · exact ⟨same_new hD, upd_same⟩
  · rintro i H' _ ⟨s, _⟩
    exact sqL_ext (.of s) hx
  · rintro i x H' hi ⟨s, eD⟩
    obtain ⟨d, cs, hd, hsh⟩ := Shs.get hs hi
    have hi1 : i < ds.length := (List.getElem?_eq_some_iff.mp hd).1
    have et : ds.take (i + 1) = ds.take i ++ [d] := by rw [List.take_add_one, hd]; rfl
    have w : wipe ((wipe σ [11]).set 11 (some x)) [11] = wipe σ [11] := by simp [wipe, List.set_set]
    have g : ((wipe σ [11]).set 11 (some x))[11]? = some (some x) := List.getElem?_set_self (by simp [wipe, hσ])
    have g0 : ((wipe σ [11]).set 11 (some x))[0]? = some (some (.int (n : Nat))) := by
      rw [List.getElem?_set_ne (by decide)]
      show (σ.set 11 none)[0]? = _
      rw [List.getElem?_set_ne (by decide)]
      exact h0
    refine ⟨w, _, g, _, g0, x, .int (n : Nat), d, .int (n : Nat), cs, [], rfl, sh_mono hsh s, .int _, .inr ⟨n, rfl, wid_yes n1 n2, _, eD, ?_, fun c u e => ?_, ?_⟩⟩
    · rw [List.length_map, List.length_map, List.length_take, sizeLine_eq]
      omega
    · rw [upd_ne (ne_of_none e hD)]
      exact s _ _ e
    · rw [upd_same, et, List.map_append, List.map_append]
      rfl
  · rintro H' ⟨s, eD⟩
    rw [List.take_of_length_le (by omega)] at eD
    exact q D H' s (SqL.of eD)
theorem due1_run {σ : St} (h0 : σ[0]? = some (some (.int (n : Nat)))) (h2 : σ[2]? = some (some v)) (sh : Sh K H v d as) {Q : VK} (q : Q (.bl (tupN n d)) H) : tDu1 K σ H Q := by
  refine isT_run (i := 2) h2 sh (kit_tuple d) ⟨_, rfl, ?_⟩
  cases d with
  | tuple ds =>
    refine iteT ?_
    cases sh with
    | @tup a xs _ _ g1 g2 =>
      refine ⟨_, h2, a, _, rfl, .inr g1, _, h0, _, _, rfl, rfl, ?_⟩
      show Q (.bl (decide ((xs.length : Int) = (n : Int)))) H
      rw [Shs.length g2, len_eq]
      exact q
  | _ => exact iteF q
theorem due2_run {σ : St} {ds : List PyData} (hσ : σ.length = 12) (h2 : σ[2]? = some (some v)) (sh : Sh K H v (.tuple ds) as) (hl : ds.length ≤ 1000) (hsd : SeqAt.shaped (.list (fil ds)) = true) {Q : VK} (q : ∀ H', Same H H' → Q (.bl (ds.all isI)) H') : tDu2 K σ H Q := by
  cases sh with
  | @tup a xs _ _ g1 g2 =>
    refine fil_run (Q := fun v H1 => tLst tNil σ H1 fun y H2 => Vf.rEqD K false v y H2 Q) hσ h2 g1 g2 hl fun D ys bs H1 s1 eD sy => ⟨by show 0 ≤ sizeLine; omega, fun E hE => ?_⟩
    have sE := same_new (o := .lst []) hE
    refine ⟨.list (fil ds), .list [], _, _, .lst (sqL_ext (.of sE) eD) (shs_mono sy sE), .lst (SqL.of upd_same) .nil, hsd, rfl, ?_⟩
    rw [(if_neg Bool.false_ne_true).trans (fil_eqv ds)]
    exact q _ (s1.trans sE)
theorem rp_bool {σ : St} {t : TE} {b : Bool} {Q : VK} (h : ∀ Q1 : VK, Q1 (.bl b) H → t σ H Q1) (q : Q (.str (PyData.bool b).shown) H) : tRp K t σ H Q :=
  h _ ⟨.bl b, .bool b, [], rfl, .bl b, Sw.wr (b := 0) (k := 0) Sw.bool (by decide) (by decide), q⟩
theorem ne_same {x : Str} {Q : Bool → Hp → Prop} (q : Q false H) : rNe (.str x) (.str x) H fun z H' => ∃ k, z = .bl k ∧ Q k H' := by
  refine ⟨rfl, _, rfl, ?_⟩
  rw [decide_eq_true rfl]
  exact q
end
end L2.Fo

/-! # what counts as a cell or a row, told: one thing, read -/
namespace L2.Fo
open PySem PySem.Spec PyProof.Rows L2.Vf L2.Dw L2.Ch L2.Nk L2.Lt
section
variable {K : PySem.W.Frag} {H : Hp} {σ : St} {t a b : TE} {c : TT} {u w : TS} {D : Ends} {Q : VK} {Qb : Bool → Hp → Prop}
theorem rp_def (h : t σ H fun x H1 => rRepr K [x] H1 Q) : tRp K t σ H Q := h
theorem ne_def (h : a σ H fun x H1 => b σ H1 fun y H2 => rNe x y H2 fun z H3 => ∃ k, z = .bl k ∧ Qb k H3) : tTest (tOp rNe a b) σ H Qb := h
theorem if_def (h : c σ H fun b H1 => if b = true then u D σ H1 else w D σ H1) : tIfS c u w D σ H := h
theorem asg_def {i : Nat} (h : t σ H fun x H1 => D.nx (σ.set i (some x)) H1) : tAsg t (gName i) D σ H := h
theorem seq_asg {i : Nat} (h : t σ H fun x H1 => w D (σ.set i (some x)) H1) : tSeq (tAsg t (gName i)) w D σ H := h
theorem seq_if (h : c σ H fun b H1 => if b = true then u { D with nx := w D } σ H1 else w D σ H1) : tSeq (tIfS c u tNext) w D σ H := h
theorem seq_ifA {i : Nat} (h : c σ H fun b H1 => if b = true then t σ H1 fun x H2 => w D (σ.set i (some x)) H2 else w D σ H1) : tSeq (tIfS c (tAsg t (gName i)) tNext) w D σ H := h
end
section
variable {K : PySem.W.Frag} {H : Hp} {n : Nat} {CN : Addr} {v : V} {d : PyData} {as : List Addr} {x1 x2 x3 x4 x5 x6 x7 x8 x9 : Option V} {N : Ends} {G : Addr}
theorem dus_run {σ : St} {c : Bool} (h3 : σ[3]? = some (some (.bl c))) : YlF σ tDus ((List.replicate 4 c ++ List.replicate 3 false).map V.bl) := by
  have y1 := (YlF.one (σ := σ) (v := .bl c) (t := tVar 3) fun H Q q => ⟨_, h3, q⟩).rep (k := 4) (t2 := tC (.int 4)) (fun H Q q => q) (by decide) (by simp)
  have y2 := (YlF.one (σ := σ) (v := .bl false) (t := tC (.bl false)) fun H Q q => q).rep (k := 3) (t2 := tC (.int 3)) (fun H Q q => q) (by decide) (by decide)
  exact y1.cat y2 (by simp) (by simp)
theorem u1c_run (n1 : 1 ≤ n) (n2 : n ≤ 2) (sh : Sh K H v d as) (sg : Sh K H (.ref G) (dG n) []) (hr : rowD n d = false) (q : ∀ H' x5, Same H H' → N.nx (su n x1 (some v) (some (.bl (cellD n d))) (some (.ref G)) x5 x6 x7 x8 x9) H') :
    tU1c K CN N (su n x1 (some v) (some (.bl (cellD n d))) (some (.ref G)) x5 x6 x7 x8 x9) H := by
  have st : Stb (Same H) := same_stb
  have y2 : YS K (Same H) (su n x1 (some v) (some (.bl (cellD n d))) (some (.ref G)) x5 x6 x7 x8 x9) (tVar 2) d := YS.var rfl fun H' s => ⟨as, sh_mono sh s⟩
  have y4 : YS K (Same H) (su n x1 (some v) (some (.bl (cellD n d))) (some (.ref G)) x5 x6 x7 x8 x9) (tVar 4) (dG n) := YS.var rfl fun H' s => ⟨[], sh_mono sg s⟩
  have y : YS K (Same H) (su n x1 (some v) (some (.bl (cellD n d))) (some (.ref G)) x5 x6 x7 x8 x9) (tRws K) (.list (dRws n d)) :=
    YS.lst (YSA.cons st (YS.lst (YSA.cons st y2 YSA.nil)) (YSA.cons st (YS.lst (YSA.cons st y4 (YSA.cons st y2 YSA.nil))) (YSA.cons st (YS.lst (YSA.cons st y2 (YSA.cons st y4 YSA.nil))) (YSA.cons st (YS.lst (YSA.cons st y4 (YSA.cons st y2 (YSA.cons st y4 YSA.nil)))) (YSA.cons st (YS.tup (YSA.cons st y2 YSA.nil)) (YSA.cons st y2 (YSA.cons st (YS.lst (YSA.cons st (YS.lst (YSA.cons st y2 YSA.nil)) YSA.nil)) YSA.nil)))))))
  refine seq_asg ?_
  refine y H _ (Same.refl H) fun vR bR H1 s1 shR => ?_
  cases shR with
  | @lst Rw xs _ bs h1 h2 =>
    show tIfS (tTest (tOp rNe (tRp K (tLcR K CN)) (tRp K tDus))) (tRet (tC (.bl false))) tNext N (su n x1 (some v) (some (.bl (cellD n d))) (some (.ref G)) (some (.ref Rw)) x6 x7 x8 x9) H1
    refine if_def (ne_def (rp_def ?_))
    refine rows_run (n := n) rfl n1 n2 rfl rfl h1 h2 (by show (7 : Nat) ≤ 1000; decide) fun D H2 s2 eD => ?_
    rw [rows_due hr] at eD
    refine ⟨.ref D, .list ((List.replicate 4 (cellD n d) ++ List.replicate 3 false).map .bool), _, rfl, .lst eD (bools_shs _), bools_wr (by simp), ?_⟩
    refine rp_def ?_
    refine dus_run (c := cellD n d) rfl H2 _ fun p H3 hp np s3 e3 => ?_
    refine ⟨.ref p, .list ((List.replicate 4 (cellD n d) ++ List.replicate 3 false).map .bool), _, rfl, .lst (SqL.of e3) (bools_shs _), bools_wr (by simp), ?_⟩
    exact ne_same (iteF (q H3 _ (s1.trans (s2.trans s3))))
theorem u1b_run (n1 : 1 ≤ n) (n2 : n ≤ 2) (sh : Sh K H v d as) (hr : rowD n d = false) (q : ∀ H' x4 x5, Same H H' → N.nx (su n x1 (some v) (some (.bl (cellD n d))) x4 x5 x6 x7 x8 x9) H') :
    tU1b K CN N (su n x1 (some v) (some (.bl (cellD n d))) x4 x5 x6 x7 x8 x9) H := by
  refine seq_if (ne_def (rp_def ?_))
  refine ⟨_, rfl, _, rfl, v, .int (n : Nat), d, .int (n : Nat), as, [], rfl, sh, .int _, .inr ⟨n, rfl, wid_yes n1 n2, ?_⟩⟩
  refine ⟨.bl (cellD n d), .bool (cellD n d), [], rfl, .bl _, Sw.wr (b := 0) (k := 0) Sw.bool (by decide) (by decide), ?_⟩
  refine rp_def ⟨_, rfl, .bl (cellD n d), .bool (cellD n d), [], rfl, .bl _, Sw.wr (b := 0) (k := 0) Sw.bool (by decide) (by decide), ?_⟩
  refine ne_same (iteF ?_)
  refine seq_asg ?_
  refine Yl.tup (K := K) (k := n) (v := .int 7) (fun H Q q => q) (.int 7) (fun H Q q => ⟨_, rfl, q⟩) n1 (by omega) H _ fun i H1 s1 ok1 f1 e1 => ?_
  have shg := ok1.sh
  rw [e1, show (PyData.tuple (List.replicate n (.int 7))) = dLine (List.replicate n 7) by unfold dLine; rw [List.map_replicate]] at shg
  obtain ⟨G, eG, hG⟩ := sh_lineT shg
  rw [eG]
  have sg : Sh K H1 (.ref G) (dG n) [] := by
    have := Sh.tup hG (ints_shF (K := K) (H := H1) (List.replicate n 7))
    rw [List.map_replicate (f := PyData.int)] at this
    exact this
  show tU1c K CN N (su n x1 (some v) (some (.bl (cellD n d))) (some (.ref G)) x5 x6 x7 x8 x9) H1
  exact u1c_run n1 n2 (sh_mono sh s1) sg hr fun H' x5 s => q H' _ x5 (s1.trans s)
theorem tup_cell {ds : List PyData} (h : tupN n (.tuple ds) = true) : cellD n (.tuple ds) = ds.all isI := by
  show (ds.length == n && ds.all isI) = _
  rw [show (ds.length == n) = true from h]
  rfl
theorem tup_no (h : tupN n d = false) : cellD n d = false := by
  cases d with
  | tuple ds =>
    show (ds.length == n && ds.all isI) = _
    rw [show (ds.length == n) = false from h]
    rfl
  | _ => rfl
/-- what is asked of a thing -/
def askD (n : Nat) (d : PyData) : Bool := !rowD n d && (match d with
  | .tuple ds => SeqAt.shaped (.list (fil ds)) && decide (ds.length ≤ 1000)
  | _ => true)
theorem u1_run (n1 : 1 ≤ n) (n2 : n ≤ 2) (sh : Sh K H v d as) (ha : askD n d = true) (q : ∀ H' x3 x4 x5, Same H H' → N.nx (su n x1 (some v) x3 x4 x5 x6 x7 x8 x9) H') :
    tU1 K CN N (su n x1 (some v) x3 x4 x5 x6 x7 x8 x9) H := by
  unfold askD at ha
  rw [Bool.and_eq_true] at ha
  have hr : rowD n d = false := by simpa using ha.1
  refine seq_asg ?_
  refine due1_run rfl rfl sh ?_
  show tSeq (tIfS (tB (tVar 3)) (tAsg (tDu2 K) (gName 3)) tNext) (tU1b K CN) N (su n x1 (some v) (some (.bl (tupN n d))) x4 x5 x6 x7 x8 x9) H
  refine seq_ifA ⟨_, rfl, _, rfl, ?_⟩
  cases e : tupN n d with
  | false =>
    refine iteF ?_
    have e2 := tup_no e
    show tU1b K CN N (su n x1 (some v) (some (.bl false)) x4 x5 x6 x7 x8 x9) H
    rw [← e2]
    exact u1b_run n1 n2 sh hr fun H' x4 x5 s => q H' _ x4 x5 s
  | true =>
    refine iteT ?_
    cases d with
    | tuple ds =>
      rw [Bool.and_eq_true] at ha
      refine due2_run rfl rfl sh (of_decide_eq_true ha.2.2) ha.2.1 fun H1 s1 => ?_
      show tU1b K CN N (su n x1 (some v) (some (.bl (ds.all isI))) x4 x5 x6 x7 x8 x9) H1
      rw [← tup_cell e]
      exact u1b_run n1 n2 (sh_mono sh s1) hr fun H' x4 x5 s => q H' _ x4 x5 (s1.trans s)
    | _ => cases e
end
end L2.Fo

/-! # what counts as a cell or a row: widths that are none, refused -/
namespace L2.Fo
open PySem PySem.Spec PyProof.Rows L2.Vf L2.Dw L2.Ch L2.Nk L2.Lt
abbrev rIsN : R2 := fun x y H Q => y = .non ∧ Q (.bl (decide (x = .non))) H
abbrev tCaC (K : PySem.W.Frag) (CN : Addr) (W : WX) : TE := tCallSD (spIs K CN cellD) [] (WE W) (tCons (tVar 2) (tCons (tVar 6) tNil))
abbrev tCaR' (K : PySem.W.Frag) (CN : Addr) (W : WX) : TE := tCallSD (spIs K CN rowD) [] (WE W) (tCons (tVar 2) (tCons (tVar 6) tNil))
def tHd (K : PySem.W.Frag) (CN : Addr) : TS := fun D σ H => (fun W => tIfS (tB (tEqI (tVar 7) (tC (.int 0)))) (tDrop (tCaC K CN W)) (tDrop (tCaR' K CN W))) (wHold K (.ref CN) 9 (fun _ _ _ => tAsg (tVar 9) (gName 8)) D) D σ H
def tU2 (K : PySem.W.Frag) (CN : Addr) : TS := tSeq (tAsg (tC .non) (gName 8)) (tSeq (tHd K CN) (tIfS (tOr (tTest (tOp rIsN (tVar 8) (tC .non))) (tTest (tOp rNe (tRp K (tErG K "value" (tVar 8))) (tRp K (tVar 6))))) (tRet (tC (.bl false))) tNext))
section
variable {K : PySem.W.Frag} {H : Hp} {n : Nat} {CN : Addr} {v vo : V} {d e : PyData} {as bs : List Addr} {x1 x2 x3 x4 x5 x6 x7 x8 x9 : Option V} {N : Ends}
theorem u2_run {j : Int} (xc : ExcC K CN) (no : PySem.W.findIn K (.ref CN) "value" = some none) (ex : PySem.W.exmOne K (.ref CN) (.ref CN) = some true) (sh : Sh K H v d as) (so : Sh K H vo e bs) (wo : Wr e bs) (hw : widD e = false)
    (q : ∀ H' x8, Same H H' → N.nx (su n x1 (some v) x3 x4 x5 (some vo) (some (.int j)) x8 none) H') : tU2 K CN N (su n x1 (some v) x3 x4 x5 (some vo) (some (.int j)) x8 x9) H := by
  refine seq_asg ?_
  show tSeq (tHd K CN) _ N (su n x1 (some v) x3 x4 x5 (some vo) (some (.int j)) (some .non) x9) H
  have fin : ∀ x, H x = none → wHold K (.ref CN) 9 (fun _ _ _ => tAsg (tVar 9) (gName 8)) { N with nx := (tIfS (tOr (tTest (tOp rIsN (tVar 8) (tC .non))) (tTest (tOp rNe (tRp K (tErG K "value" (tVar 8))) (tRp K (tVar 6))))) (tRet (tC (.bl false))) tNext) N } (.ref CN) (some x)
      (su n x1 (some v) x3 x4 x5 (some vo) (some (.int j)) (some .non) x9) (upd H x (.xd [("value", vo)])) := fun x hx => by
    refine ⟨ex, fun a ha => ⟨_, rfl, ?_⟩⟩
    have s1 := same_new (o := .xd [("value", vo)]) hx
    have s2 := same_new (o := exoG a (.ref CN) (some x)) ha
    have ea : (upd (upd H x (.xd [("value", vo)])) a (exoG a (.ref CN) (some x))) a = some (exoG a (.ref CN) (some x)) := upd_same
    have ex' : (upd (upd H x (.xd [("value", vo)])) a (exoG a (.ref CN) (some x))) x = some (.xd [("value", vo)]) := s2 _ _ upd_same
    show tIfS (tOr (tTest (tOp rIsN (tVar 8) (tC .non))) (tTest (tOp rNe (tRp K (tErG K "value" (tVar 8))) (tRp K (tVar 6))))) (tRet (tC (.bl false))) tNext N (su n x1 (some v) x3 x4 x5 (some vo) (some (.int j)) (some (.ref a)) none) (upd (upd H x (.xd [("value", vo)])) a (exoG a (.ref CN) (some x)))
    refine if_def ⟨_, rfl, rfl, _, rfl, iteF (ne_def (rp_def ?_))⟩
    refine ⟨_, rfl, a, CN, x, _, vo, rfl, ea, ex', rfl, xc, no, ?_⟩
    refine ⟨vo, e, bs, rfl, sh_mono so (s1.trans s2), wo, ?_⟩
    refine rp_def ⟨_, rfl, vo, e, bs, rfl, sh_mono so (s1.trans s2), wo, ?_⟩
    exact ne_same (iteF (q _ _ (s1.trans s2)))
  refine ⟨_, rfl, _, _, rfl, rfl, _, rfl, ?_⟩
  refine ite2 (fun _ => ?_) fun _ => ?_
  · exact ⟨_, rfl, _, rfl, v, vo, d, e, as, bs, rfl, sh, so, .inl ⟨hw, fin⟩⟩
  · exact ⟨_, rfl, _, rfl, v, vo, d, e, as, bs, rfl, sh, so, .inl ⟨hw, fin⟩⟩
/-- a walk that changes nothing -/
theorem calm_loop {L : List Itm} {He : Hp} {σ0 : St} {G : Addr} {tb : TS} {D : Ends} {i0 : Nat} (S : St → Prop) (h0 : S σ0) (hG : SqL K He G (L.map (·.v)))
    (hc : ∀ it ∈ L, ∀ (σ : St) (H1 : Hp) (N : Ends), S σ → Same He H1 → (∀ σ' H2, S σ' → Same H1 H2 → N.nx σ' H2) → tb N (σ.set i0 (some it.v)) H1)
    (hd : ∀ σ H', S σ → Same He H' → D.nx σ H') :
    ∃ W : Nat → Nat → St → Hp → Prop, (∃ m, W 0 m σ0 He) ∧ ∀ i m σ H, W i m σ H →
      ((Itl K G).stop i H ∧ D.nx σ H) ∨ ((Itl K G).go i H ∧ ∃ N : St → Hp → Prop, (∀ σ' H', N σ' H' → ∃ m', m' < m ∧ W (i + 1) m' σ' H') ∧ ∀ x H', (Itl K G).yld i H x H' → gName i0 x σ H' fun σ2 H2 => tb { D with nx := N, ct := N, bk := D.nx } σ2 H2) := by
  refine for_list (xs := L.map (·.v)) (fun n σ H' => S σ ∧ Same He H') ⟨h0, Same.refl He⟩ (fun n σ H' _ hP => sqL_ext (.of hP.2) hG) (fun n x σ H' hx hP => ?_) fun σ H' hP => hd σ H' hP.1 hP.2
  rw [List.getElem?_map] at hx
  obtain ⟨it, e, rfl⟩ := Option.map_eq_some_iff.mp hx
  exact hc it (List.mem_of_getElem? e) σ H' _ hP.1 hP.2 fun σ' H2 hs s2 => ⟨hs, hP.2.trans s2⟩
theorem calm_for {tb : TS} {D : Ends} {i0 : Nat} {ds : List PyData} {σ0 : St} (S : St → Prop) (h0 : S σ0) (hl : ds.length ≤ 900)
    (hc : ∀ l H0, Made K H H0 l ds → ∀ it ∈ l, ∀ (σ : St) (H1 : Hp) (N : Ends), S σ → Same H0 H1 → (∀ σ' H2, S σ' → Same H1 H2 → N.nx σ' H2) → tb N (σ.set i0 (some it.v)) H1)
    (hd : ∀ σ H', S σ → Same H H' → D.nx σ H') : tFor (iList K (tLstF (tLits K ds))) (gName i0) tb D σ0 H := by
  intro l H1 m
  have ll : l.length = ds.length := by rw [← m.ds, List.length_map]
  refine ⟨by rw [List.length_map, ll, sizeLine_eq]; omega, fun G hG nG => ⟨G, rfl, ⟨_, SqL.of upd_same⟩, ?_⟩⟩
  have sG := same_new (o := .lst (l.map (·.v))) hG
  have m1 := made_mono m sG
  exact calm_loop (L := l) S h0 (SqL.of upd_same) (fun it hit σ H2 N hs s2 k => hc l _ m1 it hit σ H2 N hs s2 k) fun σ H' hs s2 => hd σ H' hs (m1.same.trans s2)
end
end L2.Fo

/-! # what counts as a cell or a row: the whole def -/
namespace L2.Fo
open PySem PySem.Spec PyProof.Rows L2.Vf L2.Dw L2.Ch L2.Nk L2.Lt
abbrev sU : Stmt := top 39
abbrev nU : List Str := ["_law_width", "_law_cells", "_law_thing", "_law_due", "_law_good", "_law_rows", "_law_odd", "_law_door", "_law_caught_here", "e", "_law_part", "_law_row"]
theorem scU : FnScope nU ["_law_width"] (defScope sU) := ⟨rfl, rfl, rfl, by decide +kernel, rfl, by decide +kernel, by decide +kernel⟩
def cA : List PyData := [.tuple [.int 0], .tuple [.int 3, .int 4], .tuple [.int (-5)], .tuple [.int 1, .int (-2)], .tuple [], .tuple [.int 1, .int 2, .int 3], .list [.int 1], .none, .int 3, .str "1", .tuple [.bool true], .tuple [.int 1, .bool true], .tuple [.none]]
def cB : List PyData := [.tuple [.str "1", .int 2], .dict [], .list [.int 1, .int 2]]
def cU : List PyData := [.tuple [.int (10 ^ 19)], .tuple [.int (10 ^ 19), .int 0]]
def cO : List PyData := [.none, .int 0, .int 3, .bool true, .str "1", .list [.int 1], .dict []]
def cT : List PyData := [.tuple [.int 1], .list [.tuple [.int 1]], .none, .list [], .str "1", .list [.none], .int 3]
theorem ask1 : ((cA ++ cB) ++ cU).all (askD 1) = true := by decide +kernel
theorem ask2 : ((cA ++ cB) ++ cU).all (askD 2) = true := by decide +kernel
theorem tbO : cO.all (fun d => okD d && !widD d && d.showable && decide (d.depth ≤ 50) && decide (d.shown.length ≤ 1000)) = true := by decide +kernel
abbrev tPow : TE := tOp (rI (fun i j => 0 ≤ j ∧ (Builtin.Int.intBits i : Int) * j ≤ 2 ^ 27) fun i j => .int (i ^ j.toNat)) (tC (.int 10)) (tC (.int 19))
abbrev taU : TA := tCons (tTup (tCons tPow tNil)) (tCons (tTup (tCons tPow (tCons (tC (.int 0)) tNil))) tNil)
def tUe (K : PySem.W.Frag) (CN : Addr) : TS := tRet (tOp rEq (tRp K (tCall (spIs K CN rowD) [] E0 (tCons (tLst tNil) (tCons (tVar 0) tNil)))) (tC (.str "True")))
def tUd (K : PySem.W.Frag) (CN : Addr) : TS := tFor (iRng1 (tCons (tC (.int 2)) tNil)) (gName 7) (tU2 K CN)
def tUt (K : PySem.W.Frag) (CN : Addr) : TS := tFor (iList K (tLstF (tLits K cT))) (gName 2) (tUd K CN)
def tUo (K : PySem.W.Frag) (CN : Addr) : TS := tSeq (tFor (iList K (tLstF (tLits K cO))) (gName 6) (tUt K CN)) (tUe K CN)
def tUc (K : PySem.W.Frag) (CN : Addr) : TS := tSeq (tFor (iList K (tOp rCatF (tVar 1) (tLstF taU))) (gName 2) (tU1 K CN)) (tUo K CN)
def tUr (K : PySem.W.Frag) (CN : Addr) : TS := tSeq (tAsg (tLstF (tLits K cA)) (gName 1)) (tSeq (tAsg (tOp rCatF (tVar 1) (tLstF (tLits K cB))) (gName 1)) (tUc K CN))
section
variable {P : Program} {w : World} {K : PySem.W.Frag} {mg : Str → Option Value} {base : Heap}
theorem der_u {CN iN f fC fR : Addr} {cdv : Value} {dIN dC dR : FuncData} {A : Around} {outer : List Env} {s : Shared} {H : Hp} {E : XK} (N : Nm mg) (EN : ErT P w K mg base "InvalidNumber" CN iN dIN)
    (GC : FnOk P w K mg base (L2.CX P w) 4 fC dC ["value", "width"] (spIs K CN cellD)) (mC : mg "is_cell" = some (.ref fC)) (kC : PySem.W.keepIn K (.ref fC) = true) (bC : Binds K dC ["value", "width"] [])
    (GR : FnOk P w K mg base (L2.CX P w) 5 fR dR ["value", "width"] (spIs K CN rowD)) (mR : mg "is_row" = some (.ref fR)) (kR : PySem.W.keepIn K (.ref fR) = true) (bR : Binds K dR ["value", "width"] [])
    (hg : (A.deeper (envOfC "_law_told_right" (defScope sU) s.heap.objs.size f cdv)).guards = some []) (hr : Room 5 (A.deeper (envOfC "_law_told_right" (defScope sU) s.heap.objs.size f cdv))) :
    PSs (cxOf CX0 P w K mg base nU "_law_told_right" (defScope sU) f cdv A outer s H E).nox (defBody sU) (tUr K CN) := by
  have hu := hr.units
  have hr4 := hr.mono (show 4 ≤ 5 by decide)
  refine pss_cons (ps_set (i := 1) scU.nd rfl (.inl rfl) (pe_lstF (lits_pa rfl))) ?_
  refine pss_cons (ps_set (i := 1) scU.nd rfl (.inl rfl) (pe_op op_catF (pv 1) (pe_lstF (lits_pa rfl)))) ?_
  refine pss_cons (ps_for PassesOwn.never rfl (pi_list (pe_op op_catF (pv 1) (pe_lstF (pa_cons (pe_tup (pa_cons (pe_op op_powW pe_int pe_int) pa_nil)) (pa_cons (pe_tup (pa_cons (pe_op op_powW pe_int pe_int) (pa_cons pe_int pa_nil))) pa_nil))))) (pg_name (i := 2) scU.nd rfl (Or.inl rfl)) ?_) ?_
  · refine pss_cons (ps_set (i := 3) scU.nd rfl (.inl rfl) (pe_and (pe_callB call_isi (by rfl) N.isi boot_isi (pa_cons (pv 2) (pa_cons (pe_bltn (v := V.ty "tuple") (by rfl) N.tup PyProof.Rows.boot_tuple (by rfl)) pa_nil))) (pe_one (pe_cmp (pc_eqI (pe_callB call_len_seq (by rfl) N.len PySem.boot_len (pa_cons (pv 2) pa_nil)) (pv 0)) rfl)))) ?_
    refine pss_cons (ps_if (pt_val (pv 3)) (pss_one (ps_set (i := 3) scU.nd rfl (.inl rfl) (pe_cmpR (Vf.op_eqD hu) (pe_lc (own := [("_law_part", 10)]) (g := gName 10) (tt := tOr (tB (tIsT K 10 "bool")) (tNot (tB (tIsT K 10 "int")))) (te := tVar 10) rfl scU.nd (pi_tup (pv 2)) (blkOk_by (N := nU) (sc := defScope sU) (by decide +kernel))
      (fun _ _ _ _ _ => pg_name (i := 10) scU.nd rfl (Or.inl rfl)) (fun _ _ _ _ _ => pts_one (PW.pt (pw_or (pt_val (pe_callB call_isi (by rfl) N.isi boot_isi (pa_cons (pv 10) (pa_cons (pe_bltn (v := V.ty "bool") (by rfl) N.bool PyProof.Rows.Boot.«bool» (by rfl)) pa_nil)))) (pw_or1 (pt_not (pt_val (pe_callB call_isi (by rfl) N.isi boot_isi (pa_cons (pv 10) (pa_cons (pe_bltn (v := V.ty "int") (by rfl) N.int PyProof.Rows.boot_int (by rfl)) pa_nil))))))))) (fun _ _ _ _ _ => pv 10)) (pe_lst pa_nil) (nomark _)))) pss_nil) ?_
    refine pss_cons (ps_if (pt_cmpR op_ne (pe_callB (call_reprD hg hu) (by rfl) N.rep boot_repr (pa_cons (pe_call GC hr4 rfl mC kC bC .nil passC (pa_cons (pv 2) (pa_cons (pv 0) pa_nil))) pa_nil)) (pe_callB (call_reprD hg hu) (by rfl) N.rep boot_repr (pa_cons (pv 3) pa_nil)) (nomark _)) (pss_one (ps_ret pe_bl)) pss_nil) ?_
    refine pss_cons (ps_set (i := 4) scU.nd rfl (.inl rfl) (pe_op op_repTA (pe_tup (pa_cons pe_int pa_nil)) (pv 0))) ?_
    refine pss_cons (ps_set (i := 5) scU.nd rfl (.inl rfl) (pe_lstF (pa_cons (pe_lstF (pa_cons (pv 2) pa_nil)) (pa_cons (pe_lstF (pa_cons (pv 4) (pa_cons (pv 2) pa_nil))) (pa_cons (pe_lstF (pa_cons (pv 2) (pa_cons (pv 4) pa_nil))) (pa_cons (pe_lstF (pa_cons (pv 4) (pa_cons (pv 2) (pa_cons (pv 4) pa_nil)))) (pa_cons (pe_tup (pa_cons (pv 2) pa_nil)) (pa_cons (pv 2) (pa_cons (pe_lstF (pa_cons (pe_lstF (pa_cons (pv 2) pa_nil)) pa_nil)) pa_nil))))))))) ?_
    exact pss_one (ps_if (pt_cmpR op_ne (pe_callB (call_reprD hg hu) (by rfl) N.rep boot_repr (pa_cons (pe_lc (own := [("_law_row", 11)]) (g := gName 11) (tt := tYes) (te := tCall (spIs K CN rowD) [] E0 (tCons (tVar 11) (tCons (tVar 0) tNil))) rfl scU.nd (pi_list (pv 5)) (blkOk_by (N := nU) (sc := defScope sU) (by decide +kernel))
      (fun _ _ _ _ _ => pg_name (i := 11) scU.nd rfl (Or.inl rfl)) (fun _ _ _ _ _ => pts_nil) (fun _ _ _ _ _ => pe_call GR hr rfl mR kR bR .nil passC (pa_cons (pv 11) (pa_cons (pv 0) pa_nil)))) pa_nil))
      (pe_callB (call_reprD hg hu) (by rfl) N.rep boot_repr (pa_cons (pe_op op_catF (pe_op op_repF (pe_lstF (pa_cons (pv 3) pa_nil)) pe_int) (pe_op op_repF (pe_lstF (pa_cons pe_bl pa_nil)) pe_int)) pa_nil)) (nomark _)) (pss_one (ps_ret pe_bl)) pss_nil)
  refine pss_cons (ps_for PassesOwn.never rfl (pi_list (pe_lstF (lits_pa rfl))) (pg_name (i := 6) scU.nd rfl (Or.inl rfl)) (pss_one (ps_for PassesOwn.never rfl (pi_list (pe_lstF (lits_pa rfl))) (pg_name (i := 2) scU.nd rfl (Or.inl rfl)) (pss_one (ps_for PassesOwn.never rfl (pi_range1 (by rfl) N.rng (pa_cons pe_int pa_nil)) (pg_name (i := 7) scU.nd rfl (Or.inl rfl)) ?_))))) ?_
  · refine pss_cons (ps_set (i := 8) scU.nd rfl (.inl rfl) pe_non) ?_
    refine pss_cons (ps_hold (i := 9) (c := .ref CN) (tb := fun W => tIfS (tB (tEqI (tVar 7) (tC (.int 0)))) (tDrop (tCaC K CN W)) (tDrop (tCaR' K CN W))) (ts := fun _ _ _ => tAsg (tVar 9) (gName 8)) rfl rfl rfl scU.nd rfl rfl ⟨rfl, by decide, .inl EN.mg_⟩ (fun W pn xe tk _ => pss_one (ps_if (pt_cmp (pc_eqI (pv 7) pe_int)) (pss_one (ps_expr (pe_callSD GC hr4 rfl mC kC bC .nil (fun σ => passAt tk σ) (pa_cons (pv 2) (pa_cons (pv 6) pa_nil))))) (pss_one (ps_expr (pe_callSD GR hr rfl mR kR bR .nil (fun σ => passAt tk σ) (pa_cons (pv 2) (pa_cons (pv 6) pa_nil))))))) (fun a oe cls d pn hz hf => pss_one (ps_set (i := 8) scU.nd rfl (.inl rfl) (pv 9)))) ?_
    exact pss_one (ps_if (PW.pt (pw_or (pt_cmpR op_isN (pv 8) pe_non (nomark _)) (pw_or1 (pt_cmpR op_ne (pe_callB (call_reprD hg hu) (by rfl) N.rep boot_repr (pa_cons (pe_erG (pv 8)) pa_nil)) (pe_callB (call_reprD hg hu) (by rfl) N.rep boot_repr (pa_cons (pv 6) pa_nil)) (nomark _))))) (pss_one (ps_ret pe_bl)) pss_nil)
  exact pss_one (ps_ret (pe_cmpR op_eq (pe_callB (call_reprD hg hu) (by rfl) N.rep boot_repr (pa_cons (pe_call GR hr rfl mR kR bR .nil passC (pa_cons (pe_lst pa_nil) (pa_cons (pv 0) pa_nil))) pa_nil)) pe_str (nomark _)))
end
end L2.Fo

/-! # what counts as a cell or a row: read -/
namespace L2.Fo
open PySem PySem.Spec PyProof.Rows L2.Vf L2.Dw L2.Ch L2.Nk L2.Lt
def S0 (n : Nat) : St → Prop := fun σ => ∃ x1 x2 x3 x4 x5 x6 x7 x8 x9, σ = su n x1 x2 x3 x4 x5 x6 x7 x8 x9
def S6 (n : Nat) (vo : V) : St → Prop := fun σ => ∃ x1 x2 x3 x4 x5 x7 x8 x9, σ = su n x1 x2 x3 x4 x5 (some vo) x7 x8 x9
def S26 (n : Nat) (v vo : V) : St → Prop := fun σ => ∃ x1 x3 x4 x5 x7 x8 x9, σ = su n x1 (some v) x3 x4 x5 (some vo) x7 x8 x9
/-- what the class of the error says -/
structure NumT (K : PySem.W.Frag) (CN : Addr) : Prop where
  xc : ExcC K CN
  no : PySem.W.findIn K (.ref CN) "value" = some none
  ex : PySem.W.exmOne K (.ref CN) (.ref CN) = some true
section
variable {K : PySem.W.Frag} {H : Hp} {n : Nat} {CN : Addr} {v vo : V} {d e : PyData} {as bs : List Addr} {σ : St} {D : Ends}
theorem true_shown : V.str (PyData.bool true).shown = V.str "True" := by
  have : (PyData.bool true).shown = (("True" : String) : Str) := by decide +kernel
  rw [this]
theorem ue_run (n1 : 1 ≤ n) (n2 : n ≤ 2) (h0 : σ[0]? = some (some (.int (n : Nat)))) (q : ∀ H', Same H H' → D.rt (.bl true) H') : tUe K CN D σ H := by
  refine ⟨by show 0 ≤ sizeLine; omega, fun E hE => ⟨_, h0, .ref E, .int (n : Nat), .list [], .int (n : Nat), _, [], rfl, .lst (SqL.of upd_same) .nil, .int _, .inr ⟨n, rfl, wid_yes n1 n2, ?_⟩⟩⟩
  refine ⟨.bl true, .bool true, [], rfl, .bl _, Sw.wr (b := 0) (k := 0) Sw.bool (by decide) (by decide), ?_⟩
  refine ⟨rfl, ?_⟩
  rw [decide_eq_true true_shown]
  exact q _ (same_new hE)
theorem ud_run (T : NumT K CN) (hS : S26 n v vo σ) (sh : Sh K H v d as) (so : Sh K H vo e bs) (wo : Wr e bs) (hw : widD e = false) (q : ∀ σ' H', S26 n v vo σ' → Same H H' → D.nx σ' H') : tUd K CN D σ H := by
  refine ⟨2, rfl, by decide, by decide, ?_⟩
  refine for_range (lo := 0) (n := 2) (fun i σ' H' => S26 n v vo σ' ∧ Same H H') ⟨hS, Same.refl H⟩ (fun i σ' H' hi hP => ?_) fun σ' H' hP => q σ' H' hP.1 hP.2
  obtain ⟨⟨x1, x3, x4, x5, x7, x8, x9, rfl⟩, s⟩ := hP
  exact u2_run (n := n) (CN := CN) (x1 := x1) (x3 := x3) (x4 := x4) (x5 := x5) (x8 := x8) (x9 := x9) (j := 0 + (i : Int)) T.xc T.no T.ex (sh_mono sh s) (sh_mono so s) wo hw fun H2 x8' s2 => ⟨⟨_, _, _, _, _, _, _, rfl⟩, s.trans s2⟩
theorem ut_run (T : NumT K CN) (hS : S6 n vo σ) (so : Sh K H vo e bs) (wo : Wr e bs) (hw : widD e = false) (q : ∀ σ' H', S6 n vo σ' → Same H H' → D.nx σ' H') : tUt K CN D σ H := by
  refine calm_for (K := K) (ds := cT) (S6 n vo) hS (by show (7 : Nat) ≤ 900; decide) (fun l H0 m it hit σ1 H1 N hS1 s1 k => ?_) q
  have s0 : Same H H1 := m.same.trans s1
  obtain ⟨x1, x2, x3, x4, x5, x7, x8, x9, rfl⟩ := hS1
  refine ud_run (σ := (su n x1 x2 x3 x4 x5 (some vo) x7 x8 x9).set 2 (some it.v)) T ⟨_, _, _, _, _, _, _, rfl⟩ (sh_mono (m.ok it hit).sh s1) (sh_mono so s0) wo hw fun σ' H' hS' s' => k σ' H' ?_ s'
  obtain ⟨y1, y3, y4, y5, y7, y8, y9, rfl⟩ := hS'
  exact ⟨_, _, _, _, _, _, _, _, rfl⟩
theorem odd_ok {it : Itm} {l : List Itm} {H1 : Hp} (m : Made K H H1 l cO) (hit : it ∈ l) : Wr it.d it.as ∧ widD it.d = false := by
  have f : ∀ b ∈ it.as, b ≠ sysModules := fun b hb => (m.new it hit b hb).2
  have hd : it.d ∈ l.map (·.d) := List.mem_map.mpr ⟨it, hit, rfl⟩
  rw [m.ds] at hd
  have := List.all_eq_true.mp tbO _ hd
  simp only [Bool.and_eq_true, Bool.not_eq_true', decide_eq_true_eq] at this
  exact ⟨⟨this.1.1.2, this.1.2, by rw [sizeLine_eq]; omega, fun _ z => f _ z rfl⟩, this.1.1.1.2⟩
theorem uo_run (T : NumT K CN) (n1 : 1 ≤ n) (n2 : n ≤ 2) (hS : S0 n σ) (q : ∀ H', Same H H' → D.rt (.bl true) H') : tUo K CN D σ H := by
  show tFor (iList K (tLstF (tLits K cO))) (gName 6) (tUt K CN) { D with nx := tUe K CN D } σ H
  refine calm_for (K := K) (ds := cO) (S0 n) hS (by show (7 : Nat) ≤ 900; decide) (fun l H0 m it hit σ1 H1 N hS1 s1 k => ?_) fun σ' H' hS' s' => ?_
  · obtain ⟨x1, x2, x3, x4, x5, x6, x7, x8, x9, rfl⟩ := hS1
    obtain ⟨wo, hw⟩ := odd_ok m hit
    refine ut_run (σ := (su n x1 x2 x3 x4 x5 x6 x7 x8 x9).set 6 (some it.v)) T ⟨_, _, _, _, _, _, _, _, rfl⟩ (sh_mono (m.ok it hit).sh s1) wo hw fun σ' H' hS' s' => k σ' H' ?_ s'
    obtain ⟨y1, y2, y3, y4, y5, y7, y8, y9, rfl⟩ := hS'
    exact ⟨_, _, _, _, _, _, _, _, _, rfl⟩
  · obtain ⟨y1, y2, y3, y4, y5, y6, y7, y8, y9, rfl⟩ := hS'
    exact ue_run n1 n2 rfl fun H2 s2 => q H2 (s'.trans s2)
/-- lists put together, as things -/
theorem cat_add {R : Hp → Prop} {i : Nat} {G : Addr} {L : List Itm} {ds ds2 : List PyData} {ta : TA} {H0 : Hp} (h4 : σ[i]? = some (some (.ref G))) (eG : H G = some (.lst (L.map (·.v)))) (m : Made K H0 H L ds) (y : YRA K (Same H) σ ta ds2) (hl : ds.length + ds2.length ≤ 900) {Q : VK}
    (q : ∀ G' l2 H', Same H H' → Made K H0 H' (L ++ l2) (ds ++ ds2) → H' G' = some (.lst ((L ++ l2).map (·.v))) → Q (.ref G') H') : tOp rCatF (tVar i) (tLstF ta) σ H Q := by
  refine ⟨_, h4, y H _ (Same.refl H) fun l2 H1 m2 => ?_⟩
  have ll : L.length = ds.length := by rw [← m.ds, List.length_map]
  have ll2 : l2.length = ds2.length := by rw [← m2.ds, List.length_map]
  refine ⟨by rw [List.length_map, ll2, sizeLine_eq]; omega, fun p hp np => ⟨G, p, _, _, rfl, rfl, same_new hp _ _ (m2.same _ _ eG), upd_same, by rw [List.length_map, List.length_map, ll, ll2, sizeLine_eq]; omega, fun G' hG' nG' => ?_⟩⟩
  have sP := same_new (o := .lst (l2.map (·.v))) hp
  have sG := same_new (o := .lst (L.map (·.v) ++ l2.map (·.v))) hG'
  have m12 := m.app (Same.refl H) m2
  exact q G' l2 _ (m2.same.trans (sP.trans sG)) (made_mono m12 (sP.trans sG)) (by rw [upd_same, List.map_append])
theorem yPow {R : Hp → Prop} : YR K R σ tPow (.int (10 ^ 19)) := fun H Q r q => ⟨10, 19, rfl, rfl, ⟨by decide, by decide +kernel⟩, q ⟨.int (10 ^ 19), .int (10 ^ 19), []⟩ H (Same.refl H) (ok_nolist (.int _) fun ds e => by cases e) fresh_nil rfl⟩
theorem yC0 {R : Hp → Prop} {k : Int} : YR K R σ (tC (.int k)) (.int k) := fun H Q r q => q ⟨.int k, .int k, []⟩ H (Same.refl H) (ok_nolist (.int _) fun ds e => by cases e) fresh_nil rfl
theorem yaU : YRA K (Same H) σ taU cU := YRA.cons same_stb (YR.tup (YRA.cons same_stb yPow YRA.nil)) (YRA.cons same_stb (YR.tup (YRA.cons same_stb yPow (YRA.cons same_stb yC0 YRA.nil))) YRA.nil)
theorem uc_run {H0 : Hp} {G : Addr} {L : List Itm} {x2 x3 x4 x5 x6 x7 x8 x9 : Option V} (T : NumT K CN) (n1 : 1 ≤ n) (n2 : n ≤ 2) (eG : H G = some (.lst (L.map (·.v)))) (m : Made K H0 H L (cA ++ cB)) (q : ∀ H', Same H H' → D.rt (.bl true) H') :
    tUc K CN D (su n (some (.ref G)) x2 x3 x4 x5 x6 x7 x8 x9) H := by
  refine cat_add (R := Same H) (i := 1) (σ := su n (some (.ref G)) x2 x3 x4 x5 x6 x7 x8 x9) rfl eG m yaU (by show (16 : Nat) + 2 ≤ 900; decide) fun G' l2 H1 s1 m1 e1 => ?_
  refine ⟨G', rfl, ⟨_, SqL.of e1⟩, ?_⟩
  refine calm_loop (L := L ++ l2) (S0 n) ⟨_, _, _, _, _, _, _, _, _, rfl⟩ (SqL.of e1) (fun it hit σ1 H2 N hS s2 k => ?_) fun σ' H' hS s2 => ?_
  · obtain ⟨y1, y2, y3, y4, y5, y6, y7, y8, y9, rfl⟩ := hS
    have hd : it.d ∈ (L ++ l2).map (·.d) := List.mem_map.mpr ⟨it, hit, rfl⟩
    rw [m1.ds] at hd
    have ha : askD n it.d = true := by
      rcases (by omega : n = 1 ∨ n = 2) with rfl | rfl
      · exact List.all_eq_true.mp ask1 _ hd
      · exact List.all_eq_true.mp ask2 _ hd
    refine u1_run (x1 := y1) (x3 := y3) (x4 := y4) (x5 := y5) (x6 := y6) (x7 := y7) (x8 := y8) (x9 := y9) n1 n2 (sh_mono (m1.ok it hit).sh s2) ha fun H3 x3' x4' x5' s3 => k _ H3 ⟨_, _, _, _, _, _, _, _, _, rfl⟩ s3
  · exact uo_run T n1 n2 hS fun H3 s3 => q H3 (s1.trans (s2.trans s3))
end
/-- cells and rows are told, widths that are none refused -/
def spU : Sp := fun vs H Q _ => ∃ n : Nat, vs = [.int (n : Nat)] ∧ 1 ≤ n ∧ n ≤ 2 ∧ ∀ H', Same H H' → Q (.bl true) H'
section
variable {P : Program} {w : World} {K : PySem.W.Frag} {mg : Str → Option Value} {base : Heap}
theorem ok_u {CN iN f fC fR : Addr} {fd dIN dC dR : FuncData} (F : Fun K "_law_told_right" "_law_told_right" sU f fd) (N : Nm mg) (EN : ErT P w K mg base "InvalidNumber" CN iN dIN) (ex : PySem.W.exmOne K (.ref CN) (.ref CN) = some true)
    (GC : FnOk P w K mg base (L2.CX P w) 4 fC dC ["value", "width"] (spIs K CN cellD)) (mC : mg "is_cell" = some (.ref fC)) (kC : PySem.W.keepIn K (.ref fC) = true) (bC : Binds K dC ["value", "width"] [])
    (GR : FnOk P w K mg base (L2.CX P w) 5 fR dR ["value", "width"] (spIs K CN rowD)) (mR : mg "is_row" = some (.ref fR)) (kR : PySem.W.keepIn K (.ref fR) = true) (bR : Binds K dR ["value", "width"] []) :
    FnG P w K mg base CX0 6 f fd ["_law_width"] spU := by
  refine okG F scU (fun vs H Q E h => ?_) fun cdv A outer s H vs Q E hg hr h => ?_
  · obtain ⟨n, rfl, _⟩ := h
    rfl
  · obtain ⟨n, rfl, n1, n2, q⟩ := h
    refine ⟨tUr K CN, der_u N EN GC mC kC bC GR mR kR bR hg hr, ?_⟩
    refine seq_asg ?_
    intro l H1 m
    have ll : l.length = 13 := by have := congrArg List.length m.ds; rw [List.length_map] at this; exact this
    refine ⟨by rw [List.length_map, ll, sizeLine_eq]; decide, fun G hG nG => ?_⟩
    have sG := same_new (o := .lst (l.map (·.v))) hG
    have m1 := made_mono m sG
    show tSeq (tAsg (tOp rCatF (tVar 1) (tLstF (tLits K cB))) (gName 1)) (tUc K CN) _ (su n (some (.ref G)) none none none none none none none none) _
    refine seq_asg ?_
    refine cat_add (R := fun _ => True) (i := 1) (σ := su n (some (.ref G)) none none none none none none none none) rfl upd_same m1 (ds2 := cB) YRA.lits (by show (13 : Nat) + 3 ≤ 900; decide) fun G' l2 H2 s2 m2 e2 => ?_
    show tUc K CN _ (su n (some (.ref G')) none none none none none none none none) H2
    exact uc_run ⟨EN.cl.xc, EN.cl.no, ex⟩ n1 n2 e2 m2 fun H' s => q H' (m2.same.trans s)
end
end L2.Fo

/-! # terms put together: told by their coefficients -/
namespace L2.Nk
open PySem PySem.Spec PyProof.Rows PySem.W
/-- the sum of the coefficients of a word -/
def coef : List (Int × Wd) → Wd → Int
  | [], _ => 0
  | t :: ts, k => (if t.2 = k then t.1 else 0) + coef ts k
theorem coef_app : ∀ (a b : List (Int × Wd)) (k : Wd), coef (a ++ b) k = coef a k + coef b k
  | [], b, k => by simp [coef]
  | t :: a, b, k => by
    rw [List.cons_append, coef, coef, coef_app a b k]
    omega
theorem coef_perm {a b : List (Int × Wd)} (h : a.Perm b) (k : Wd) : coef a k = coef b k := by
  induction h with
  | nil => rfl
  | cons x _ ih => rw [coef, coef, ih]
  | swap x y l => rw [coef, coef, coef, coef]; omega
  | trans _ _ i j => rw [i, j]
theorem getS_cons (p : Wd × Int) (ys : Sm) (k : Wd) : getS (p :: ys) k = if p.1 = k then p.2 else getS ys k := by
  unfold getS
  rw [List.find?_cons]
  by_cases z : p.1 = k
  · simp [z]
  · simp [z]
theorem getS_no : ∀ {ys : Sm} {k : Wd}, (ys.any fun p => decide (p.1 = k)) = false → getS ys k = 0
  | [], _, _ => rfl
  | p :: ys, k, h => by
    rw [List.any_cons, Bool.or_eq_false_iff] at h
    rw [getS_cons, if_neg (by simpa using h.1), getS_no h.2]
theorem getS_map (ys : Sm) (k k' : Wd) (n : Int) (h : (ys.any fun p => decide (p.1 = k)) = true) : getS (ys.map fun p => if p.1 = k then (p.1, n) else p) k' = if k = k' then n else getS ys k' := by
  induction ys with
  | nil => simp at h
  | cons p ys ih =>
    rw [List.map_cons, getS_cons, getS_cons]
    by_cases z : p.1 = k
    · rw [if_pos z]
      show (if p.1 = k' then n else _) = _
      by_cases z2 : k = k'
      · rw [if_pos z2, if_pos (z.trans z2)]
      · rw [if_neg z2, if_neg (fun e => z2 (z.symm.trans e)), if_neg (fun e => z2 (z.symm.trans e))]
        cases hq : (ys.any fun p => decide (p.1 = k)) with
        | true => rw [ih hq, if_neg z2]
        | false =>
          have : (ys.map fun p => if p.1 = k then (p.1, n) else p) = ys := by
            have hall : ∀ q ∈ ys, ¬ q.1 = k := fun q hq' e => by
              have : (ys.any fun p => decide (p.1 = k)) = true := List.any_eq_true.mpr ⟨q, hq', by simp [e]⟩
              rw [hq] at this
              cases this
            conv => rhs; rw [← List.map_id ys]
            exact List.map_congr_left fun q hq' => by rw [if_neg (hall q hq')]; rfl
          rw [this]
    · rw [if_neg z]
      rw [List.any_cons] at h
      have h' : (ys.any fun p => decide (p.1 = k)) = true := by simpa [z] using h
      rw [ih h']
      by_cases z2 : k = k'
      · rw [if_pos z2, if_pos z2, if_neg (fun e => z (e.trans z2.symm))]
      · rw [if_neg z2, if_neg z2]
theorem getS_snoc (ys : Sm) (k k' : Wd) (n : Int) (h : (ys.any fun p => decide (p.1 = k)) = false) : getS (ys ++ [(k, n)]) k' = if k = k' then n else getS ys k' := by
  induction ys with
  | nil => rw [List.nil_append, getS_cons]
  | cons p ys ih =>
    rw [List.any_cons, Bool.or_eq_false_iff] at h
    have z : ¬ p.1 = k := by simpa using h.1
    rw [List.cons_append, getS_cons, getS_cons, ih h.2]
    by_cases z2 : k = k'
    · rw [if_pos z2, if_pos z2, if_neg (fun e => z (e.trans z2.symm))]
    · rw [if_neg z2, if_neg z2]
theorem getS_add (ys : Sm) (c : Int) (k k' : Wd) : getS (addS ys c k) k' = getS ys k' + if k = k' then c else 0 := by
  unfold addS
  cases hq : (ys.any fun p => decide (p.1 = k)) with
  | true =>
    rw [if_pos rfl, getS_map ys k k' _ hq]
    by_cases z : k = k'
    · subst z; simp
    · simp [z]
  | false =>
    rw [if_neg Bool.false_ne_true, getS_snoc ys k k' _ hq]
    by_cases z : k = k'
    · subst z; simp
    · simp [z]
theorem fold_get (k : Wd) : ∀ (ts : List (Int × Wd)) (ys : Sm), getS (ts.foldl (fun ys t => addS ys t.1 t.2) ys) k = getS ys k + coef ts k
  | [], ys => by simp [coef]
  | t :: ts, ys => by
    rw [List.foldl_cons, fold_get k ts, getS_add, coef]
    omega
theorem get_sums (ts : List (Int × Wd)) (k : Wd) : getS (sumsOf ts) k = coef ts k := by
  unfold sumsOf
  rw [fold_get]
  have : getS [] k = 0 := rfl
  rw [this]
  omega
theorem some_cons (p : Wd × Int) (ys : Sm) : someOf (p :: ys) = (if p.2 = 0 then [] else [(p.2, p.1)]) ++ someOf ys := by
  unfold someOf
  rw [List.filter_cons]
  by_cases z : p.2 = 0
  · simp [z]
  · simp [z]
theorem coef_some : ∀ (ys : Sm), (ys.map (·.1)).Nodup → ∀ k, coef (someOf ys) k = getS ys k
  | [], _, k => rfl
  | p :: ys, h, k => by
    rw [List.map_cons, List.nodup_cons] at h
    rw [some_cons, coef_app, coef_some ys h.2, getS_cons]
    by_cases z : p.1 = k
    · rw [if_pos z]
      have hn : getS ys k = 0 := getS_no (by
        rw [Bool.eq_false_iff]
        intro hq
        obtain ⟨q, hq1, hq2⟩ := List.any_eq_true.mp hq
        exact h.1 (List.mem_map.mpr ⟨q, hq1, by rw [z]; simpa using hq2⟩))
      rw [hn]
      by_cases z2 : p.2 = 0
      · simp [z2, coef]
      · simp [z2, coef, z]
    · rw [if_neg z]
      by_cases z2 : p.2 = 0
      · simp [z2, coef]
      · simp [z2, coef, z]
theorem mem_some {ys : Sm} (h : (ys.map (·.1)).Nodup) (t : Int × Wd) : t ∈ someOf ys ↔ t.1 ≠ 0 ∧ getS ys t.2 = t.1 := by
  unfold someOf
  rw [List.mem_map]
  constructor
  · rintro ⟨p, hp, rfl⟩
    rw [List.mem_filter] at hp
    exact ⟨by simpa using hp.2, getS_mem h hp.1⟩
  · rintro ⟨h1, h2⟩
    have : (ys.any fun p => decide (p.1 = t.2)) = true := by
      cases hq : (ys.any fun p => decide (p.1 = t.2)) with
      | true => rfl
      | false => rw [getS_no hq] at h2; exact absurd h2.symm h1
    obtain ⟨p, hp, e⟩ := List.any_eq_true.mp this
    have e' : p.1 = t.2 := by simpa using e
    have h3 : getS ys p.1 = p.2 := getS_mem h hp
    rw [e', h2] at h3
    refine ⟨p, List.mem_filter.mpr ⟨hp, by rw [← h3]; simpa using h1⟩, ?_⟩
    rw [← h3, e']
theorem nodup_some {ys : Sm} (h : (ys.map (·.1)).Nodup) : (someOf ys).Nodup ∧ ((someOf ys).map (·.2)).Nodup := by
  have h2 : ((someOf ys).map (·.2)).Nodup := by
    have : (someOf ys).map (·.2) = (ys.filter fun p => !decide (p.2 = 0)).map (·.1) := by
      unfold someOf
      rw [List.map_map]
      rfl
    rw [this]
    exact List.Nodup.sublist (List.Sublist.map _ List.filter_sublist) h
  refine ⟨?_, h2⟩
  exact List.Pairwise.of_map (fun t : Int × Wd => t.2) (fun a b h e => h (by rw [e])) h2
/-! ### the order tells words apart -/
theorem lex_nil (x : Int ⊕ List Nat) : PyProof.Rows.lexLt itemOrd [] [x] = true := by rfl
theorem key_inj {a b : Wd} (h : keyToks (dKey a) = keyToks (dKey b)) : a = b := by
  have al := alike_keys a b
  have e : PyData.eqv (dKey a) (dKey b) = true := by
    cases hq : PyData.eqv (dKey a) (dKey b) with
    | true => rfl
    | false =>
      have := (toks_eqv _ _ al).2 hq [] [.inl 0]
      rw [h, lex_pre, lex_nil] at this
      rw [show PyProof.Rows.lexLt itemOrd (keyToks (dKey b)) (keyToks (dKey b)) = false from lex_irrefl _] at this
      cases this
  have e2 : PyData.eqv (dWord a) (dWord b) = true := by
    have : PyData.eqv (dKey a) (dKey b) = (PyData.eqv (.int a.length) (.int b.length) && PyData.eqv (dWord a) (dWord b)) := by
      show PyData.eqv (.tuple [.int a.length, dWord a]) (.tuple [.int b.length, dWord b]) = _
      simp only [PyData.eqv, PyData.eqvAll, Bool.and_true]
    rw [this, Bool.and_eq_true] at e
    exact e.2
  rw [Fo.eqv_word] at e2
  exact of_decide_eq_true e2
theorem le_anti {a b : Int × Wd} (h1 : dataLe false (fun t : Int × Wd => dKey t.2) a b = true) (h2 : dataLe false (fun t : Int × Wd => dKey t.2) b a = true) : a.2 = b.2 := by
  rw [dataLe_eq] at h1 h2
  have g1 : dataLt (dKey b.2) (dKey a.2) = false := by simpa using h1
  have g2 : dataLt (dKey a.2) (dKey b.2) = false := by simpa using h2
  exact key_inj (lex_total (O := itemOrd) _ _ g2 g1)
theorem coef_together (ts : List (Int × Wd)) (k : Wd) : coef (together ts) k = coef ts k := by
  unfold together
  rw [coef_perm (List.mergeSort_perm _ _), coef_some _ (sums_nodup ts), get_sums]
/-- the coefficients tell all -/
theorem together_eq {ts us : List (Int × Wd)} (h : ∀ k, coef ts k = coef us k) : together ts = together us := by
  have n1 := nodup_some (sums_nodup ts)
  have n2 := nodup_some (sums_nodup us)
  have pm : (someOf (sumsOf ts)).Perm (someOf (sumsOf us)) := (List.perm_ext_iff_of_nodup n1.1 n2.1).mpr fun t => by
    rw [mem_some (sums_nodup ts), mem_some (sums_nodup us), get_sums, get_sums, h]
  unfold together
  have tot := sortLe_total (listOrd itemOrd) false fun t : Int × Wd => keyToks (dKey t.2)
  refine List.Perm.eq_of_pairwise (le := fun a b => dataLe false (fun t : Int × Wd => dKey t.2) a b = true) (fun a b ha hb h1 h2 => ?_) (sort_pairwise tot _) (sort_pairwise tot _) (((List.mergeSort_perm _ _).trans pm).trans (List.mergeSort_perm _ _).symm)
  have e := le_anti h1 h2
  have ma := (mem_some (sums_nodup ts) a).mp (List.mem_mergeSort.mp ha)
  have mb := (mem_some (sums_nodup us) b).mp (List.mem_mergeSort.mp hb)
  refine Prod.ext ?_ e
  rw [← ma.2, ← mb.2, get_sums, get_sums, h, e]
theorem together_ne {ts us : List (Int × Wd)} {k : Wd} (h : coef ts k ≠ coef us k) : together ts ≠ together us := fun e => h (by rw [← coef_together ts, ← coef_together us, e])
theorem mem_together {ts : List (Int × Wd)} {t : Int × Wd} (h : t ∈ together ts) : t.1 ≠ 0 ∧ coef ts t.2 = t.1 := by
  unfold together at h
  have := (mem_some (sums_nodup ts) t).mp (List.mem_mergeSort.mp h)
  rw [get_sums] at this
  exact this
theorem nodup_together (ts : List (Int × Wd)) : ((together ts).map (·.2)).Nodup := by
  unfold together
  exact ((List.mergeSort_perm _ _).map _).nodup_iff.mpr (nodup_some (sums_nodup ts)).2
theorem together_len (ts : List (Int × Wd)) : (together ts).length ≤ ts.length := by
  unfold together
  rw [List.length_mergeSort]
  unfold someOf
  rw [List.length_map]
  exact Nat.le_trans (List.length_filter_le _ _) (sums_len ts)
end L2.Nk

/-! # a form and another thing, compared either way round -/
namespace PySem.VfE
open PySem PySem.Spec PySem.Calls PyProof.Rows PySem.W PySem.SeqAt AutoSeq1 MeetsSeq
theorem decl_str (z : Str) (u : Tok) (a C dx : Addr) :
    Meets (Builtin.«str.__eq__» ⟨[.str z u, .ref a], []⟩) (fun _ R s => s.heap.get? a = some (instObj C dx) ∧ (∀ M, Looks M s.heap (isInstance (.ref a) (.type "str")) false) ∧ R (.ok (.ret .notImplemented)) s) :=
  .of_wp fun prog w A R s h => by
    obtain ⟨hp, g, d, tk, os⟩ := s
    obtain ⟨hl, hb, h⟩ := h
    unfold instObj at hl
    wp_walk using wpAny_load hl, (hb _).at
    exact ⟨_, rfl, h⟩
end PySem.VfE
namespace L2.Fo
open PySem PySem.Spec PyProof.Rows L2.Vf L2.Dw L2.Ch L2.Nk L2.Lt
abbrev WF : WX := fun _ _ _ _ => False
theorem op_or {X : Cx} {f : Value → Value → Sem Value} {r1 r2 : R2} (h1 : OpR X f r1) (h2 : OpR X f r2) : OpR X f (fun x y H Q => r1 x y H Q ∨ r2 x y H Q) := by
  intro pins s σ H x y v u Q I rx ry h
  rcases h with h | h
  · exact h1 pins s σ H x y v u Q I rx ry h
  · exact h2 pins s σ H x y v u Q I rx ry h
/-- y == x, x own, y a text -/
def rEqS (K : PySem.W.Frag) (C : Addr) (sp : Sp) : R2 := fun x y H Q => ∃ (z : Str) (a dx : Addr) (fs : List (Str × V)), x = .str z ∧ y = .ref a ∧ H a = some (.ins C dx fs) ∧ PySem.W.subIn K (.ref C) (.type "str") = some false ∧ sp [y, x] H (KBl V.bl Q) E0
section
variable {X : Cx} {k : Nat} {C f : Addr} {fd : FuncData} {ps : List Str} {sp : Sp}
theorem op_eqS (F : FnOk X.prog X.w X.K X.mg X.base CX0 k f fd ps sp) (hr : Room k X.A) (hb : Binds X.K fd ps []) (hs : PySem.W.findIn X.K (.ref C) "__eq__" = some (some (.ref f))) (hf : PySem.W.isFn X.K (.ref f) = true) : OpR X (compareOp .Eq) (rEqS X.K C sp) := by
  intro pins s σ H x y v u Q I rx ry h
  obtain ⟨z, a, dx, fs, rfl, rfl, ha, hsub, q⟩ := h
  cases ry
  obtain ⟨mA, O, _⟩ := ins_get I.hok ha
  have hob := O.obj
  obtain ⟨od, J, _⟩ := O.look
  obtain ⟨t, e⟩ := (show ∃ t, v = Value.str z t from rx)
  cases e
  have iso := PySem.VfE.none_of I.kIn J hsub
  refine PySem.VfE.rc_refl (T := "str") (PySem.typeIs_str s z t) PySem.F.slot_str_eq hr.units0 I.kIn J hsub hs hf (fun _ hq => call_meets PySem.F.slot_str_eq (PySem.typeIs_str s z t) PySem.F.entry_str_eq (PySem.F.args_str_eq_2 _ _) (PySem.VfE.decl_str z t a C dx) ⟨hob, iso, hq⟩) ?_
  refine wpAny_mono (run_own rfl hr F hb I (show RelV (.str z) (Value.str z t) from ⟨t, rfl⟩) q) (fun w s' hz => ?_) fun _ _ e => e
  obtain ⟨b, H', rfl, I', q'⟩ := hz
  exact ⟨.bl b, H', I', rfl, q'⟩
end
inductive OthS (K : PySem.W.Frag) (H : Hp) : V → String → Prop
  | of {v : V} {T : String} : Oth K H v T → OthS K H v T
  | str (z : Str) : OthS K H (.str z) "str"
theorem oths_ty {K : PySem.W.Frag} {H : Hp} {v : V} {T : String} (h : OthS K H v T) : TyX K H v (.type T) := by
  cases h with
  | str z => exact .base (.str z)
  | of h =>
    cases h with
    | non => exact .base .non
    | int i => exact .base (.int i)
    | lst h =>
      rcases h with (h | ⟨o, h⟩) | ⟨o, its, n, hk, hc, _⟩
      · exact .base (.lst h)
      · exact .base (.frz h)
      · exact .kList hk hc
    | tup h =>
      rcases h with (h | ⟨o, h⟩) | ⟨o, its, n, hk, hc, _⟩
      · exact .base (.tup h)
      · exact .fTuple h
      · exact .kTuple hk hc
    | dct h => exact .base (.dK h)
def kNames : List String := ["NoneType", "int", "list", "tuple", "dict", "str"]
/-- the class among the built-in types -/
def otTab (K : PySem.W.Frag) (C : Addr) : Bool := kNames.all (fun T => (PySem.W.kitOne K (.type T) (.ref C) == some false) && PySem.W.notFirst K C (.type T) && (PySem.W.subIn K (.ref C) (.type T) == some false)) && PySem.W.notFirst K C (.ref C)
theorem otTab_at {K : PySem.W.Frag} {C : Addr} (h : otTab K C = true) : PySem.W.notFirst K C (.ref C) = true ∧ ∀ T ∈ kNames, PySem.W.kitOne K (.type T) (.ref C) = some false ∧ PySem.W.notFirst K C (.type T) = true ∧ PySem.W.subIn K (.ref C) (.type T) = some false := by
  unfold otTab at h
  obtain ⟨h1, h2⟩ := Bool.and_eq_true_iff.mp h
  refine ⟨h2, fun T hT => ?_⟩
  have := List.all_eq_true.mp h1 T hT
  simp only [Bool.and_eq_true, beq_iff_eq] at this
  exact ⟨this.1.1, this.1.2, this.2⟩
theorem oths_mem {K : PySem.W.Frag} {H : Hp} {v : V} {T : String} (h : OthS K H v T) : T ∈ kNames := by
  cases h with
  | str z => simp [kNames]
  | of h => cases h <;> simp [kNames]
/-- the class's == -/
structure EqT (K : PySem.W.Frag) (C fE : Addr) : Prop where
  at_ : PySem.W.findIn K (.ref C) "__eq__" = some (some (.ref fE))
  ne : PySem.W.findIn K (.ref C) "__ne__" = some (some (.builtin "object.__ne__"))
  sub : PySem.W.subIn K (.ref C) (.type "object") = some true
  fn : PySem.W.isFn K (.ref fE) = true
  tab : otTab K C = true
/-- things unlike the form -/
inductive UnlF (K : PySem.W.Frag) (C : Addr) (n : Nat) (us : List (Int × Wd)) (H : Hp) : V → Prop
  | frm {p2 D2 : Addr} {n2 : Nat} {us2 : List (Int × Wd)} : FoAt K C H p2 n2 us2 D2 → ¬(n = n2 ∧ us = us2) → UnlF K C n us H (.ref p2)
  | oth {v : V} {T : String} : OthS K H v T → UnlF K C n us H v
section
variable {K : PySem.W.Frag} {mg : Str → Option Value} {C p D0 : Addr} {n : Nat} {us : List (Int × Wd)} {H H' : Hp}
theorem FoAt.ext (h : FoAt K C H p n us D0) (e : LamX.ExtN H H') : FoAt K C H' p n us D0 := by
  obtain ⟨dx, rs, h1, h2, h3, h4⟩ := h
  exact ⟨dx, rs, e _ _ h1 (fun ps z => by cases z), e _ _ h2 (fun ps z => by cases z), fun r hr => (h3 r hr).ext e, h4⟩
theorem fo_ty (T : FoT K mg C) (I : IsT K C) (h : FoAt K C H p n us D0) : TyX K H (.ref p) (.ref C) := by
  obtain ⟨dx, rs, h1, _⟩ := h
  exact .base (.ins h1 T.cl I.ha I.hn I.ht I.hm)
abbrev tFq1 (K : PySem.W.Frag) (C : Addr) : TE := tOp (fun x y H Q => (rEqO K C (spEqF K C) V.bl x y H Q ∨ rEqR K C (spEqF K C) x y H Q) ∨ rEqS K C (spEqF K C) x y H Q) (tVar 7) (tVar 3)
abbrev tFq2 (K : PySem.W.Frag) (C : Addr) : TE := tOp (rEqO K C (spEqF K C) V.bl) (tVar 3) (tVar 7)
abbrev tFq3 (K : PySem.W.Frag) (C : Addr) : TE := tOp (rEqO K C (spEqF K C) fun b => .bl (!b)) (tVar 3) (tVar 7)
def tFq (K : PySem.W.Frag) (C : Addr) : TS := tIfS (tOr (tTest (tFq1 K C)) (tOr (tTest (tFq2 K C)) (tNot (tTest (tFq3 K C))))) (tRet (tC (.bl false))) tNext
theorem fq_turn {fE : Addr} {D : Ends} {σ : St} {y : V} (T : FoT K mg C) (I : IsT K C) (Eq : EqT K C fE) (h3 : σ[3]? = some (some (.ref p))) (h7 : σ[7]? = some (some y)) (hc : FoAt K C H p n us D0) (hu : UnlF K C n us H y) (q : D.nx σ H) : tFq K C D σ H := by
  obtain ⟨nC, tb⟩ := otTab_at Eq.tab
  have hc' := hc
  obtain ⟨dx, rs, hp, _⟩ := hc'
  have tyP := fo_ty T I hc
  cases hu with
  | @frm p2 D2 n2 us2 hc2 hn =>
    have hc2' := hc2
    obtain ⟨dx2, rs2, hp2, _⟩ := hc2'
    have tyP2 := fo_ty T I hc2
    have e1 : decide (n = n2 ∧ us = us2) = false := decide_eq_false hn
    have e2 : decide (n2 = n ∧ us2 = us) = false := decide_eq_false fun ⟨h1, h2⟩ => hn ⟨h1.symm, h2.symm⟩
    refine ⟨_, h7, _, h3, .inl (.inl ⟨p2, dx2, _, .ref C, rfl, hp2, tyP, nC, p2, n2, us2, D2, .ref p, rfl, hc2, .inr ⟨p, n, us, D0, rfl, hc, _, rfl, _, rfl, ?_⟩⟩)⟩
    rw [e2]
    refine iteF ⟨_, h3, _, h7, p, dx, _, .ref C, rfl, hp, tyP2, nC, p, n, us, D0, .ref p2, rfl, hc, .inr ⟨p2, n2, us2, D2, rfl, hc2, _, rfl, _, rfl, ?_⟩⟩
    rw [e1]
    refine iteF ⟨_, h3, _, h7, p, dx, _, .ref C, rfl, hp, tyP2, nC, p, n, us, D0, .ref p2, rfl, hc, .inr ⟨p2, n2, us2, D2, rfl, hc2, _, rfl, _, rfl, ?_⟩⟩
    rw [e1]
    exact iteF q
  | @oth v T' ho =>
    obtain ⟨k1, k2, k3⟩ := tb T' (oths_mem ho)
    have ty := oths_ty ho
    refine ⟨_, h7, _, h3, ?_⟩
    have fin : (if false = true then (fun b H1 => if b = true then tRet (tC (.bl false)) D σ H1 else tNext D σ H1) true H else tOr (tTest (tFq2 K C)) (tNot (tTest (tFq3 K C))) σ H fun b H1 => if b = true then tRet (tC (.bl false)) D σ H1 else tNext D σ H1) := by
      refine iteF ?_
      refine ⟨_, h3, _, h7, p, dx, _, .type T', rfl, hp, ty, k2, p, n, us, D0, y, rfl, hc, .inl ⟨.type T', ty, k1, _, rfl, _, rfl, iteF ?_⟩⟩
      exact ⟨_, h3, _, h7, p, dx, _, .type T', rfl, hp, ty, k2, p, n, us, D0, y, rfl, hc, .inl ⟨.type T', ty, k1, _, rfl, _, rfl, iteF q⟩⟩
    cases ho with
    | str z => exact .inr ⟨z, p, dx, _, rfl, rfl, hp, k3, p, n, us, D0, _, rfl, hc, .inl ⟨.type "str", ty, k1, _, rfl, _, rfl, fin⟩⟩
    | of ho => exact .inl (.inr ⟨p, dx, _, T', rfl, hp, ho, k3, p, n, us, D0, _, rfl, hc, .inl ⟨.type T', ty, k1, _, rfl, _, rfl, fin⟩⟩)
end
end L2.Fo

/-! # forms made of the terms and of terms like them -/
namespace L2.Fo
open PySem PySem.Spec PyProof.Rows L2.Vf L2.Dw L2.Ch L2.Nk L2.Lt
section
variable {K : PySem.W.Frag} {T : List (Addr × Str)} {C CN CL CT : Addr} {H H' : Hp} {n : Nat} {a : Addr} {rs : List Trm} {σ : St}
theorem tsAt_ext (h : TsAt K H a rs) (e : LamX.ExtN H H') : TsAt K H' a rs := ⟨sqL_ext e h.1, fun r hr => (h.2 r hr).ext e⟩
theorem ts_sh (h : TsAt K H a rs) : Sh K H (.ref a) (.list ((rs.map fun r : Trm => r.2).map dTrm)) [a] := trms_sh (us := rs.map fun r : Trm => r.2) h.1 h.2 rfl
/-- a form is made -/
theorem kmake_form {gb : V → List V} {E : XK} {Q : VK} (hg : ∀ x, gb x = [x, .int (n : Nat), .ref a]) (wn : widD (.int (n : Nat)) = true) (ts : TsAt K H a rs) (tm : ((rs.map fun r : Trm => r.2).map dTrm).all (termD n) = true) (hl : rs.length < sizeLine) (hT : LamX.Tabs T H)
    (q : ∀ p D H', H p = none → LamX.ExtN H H' → LamX.Tabs T H' → FoAt K C H' p n (together (rs.map fun r : Trm => r.2)) D → Q (.ref p) H') : KMake C (spFi K T C CN CL CT) gb E Q H := by
  intro x dx hx hdx ne
  rw [hg]
  have sd : Same H (upd H dx (.own x)) := same_new hdx
  have sM : Same H (upd (upd H dx (.own x)) x (.ins C dx [])) := sd.trans (same_new (by rw [upd_ne ne.symm]; exact hx))
  refine ⟨x, dx, .int (n : Nat), .ref a, .int (n : Nat), .list ((rs.map fun r : Trm => r.2).map dTrm), [], [a], rfl, upd_same, .int _, sh_mono (ts_sh ts) sM, hT.ext sM, .inr ⟨n, rfl, wn, .inr ⟨_, rfl, .inr ⟨rs.map fun r : Trm => r.2, rfl, tm, by rw [List.length_map, List.length_map]; exact hl, fun H' D kN T' nD fo => ⟨rfl, q x D H' hx (fun b o hb ho => kN b o (ne_of_none hb hx) ho (sM _ _ hb)) T' fo⟩⟩⟩⟩⟩
/-! ### terms written -/
abbrev tL1 (K : PySem.W.Frag) : TE := tOp (rRepTA K) (tTup (tCons (tC (.int 1)) tNil)) (tVar 1)
abbrev tW1 (K : PySem.W.Frag) : TE := tTup (tCons (tL1 K) tNil)
abbrev tW3 (K : PySem.W.Frag) : TE := tOp (rRepTA K) (tW1 K) (tC (.int 3))
variable {R : Hp → Prop}
theorem y_let (h1 : σ[1]? = some (some (.int (n : Nat)))) (n1 : 1 ≤ n) (n2 : n ≤ 2) : YR K R σ (tL1 K) (dL n) := by
  have := Yl.r (R := R) (Yl.tup (K := K) (σ := σ) (k := n) (t2 := tVar 1) (v := .int 1) (t := tC (.int 1)) (fun H Q q => q) (.int 1) (fun H Q q => ⟨_, h1, q⟩) n1 (by omega))
  rw [show (PyData.tuple (List.replicate n (.int 1))) = dL n by unfold dL dLine one; rw [List.map_replicate]] at this
  exact this
theorem y_w1 (h1 : σ[1]? = some (some (.int (n : Nat)))) (n1 : 1 ≤ n) (n2 : n ≤ 2) (st : Stb R) : YR K R σ (tW1 K) (dWord [one n]) := YR.tup (YRA.cons st (y_let h1 n1 n2) YRA.nil)
theorem y_w3 (h1 : σ[1]? = some (some (.int (n : Nat)))) (n1 : 1 ≤ n) (n2 : n ≤ 2) (st : Stb R) : YR K R σ (tW3 K) (dWord [one n, one n, one n]) := fun H Q r q => by
  refine y_w1 (K := K) (R := R) h1 n1 n2 st H (fun x H1 => tC (.int 3) σ H1 fun y H2 => rRepTA K x y H2 Q) r fun i H1 s1 ok1 f1 e1 => ?_
  have sh := ok1.sh
  rw [e1] at sh
  generalize i.v = iv at sh
  generalize i.as = ia at sh
  cases sh with
  | @tup q0 xs _ as g1 g2 =>
    cases g2 with
    | @cons x xs' _ _ as1 as2 k1 k2 =>
      cases k2
      obtain ⟨c, rfl, hc⟩ := sh_lineT k1
      refine ⟨q0, 3, [.ref c], rfl, rfl, g1, by simp, by decide, by decide, by simp, fun e => by omega, fun _ p hp => ?_⟩
      have sp := same_new (o := .tup (List.replicate (3 : Int).toNat [V.ref c]).flatten) hp
      have hc' : Sh K (upd H1 p (.tup (List.replicate (3 : Int).toNat [V.ref c]).flatten)) (.ref c) (dL n) [] := .tup (sqT_ext (.of sp) hc) (ints_shF _)
      refine q ⟨.ref p, dWord [one n, one n, one n], []⟩ _ (s1.trans sp) (ok_nolist (.tup (xs := [.ref c, .ref c, .ref c]) (SqT.of upd_same) (.cons (as := []) (bs := []) hc' (.cons (as := []) (bs := []) hc' (.cons (as := []) (bs := []) hc' .nil)))) fun ds e => by cases e) fresh_nil rfl
abbrev taR (K : PySem.W.Frag) : TA := tCons (tTup (tCons (tLit K (.int 2)) (tCons (tW1 K) tNil))) (tCons (tTup (tCons (tLit K (.int (-2))) (tCons (tW1 K) tNil))) tNil)
abbrev taK (K : PySem.W.Frag) : TA := tCons (tTup (tCons (tLit K (.int 1)) (tCons (tW3 K) tNil))) tNil
abbrev taE (K : PySem.W.Frag) : TA := tCons (tLit K (.tuple [.int 1, .tuple []])) tNil
theorem y_R (h1 : σ[1]? = some (some (.int (n : Nat)))) (n1 : 1 ≤ n) (n2 : n ≤ 2) (st : Stb R) : YRA K R σ (taR K) (([(2, [one n]), (-2, [one n])] : List (Int × Wd)).map dTrm) :=
  YRA.cons st (YR.tup (YRA.cons st YR.lit (YRA.cons st (y_w1 h1 n1 n2 st) YRA.nil))) (YRA.cons st (YR.tup (YRA.cons st YR.lit (YRA.cons st (y_w1 h1 n1 n2 st) YRA.nil))) YRA.nil)
theorem y_K (h1 : σ[1]? = some (some (.int (n : Nat)))) (n1 : 1 ≤ n) (n2 : n ≤ 2) (st : Stb R) : YRA K R σ (taK K) (([(1, [one n, one n, one n])] : List (Int × Wd)).map dTrm) :=
  YRA.cons st (YR.tup (YRA.cons st YR.lit (YRA.cons st (y_w3 h1 n1 n2 st) YRA.nil))) YRA.nil
theorem y_E (st : Stb R) : YRA K R σ (taE K) (([(1, [])] : List (Int × Wd)).map dTrm) := YRA.cons st YR.lit YRA.nil
/-- terms, and written ones -/
theorem cat_run {ta : TA} {us2 : List (Int × Wd)} {A1 : Addr} {Q : VK} (e1 : H A1 = some (.lst (rs.map fun r => V.ref r.1))) (h1 : ∀ r ∈ rs, TmAt K H r) (y : YRA K (Same H) σ ta (us2.map dTrm)) (hl : rs.length + us2.length ≤ 900)
    (q : ∀ B rs' H', Same H H' → TsAt K H' B rs' → (rs'.map fun r : Trm => r.2) = (rs.map fun r : Trm => r.2) ++ us2 → rs'.length ≤ 900 → Q (.ref B) H') : tLstF ta σ H fun y H2 => rCatF (.ref A1) y H2 Q := by
  refine y H _ (Same.refl H) fun l2 H1 m2 => ?_
  have ll2 : l2.length = us2.length := by rw [← List.length_map (f := dTrm), ← m2.ds, List.length_map]
  refine ⟨by rw [List.length_map, ll2, sizeLine_eq]; omega, fun p hp np => ⟨A1, p, _, _, rfl, rfl, same_new hp _ _ (m2.same _ _ e1), upd_same, by rw [List.length_map, List.length_map, ll2, sizeLine_eq]; omega, fun B hB nB => ?_⟩⟩
  have sP := same_new (o := .lst (l2.map (·.v))) hp
  have sB := same_new (o := .lst (rs.map (fun r => V.ref r.1) ++ l2.map (·.v))) hB
  have s := m2.same.trans (sP.trans sB)
  have shs : Shs K H1 (l2.map (·.v)) (us2.map dTrm) (l2.flatMap (·.as)) := by
    have := Made.shs (K := K) m2.ok
    rw [m2.ds] at this
    exact this
  obtain ⟨rs2, e2, t2, u2⟩ := shs_trms shs
  have le2 : rs2.length = us2.length := by rw [← u2, List.length_map]
  refine q B (rs ++ rs2) _ s ⟨SqL.of (by rw [upd_same, e2, List.map_append]), fun r hr => ?_⟩ (by rw [List.map_append, ← u2]) (by rw [List.length_append, le2]; exact hl)
  rcases List.mem_append.mp hr with hr | hr
  · exact (h1 r hr).ext (.of s)
  · exact (t2 r hr).ext (.of (sP.trans sB))
end
end L2.Fo

/-! # forms equal and unlike: the term -/
namespace L2.Fo
open PySem PySem.Spec PyProof.Rows L2.Vf L2.Dw L2.Ch L2.Nk L2.Lt
abbrev sEr : Stmt := top 40
abbrev nEr : List Str := ["_law_purse_here", "_law_width", "_law_terms_here", "_law_form", "_law_due", "_law_other", "_law_more", "_law_thing"]
theorem scEr : FnScope nEr ["_law_purse_here", "_law_width", "_law_terms_here"] (defScope sEr) := ⟨rfl, rfl, rfl, by decide +kernel, rfl, by decide +kernel, by decide +kernel⟩
/-- the classes -/
structure Cls4 where
  C : Addr
  CN : Addr
  CL : Addr
  CT : Addr
abbrev tMk (K : PySem.W.Frag) (T : List (Addr × Str)) (c : Cls4) (tw tx : TE) : TE := tMakeS (ps := ["self", "width", "terms"]) c.C (spFi K T c.C c.CN c.CL c.CT) [] (WE WF) (tCons tw (tCons tx tNil))
abbrev tM1 : TE := tUn (rU fun i => .int (-i)) (tC (.int 1))
abbrev tX4 (K : PySem.W.Frag) : TE := tSl (rSlL K) (tVar 4) (tPart (tC (.int 1))) tNoPart
abbrev tX5 (K : PySem.W.Frag) : TE := tOp rCat (tSl (rSlL K) (tVar 4) tNoPart (tPart tM1)) (tLst (tCons (tTup (tCons (tOp (rI0 fun i j => .int (i + j)) (tOp (rIxT K) (tOp (rIxL K) (tVar 4) tM1) (tC (.int 0))) (tC (.int 1))) (tCons (tOp (rIxT K) (tOp (rIxL K) (tVar 4) tM1) (tC (.int 1))) tNil))) tNil))
abbrev taTh : TA := tCons (tC .non) (tCons (tC (.int 0)) (tCons (tVar 4) (tCons tDNewK (tCons (tC (.str "form")) (tCons (tVar 1) (tCons (tTup (tCons (tVar 1) (tCons (tVar 4) tNil))) tNil))))))
def tE7 (K : PySem.W.Frag) (c : Cls4) : TS := tSeq (tFor (iList K (tOp rCat (tVar 6) (tLst taTh))) (gName 7) (tFq K c.C)) (tRet (tC (.bl true)))
def tE5 (K : PySem.W.Frag) (T : List (Addr × Str)) (c : Cls4) : TS := tSeq (tIfS (tTest (tOp (Vf.rEqD K true) (tVar 4) (tLst tNil))) (tAsg (tOp rCat (tVar 6) (tLst (tCons (tMk K T c (tVar 1) (tX4 K)) (tCons (tMk K T c (tVar 1) (tX5 K)) tNil)))) (gName 6)) tNext) (tE7 K c)
def tE4 (K : PySem.W.Frag) (T : List (Addr × Str)) (c : Cls4) : TS := tSeq (tAsg (tLst (tCons (tMk K T c (tVar 1) (tOp rCatF (tVar 2) (tLstF (taK K)))) (tCons (tMk K T c (tOp (rI0 fun i j => .int (i - j)) (tC (.int 3)) (tVar 1)) (tLst tNil)) (tCons (tMk K T c (tVar 1) (tOp rCatF (tVar 2) (tLstF (taE K)))) tNil)))) (gName 6)) (tE5 K T c)
abbrev tTsO (K : PySem.W.Frag) (C : Addr) : TE := tMeth C "terms" (spTs K C) [] E0 (tVar 5) tNil
def tE3 (K : PySem.W.Frag) (T : List (Addr × Str)) (c : Cls4) : TS := tSeq (tIfS (tOr (tNot (tTest (tOp (rEqO K c.C (spEqF K c.C) V.bl) (tVar 3) (tVar 5)))) (tOr (tTest (tOp (rEqO K c.C (spEqF K c.C) fun b => .bl (!b)) (tVar 3) (tVar 5))) (tTest (tOp (Vf.rEqD K true) (tTsO K c.C) (tVar 4))))) (tRet (tC (.bl false))) tNext) (tE4 K T c)
def tE2 (K : PySem.W.Frag) (T : List (Addr × Str)) (c : Cls4) : TS := tSeq (tAsg (tMk K T c (tVar 1) (tOp rCatF (tRevL K (tVar 2)) (tLstF (taR K)))) (gName 5)) (tE3 K T c)
def tE1 (K : PySem.W.Frag) (T : List (Addr × Str)) (c : Cls4) : TS := tSeq (tPar 3 4 (tCons (tMk K T c (tVar 1) (tVar 2)) (tCons (tCall (spTg K) [] E0 (tCons (tVar 2) tNil)) tNil))) (tE2 K T c)
/-- what the class has: its making, its ==, terms() -/
structure FmT (P : Program) (w : World) (K : PySem.W.Frag) (mg : Str → Option Value) (base : Heap) (T : List (Addr × Str)) (c : Cls4) (fI fE fS : Addr) (dI dE dS : FuncData) : Prop where
  ft : FoT K mg c.C
  is : IsT K c.C
  eq : EqT K c.C fE
  mkd : Mk K c.C fI
  gI : FnOk P w K mg base (L2.CX P w) 6 fI dI ["self", "width", "terms"] (spFi K T c.C c.CN c.CL c.CT)
  bI : Binds K dI ["self", "width", "terms"] []
  gE : FnOk P w K mg base CX0 1 fE dE ["self", "other"] (spEqF K c.C)
  bE : Binds K dE ["self", "other"] []
  mS : Meth K c.C "terms" fS
  gS : FnOk P w K mg base CX0 1 fS dS ["self"] (spTs K c.C)
  bS : Binds K dS ["self"] []
section
variable {P : Program} {w : World} {K : PySem.W.Frag} {mg : Str → Option Value} {base : Heap} {T : List (Addr × Str)} {c : Cls4}
theorem der_er {fI fE fS fG f : Addr} {dI dE dS dG : FuncData} {cdv : Value} {A : Around} {outer : List Env} {s : Shared} {H : Hp} {E : XK} (N : Nm mg) (F : FmT P w K mg base T c fI fE fS dI dE dS)
    (GG : FnOk P w K mg base CX0 1 fG dG ["_law_terms_here"] (spTg K)) (mG : mg "_law_together" = some (.ref fG)) (kG : PySem.W.keepIn K (.ref fG) = true) (bG : Binds K dG ["_law_terms_here"] [])
    (hr : Room 7 (A.deeper (envOfC "_law_equal_right" (defScope sEr) s.heap.objs.size f cdv))) :
    PSs (cxOf CX0 P w K mg base nEr "_law_equal_right" (defScope sEr) f cdv A outer s H E).nox (defBody sEr) (tE1 K T c) := by
  have hu := hr.units
  have hr1 := hr.mono (show 1 ≤ 7 by decide)
  have hr2 := hr.mono (show 2 ≤ 7 by decide)
  refine pss_cons (ps_par (i := 3) (j := 4) rfl scEr.nd rfl rfl (by decide) rfl rfl (pa_cons (pe_makeS F.mkd F.gI hr rfl F.ft.mg_ F.bI .nil (fun σ => passAt takes0 σ) (pa_cons (pv 1) (pa_cons (pv 2) pa_nil))) (pa_cons (pe_call GG hr1 rfl mG kG bG .nil pass0 (pa_cons (pv 2) pa_nil)) pa_nil)) rfl) ?_
  refine pss_cons (ps_set (i := 5) scEr.nd rfl (.inl rfl) (pe_makeS F.mkd F.gI hr rfl F.ft.mg_ F.bI .nil (fun σ => passAt takes0 σ) (pa_cons (pv 1) (pa_cons (pe_op op_catF (pe_revL (pv 2)) (pe_lstF (pa_cons (pe_tup (pa_cons (lit_pe rfl) (pa_cons (pe_tup (pa_cons (pe_op op_repTA (pe_tup (pa_cons pe_int pa_nil)) (pv 1)) pa_nil)) pa_nil))) (pa_cons (pe_tup (pa_cons (lit_pe rfl) (pa_cons (pe_tup (pa_cons (pe_op op_repTA (pe_tup (pa_cons pe_int pa_nil)) (pv 1)) pa_nil)) pa_nil))) pa_nil)))) pa_nil)))) ?_
  refine pss_cons (ps_if (PW.pt (pw_or (pt_not (pt_cmpR (op_eqO F.gE hr1 F.bE F.eq.at_ F.eq.fn) (pv 3) (pv 5) (nomark _))) (pw_or (pt_cmpR (op_neO F.gE hr2 F.bE F.eq.at_ F.eq.ne F.eq.sub F.eq.fn) (pv 3) (pv 5) (nomark _)) (pw_or1 (pt_cmpR (Vf.op_neD hu) (pe_meth0 (pv 5) F.ft.cl F.mS F.gS hr1 F.bS .nil pass0) (pv 4) (nomark _)))))) (pss_one (ps_ret pe_bl)) pss_nil) ?_
  refine pss_cons (ps_set (i := 6) scEr.nd rfl (.inl rfl) (pe_lst (pa_cons (pe_makeS F.mkd F.gI hr rfl F.ft.mg_ F.bI .nil (fun σ => passAt takes0 σ) (pa_cons (pv 1) (pa_cons (pe_op op_catF (pv 2) (pe_lstF (pa_cons (pe_tup (pa_cons (lit_pe rfl) (pa_cons (pe_op op_repTA (pe_tup (pa_cons (pe_op op_repTA (pe_tup (pa_cons pe_int pa_nil)) (pv 1)) pa_nil)) pe_int) pa_nil))) pa_nil))) pa_nil)))
    (pa_cons (pe_makeS F.mkd F.gI hr rfl F.ft.mg_ F.bI .nil (fun σ => passAt takes0 σ) (pa_cons (pe_op op_sub pe_int (pv 1)) (pa_cons (pe_lst pa_nil) pa_nil))) (pa_cons (pe_makeS F.mkd F.gI hr rfl F.ft.mg_ F.bI .nil (fun σ => passAt takes0 σ) (pa_cons (pv 1) (pa_cons (pe_op op_catF (pv 2) (pe_lstF (pa_cons (lit_pe rfl) pa_nil))) pa_nil))) pa_nil))))) ?_
  refine pss_cons (ps_if (pt_cmpR (Vf.op_neD hu) (pv 4) (pe_lst pa_nil) (nomark _)) (pss_one (ps_set (i := 6) scEr.nd rfl (.inl rfl) (pe_op op_cat (pv 6) (pe_lst (pa_cons (pe_makeS F.mkd F.gI hr rfl F.ft.mg_ F.bI .nil (fun σ => passAt takes0 σ) (pa_cons (pv 1) (pa_cons (pe_slice sl_list (pv 4) (po_some pe_int) po_none) pa_nil)))
    (pa_cons (pe_makeS F.mkd F.gI hr rfl F.ft.mg_ F.bI .nil (fun σ => passAt takes0 σ) (pa_cons (pv 1) (pa_cons (pe_op op_cat (pe_slice sl_list (pv 4) po_none (po_some (pe_un un_neg pe_int))) (pe_lst (pa_cons (pe_tup (pa_cons (pe_op op_add (pe_ix ix_tup (pe_ix ix_list (pv 4) (pe_un un_neg pe_int) (fun _ _ => rfl)) pe_int (fun _ _ => rfl)) pe_int) (pa_cons (pe_ix ix_tup (pe_ix ix_list (pv 4) (pe_un un_neg pe_int) (fun _ _ => rfl)) pe_int (fun _ _ => rfl)) pa_nil))) pa_nil))) pa_nil))) pa_nil)))))) pss_nil) ?_
  refine pss_cons (ps_for PassesOwn.never rfl (pi_list (pe_op op_cat (pv 6) (pe_lst (pa_cons pe_non (pa_cons pe_int (pa_cons (pv 4) (pa_cons pe_dnewK (pa_cons pe_str (pa_cons (pv 1) (pa_cons (pe_tup (pa_cons (pv 1) (pa_cons (pv 4) pa_nil))) pa_nil)))))))))) (pg_name (i := 7) scEr.nd rfl (Or.inl rfl))
    (pss_one (ps_if (PW.pt (pw_or (pt_cmpR (op_or (op_or (op_eqO F.gE hr1 F.bE F.eq.at_ F.eq.fn) (op_eqR F.gE hr1 F.bE F.eq.at_ F.eq.fn)) (op_eqS F.gE hr1 F.bE F.eq.at_ F.eq.fn)) (pv 7) (pv 3) (nomark _)) (pw_or (pt_cmpR (op_eqO F.gE hr1 F.bE F.eq.at_ F.eq.fn) (pv 3) (pv 7) (nomark _)) (pw_or1 (pt_not (pt_cmpR (op_neO F.gE hr2 F.bE F.eq.at_ F.eq.ne F.eq.sub F.eq.fn) (pv 3) (pv 7) (nomark _))))))) (pss_one (ps_ret pe_bl)) pss_nil))) ?_
  exact pss_one (ps_ret pe_bl)
end
end L2.Fo

/-! # forms equal and unlike: read from the end -/
namespace L2.Fo
open PySem PySem.Spec PyProof.Rows L2.Vf L2.Dw L2.Ch L2.Nk L2.Lt
abbrev s8 (n : Nat) (a : Addr) (x0 x3 x4 x5 x6 x7 : Option V) : St := [x0, some (.int (n : Nat)), some (.ref a), x3, x4, x5, x6, x7]
theorem oth_mono {K : PySem.W.Frag} {H H' : Hp} {v : V} {T : String} (h : Oth K H v T) (s : Same H H') : Oth K H' v T := by
  cases h with
  | non => exact .non
  | int i => exact .int i
  | lst h => exact .lst (sqL_ext (.of s) h)
  | tup h => exact .tup (sqT_ext (.of s) h)
  | dct h => exact .dct (s _ _ h)
theorem unl_mono {K : PySem.W.Frag} {C : Addr} {n : Nat} {us : List (Int × Wd)} {H H' : Hp} {y : V} (h : UnlF K C n us H y) (s : Same H H') : UnlF K C n us H' y := by
  cases h with
  | frm h k => exact .frm (h.ext (.of s)) k
  | oth h =>
    cases h with
    | str z => exact .oth (.str z)
    | of h => exact .oth (.of (oth_mono h s))
/-- as above, where tables of code may grow -/
theorem oth_ext {K : PySem.W.Frag} {H H' : Hp} {v : V} {T : String} (h : Oth K H v T) (e : LamX.ExtN H H') : Oth K H' v T := by
  cases h with
  | non => exact .non
  | int i => exact .int i
  | lst h => exact .lst (sqL_ext e h)
  | tup h => exact .tup (sqT_ext e h)
  | dct h => exact .dct (e _ _ h fun ps z => by cases z)
theorem unl_ext {K : PySem.W.Frag} {C : Addr} {n : Nat} {us : List (Int × Wd)} {H H' : Hp} {y : V} (h : UnlF K C n us H y) (e : LamX.ExtN H H') : UnlF K C n us H' y := by
  cases h with
  | frm h k => exact .frm (h.ext e) k
  | oth h =>
    cases h with
    | str z => exact .oth (.str z)
    | of h => exact .oth (.of (oth_ext h e))
section
variable {P : Program} {w : World} {K : PySem.W.Frag} {mg : Str → Option Value} {base : Heap} {T : List (Addr × Str)} {c : Cls4} {fI fE fS : Addr} {dI dE dS : FuncData}
variable {H : Hp} {n : Nat} {a p D0 Dd M : Addr} {us : List (Int × Wd)} {x0 x3 x4 x5 x6 x7 : Option V} {D : Ends} {ms ys : List V}
theorem e7_run (F : FmT P w K mg base T c fI fE fS dI dE dS) (hp : FoAt K c.C H p n us D0) (hD : SqL K H Dd ys) (eM : H M = some (.lst ms)) (hu : ∀ y ∈ ms, UnlF K c.C n us H y) (hl : ms.length ≤ 100) (q : ∀ H', Same H H' → D.rt (.bl true) H') :
    tE7 K c D (s8 n a x0 (some (.ref p)) (some (.ref Dd)) x5 (some (.ref M)) x7) H := by
  refine ⟨_, rfl, _, rfl, fun d hd => ⟨_, rfl, _, rfl, _, rfl, (by show 2 ≤ sizeLine; decide), fun t ht => ⟨by show 7 ≤ sizeLine; decide, fun l hl' => ⟨M, l, ms, _, rfl, rfl, ?_, upd_same, ?_, fun G hG => ⟨G, rfl, ⟨_, SqL.of upd_same⟩, ?_⟩⟩⟩⟩⟩
  · exact same_new hl' _ _ (same_new ht _ _ (same_new hd _ _ eM))
  · rw [sizeLine_eq]
    simp only [List.length_cons, List.length_nil]
    omega
  have sd := same_new (o := .dK []) hd
  have st := same_new (o := .tup [V.int (n : Nat), V.ref Dd]) ht
  have sl := same_new (o := .lst [V.non, V.int 0, V.ref Dd, V.ref d, V.str "form", V.int (n : Nat), V.ref t]) hl'
  have sG := same_new (o := .lst (ms ++ [V.non, V.int 0, V.ref Dd, V.ref d, V.str "form", V.int (n : Nat), V.ref t])) hG
  have s3 := st.trans (sl.trans sG)
  have sAll := sd.trans s3
  have eG : (upd (upd (upd (upd H d (.dK [])) t (.tup [V.int (n : Nat), V.ref Dd])) l (.lst [V.non, V.int 0, V.ref Dd, V.ref d, V.str "form", V.int (n : Nat), V.ref t])) G (.lst (ms ++ [V.non, V.int 0, V.ref Dd, V.ref d, V.str "form", V.int (n : Nat), V.ref t]))) G = some (.lst (ms ++ [V.non, V.int 0, V.ref Dd, V.ref d, V.str "form", V.int (n : Nat), V.ref t])) := upd_same
  have ed := s3 _ _ (upd_same (H := H) (a := d) (o := .dK []))
  have et := (sl.trans sG) _ _ (upd_same (H := upd H d (.dK [])) (a := t) (o := .tup [V.int (n : Nat), V.ref Dd]))
  have hall : ∀ y ∈ ms ++ [V.non, V.int 0, V.ref Dd, V.ref d, V.str "form", V.int (n : Nat), V.ref t], UnlF K c.C n us _ y := fun y hy => by
    rcases List.mem_append.mp hy with hy | hy
    · exact unl_mono (hu y hy) sAll
    · simp only [List.mem_cons, List.not_mem_nil, or_false] at hy
      rcases hy with rfl | rfl | rfl | rfl | rfl | rfl | rfl
      · exact .oth (.of .non)
      · exact .oth (.of (.int 0))
      · exact .oth (.of (.lst (sqL_ext (.of sAll) hD)))
      · exact .oth (.of (.dct ed))
      · exact .oth (.str _)
      · exact .oth (.of (.int _))
      · exact .oth (.of (.tup (SqT.of et)))
  refine for_list (xs := ms ++ [V.non, V.int 0, V.ref Dd, V.ref d, V.str "form", V.int (n : Nat), V.ref t]) (fun i σ H' => (∃ x7, σ = s8 n a x0 (some (.ref p)) (some (.ref Dd)) x5 (some (.ref M)) x7) ∧ Same (upd (upd (upd (upd H d (.dK [])) t (.tup [V.int (n : Nat), V.ref Dd])) l (.lst [V.non, V.int 0, V.ref Dd, V.ref d, V.str "form", V.int (n : Nat), V.ref t])) G (.lst (ms ++ [V.non, V.int 0, V.ref Dd, V.ref d, V.str "form", V.int (n : Nat), V.ref t]))) H') ⟨⟨x7, rfl⟩, Same.refl _⟩ (fun i σ H' _ hP => SqL.of (hP.2 _ _ eG)) (fun i x σ H' hx hP => ?_) fun σ H' hP => ?_
  · obtain ⟨⟨x7', rfl⟩, s'⟩ := hP
    have hy := unl_mono (hall x (List.mem_of_getElem? hx)) s'
    exact fq_turn (σ := (s8 n a x0 (some (.ref p)) (some (.ref Dd)) x5 (some (.ref M)) x7').set 7 (some x)) F.ft F.is F.eq rfl rfl (hp.ext (.of (sAll.trans s'))) hy ⟨⟨_, rfl⟩, s'⟩
  · exact q H' (sAll.trans hP.2)
end
/-! ### what the words of the sums are -/
theorem coef_none {ts : List (Int × Wd)} {k : Wd} (h : ∀ t ∈ ts, t.2 ≠ k) : coef ts k = 0 := by
  induction ts with
  | nil => rfl
  | cons t ts ih => rw [coef, if_neg (h t List.mem_cons_self), ih fun u hu => h u (List.mem_cons_of_mem _ hu)]; rfl
theorem together_word {U : List (Int × Wd)} {t : Int × Wd} (h : t ∈ together U) : ∃ u ∈ U, u.2 = t.2 := by
  obtain ⟨h1, h2⟩ := mem_together h
  by_cases z : ∃ u ∈ U, u.2 = t.2
  · exact z
  · exact absurd (h2.symm.trans (coef_none fun u hu e => z ⟨u, hu, e⟩)) h1
theorem together_ltr {n : Nat} {U : List (Int × Wd)} (h : ∀ u ∈ U, ∀ l ∈ u.2, Ltr n l) : ∀ t ∈ together U, ∀ l ∈ t.2, Ltr n l := fun t ht l hl => by
  obtain ⟨u, hu, e⟩ := together_word ht
  exact h u hu l (by rw [e]; exact hl)
theorem ltr_one {n : Nat} : Ltr n (one n) := ⟨List.length_replicate, fun x hx => by rw [(List.mem_replicate.mp hx).2]; decide⟩
end L2.Fo

/-! # forms equal and unlike: forms of the sums, one less or one more -/
namespace L2.Fo
open PySem PySem.Spec PyProof.Rows L2.Vf L2.Dw L2.Ch L2.Nk L2.Lt
theorem extN_trans {H H1 H2 : Hp} (a : LamX.ExtN H H1) (b : LamX.ExtN H1 H2) : LamX.ExtN H H2 := fun c o e n => b c o (a c o e n) n
theorem ltr_all {n : Nat} {us : List (Int × Wd)} (h : ∀ t ∈ us, ∀ l ∈ t.2, Ltr n l) : (us.map dTrm).all (termD n) = true := sml_all h
/-- the sums less the first, and with more of the last -/
theorem less_first {U : List (Int × Wd)} {t : Int × Wd} {us' : List (Int × Wd)} (h : together U = t :: us') : together us' ≠ together U := by
  have hm : t ∈ together U := by rw [h]; exact List.mem_cons_self
  obtain ⟨h1, h2⟩ := mem_together hm
  have h3 : coef (together U) t.2 = t.1 := by rw [coef_together, h2]
  rw [h, coef, if_pos rfl] at h3
  exact together_ne (k := t.2) (by omega)
theorem more_last {U : List (Int × Wd)} {t : Int × Wd} {ini : List (Int × Wd)} (h : together U = ini ++ [t]) : together (ini ++ [(t.1 + 1, t.2)]) ≠ together U := by
  have h3 : coef (together U) t.2 = coef U t.2 := coef_together U t.2
  rw [h, coef_app] at h3
  refine together_ne (k := t.2) ?_
  rw [coef_app, ← h3]
  simp [coef]
  omega
section
variable {P : Program} {w : World} {K : PySem.W.Frag} {mg : Str → Option Value} {base : Heap} {T : List (Addr × Str)} {c : Cls4} {fI fE fS : Addr} {dI dE dS : FuncData}
variable {H : Hp} {n : Nat} {a p D0 Dd M : Addr} {U us : List (Int × Wd)} {x0 x3 x4 x5 x6 x7 : Option V} {D : Ends} {ms ys : List V} {rsd : List Trm}
theorem e5_run (F : FmT P w K mg base T c fI fE fS dI dE dS) (n1 : 1 ≤ n) (n2 : n ≤ 2) (hL : ∀ u ∈ U, ∀ l ∈ u.2, Ltr n l) (hp : FoAt K c.C H p n (together U) D0) (hD : H Dd = some (.lst (rsd.map fun r => V.ref r.1))) (hr : ∀ r ∈ rsd, TmAt K H r) (er : (rsd.map fun r : Trm => r.2) = together U) (hz : rsd.length ≤ 500)
    (eM : H M = some (.lst ms)) (hu : ∀ y ∈ ms, UnlF K c.C n (together U) H y) (hl : ms.length ≤ 50) (hT : LamX.Tabs T H) (q : ∀ H', LamX.ExtN H H' → LamX.Tabs T H' → D.rt (.bl true) H') :
    tE5 K T c D (s8 n a x0 (some (.ref p)) (some (.ref Dd)) x5 (some (.ref M)) x7) H := by
  have wn := wid_yes n1 n2
  have tL := together_ltr hL
  refine ⟨_, rfl, by show 0 ≤ sizeLine; omega, fun E hE => ?_⟩
  have sE := same_new (o := .lst []) hE
  have tsE : TsAt K (upd H E (.lst [])) Dd rsd := ⟨SqL.of (sE _ _ hD), fun r h => (hr r h).ext (.of sE)⟩
  refine ⟨dTrms (together U), dTrms [], _, _, trms_sh tsE.1 tsE.2 er, .lst (SqL.of upd_same) .nil, shaped_trms _, shaped_trms _, _, rfl, ?_⟩
  rw [(if_pos rfl).trans (congrArg not (eqv_trms _ _))]
  by_cases z : together U = []
  · rw [decide_eq_true z]
    refine iteF ?_
    show tE7 K c D (s8 n a x0 (some (.ref p)) (some (.ref Dd)) x5 (some (.ref M)) x7) _
    exact e7_run F (hp.ext (.of sE)) tsE.1 (sE _ _ eM) (fun y hy => unl_mono (hu y hy) sE) (by omega) fun H' s => q H' (fun b o hb ho => s _ _ (sE _ _ hb)) ((hT.ext sE).ext s)
  · rw [decide_eq_false z]
    refine iteT ⟨_, rfl, ?_⟩
    have hp' := hp.ext (.of sE)
    have hT' := hT.ext sE
    have hu' : ∀ y ∈ ms, UnlF K c.C n (together U) (upd H E (.lst [])) y := fun y hy => unl_mono (hu y hy) sE
    have eM' := sE _ _ eM
    have hD' := sE _ _ hD
    -- without the first
    refine ⟨_, rfl, _, rfl, _, rfl, Dd, _, rfl, tsE.1, fun q1 hq1 => ⟨rfl, ?_⟩⟩
    have s1 := same_new (o := .lst (cutV (rsd.map fun r => V.ref r.1) (some 1) none)) hq1
    have ts1 : TsAt K (upd (upd H E (.lst [])) q1 (.lst (cutV (rsd.map fun r => V.ref r.1) (some 1) none))) q1 (rsd.drop 1) := ⟨SqL.of (by rw [upd_same, cut_rest, List.map_drop]), fun r h => (tsE.2 r (List.mem_of_mem_drop h)).ext (.of s1)⟩
    have tm1 : (((rsd.drop 1).map fun r : Trm => r.2).map dTrm).all (termD n) = true := ltr_all fun t ht => by
      rw [List.map_drop, er] at ht
      exact tL t (List.mem_of_mem_drop ht)
    refine kmake_form (fun _ => rfl) wn ts1 tm1 (by rw [List.length_drop, sizeLine_eq]; omega) (hT'.ext s1) fun p4 D4 H4 n4 e4 t4 fo4 => ?_
    have e1 : LamX.ExtN (upd H E (.lst [])) H4 := extN_trans (.of s1) e4
    have hD4 := e1 _ _ hD' (fun ps z => by cases z)
    have tmD4 : ∀ r ∈ rsd, TmAt K H4 r := fun r h => (tsE.2 r h).ext e1
    -- the last once more
    obtain ⟨ini, r, rfl⟩ : ∃ ini r, rsd = ini ++ [r] := by
      have hne : rsd ≠ [] := fun e => z (by rw [← er, e]; rfl)
      exact ⟨rsd.dropLast, rsd.getLast hne, (List.dropLast_concat_getLast hne).symm⟩
    have hme : ∀ {α : Type} (f : Trm → α), (ini ++ [r]).map f = ini.map f ++ [f r] := fun f => by rw [List.map_append]; rfl
    refine ⟨_, rfl, _, rfl, _, rfl, _, rfl, Dd, _, rfl, SqL.of hD4, fun q2 hq2 => ?_⟩
    have s2 := same_new (o := .lst (cutV ((ini ++ [r]).map fun r => V.ref r.1) none (some (-1)))) hq2
    obtain ⟨b, hb1, hb2⟩ := tmD4 r (List.mem_append_right _ (List.mem_singleton.mpr rfl))
    have hD5 := s2 _ _ hD4
    have hb1' := sqT_ext (.of s2) hb1
    refine ⟨_, rfl, _, rfl, Dd, _, -1, .ref r.1, rfl, rfl, SqL.of hD5, by rw [hme]; exact atI_last _ _, r.1, _, 0, .int r.2.1, rfl, rfl, hb1', rfl, _, _, rfl, rfl, ?_⟩
    refine ⟨_, rfl, _, rfl, Dd, _, -1, .ref r.1, rfl, rfl, SqL.of hD5, by rw [hme]; exact atI_last _ _, r.1, _, 1, .ref b, rfl, rfl, hb1', rfl, (by show 2 ≤ sizeLine; decide), fun t ht => ⟨by show 1 ≤ sizeLine; decide, fun l hl' => ?_⟩⟩
    have s3 := same_new (o := .tup [V.int (r.2.1 + 1), V.ref b]) ht
    have s4 := same_new (o := .lst [V.ref t]) hl'
    refine ⟨q2, l, _, _, rfl, rfl, s4 _ _ (s3 _ _ upd_same), upd_same, ?_, fun q3 hq3 => ⟨rfl, ?_⟩⟩
    · rw [cut_init, hme, List.dropLast_concat, List.length_map, sizeLine_eq]
      rw [List.length_append] at hz
      simp only [List.length_cons, List.length_nil] at hz ⊢
      omega
    have s5 := same_new (o := .lst (cutV ((ini ++ [r]).map fun r => V.ref r.1) none (some (-1)) ++ [V.ref t])) hq3
    have s25 := s2.trans (s3.trans (s4.trans s5))
    have ts5 : TsAt K (upd (upd (upd (upd H4 q2 (.lst (cutV ((ini ++ [r]).map fun r => V.ref r.1) none (some (-1))))) t (.tup [V.int (r.2.1 + 1), V.ref b])) l (.lst [V.ref t])) q3 (.lst ((cutV ((ini ++ [r]).map fun r => V.ref r.1) none (some (-1))) ++ [V.ref t]))) q3 (ini ++ [(t, r.2.1 + 1, r.2.2)]) := ⟨SqL.of (by rw [upd_same, cut_init, hme, List.dropLast_concat, List.map_append]; rfl), fun x hx => by
      rcases List.mem_append.mp hx with hx | hx
      · exact (tmD4 x (List.mem_append_left _ hx)).ext (.of s25)
      · rw [List.mem_singleton.mp hx]
        exact ⟨b, SqT.of (s5 _ _ (s4 _ _ upd_same)), nKey_ext (.of s25) hb2⟩⟩
    have eU : together U = (ini.map fun r : Trm => r.2) ++ [r.2] := by rw [← er, hme]
    have tm5 : (((ini ++ [(t, r.2.1 + 1, r.2.2)]).map fun r : Trm => r.2).map dTrm).all (termD n) = true := ltr_all fun x hx => by
      rw [List.map_append] at hx
      rcases List.mem_append.mp hx with hx | hx
      · exact tL x (by rw [eU]; exact List.mem_append_left _ hx)
      · rw [List.mem_singleton.mp hx]
        exact tL r.2 (by rw [eU]; exact List.mem_append_right _ (List.mem_singleton.mpr rfl))
    refine kmake_form (fun _ => rfl) wn ts5 tm5 (by rw [List.length_append, sizeLine_eq]; rw [List.length_append] at hz; simp only [List.length_cons, List.length_nil] at hz ⊢; omega) (t4.ext s25) fun p5 D5 H5 n5 e5 t5 fo5 => ?_
    refine ⟨by show 2 ≤ sizeLine; decide, fun l2 hl2 => ?_⟩
    have s6 := same_new (o := .lst [V.ref p4, V.ref p5]) hl2
    have e45 : LamX.ExtN H4 _ := extN_trans (.of s25) (extN_trans e5 (.of s6))
    have e06 := extN_trans e1 e45
    refine ⟨M, l2, ms, _, rfl, rfl, e06 _ _ eM' (fun ps z => by cases z), upd_same, by rw [sizeLine_eq]; simp only [List.length_cons, List.length_nil]; omega, fun G hG => ?_⟩
    have s7 := same_new (o := .lst (ms ++ [V.ref p4, V.ref p5])) hG
    have e07 := extN_trans e06 (.of s7)
    show tE7 K c D (s8 n a x0 (some (.ref p)) (some (.ref Dd)) x5 (some (.ref G)) x7) _
    refine e7_run F (hp'.ext e07) (sqL_ext e07 (SqL.of hD')) upd_same (fun y hy => ?_) (by rw [List.length_append]; simp only [List.length_cons, List.length_nil]; omega) fun H' s => q H' (extN_trans (.of sE) (extN_trans e07 (.of s))) (((t5.ext s6).ext s7).ext s)
    rcases List.mem_append.mp hy with hy | hy
    · exact unl_ext (hu' y hy) e07
    · simp only [List.mem_cons, List.not_mem_nil, or_false] at hy
      rcases hy with rfl | rfl
      · refine .frm (fo4.ext (extN_trans e45 (.of s7))) fun ⟨_, h⟩ => ?_
        rw [List.map_drop, er] at h
        obtain ⟨t0, us', e0⟩ : ∃ t0 us', together U = t0 :: us' := by
          cases hq : together U with
          | nil => exact absurd hq z
          | cons t0 us' => exact ⟨t0, us', rfl⟩
        rw [e0] at h
        exact less_first e0 (by rw [e0]; exact h.symm)
      · refine .frm (fo5.ext (extN_trans (.of s6) (.of s7))) fun ⟨_, h⟩ => ?_
        rw [List.map_append] at h
        exact more_last eU h.symm
end
end L2.Fo

/-! # forms equal and unlike: the promise -/
namespace L2.Fo
open PySem PySem.Spec PyProof.Rows L2.Vf L2.Dw L2.Ch L2.Nk L2.Lt
theorem more_ne {U : List (Int × Wd)} {k : Wd} : together (U ++ [(1, k)]) ≠ together U := together_ne (k := k) (by rw [coef_app]; simp [coef]; omega)
theorem like_eq {U : List (Int × Wd)} {k : Wd} : together (U.reverse ++ [(2, k), (-2, k)]) = together U := together_eq fun k' => by
  rw [coef_app, coef_perm (List.reverse_perm U)]
  simp only [coef]
  by_cases z : k = k'
  · simp [z]
  · simp [z]
section
variable {P : Program} {w : World} {K : PySem.W.Frag} {mg : Str → Option Value} {base : Heap} {T : List (Addr × Str)} {c : Cls4} {fI fE fS : Addr} {dI dE dS : FuncData}
variable {H : Hp} {n : Nat} {a p p2 D0 D2 Dd M : Addr} {x0 x3 x4 x5 x6 x7 : Option V} {D : Ends} {ms ys : List V} {rs rsd : List Trm}
abbrev Us (rs : List Trm) : List (Int × Wd) := rs.map fun r : Trm => r.2
/-- the terms, the form, the sums -/
structure ErC (K : PySem.W.Frag) (T : List (Addr × Str)) (C : Addr) (H : Hp) (n : Nat) (a p D0 Dd : Addr) (rs rsd : List Trm) : Prop where
  n1 : 1 ≤ n
  n2 : n ≤ 2
  ea : H a = some (.lst (rs.map fun r => V.ref r.1))
  ta : ∀ r ∈ rs, TmAt K H r
  lt : ∀ u ∈ Us rs, ∀ l ∈ u.2, Ltr n l
  hl : rs.length ≤ 100
  fo : FoAt K C H p n (together (Us rs)) D0
  ed : H Dd = some (.lst (rsd.map fun r => V.ref r.1))
  td : ∀ r ∈ rsd, TmAt K H r
  er : Us rsd = together (Us rs)
  tb : LamX.Tabs T H
theorem ErC.ext {C : Addr} {H' : Hp} (h : ErC K T C H n a p D0 Dd rs rsd) (e : LamX.ExtN H H') (t : LamX.Tabs T H') : ErC K T C H' n a p D0 Dd rs rsd :=
  ⟨h.n1, h.n2, e _ _ h.ea (fun ps z => by cases z), fun r hr => (h.ta r hr).ext e, h.lt, h.hl, h.fo.ext e, e _ _ h.ed (fun ps z => by cases z), fun r hr => (h.td r hr).ext e, h.er, t⟩
theorem ErC.ld {C : Addr} (h : ErC K T C H n a p D0 Dd rs rsd) : rsd.length ≤ 500 := by
  have h1 : (Us rsd).length ≤ (Us rs).length := by rw [h.er]; exact together_len _
  rw [List.length_map, List.length_map] at h1
  have := h.hl
  omega
theorem app_ltr {U : List (Int × Wd)} {V2 : List (Int × Wd)} (h : ∀ u ∈ U, ∀ l ∈ u.2, Ltr n l) (k : ∀ u ∈ V2, ∀ l ∈ u.2, Ltr n l) : ∀ u ∈ U ++ V2, ∀ l ∈ u.2, Ltr n l := fun u hu => (List.mem_append.mp hu).elim (h u) (k u)
theorem e4_run (F : FmT P w K mg base T c fI fE fS dI dE dS) (h : ErC K T c.C H n a p D0 Dd rs rsd) (q : ∀ H', LamX.ExtN H H' → LamX.Tabs T H' → D.rt (.bl true) H') :
    tE4 K T c D (s8 n a x0 (some (.ref p)) (some (.ref Dd)) x5 x6 x7) H := by
  have wn := wid_yes h.n1 h.n2
  refine ⟨_, rfl, _, rfl, ?_⟩
  refine cat_run (rs := rs) (σ := s8 n a x0 (some (.ref p)) (some (.ref Dd)) x5 x6 x7) h.ea h.ta (y_K rfl h.n1 h.n2 same_stb) (by have := h.hl; simp only [List.length_cons, List.length_nil]; omega) fun B1 rs1 H1 s1 ts1 er1 l1 => ⟨rfl, ?_⟩
  have lt1 : ∀ u ∈ Us rs1, ∀ l ∈ u.2, Ltr n l := by
    show ∀ u ∈ rs1.map (fun r : Trm => r.2), ∀ l ∈ u.2, Ltr n l
    rw [er1]
    refine app_ltr h.lt fun u hu l hl => ?_
    rw [List.mem_singleton.mp hu] at hl
    simp only [List.mem_cons, List.not_mem_nil, or_false] at hl
    rcases hl with rfl | rfl | rfl <;> exact ltr_one
  refine kmake_form (fun _ => rfl) wn ts1 (ltr_all lt1) (by rw [sizeLine_eq]; omega) (h.tb.ext s1) fun p1 D1 H2 _ e2 t2 fo1 => ?_
  refine ⟨_, rfl, _, _, rfl, rfl, by show 0 ≤ sizeLine; omega, fun E hE => ⟨rfl, ?_⟩⟩
  have sE := same_new (o := .lst []) hE
  have w3 : widD (.int ((3 - n : Nat) : Nat)) = true := wid_yes (by have := h.n2; omega) (by have := h.n1; omega)
  refine kmake_form (n := 3 - n) (rs := []) (fun x => ?_) w3 ⟨SqL.of upd_same, fun r hr => absurd hr (by simp)⟩ rfl (by show 0 < sizeLine; decide) (t2.ext sE) fun p3 D3 H3 _ e3 t3 fo3 => ?_
  · show [x, V.int (3 - (n : Int)), V.ref E] = [x, V.int ((3 - n : Nat) : Int), V.ref E]
    rw [show (3 : Int) - (n : Int) = ((3 - n : Nat) : Int) by have := h.n2; omega]
  have e03 : LamX.ExtN H H3 := extN_trans (.of s1) (extN_trans e2 (extN_trans (.of sE) e3))
  refine ⟨_, rfl, _, rfl, ?_⟩
  refine cat_run (rs := rs) (σ := s8 n a x0 (some (.ref p)) (some (.ref Dd)) x5 x6 x7) (e03 _ _ h.ea (fun ps z => by cases z)) (fun r hr => (h.ta r hr).ext e03) (y_E same_stb) (by have := h.hl; simp only [List.length_cons, List.length_nil]; omega) fun B4 rs4 H4 s4 ts4 er4 l4 => ⟨rfl, ?_⟩
  have lt4 : ∀ u ∈ Us rs4, ∀ l ∈ u.2, Ltr n l := by
    show ∀ u ∈ rs4.map (fun r : Trm => r.2), ∀ l ∈ u.2, Ltr n l
    rw [er4]
    refine app_ltr h.lt fun u hu l hl => ?_
    rw [List.mem_singleton.mp hu] at hl
    cases hl
  refine kmake_form (fun _ => rfl) wn ts4 (ltr_all lt4) (by rw [sizeLine_eq]; omega) (t3.ext s4) fun p5 D5 H5 _ e5 t5 fo5 => ⟨by show 3 ≤ sizeLine; decide, fun M hM => ?_⟩
  have sM := same_new (o := .lst [V.ref p1, V.ref p3, V.ref p5]) hM
  have e5M : LamX.ExtN H5 _ := LamX.ExtN.of sM
  have e3M : LamX.ExtN H3 _ := extN_trans (.of s4) (extN_trans e5 e5M)
  have e2M : LamX.ExtN H2 _ := extN_trans (extN_trans (.of sE) e3) e3M
  have e0M : LamX.ExtN H _ := extN_trans e03 e3M
  have tM := t5.ext sM
  have hM' := h.ext e0M tM
  show tE5 K T c D (s8 n a x0 (some (.ref p)) (some (.ref Dd)) x5 (some (.ref M)) x7) _
  refine e5_run F h.n1 h.n2 h.lt hM'.fo hM'.ed hM'.td h.er h.ld upd_same (fun y hy => ?_) (by show 3 ≤ 50; decide) tM fun H' e t => q H' (extN_trans e0M e) t
  simp only [List.mem_cons, List.not_mem_nil, or_false] at hy
  rcases hy with rfl | rfl | rfl
  · refine .frm (fo1.ext e2M) fun ⟨_, z⟩ => ?_
    rw [er1] at z
    exact more_ne z.symm
  · refine .frm (fo3.ext e3M) fun ⟨z, _⟩ => ?_
    have := h.n1
    have := h.n2
    omega
  · refine .frm (fo5.ext e5M) fun ⟨_, z⟩ => ?_
    rw [er4] at z
    exact more_ne z.symm
theorem e3_run (F : FmT P w K mg base T c fI fE fS dI dE dS) (h : ErC K T c.C H n a p D0 Dd rs rsd) (h2 : FoAt K c.C H p2 n (together (Us rs)) D2) (q : ∀ H', LamX.ExtN H H' → LamX.Tabs T H' → D.rt (.bl true) H') :
    tE3 K T c D (s8 n a x0 (some (.ref p)) (some (.ref Dd)) (some (.ref p2)) x6 x7) H := by
  obtain ⟨nC, tb⟩ := otTab_at F.eq.tab
  have hf := h.fo
  have hf2 := h2
  obtain ⟨dx, r1, hp1, _⟩ := hf
  obtain ⟨dx2, r2, hp2, _⟩ := hf2
  have ty2 := fo_ty F.ft F.is h2
  have eT : decide (n = n ∧ together (Us rs) = together (Us rs)) = true := by simp
  refine ⟨_, rfl, _, rfl, p, dx, _, .ref c.C, rfl, hp1, ty2, nC, p, n, together (Us rs), D0, .ref p2, rfl, h.fo, .inr ⟨p2, n, together (Us rs), D2, rfl, h2, _, rfl, _, rfl, ?_⟩⟩
  rw [eT]
  refine iteF ⟨_, rfl, _, rfl, p, dx, _, .ref c.C, rfl, hp1, ty2, nC, p, n, together (Us rs), D0, .ref p2, rfl, h.fo, .inr ⟨p2, n, together (Us rs), D2, rfl, h2, _, rfl, _, rfl, ?_⟩⟩
  rw [eT]
  refine iteF ⟨_, rfl, p2, dx2, _, rfl, hp2, rfl, p2, n, together (Us rs), D2, rfl, h2, fun l rs' H' hl s el tm er' => ?_⟩
  have h' := h.ext (.of s) (h.tb.ext s)
  refine ⟨_, rfl, dTrms (together (Us rs)), dTrms (together (Us rs)), _, _, trms_sh (SqL.of el) tm er', trms_sh (SqL.of h'.ed) h'.td h.er, shaped_trms _, shaped_trms _, _, rfl, ?_⟩
  rw [(if_pos rfl).trans (congrArg not (eqv_trms _ _)), decide_eq_true rfl]
  refine iteF ?_
  show tE4 K T c D (s8 n a x0 (some (.ref p)) (some (.ref Dd)) (some (.ref p2)) x6 x7) H'
  exact e4_run F h' fun H2 e t => q H2 (extN_trans (.of s) e) t
theorem e2_run (F : FmT P w K mg base T c fI fE fS dI dE dS) (h : ErC K T c.C H n a p D0 Dd rs rsd) (q : ∀ H', LamX.ExtN H H' → LamX.Tabs T H' → D.rt (.bl true) H') :
    tE2 K T c D (s8 n a x0 (some (.ref p)) (some (.ref Dd)) x5 x6 x7) H := by
  have wn := wid_yes h.n1 h.n2
  refine ⟨_, rfl, _, rfl, a, _, rfl, SqL.of h.ea, fun Rv hRv => ?_⟩
  have sR := same_new (o := .lst (rs.map fun r => V.ref r.1).reverse) hRv
  refine cat_run (rs := rs.reverse) (A1 := Rv) (σ := s8 n a x0 (some (.ref p)) (some (.ref Dd)) x5 x6 x7) (by rw [upd_same, List.map_reverse]) (fun r hr => (h.ta r (List.mem_reverse.mp hr)).ext (.of sR)) (y_R rfl h.n1 h.n2 same_stb) (by have := h.hl; rw [List.length_reverse]; simp only [List.length_cons, List.length_nil]; omega) fun B1 rs1 H1 s1 ts1 er1 l1 => ⟨rfl, ?_⟩
  have lt1 : ∀ u ∈ Us rs1, ∀ l ∈ u.2, Ltr n l := by
    show ∀ u ∈ rs1.map (fun r : Trm => r.2), ∀ l ∈ u.2, Ltr n l
    rw [er1, List.map_reverse]
    refine app_ltr (fun u hu => h.lt u (List.mem_reverse.mp hu)) fun u hu l hl => ?_
    simp only [List.mem_cons, List.not_mem_nil, or_false] at hu
    rcases hu with rfl | rfl
    · rw [List.mem_singleton.mp hl]; exact ltr_one
    · rw [List.mem_singleton.mp hl]; exact ltr_one
  refine kmake_form (fun _ => rfl) wn ts1 (ltr_all lt1) (by rw [sizeLine_eq]; omega) ((h.tb.ext sR).ext s1) fun p1 D1 H2 _ e2 t2 fo1 => ?_
  have e02 : LamX.ExtN H H2 := extN_trans (.of (sR.trans s1)) e2
  rw [er1, List.map_reverse, like_eq] at fo1
  show tE3 K T c D (s8 n a x0 (some (.ref p)) (some (.ref Dd)) (some (.ref p1)) x6 x7) H2
  exact e3_run F (h.ext e02 t2) fo1 fun H' e t => q H' (extN_trans e02 e) t
end
def spEr (K : PySem.W.Frag) (T : List (Addr × Str)) : Sp := fun vs H Q _ => ∃ (g a : Addr) (n : Nat) (rs : List Trm), vs = [.ref g, .int (n : Nat), .ref a] ∧ 1 ≤ n ∧ n ≤ 2 ∧ H a = some (.lst (rs.map fun r => V.ref r.1)) ∧ (∀ r ∈ rs, TmAt K H r) ∧ (∀ u ∈ Us rs, ∀ l ∈ u.2, Ltr n l) ∧ rs.length ≤ 100 ∧ LamX.Tabs T H ∧
  ∀ H', LamX.ExtN H H' → LamX.Tabs T H' → Q (.bl true) H'
section
variable {P : Program} {w : World} {K : PySem.W.Frag} {mg : Str → Option Value} {base : Heap} {T : List (Addr × Str)} {c : Cls4}
theorem ok_er {fI fE fS fG f : Addr} {fd dI dE dS dG : FuncData} (Fu : Fun K "_law_equal_right" "_law_equal_right" sEr f fd) (N : Nm mg) (F : FmT P w K mg base T c fI fE fS dI dE dS)
    (GG : FnOk P w K mg base CX0 1 fG dG ["_law_terms_here"] (spTg K)) (mG : mg "_law_together" = some (.ref fG)) (kG : PySem.W.keepIn K (.ref fG) = true) (bG : Binds K dG ["_law_terms_here"] []) :
    FnOk P w K mg base CX0 8 f fd ["_law_purse_here", "_law_width", "_law_terms_here"] (spEr K T) := by
  refine Fu.ok scEr (fun vs H Q E h => ?_) fun cdv A outer s H vs Q E hr h => ?_
  · obtain ⟨g, a, n, rs, rfl, _⟩ := h
    rfl
  · obtain ⟨g, a, n, rs, rfl, n1, n2, ea, ta, lt, hl, hT, q⟩ := h
    refine ⟨tE1 K T c, der_er N F GG mG kG bG hr, ?_⟩
    refine ⟨_, rfl, _, rfl, rfl, kmake_form (rs := rs) (fun _ => rfl) (wid_yes n1 n2) ⟨SqL.of ea, ta⟩ (ltr_all lt) (by rw [sizeLine_eq]; omega) hT fun p D0 H1 _ e1 t1 fo => ?_⟩
    have ea1 := e1 _ _ ea (fun ps z => by cases z)
    have ta1 : ∀ r ∈ rs, TmAt K H1 r := fun r hr => (ta r hr).ext e1
    refine ⟨_, rfl, a, rs, rfl, SqL.of ea1, ta1, by rw [sizeLine_eq]; omega, fun Dd rsd H2 s2 n2' ed td er => ⟨_, _, rfl, ?_⟩⟩
    show tE2 K T c _ (s8 n a (some (.ref g)) (some (.ref p)) (some (.ref Dd)) none none none) H2
    have e02 : LamX.ExtN H H2 := extN_trans e1 (.of s2)
    exact e2_run F ⟨n1, n2, s2 _ _ ea1, fun r hr => (ta1 r hr).ext (.of s2), lt, hl, fo.ext (.of s2), ed, td, er, t1.ext s2⟩ fun H' e t => q H' (extN_trans e02 e) t
end
end L2.Fo

/-! # the law: its term -/
namespace L2.Fo
open PySem PySem.Spec PyProof.Rows L2.Vf L2.Dw L2.Ch L2.Nk L2.Lt
abbrev sLa : Stmt := top 41
abbrev nLa : List Str := ["_law_script", "_law_cell", "_law_purse_here", "_law_width", "_law_terms_here", "_law_given", "_law_form", "_law_due", "_law_turn", "_law_told", "_law_coefficient", "_law_letters"]
theorem scLa : FnScope nLa ["_law_script"] (defScope sLa) := ⟨rfl, rfl, rfl, by decide +kernel, rfl, by decide +kernel, by decide +kernel⟩
abbrev tNeg (K : PySem.W.Frag) : TE := tLc (iList K (tSl (rSlL K) (tVar 4) tNoPart (tPart (tCall spDr [] E0 (tCons (tVar 2) (tCons (tC (.int 3)) tNil)))))) (gTup K 2 (gCons (gName 10) (gCons (gName 11) gNil))) tYes (tTup (tCons (tOp (rI0 fun i j => .int (i - j)) (tC (.int 0)) (tVar 10)) (tCons (tVar 11) tNil))) [10, 11]
def tIn (K : PySem.W.Frag) (C : Addr) : TS := tSeq (tAsg (tMeth C "terms" (spTs K C) [] E0 (tVar 6) tNil) (gName 9)) (tSeq (tIfS (tOr (tTest (tOp rNe (tFld K (tVar 6) "width") (tVar 3))) (tTest (tOp rNe (tRp K (tVar 9)) (tRp K (tVar 7))))) (tRet (tC (.bl false))) tNext) (tDrop (tBM K "list" rAppend (tVar 9) (tCons (tC .non) tNil))))
def tZ (K : PySem.W.Frag) (T : List (Addr × Str)) : TS := tSeq (tIfS (tOr (tNot (tB (tCall (spRf K T) [] E0 (tCons (tVar 3) (tCons (tVar 4) tNil))))) (tNot (tB (tCall spU [] E0 (tCons (tVar 3) tNil))))) (tRet (tC (.bl false))) tNext) (tIfS (tNot (tB (tCall (spEr K T) [] E0 (tCons (tVar 2) (tCons (tVar 3) (tCons (tVar 4) tNil)))))) (tRet (tC (.bl false))) tNext)
def tY (K : PySem.W.Frag) (T : List (Addr × Str)) (c : Cls4) : TS := tSeq (tDrop (tBM K "list" rAppend (tVar 5) (tCons (tC .non) tNil))) (tSeq (tFor (iRng1 (tCons (tC (.int 2)) tNil)) (gName 8) (tIn K c.C)) (tZ K T))
def tX (K : PySem.W.Frag) (T : List (Addr × Str)) (c : Cls4) : TS := tSeq (tAsg (tCB (fun xs H Q => ∃ p ys, xs = [.ref p] ∧ (SqL K H p ys ∨ SqT K H p ys) ∧ ∀ l, H l = none → Q (.ref l) (upd H l (.lst ys))) (tCons (tVar 4) tNil)) (gName 5)) (tSeq (tPar 6 7 (tCons (tMk K T c (tVar 3) (tVar 5)) (tCons (tCall (spTg K) [] E0 (tCons (tVar 4) tNil)) tNil))) (tY K T c))
def tW (K : PySem.W.Frag) (T : List (Addr × Str)) (c : Cls4) : TS := tSeq (tAsg (tCall (spTr K) [] E0 (tCons (tVar 2) (tCons (tVar 3) (tCons (tC (.int 6)) (tCons (tC (.int 3)) tNil))))) (gName 4)) (tSeq (tAsg (tOp rCat (tVar 4) (tNeg K)) (gName 4)) (tX K T c))
def tBo (K : PySem.W.Frag) (T : List (Addr × Str)) (c : Cls4) : TS := tSeq (tAsg (tCall (spPu K) [] E0 (tCons (tVar 0) (tCons (tVar 1) tNil))) (gName 2)) (tSeq (tAsg (tOp (rI0 fun i j => .int (i + j)) (tC (.int 1)) (tCall spDr [] E0 (tCons (tVar 2) (tCons (tC (.int 2)) tNil)))) (gName 3)) (tW K T c))
def tLa (K : PySem.W.Frag) (T : List (Addr × Str)) (c : Cls4) : TS := tSeq (tFor (iRng1 (tCons (tC (.int 4)) tNil)) (gName 1) (tBo K T c)) (tRet (tC (.bl true)))
/-- a def by its name -/
structure Df (P : Program) (w : World) (K : PySem.W.Frag) (mg : Str → Option Value) (base : Heap) (x : Str) (k : Nat) (ps : List Str) (sp : Sp) (f : Addr) (fd : FuncData) : Prop where
  g : FnOk P w K mg base CX0 k f fd ps sp
  m : mg x = some (.ref f)
  k : PySem.W.keepIn K (.ref f) = true
  b : Binds K fd ps []
structure DfG (P : Program) (w : World) (K : PySem.W.Frag) (mg : Str → Option Value) (base : Heap) (x : Str) (k : Nat) (ps : List Str) (sp : Sp) (f : Addr) (fd : FuncData) : Prop where
  g : FnG P w K mg base CX0 k f fd ps sp
  m : mg x = some (.ref f)
  k : PySem.W.keepIn K (.ref f) = true
  b : Binds K fd ps []
section
variable {P : Program} {w : World} {K : PySem.W.Frag} {mg : Str → Option Value} {base : Heap} {T : List (Addr × Str)} {c : Cls4}
theorem der_la {fI fE fS fP fD fR fG fF fU fQ f : Addr} {dI dE dS dP dD dR dG dF dU dQ : FuncData} {cdv : Value} {A : Around} {outer : List Env} {s : Shared} {H : Hp} {E : XK} (N : Nm mg) (F : FmT P w K mg base T c fI fE fS dI dE dS)
    (GP : Df P w K mg base "_law_purse" 1 ["_law_script", "_law_at"] (spPu K) fP dP) (GD : Df P w K mg base "_law_draw" 2 ["_law_purse_here", "_law_out_of"] spDr fD dD) (GR : Df P w K mg base "_law_terms" 4 ["_law_purse_here", "_law_width", "_law_most", "_law_letters_to"] (spTr K) fR dR)
    (GG : Df P w K mg base "_law_together" 1 ["_law_terms_here"] (spTg K) fG dG) (GF : DfG P w K mg base "_law_refused" 9 ["_law_width", "_law_terms_here"] (spRf K T) fF dF) (GU : DfG P w K mg base "_law_told_right" 6 ["_law_width"] spU fU dU)
    (GQ : Df P w K mg base "_law_equal_right" 8 ["_law_purse_here", "_law_width", "_law_terms_here"] (spEr K T) fQ dQ)
    (hg : (A.deeper (envOfC "law" (defScope sLa) s.heap.objs.size f cdv)).guards = some []) (hr : Room 9 (A.deeper (envOfC "law" (defScope sLa) s.heap.objs.size f cdv))) :
    PSs (cxOf CX0 P w K mg base nLa "law" (defScope sLa) f cdv A outer s H E).nox (defBody sLa) (tLa K T c) := by
  have hu := hr.units
  have hr1 := hr.mono (show 1 ≤ 9 by decide)
  have hr2 := hr.mono (show 2 ≤ 9 by decide)
  have hr4 := hr.mono (show 4 ≤ 9 by decide)
  have hr6 := hr.mono (show 6 ≤ 9 by decide)
  have hr7 := hr.mono (show 7 ≤ 9 by decide)
  have hr8 := hr.mono (show 8 ≤ 9 by decide)
  refine pss_cons (ps_for PassesOwn.never rfl (pi_range1 (by rfl) N.rng (pa_cons pe_int pa_nil)) (pg_name (i := 1) scLa.nd rfl (Or.inl rfl)) ?_) (pss_one (ps_ret pe_bl))
  refine pss_cons (ps_set (i := 2) scLa.nd rfl (.inl rfl) (pe_call GP.g hr1 rfl GP.m GP.k GP.b .nil pass0 (pa_cons (pv 0) (pa_cons (pv 1) pa_nil)))) ?_
  refine pss_cons (ps_set (i := 3) scLa.nd rfl (.inl rfl) (pe_op op_add pe_int (pe_call GD.g hr2 rfl GD.m GD.k GD.b .nil pass0 (pa_cons (pv 2) (pa_cons pe_int pa_nil))))) ?_
  refine pss_cons (ps_set (i := 4) scLa.nd rfl (.inl rfl) (pe_call GR.g hr4 rfl GR.m GR.k GR.b .nil pass0 (pa_cons (pv 2) (pa_cons (pv 3) (pa_cons pe_int (pa_cons pe_int pa_nil)))))) ?_
  refine pss_cons (ps_set (i := 4) scLa.nd rfl (.inl rfl) (pe_op op_cat (pv 4) (pe_lc (own := [("_law_coefficient", 10), ("_law_letters", 11)]) (g := gTup K 2 (gCons (gName 10) (gCons (gName 11) gNil))) (tt := tYes) (te := tTup (tCons (tOp (rI0 fun i j => .int (i - j)) (tC (.int 0)) (tVar 10)) (tCons (tVar 11) tNil))) rfl scLa.nd
    (pi_list (pe_slice sl_list (pv 4) po_none (po_some (pe_call GD.g hr2 rfl GD.m GD.k GD.b .nil pass0 (pa_cons (pv 2) (pa_cons pe_int pa_nil)))))) (blkOk_by (N := nLa) (sc := defScope sLa) (by decide +kernel)) (fun _ _ _ _ _ => pg_tup rfl (pgs_cons (pg_name (i := 10) scLa.nd rfl (Or.inl rfl)) (pgs_cons (pg_name (i := 11) scLa.nd rfl (Or.inl rfl)) pgs_nil)))
    (fun _ _ _ _ _ => pts_nil) (fun _ _ _ _ _ => pe_tup (pa_cons (pe_op op_sub pe_int (pv 10)) (pa_cons (pv 11) pa_nil)))))) ?_
  refine pss_cons (ps_set (i := 5) scLa.nd rfl (.inl rfl) (pe_callTy call_list_of (by rfl) N.lst PyProof.Rows.boot_list (pa_cons (pv 4) pa_nil))) ?_
  refine pss_cons (ps_par (i := 6) (j := 7) rfl scLa.nd rfl rfl (by decide) rfl rfl (pa_cons (pe_makeS F.mkd F.gI hr7 rfl F.ft.mg_ F.bI .nil (fun σ => passAt takes0 σ) (pa_cons (pv 3) (pa_cons (pv 5) pa_nil))) (pa_cons (pe_call GG.g hr1 rfl GG.m GG.k GG.b .nil pass0 (pa_cons (pv 4) pa_nil)) pa_nil)) rfl) ?_
  refine pss_cons (ps_expr (pe_bm PySem.F.plainAttrs_list PySem.F.slot_list_append PySem.F.type_list_append mt_append (pv 5) (pa_cons pe_non pa_nil))) ?_
  refine pss_cons (ps_for PassesOwn.never rfl (pi_range1 (by rfl) N.rng (pa_cons pe_int pa_nil)) (pg_name (i := 8) scLa.nd rfl (Or.inl rfl)) ?_) ?_
  · refine pss_cons (ps_set (i := 9) scLa.nd rfl (.inl rfl) (pe_meth0 (pv 6) F.ft.cl F.mS F.gS hr1 F.bS .nil pass0)) ?_
    refine pss_cons (ps_if (PW.pt (pw_or (pt_cmpR op_ne (pe_fld (pv 6) rfl) (pv 3) (nomark _)) (pw_or1 (pt_cmpR op_ne (pe_callB (call_reprD hg hu) (by rfl) N.rep boot_repr (pa_cons (pv 9) pa_nil)) (pe_callB (call_reprD hg hu) (by rfl) N.rep boot_repr (pa_cons (pv 7) pa_nil)) (nomark _))))) (pss_one (ps_ret pe_bl)) pss_nil) ?_
    exact pss_one (ps_expr (pe_bm PySem.F.plainAttrs_list PySem.F.slot_list_append PySem.F.type_list_append mt_append (pv 9) (pa_cons pe_non pa_nil)))
  refine pss_cons (ps_if (PW.pt (pw_or (pt_not (pt_val (pe_callG GF.g hg hr rfl GF.m GF.k GF.b .nil pass0 (pa_cons (pv 3) (pa_cons (pv 4) pa_nil))))) (pw_or1 (pt_not (pt_val (pe_callG GU.g hg hr6 rfl GU.m GU.k GU.b .nil pass0 (pa_cons (pv 3) pa_nil))))))) (pss_one (ps_ret pe_bl)) pss_nil) ?_
  exact pss_one (ps_if (pt_not (pt_val (pe_call GQ.g hr8 rfl GQ.m GQ.k GQ.b .nil pass0 (pa_cons (pv 2) (pa_cons (pv 3) (pa_cons (pv 4) pa_nil)))))) (pss_one (ps_ret pe_bl)) pss_nil)
end
end L2.Fo

/-! # the law: what its turns lean on -/
namespace L2.Fo
open PySem PySem.Spec PyProof.Rows L2.Vf L2.Dw L2.Ch L2.Nk L2.Lt
theorem coef_bound {B : Nat} : ∀ {ts : List (Int × Wd)}, (∀ t ∈ ts, t.1.natAbs ≤ B) → ∀ k, (coef ts k).natAbs ≤ ts.length * B
  | [], _, k => by simp [coef]
  | t :: ts, h, k => by
    have h1 := coef_bound (fun u hu => h u (List.mem_cons_of_mem _ hu)) k (ts := ts)
    have h2 := h t List.mem_cons_self
    rw [coef, List.length_cons, Nat.succ_mul]
    by_cases z : t.2 = k
    · rw [if_pos z]; omega
    · rw [if_neg z]; omega
/-- a term as the law has it -/
def Tm6 (n : Nat) (x : Int × Wd) : Prop := x.1.natAbs ≤ 10 ^ 6 ∧ x.2.length ≤ 3 ∧ ∀ l ∈ x.2, Ltr n l
theorem Tm6.sml {n : Nat} {x : Int × Wd} (h : Tm6 n x) : Sml n x := ⟨Nat.lt_of_le_of_lt h.1 (by decide +kernel), h.2⟩
theorem sum_sml {n : Nat} {U : List (Int × Wd)} (h : ∀ u ∈ U, Tm6 n u) (hl : U.length ≤ 100) : ∀ t ∈ together U, Sml n t := fun t ht => by
  obtain ⟨h1, h2⟩ := mem_together ht
  obtain ⟨u, hu, e⟩ := together_word ht
  have hb := coef_bound (fun u hu => (h u hu).1) t.2
  rw [h2] at hb
  refine ⟨Nat.lt_of_le_of_lt (Nat.le_trans hb (Nat.mul_le_mul_right _ hl)) (by decide +kernel), ?_⟩
  rw [← e]
  exact (h u hu).2
theorem sums_wr {n : Nat} {U : List (Int × Wd)} {as : List Addr} (h : ∀ u ∈ U, Tm6 n u) (hl : U.length ≤ 100) (n2 : n ≤ 2) : Wr (dTrms (together U)) as :=
  Sw.wr (Sw.lst (sw_trms (sum_sml h hl) n2 (by have := together_len U; omega))) (by decide) (by decide)
section
variable {K : PySem.W.Frag} {T : List (Addr × Str)} {C CN CL CT : Addr} {H H' : Hp} {n : Nat} {a : Addr} {rs : List Trm} {σ : St}
/-- a form is made, its list new -/
theorem kmake_formG {gb : V → List V} {E : XK} {Q : VK} (hg : ∀ x, gb x = [x, .int (n : Nat), .ref a]) (wn : widD (.int (n : Nat)) = true) (ts : TsAt K H a rs) (tm : ((rs.map fun r : Trm => r.2).map dTrm).all (termD n) = true) (hl : rs.length < sizeLine) (hT : LamX.Tabs T H)
    (q : ∀ p D H', H p = none → (∀ b xs, H b = some (.lst xs) → b ≠ D) → LamX.ExtN H H' → LamX.Tabs T H' → FoAt K C H' p n (together (rs.map fun r : Trm => r.2)) D → Q (.ref p) H') : KMake C (spFi K T C CN CL CT) gb E Q H := by
  intro x dx hx hdx ne
  rw [hg]
  have sd : Same H (upd H dx (.own x)) := same_new hdx
  have sM : Same H (upd (upd H dx (.own x)) x (.ins C dx [])) := sd.trans (same_new (by rw [upd_ne ne.symm]; exact hx))
  refine ⟨x, dx, .int (n : Nat), .ref a, .int (n : Nat), .list ((rs.map fun r : Trm => r.2).map dTrm), [], [a], rfl, upd_same, .int _, sh_mono (ts_sh ts) sM, hT.ext sM, .inr ⟨n, rfl, wn, .inr ⟨_, rfl, .inr ⟨rs.map fun r : Trm => r.2, rfl, tm, by rw [List.length_map, List.length_map]; exact hl, fun H' D kN T' nD fo => ⟨rfl, q x D H' hx (fun b xs hb z => ?_) (fun b o hb ho => kN b o (ne_of_none hb hx) ho (sM _ _ hb)) T' fo⟩⟩⟩⟩⟩
  obtain ⟨ps, e⟩ := nD _ (sM _ _ (z ▸ hb))
  cases e
/-- some of the terms, their coefficients turned -/
theorem neg_run {g D : Addr} {k : Nat} {Q : VK} (hσ : σ.length = 12) (h2 : σ[2]? = some (some (.ref g))) (h4 : σ[4]? = some (some (.ref D))) (hp : Pu H g k) (hk : k ≤ 1000000) (gD : g ≠ D) (eD : H D = some (.lst (rs.map fun r => V.ref r.1))) (tm : ∀ r ∈ rs, TmAt K H r) (hl : rs.length ≤ 100)
    (q : ∀ (D2 : Addr) (rs2 : List Trm) (H' : Hp), Keep g H H' → H' D2 = some (.lst (rs2.map fun r => V.ref r.1)) → (∀ r ∈ rs2, TmAt K H' r ∧ ∃ r0 ∈ rs, r.2 = (0 - r0.2.1, r0.2.2)) → rs2.length ≤ rs.length → Q (.ref D2) H') : tNeg K σ H Q := by
  obtain ⟨gl, hgl⟩ := hp.lst
  refine ⟨_, h4, _, h2, g, 3, k, rfl, by decide, by decide, hp, by omega, fun r H1 r0 r1 k1 p1 => ⟨r, rfl, D, _, rfl, SqL.of (k1 _ _ gD.symm eD), fun S hS => ⟨S, rfl, ⟨_, SqL.of upd_same⟩, fun D2 hD2 => ?_⟩⟩⟩
  obtain ⟨rs1, ec, hsub, hlen⟩ : ∃ rs1 : List Trm, cutV (rs.map fun r => V.ref r.1) none (some r) = rs1.map (fun r => V.ref r.1) ∧ (∀ x ∈ rs1, x ∈ rs) ∧ rs1.length ≤ rs.length := by
    refine ⟨_, by unfold cutV; rw [← List.map_drop, ← List.map_take], fun x hx => List.mem_of_mem_drop (List.mem_of_mem_take hx), ?_⟩
    rw [List.length_take, List.length_drop]
    omega
  rw [ec] at hD2 ⊢
  have sS := same_new (o := .lst (rs1.map fun r => V.ref r.1)) hS
  have tmS : ∀ r ∈ rs, TmAt K (upd H1 S (.lst (rs1.map fun r => V.ref r.1))) r := fun r hr => by
    obtain ⟨b, h1, h2⟩ := tm r hr
    exact TmAt.ext (.of sS) ⟨b, sqT_keep h1 hgl k1, h2.mono fun c us h => sqT_keep h hgl k1⟩
  have eS : (upd H1 S (.lst (rs1.map fun r => V.ref r.1))) S = some (.lst (rs1.map fun r => V.ref r.1)) := upd_same
  have kS : Keep g H (upd H1 S (.lst (rs1.map fun r => V.ref r.1))) := k1.trans (.of sS)
  refine lc_list (xs := rs1.map fun r => V.ref r.1) (fun i H2 => Same (upd H1 S (.lst (rs1.map fun r => V.ref r.1))) H2 ∧ ∃ rs2 : List Trm, H2 D2 = some (.lst (rs2.map fun r => V.ref r.1)) ∧ (∀ r ∈ rs2, TmAt K H2 r ∧ ∃ r0 ∈ rs, r.2 = (0 - r0.2.1, r0.2.2)) ∧ rs2.length ≤ i) ?_ ?_ ?_ ?_
  · exact ⟨same_new hD2, [], upd_same, fun r hr => absurd hr (by simp), Nat.le_refl _⟩
  · rintro i H2 _ ⟨s2, _⟩
    exact SqL.of (s2 _ _ eS)
  · rintro i x H2 hx ⟨s2, rs2, e2, t2, l2⟩
    have hi : i < (rs1.map fun r => V.ref r.1).length := (List.getElem?_eq_some_iff.mp hx).1
    rw [List.length_map] at hi
    rw [List.getElem?_map] at hx
    obtain ⟨r, hr, rfl⟩ := Option.map_eq_some_iff.mp hx
    have hm := hsub r (List.mem_of_getElem? hr)
    obtain ⟨b, g1, g2⟩ := TmAt.ext (.of s2) (tmS r hm)
    have w0 : wipe (((wipe σ [10, 11]).set 10 (some (.int r.2.1))).set 11 (some (.ref b))) [10, 11] = wipe σ [10, 11] := by
      match σ, hσ with
      | [s0, s1, s2, s3, s4, s5, s6, s7, s8, s9, s10, s11], _ => rfl
    have g10 : (((wipe σ [10, 11]).set 10 (some (.int r.2.1))).set 11 (some (.ref b)))[10]? = some (some (.int r.2.1)) := by
      match σ, hσ with
      | [s0, s1, s2, s3, s4, s5, s6, s7, s8, s9, s10, s11], _ => rfl
    have g11 : (((wipe σ [10, 11]).set 10 (some (.int r.2.1))).set 11 (some (.ref b)))[11]? = some (some (.ref b)) := by
      match σ, hσ with
      | [s0, s1, s2, s3, s4, s5, s6, s7, s8, s9, s10, s11], _ => rfl
    refine ⟨r.1, _, rfl, g1, rfl, _, _, rfl, _, _, rfl, rfl, w0, ?_⟩
    refine ⟨_, g10, _, _, rfl, rfl, _, g11, by show 2 ≤ sizeLine; decide, fun v hv => ?_⟩
    have s3 : Same H2 (upd H2 v (.tup [.int (0 - r.2.1), .ref b])) := same_new hv
    have e3 := s3 _ _ e2
    have keepD : ∀ (c : Addr) (us : List V), SqT K (upd H2 v (.tup [.int (0 - r.2.1), .ref b])) c us → SqT K (upd (upd H2 v (.tup [.int (0 - r.2.1), .ref b])) D2 (.lst ((rs2.map fun r => V.ref r.1) ++ [.ref v]))) c us := fun c us h => sqT_upd e3 True.intro h
    refine ⟨_, e3, by rw [List.length_map, sizeLine_eq]; omega, fun b' o hb => by rw [upd_ne (ne_of_none hb hD2)]; exact s3 _ _ (s2 _ _ hb), rs2 ++ [(v, 0 - r.2.1, r.2.2)], by rw [upd_same, List.map_append]; rfl, fun x hx => ?_, by rw [List.length_append]; simp; omega⟩
    rcases List.mem_append.mp hx with hx | hx
    · obtain ⟨⟨b', h1, h2⟩, h3⟩ := t2 x hx
      exact ⟨⟨b', keepD _ _ (sqT_ext (.of s3) h1), h2.mono fun c us h => keepD c us (sqT_ext (.of s3) h)⟩, h3⟩
    · rw [List.mem_singleton.mp hx]
      exact ⟨⟨b, keepD _ _ (SqT.of upd_same), g2.mono fun c us h => keepD c us (sqT_ext (.of s3) h)⟩, r, hm, rfl⟩
  · rintro H2 ⟨s2, rs2, e2, t2, l2⟩
    rw [List.length_map] at l2
    exact q D2 rs2 H2 (kS.trans (.of s2)) e2 t2 (by omega)
end
end L2.Fo

/-! # the law: one turn, read from the end -/
namespace L2.Fo
open PySem PySem.Spec PyProof.Rows L2.Vf L2.Dw L2.Ch L2.Nk L2.Lt
abbrev sL (a g B : Addr) (n : Nat) (x1 x5 x6 x7 x8 x9 : Option V) : St := [some (.ref a), x1, some (.ref g), some (.int (n : Nat)), some (.ref B), x5, x6, x7, x8, x9, none, none]
/-- the terms stand -/
structure LaC (K : PySem.W.Frag) (T : List (Addr × Str)) (H : Hp) (n : Nat) (B : Addr) (rs : List Trm) : Prop where
  n1 : 1 ≤ n
  n2 : n ≤ 2
  eb : H B = some (.lst (rs.map fun r => V.ref r.1))
  tb : ∀ r ∈ rs, TmAt K H r
  t6 : ∀ u ∈ Us rs, Tm6 n u
  hl : rs.length ≤ 100
  ht : LamX.Tabs T H
theorem LaC.ext {K : PySem.W.Frag} {T : List (Addr × Str)} {H H' : Hp} {n : Nat} {B : Addr} {rs : List Trm} (h : LaC K T H n B rs) (e : LamX.ExtN H H') (t : LamX.Tabs T H') : LaC K T H' n B rs :=
  ⟨h.n1, h.n2, e _ _ h.eb (fun ps z => by cases z), fun r hr => (h.tb r hr).ext e, h.t6, h.hl, t⟩
section
variable {P : Program} {w : World} {K : PySem.W.Frag} {mg : Str → Option Value} {base : Heap} {T : List (Addr × Str)} {c : Cls4} {fI fE fS : Addr} {dI dE dS : FuncData}
variable {H : Hp} {n : Nat} {a g B G p D0 Dd : Addr} {x1 x5 x6 x7 x8 x9 : Option V} {D : Ends} {rs rsd : List Trm}
theorem z_run (h : LaC K T H n B rs) (q : ∀ H', LamX.ExtN H H' → LamX.Tabs T H' → D.nx (sL a g B n x1 x5 x6 x7 x8 x9) H') : tZ K T D (sL a g B n x1 x5 x6 x7 x8 x9) H := by
  have us : ∀ r ∈ rs, Tm6 n r.2 := fun r hr => h.t6 _ (List.mem_map.mpr ⟨r, hr, rfl⟩)
  refine ⟨_, rfl, _, rfl, n, B, rs, rfl, h.n1, h.n2, ⟨SqL.of h.eb, h.tb⟩, h.hl, fun r hr => (us r hr).sml, h.ht, fun H1 e1 t1 => ⟨_, rfl, iteF ?_⟩⟩
  refine ⟨_, rfl, n, rfl, h.n1, h.n2, fun H2 s2 => ⟨_, rfl, iteF ?_⟩⟩
  have e2 := extN_trans e1 (.of s2)
  have t2 := t1.ext s2
  have h2 := h.ext e2 t2
  refine ⟨_, rfl, _, rfl, _, rfl, g, B, n, rs, rfl, h.n1, h.n2, h2.eb, h2.tb, fun u hu => (h.t6 u hu).2.2, h.hl, t2, fun H3 e3 t3 => ⟨_, rfl, iteF (q H3 (extN_trans e2 e3) t3)⟩⟩
/-- the form tells its terms and its width -/
theorem in_run (F : FmT P w K mg base T c fI fE fS dI dE dS) (h : LaC K T H n B rs) (fo : FoAt K c.C H p n (together (Us rs)) D0) (ed : H Dd = some (.lst (rsd.map fun r => V.ref r.1))) (td : ∀ r ∈ rsd, TmAt K H r) (er : Us rsd = together (Us rs))
    (q : ∀ H' x9, Same H H' → D.nx (sL a g B n x1 x5 (some (.ref p)) (some (.ref Dd)) x8 x9) H') : tIn K c.C D (sL a g B n x1 x5 (some (.ref p)) (some (.ref Dd)) x8 x9) H := by
  have fo' := fo
  obtain ⟨dx, r1, hp1, _⟩ := fo'
  have hlU : (Us rs).length ≤ 100 := by rw [List.length_map]; exact h.hl
  refine ⟨_, rfl, p, dx, _, rfl, hp1, rfl, p, n, together (Us rs), D0, rfl, fo, fun l rs' H1 hl s1 el tm er' => ?_⟩
  refine ⟨_, rfl, p, c.C, dx, _, .int (n : Nat), rfl, s1 _ _ hp1, F.ft.cl, F.ft.nW, rfl, _, rfl, rfl, _, rfl, ?_⟩
  rw [decide_eq_true rfl]
  refine iteF ⟨_, rfl, .ref l, dTrms (together (Us rs)), _, rfl, trms_sh (SqL.of el) tm er', sums_wr h.t6 hlU h.n2, ?_⟩
  refine ⟨_, rfl, .ref Dd, dTrms (together (Us rs)), _, rfl, trms_sh (SqL.of (s1 _ _ ed)) (fun r hr => (td r hr).ext (.of s1)) er, sums_wr h.t6 hlU h.n2, ?_⟩
  refine ne_same (iteF ?_)
  have l1 : rs'.length ≤ 100 := by
    have := congrArg List.length er'
    rw [List.length_map] at this
    rw [this]
    exact Nat.le_trans (together_len _) hlU
  refine ⟨_, rfl, .inl ⟨rfl, _, SqL.of el⟩, l, _, .non, rfl, rfl, el, by rw [List.length_map, sizeLine_eq]; omega, ?_⟩
  exact q _ _ fun b o hb => by rw [upd_ne (ne_of_none hb hl)]; exact s1 _ _ hb
theorem y_run (F : FmT P w K mg base T c fI fE fS dI dE dS) (h : LaC K T H n B rs) (fo : FoAt K c.C H p n (together (Us rs)) D0) (ed : H Dd = some (.lst (rsd.map fun r => V.ref r.1))) (td : ∀ r ∈ rsd, TmAt K H r) (er : Us rsd = together (Us rs))
    (eG : H G = some (.lst (rs.map fun r => V.ref r.1))) (gB : G ≠ B) (gD : G ≠ D0) (gd : G ≠ Dd) (Hb : Hp) (e0 : LamX.ExtN Hb H) (nG : Hb G = none) (q : ∀ H' x8 x9, LamX.ExtN Hb H' → LamX.Tabs T H' → D.nx (sL a g B n x1 (some (.ref G)) (some (.ref p)) (some (.ref Dd)) x8 x9) H') :
    tY K T c D (sL a g B n x1 (some (.ref G)) (some (.ref p)) (some (.ref Dd)) x8 x9) H := by
  refine ⟨_, rfl, .inl ⟨rfl, _, SqL.of eG⟩, G, _, .non, rfl, rfl, eG, by rw [List.length_map, sizeLine_eq]; have := h.hl; omega, ?_⟩
  have k : Keep G H (upd H G (.lst (rs.map (fun r => V.ref r.1) ++ [.non]))) := keep_upd
  have e1 : LamX.ExtN Hb (upd H G (.lst (rs.map (fun r => V.ref r.1) ++ [.non]))) := fun b o hb ho => k b o (ne_of_none hb nG) (e0 b o hb ho)
  have tmk : ∀ r, TmAt K H r → TmAt K (upd H G (.lst (rs.map (fun r => V.ref r.1) ++ [.non]))) r := fun r ⟨b, h1, h2⟩ => ⟨b, sqT_keep h1 eG k, h2.mono fun c us h => sqT_keep h eG k⟩
  have t1 : LamX.Tabs T (upd H G (.lst (rs.map (fun r => V.ref r.1) ++ [.non]))) := by
    intro x hx
    obtain ⟨ps, g1, g2, g3⟩ := h.ht x hx
    refine ⟨ps, k _ _ (fun z => by rw [z, eG] at g1; cases g1) g1, g2, fun pos cv hc => ?_⟩
    obtain ⟨c0, c1, c2⟩ := g3 pos cv hc
    exact ⟨c0, c1, by unfold LamX.CodeO at c2 ⊢; exact k _ _ (fun z => by rw [z, eG] at c2; cases c2) c2⟩
  have h1 : LaC K T (upd H G (.lst (rs.map (fun r => V.ref r.1) ++ [.non]))) n B rs := ⟨h.n1, h.n2, k _ _ gB.symm h.eb, fun r hr => tmk r (h.tb r hr), h.t6, h.hl, t1⟩
  have fo1 : FoAt K c.C (upd H G (.lst (rs.map (fun r => V.ref r.1) ++ [.non]))) p n (together (Us rs)) D0 := by
    obtain ⟨dx, r1, f1, f2, f3, f4⟩ := fo
    exact ⟨dx, r1, k _ _ (fun z => by rw [z, eG] at f1; cases f1) f1, k _ _ gD.symm f2, fun r hr => tmk r (f3 r hr), f4⟩
  have ed1 := k _ _ gd.symm ed
  have td1 : ∀ r ∈ rsd, TmAt K (upd H G (.lst (rs.map (fun r => V.ref r.1) ++ [.non]))) r := fun r hr => tmk r (td r hr)
  generalize upd H G (.lst (rs.map (fun r => V.ref r.1) ++ [.non])) = H1 at e1 t1 h1 fo1 ed1 td1
  show tFor (iRng1 (tCons (tC (.int 2)) tNil)) (gName 8) (tIn K c.C) { D with nx := tZ K T D } (sL a g B n x1 (some (.ref G)) (some (.ref p)) (some (.ref Dd)) x8 x9) H1
  refine ⟨2, rfl, by decide, by decide, ?_⟩
  refine for_range (lo := 0) (n := 2) (fun i σ H' => (∃ x8 x9, σ = sL a g B n x1 (some (.ref G)) (some (.ref p)) (some (.ref Dd)) x8 x9) ∧ Same H1 H') ⟨⟨x8, x9, rfl⟩, Same.refl _⟩ (fun i σ H' hi hP => ?_) fun σ H' hP => ?_
  · obtain ⟨⟨y8, y9, rfl⟩, s⟩ := hP
    exact in_run (x8 := some (.int (0 + (i : Int)))) (x9 := y9) F (h1.ext (.of s) (t1.ext s)) (fo1.ext (.of s)) (s _ _ ed1) (fun r hr => (td1 r hr).ext (.of s)) er fun H2 y s2 => ⟨⟨_, _, rfl⟩, s.trans s2⟩
  · obtain ⟨⟨y8, y9, rfl⟩, s⟩ := hP
    exact z_run (h1.ext (.of s) (t1.ext s)) fun H2 e2 t2 => q H2 y8 y9 (extN_trans e1 (extN_trans (.of s) e2)) t2
end
end L2.Fo

/-! # the law: its promise -/
namespace L2.Fo
open PySem PySem.Spec PyProof.Rows L2.Vf L2.Dw L2.Ch L2.Nk L2.Lt
section
variable {P : Program} {w : World} {K : PySem.W.Frag} {mg : Str → Option Value} {base : Heap} {T : List (Addr × Str)} {c : Cls4} {fI fE fS : Addr} {dI dE dS : FuncData}
variable {H : Hp} {n : Nat} {a g B G p D0 Dd : Addr} {x1 x2 x3 x4 x5 x6 x7 x8 x9 : Option V} {D : Ends} {rs rsd : List Trm}
theorem x_run (F : FmT P w K mg base T c fI fE fS dI dE dS) (h : LaC K T H n B rs) (q : ∀ H' x5 x6 x7 x8 x9, LamX.ExtN H H' → LamX.Tabs T H' → D.nx (sL a g B n x1 x5 x6 x7 x8 x9) H') :
    tX K T c D (sL a g B n x1 x5 x6 x7 x8 x9) H := by
  refine ⟨_, rfl, B, _, rfl, .inl (SqL.of h.eb), fun G hG => ?_⟩
  have sG := same_new (o := .lst (rs.map fun r => V.ref r.1)) hG
  have gB : G ≠ B := fun z => by rw [z, h.eb] at hG; cases hG
  have h1 := h.ext (.of sG) (h.ht.ext sG)
  have tsG : TsAt K (upd H G (.lst (rs.map fun r => V.ref r.1))) G rs := ⟨SqL.of upd_same, h1.tb⟩
  have lt : ∀ u ∈ Us rs, ∀ l ∈ u.2, Ltr n l := fun u hu => (h.t6 u hu).2.2
  refine ⟨_, rfl, _, rfl, rfl, kmake_formG (rs := rs) (fun _ => rfl) (wid_yes h.n1 h.n2) tsG (ltr_all lt) (by rw [sizeLine_eq]; have := h.hl; omega) h1.ht fun p D0 H2 _ nD e2 t2 fo => ?_⟩
  have h2 := h1.ext e2 t2
  refine ⟨_, rfl, B, rs, rfl, SqL.of h2.eb, h2.tb, by rw [sizeLine_eq]; have := h.hl; omega, fun Dd rsd H3 s3 nd ed td er => ⟨_, _, rfl, ?_⟩⟩
  have h3 := h2.ext (.of s3) (t2.ext s3)
  have eG2 := e2 _ _ (upd_same (H := H) (a := G) (o := .lst (rs.map fun r => V.ref r.1))) (fun ps z => by cases z)
  have gd : G ≠ Dd := fun z => by rw [z, nd] at eG2; cases eG2
  show tY K T c D (sL a g B n x1 (some (.ref G)) (some (.ref p)) (some (.ref Dd)) x8 x9) H3
  exact y_run F h3 (fo.ext (.of s3)) ed td er (s3 _ _ eG2) gB (nD _ _ upd_same) gd H (extN_trans (.of sG) (extN_trans e2 (.of s3))) hG fun H4 y8 y9 e4 t4 => q H4 _ _ _ y8 y9 e4 t4
theorem tm6_of {x : Int × Wd} (h : Drawn n 3 x) : Tm6 n x := by
  obtain ⟨h1, h2, h3, h4⟩ := h
  exact ⟨by omega, h3, h4⟩
theorem w_run {k : Nat} (F : FmT P w K mg base T c fI fE fS dI dE dS) (n1 : 1 ≤ n) (n2 : n ≤ 2) (hT : LamX.Tabs T H) (hp : Pu H g k) (hk : k ≤ 90000) (Hb : Hp) (sb : Same Hb H) (ng : Hb g = none)
    (q : ∀ B H' x5 x6 x7 x8 x9, LamX.ExtN Hb H' → LamX.Tabs T H' → D.nx (sL a g B n x1 x5 x6 x7 x8 x9) H') :
    tW K T c D [some (.ref a), x1, some (.ref g), some (.int (n : Nat)), x4, x5, x6, x7, x8, x9, none, none] H := by
  refine ⟨_, rfl, _, rfl, g, n, 6, 3, k, rfl, n1, n2, by decide, by decide, hp, by omega, fun D1 rs1 H1 nD1 k1 p1 l1 tm1 e1 => ?_⟩
  have gD : g ≠ D1 := hp.ne nD1
  have tT : ∀ {H H' : Hp} {g : Addr}, LamX.Tabs T H → (∃ xs, H g = some (.lst xs)) → Keep g H H' → LamX.Tabs T H' := fun {H H' g} t hg k x hx => by
    obtain ⟨gl, eg⟩ := hg
    obtain ⟨ps, g1, g2, g3⟩ := t x hx
    refine ⟨ps, k _ _ (fun z => by rw [z, eg] at g1; cases g1) g1, g2, fun pos cv hc => ?_⟩
    obtain ⟨c0, c1, c2⟩ := g3 pos cv hc
    exact ⟨c0, c1, by unfold LamX.CodeO at c2 ⊢; exact k _ _ (fun z => by rw [z, eg] at c2; cases c2) c2⟩
  have keepS : ∀ {H H' : Hp}, Same Hb H → Keep g H H' → Same Hb H' := fun {H H'} s k b u e => k b u (ne_of_none e ng) (s b u e)
  have t1 := tT hT hp.lst k1
  have s1 := keepS sb k1
  refine ⟨_, rfl, ?_⟩
  refine neg_run (rs := rs1) (g := g) (D := D1) rfl rfl rfl p1 (by omega) gD e1 (fun r hr => (tm1 r hr).1) (by omega) fun D2 rs2 H2 k2 e2 tm2 l2 => ?_
  obtain ⟨gl, egl⟩ := p1.lst
  have t2 := tT t1 p1.lst k2
  have s2 := keepS s1 k2
  have e12 := k2 _ _ gD.symm e1
  have tm12 : ∀ r ∈ rs1, TmAt K H2 r := fun r hr => by
    obtain ⟨b, h1, h2⟩ := (tm1 r hr).1
    exact ⟨b, sqT_keep h1 egl k2, h2.mono fun c us h => sqT_keep h egl k2⟩
  refine ⟨D1, D2, _, _, rfl, rfl, e12, e2, by rw [List.length_map, List.length_map, sizeLine_eq]; omega, fun B hB => ?_⟩
  have sB := same_new (o := .lst (rs1.map (fun r => V.ref r.1) ++ rs2.map fun r => V.ref r.1)) hB
  have hL : LaC K T (upd H2 B (.lst (rs1.map (fun r => V.ref r.1) ++ rs2.map fun r => V.ref r.1))) n B (rs1 ++ rs2) := by
    refine ⟨n1, n2, by rw [upd_same, List.map_append], fun r hr => ?_, fun u hu => ?_, by rw [List.length_append]; omega, t2.ext sB⟩
    · rcases List.mem_append.mp hr with hr | hr
      · exact (tm12 r hr).ext (.of sB)
      · exact (tm2 r hr).1.ext (.of sB)
    · obtain ⟨r, hr, rfl⟩ := List.mem_map.mp hu
      rcases List.mem_append.mp hr with hr | hr
      · exact tm6_of (tm1 r hr).2
      · obtain ⟨_, r0, h0, e⟩ := tm2 r hr
        obtain ⟨a1, a2, a3⟩ := tm6_of (tm1 r0 h0).2
        show Tm6 n r.2
        rw [e]
        exact ⟨by show (0 - r0.2.1).natAbs ≤ 10 ^ 6; omega, a2, a3⟩
  show tX K T c D (sL a g B n x1 x5 x6 x7 x8 x9) _
  exact x_run F hL fun H' y5 y6 y7 y8 y9 e t => q B H' y5 y6 y7 y8 y9 (extN_trans (.of (s2.trans sB)) e) t
theorem bo_run {ns : List Int} {i : Nat} (F : FmT P w K mg base T c fI fE fS dI dE dS) (hT : LamX.Tabs T H) (ha : SqL K H a (ns.map V.int)) (hi : i < 4)
    (q : ∀ σ H', (∃ y1 y2 y3 y4 y5 y6 y7 y8 y9, σ = [some (.ref a), y1, y2, y3, y4, y5, y6, y7, y8, y9, none, none]) → LamX.ExtN H H' → LamX.Tabs T H' → D.nx σ H') :
    tBo K T c D [some (.ref a), some (.int (0 + (i : Int))), x2, x3, x4, x5, x6, x7, x8, x9, none, none] H := by
  refine ⟨_, rfl, _, rfl, a, ns, i, congrArg (fun x : Int => [V.ref a, V.int x]) (Int.zero_add _), ha, by omega, fun g H1 hg s1 p1 => ?_⟩
  refine ⟨_, rfl, g, 2, _, rfl, by decide, by decide, p1, by omega, fun r H2 r0 r1 k2 p2 => ⟨_, _, rfl, rfl, ?_⟩⟩
  obtain ⟨n, en, n1, n2⟩ : ∃ n : Nat, 1 + r = (n : Int) ∧ 1 ≤ n ∧ n ≤ 2 := ⟨(1 + r).toNat, by omega, by omega, by omega⟩
  obtain ⟨gl, eg⟩ := p1.lst
  have s2 : Same H H2 := fun b u e => k2 b u (ne_of_none e hg) (s1 b u e)
  have t2 : LamX.Tabs T H2 := hT.ext s2
  show tW K T c D [some (.ref a), some (.int (0 + (i : Int))), some (.ref g), some (.int (1 + r)), x4, x5, x6, x7, x8, x9, none, none] H2
  rw [en]
  exact w_run F n1 n2 t2 p2 (by omega) H s2 hg fun B H' y5 y6 y7 y8 y9 e t => q _ H' ⟨_, _, _, _, _, _, _, _, _, rfl⟩ e t
end
def spLa (K : PySem.W.Frag) (T : List (Addr × Str)) : Sp := fun vs H Q _ => ∃ (a : Addr) (ns : List Int), vs = [.ref a] ∧ SqL K H a (ns.map V.int) ∧ LamX.Tabs T H ∧ ∀ H', Q (.bl true) H'
section
variable {P : Program} {w : World} {K : PySem.W.Frag} {mg : Str → Option Value} {base : Heap} {T : List (Addr × Str)} {c : Cls4}
theorem ok_la {fI fE fS fP fD fR fG fF fU fQ f : Addr} {fd dI dE dS dP dD dR dG dF dU dQ : FuncData} (Fu : Fun K "law" "law" sLa f fd) (N : Nm mg) (F : FmT P w K mg base T c fI fE fS dI dE dS)
    (GP : Df P w K mg base "_law_purse" 1 ["_law_script", "_law_at"] (spPu K) fP dP) (GD : Df P w K mg base "_law_draw" 2 ["_law_purse_here", "_law_out_of"] spDr fD dD) (GR : Df P w K mg base "_law_terms" 4 ["_law_purse_here", "_law_width", "_law_most", "_law_letters_to"] (spTr K) fR dR)
    (GG : Df P w K mg base "_law_together" 1 ["_law_terms_here"] (spTg K) fG dG) (GF : DfG P w K mg base "_law_refused" 9 ["_law_width", "_law_terms_here"] (spRf K T) fF dF) (GU : DfG P w K mg base "_law_told_right" 6 ["_law_width"] spU fU dU)
    (GQ : Df P w K mg base "_law_equal_right" 8 ["_law_purse_here", "_law_width", "_law_terms_here"] (spEr K T) fQ dQ) :
    FnG P w K mg base CX0 10 f fd ["_law_script"] (spLa K T) := by
  refine okG Fu scLa (fun vs H Q E h => ?_) fun cdv A outer s H vs Q E hg hr h => ?_
  · obtain ⟨a, ns, rfl, _⟩ := h
    rfl
  · obtain ⟨a, ns, rfl, ha, hT, q⟩ := h
    refine ⟨tLa K T c, der_la N F GP GD GR GG GF GU GQ hg hr, ?_⟩
    refine ⟨4, rfl, by decide, by decide, ?_⟩
    refine for_range (lo := 0) (n := 4) (fun i σ H' => (∃ y1 y2 y3 y4 y5 y6 y7 y8 y9, σ = [some (.ref a), y1, y2, y3, y4, y5, y6, y7, y8, y9, none, none]) ∧ LamX.ExtN H H' ∧ LamX.Tabs T H') ⟨⟨none, none, none, none, none, none, none, none, none, rfl⟩, .of (Same.refl H), hT⟩ (fun i σ H' hi hP => ?_) fun σ H' hP => q H'
    obtain ⟨⟨y1, y2, y3, y4, y5, y6, y7, y8, y9, rfl⟩, e, t⟩ := hP
    exact bo_run F t (sqL_ext e ha) hi fun σ' H2 hσ e2 t2 => ⟨hσ, extN_trans e e2, t2⟩
end
end L2.Fo

/-! # heads by facts, 1: the law's end where tables of code stand and no repr runs around -/
namespace L2.Hd
open PySem PySem.Spec PyProof.Rows L2.Vf
/-- what the abstract heap holds when the law is called: the tables, and the script if no written part holds it -/
def hp0 (K : PySem.W.Frag) (ts : List Addr) (a : Addr) (o : Obj) (xs : List V) : Hp := fun b => if b ∈ ts then some (.tbl #[]) else if b = a ∧ K.lookup a = none then some (.frz o (.lst xs)) else none
section
variable {K : PySem.W.Frag} {ts : List Addr} {a b : Addr} {o : Obj} {xs : List V}
theorem hp0_tbl (h : b ∈ ts) : hp0 K ts a o xs b = some (.tbl #[]) := if_pos h
theorem hp0_scr (h : a ∉ ts) (hk : K.lookup a = none) : hp0 K ts a o xs a = some (.frz o (.lst xs)) := (if_neg h).trans (if_pos ⟨rfl, hk⟩)
theorem hp0_cases {u : HO} (h : hp0 K ts a o xs b = some u) : (b ∈ ts ∧ u = .tbl #[]) ∨ (b ∉ ts ∧ b = a ∧ K.lookup a = none ∧ u = .frz o (.lst xs)) := by
  unfold hp0 at h
  by_cases h1 : b ∈ ts
  · rw [if_pos h1] at h
    exact .inl ⟨h1, (Option.some.inj h).symm⟩
  · rw [if_neg h1] at h
    by_cases h2 : b = a ∧ K.lookup a = none
    · rw [if_pos h2] at h
      exact .inr ⟨h1, h2.1, h2.2, (Option.some.inj h).symm⟩
    · rw [if_neg h2] at h
      cases h
end
theorem lawGT {P : Program} {w : World} {K : PySem.W.Frag} {mg mb : Str → Option Value} {k : Nat} {fa a : Addr} {cs : List (Addr × Addr)} {fd : FuncData} {x : Str} {sp : Sp} {s : Shared} {vs : List Value} {ns : List Int}
    (KX : K.In s.heap) (hns : s.heap.Ns mainGlobals mg) (hb : s.heap.Ns builtinsNs mb) (hbb : ∀ x : Str, x ≠ "__name__" → mb x = bootBuiltins x) (hlim : s.heap.NoLimit) (hg : s.gens = #[])
    (hT : ∀ p ∈ cs, s.heap.get? p.2 = some { cls := .none, data := .fields #[] }) (nT : ∀ p ∈ cs, K.lookup p.2 = none) (hC : ∀ p ∈ cs, PySem.W.CodeHd s.heap p.1 p.2)
    (hbm : ∃ (bm : Addr) (ob : Obj), mg "__builtins__" = some (.ref bm) ∧ bm ≠ builtinsNs ∧ s.heap.get? bm = some ob ∧ ob.cls = .type "module" ∧ ob.dict = some builtinsNs ∧ ob.data = .plain)
    (ha : s.heap.get? a = some { cls := .type "list", data := .seq vs.toArray }) (hi : IntsAre vs ns) (hl : ns.length ≤ sizeLine) (hr : Room k callerA)
    (F : ∀ base : Heap, K.In base → base.Ns mainGlobals mg → (∀ p ∈ cs, LamX.TabB base mg p.1 p.2) → FnG P w K mg base CX0 k fa fd [x] sp) (hbind : ∀ (s : Shared) (u : Value), BindsTo s fd ⟨[u], []⟩ [(x, u)])
    (hsp : ∀ H : Hp, (∀ p ∈ cs, H p.2 = some (.tbl #[])) → SqL K H a (ns.map V.int) → sp [.ref a] H (fun v _ => v = .bl true) fun _ _ _ => False) :
    codeAny (model P w) callerA (.call (.ref fa) ⟨[.ref a], []⟩) (fun r s' => r = .ok (.ret (.bool true)) ∧ OldK s.heap s'.heap ∧ s'.os = s.os ∧ AllBare s'.gens) s := by
  have rv := vals_ints hi
  have lv := hi.length
  let ts := cs.map (·.2)
  have memT : ∀ p ∈ cs, p.2 ∈ ts := fun p hp => List.mem_map.mpr ⟨p, hp, rfl⟩
  have tabAt : ∀ b ∈ ts, s.heap.get? b = some { cls := .none, data := .fields #[] } := fun b hb => by
    obtain ⟨p, hp, rfl⟩ := List.mem_map.mp hb
    exact hT p hp
  have aT : a ∉ ts := fun z => by
    have q := tabAt a z
    rw [ha] at q
    injection q with q
    injection q with _ _ q
    cases q
  let H : Hp := hp0 K ts a { cls := .type "list", data := .seq vs.toArray } (ns.map V.int)
  have tbl : ∀ p ∈ cs, H p.2 = some (.tbl #[]) := fun p hp => hp0_tbl (memT p hp)
  have free : ∀ {b : Addr} {ob : Obj}, s.heap.get? b = some ob → (∀ us n, ob.data ≠ .seq us n) → ob.data ≠ .fields #[] → H b = none := fun {b ob} e h1 h2 => by
    cases q : H b with
    | none => rfl
    | some u =>
      rcases hp0_cases q with ⟨m, _⟩ | ⟨_, z, _, _⟩
      · rw [tabAt b m] at e
        injection e with e
        exact absurd (by rw [← e]) h2
      · rw [z, ha] at e
        injection e with e
        exact absurd (by rw [← e]) (h1 vs.toArray _)
  have freeD : ∀ {b : Addr} {ob : Obj} {es : Array DictEntry} {ep : Nat}, s.heap.get? b = some ob → ob.data = .dict es ep → H b = none := fun e d => free e (fun us n z => by rw [d] at z; cases z) fun z => by rw [d] at z; cases z
  let base := hidT s.heap H
  have toB : ∀ {b : Addr} {ob : Obj}, s.heap.get? b = some ob → H b = none → base.get? b = some ob := fun e n => hidT_get e n
  have nsB : ∀ {b : Addr} {m : Str → Option Value}, s.heap.Ns b m → base.Ns b m := fun {b m} ⟨ob, es, ep, e, d, r⟩ => ⟨ob, es, ep, toB e (freeD e d), d, r⟩
  have KB : K.In base := fun b ob e => toB (KX b ob e) (by
    cases q : H b with
    | none => rfl
    | some u =>
      rcases hp0_cases q with ⟨m, _⟩ | ⟨_, z, hk, _⟩
      · obtain ⟨p, hp, rfl⟩ := List.mem_map.mp m
        rw [nT p hp] at e
        cases e
      · rw [z, hk] at e
        cases e)
  have MB : L2.Mod K mg base := by
    obtain ⟨mc, l1, l2⟩ := hlim
    exact ⟨KB, nsB hns, ⟨mb, nsB hb, hbb⟩, mc, nsB l1, l2⟩
  have seqA : SqL K H a (ns.map V.int) := by
    cases hk : K.lookup a with
    | none => exact .inl (.inr ⟨_, hp0_scr aT hk⟩)
    | some ob =>
      have e := KX a ob hk
      rw [ha] at e
      injection e with e
      subst e
      refine .inr ⟨_, vs.toArray, _, hk, rfl, rfl, rfl, ?_, ?_⟩
      · rw [List.size_toArray, lv]
        exact hl
      · simpa using rv
  have okH : HOk P w H s.heap := fun b u q => by
    rcases hp0_cases q with ⟨m, rfl⟩ | ⟨_, rfl, _, rfl⟩
    · exact tabAt b m
    · refine ⟨ha, ?_, vs, _, rv, ha⟩
      rw [List.length_map]
      exact hl
  have TB : ∀ p ∈ cs, LamX.TabB base mg p.1 p.2 := fun p hp => by
    have tp := hT p hp
    refine ⟨?_, ?_, fun z => ?_⟩
    · obtain ⟨ob, us, file, tf, flags, tg, inF, text, tt, e, c1, c2, c3, c4, c5, c6, c7, c8, c9⟩ := hC p hp
      refine ⟨ob, us, file, tf, flags, tg, inF, text, tt, toB e (free e (fun us' n z => by rw [c2] at z; cases z) fun z => ?_), c1, c2, c3, c4, c5, c6, c7, c8, c9⟩
      rw [c2] at z
      cases z
      simp at c3
    · obtain ⟨bm, ob, b1, b2, b3, b4, b5, b6⟩ := hbm
      refine ⟨bm, ob, b1, b2, fun z => ?_, fun z => ?_, toB b3 (free b3 (fun us n z => by rw [b6] at z; cases z) fun z => by rw [b6] at z; cases z), b4, b5, b6⟩
      · obtain ⟨o2, es, ep, e, d, _⟩ := hns
        rw [z, e] at b3
        injection b3 with b3
        rw [← b3, d] at b6
        cases b6
      · rw [z, tp] at b3
        injection b3 with b3
        rw [← b3] at b6
        cases b6
    · obtain ⟨o2, es, ep, e, d, _⟩ := hns
      rw [z, tp] at e
      injection e with e
      rw [← e] at d
      cases d
  have e0 : Env0 P w K mg base callerA [] s H := by
    exact ⟨rfl, MB, fun b ob e => of_hidT e, Nat.le_of_eq (hidT_size _ _), trivial, fun b hb => absurd (show b ∈ ([] : List Addr) from hb) (by simp), okH, .of_eq hg⟩
  refine codeAny_mono ((F base KB (nsB hns) TB).go callerA [] s H ⟨[.ref a], []⟩ [.ref a] [.ref a] _ _ rfl hr e0 (hbind s (.ref a)) (.cons rfl .nil) (hsp H tbl seqA)) fun r s' h => ?_
  match r, h with
  | .error e, h => exact False.elim h
  | .ok .next, h => exact False.elim h
  | .ok .brk, h => exact False.elim h
  | .ok .cont, h => exact False.elim h
  | .ok (.ret u), h =>
    obtain ⟨v, H', os, bare, un, ok', ru, qv⟩ := h
    subst qv
    obtain rfl : u = Value.bool true := ru
    have grown : ∀ p ∈ cs, ∃ more : Array Value, s'.heap.get? p.2 = some { cls := .none, data := .fields more } := fun p hp => by
      obtain ⟨more, z⟩ := un.tbls p.2 #[] (tbl p hp)
      exact ⟨_, ok' p.2 _ z⟩
    have same : ∀ b ob, b ∉ ts → s.heap.get? b = some ob → s'.heap.get? b = some ob := fun b ob nb e => by
      cases q : H b with
      | none => exact un.keep b ob e q (fun z => absurd (show b ∈ ([] : List Addr) from z) (by simp)) (by simp)
      | some u =>
        rcases hp0_cases q with ⟨m, _⟩ | ⟨_, _, _, rfl⟩
        · exact absurd m nb
        · obtain ⟨g1, _⟩ := okH b _ q
          obtain ⟨g2, _⟩ := ok' b _ (un.frzs b _ _ q)
          rw [e] at g1
          rw [g1]
          exact g2
    refine ⟨rfl, ⟨fun b ob e => ?_, fun b ob e => ?_⟩, os, bare⟩
    · by_cases m : b ∈ ts
      · obtain ⟨p, hp, rfl⟩ := List.mem_map.mp m
        obtain ⟨more, hm⟩ := grown p hp
        rw [hT p hp] at e
        injection e with e
        subst e
        refine .inr (.inl ⟨((hC p hp).tab (hT p hp)).isCodeTable, rfl, #[], more, rfl, ?_⟩)
        rw [Array.empty_append]
        exact hm
      · exact .inl (same b ob m e)
    · by_cases m : b ∈ ts
      · obtain ⟨p, hp, rfl⟩ := List.mem_map.mp m
        obtain ⟨more, hm⟩ := grown p hp
        exact ⟨_, hm⟩
      · exact ⟨ob, same b ob m e⟩
/-- the goal that such a head leaves -/
theorem walkGT {l : PySem.W.OpenLaw} {n k : Nat} {q : Program} {loose : List Str} {XP : (Str → Option Value) → Heap → Prop} {YP : World → Heap → Prop} {d : DefRec} {x : Str}
    (hn : l.most = some n) (hn2 : n ≤ sizeLine) (hdf : d.params.defaults = []) (hr : Room k callerA)
    (F : ∀ (w : World) (mg : Str → Option Value) (fa : Addr) (h : Heap), YP w h → h.Ns mainGlobals mg → mg d.name = some (.ref fa) → ∃ (K : PySem.W.Frag) (fd : FuncData) (cs : List (Addr × Addr)) (sp : Sp), K.In h ∧
      (∀ p ∈ cs, h.get? p.2 = some { cls := .none, data := .fields #[] }) ∧ (∀ p ∈ cs, K.lookup p.2 = none) ∧ (∀ p ∈ cs, PySem.W.CodeHd h p.1 p.2) ∧ (∀ (s : Shared) (u : Value), BindsTo s fd ⟨[u], []⟩ [(x, u)]) ∧
      (∀ (H : Hp) (a : Addr) (ns : List Int), ns.length ≤ n → (∀ p ∈ cs, H p.2 = some (.tbl #[])) → SqL K H a (ns.map V.int) → sp [.ref a] H (fun v _ => v = .bl true) fun _ _ _ => False) ∧
      ∀ base : Heap, K.In base → base.Ns mainGlobals mg → (∀ p ∈ cs, LamX.TabB base mg p.1 p.2) → FnG l.prog w K mg base CX0 k fa fd [x] sp) :
    PySem.W.WalkO q loose XP YP l.row.toRowW d [] (fun f vs => PySem.call f vs) := by
  refine Att.attach_callB hn hdf fun w s₀ s₁ mg mb fa o pm cd doc a vs ns G Y ho hd hcd hmg hobj hints hlen hbits hg => ?_
  obtain ⟨K, fd, cs, sp, KX, hT, nT, hC, hb, hsp, hF⟩ := F w mg fa _ Y G.T.g hmg
  exact lawGT KX G.T.g G.T.b G.T.builtins G.T.nolimit hg hT nT hC G.T.bmain hobj hints (Nat.le_trans hlen hn2) hr hF hb fun H hH hS => hsp H a ns hlen hH hS
end L2.Hd

/-! # heads by facts, 2: errors with one field, classes, defs -/
namespace L2.Hd
open PySem PySem.Spec PyProof.Rows L2.Vf L2.Fo He
/-- a class of errors as it stands -/
def oexB (K : PySem.W.Frag) (C : Addr) : Bool := match K.lookup C with
  | some ⟨.type t, _, .cls ⟨_, _, .ref C' :: bm, _, _, true, _, _, _, _, false⟩, ⟨[_, _, _, _, some (.builtin n), _]⟩⟩ => decide (t = "type") && decide (C' = C) && decide (n = "ValueError.__new__") && PySem.HandSPX.refsVE bm
  | _ => false
theorem oexB_ok {K : PySem.W.Frag} {C : Addr} (h : oexB K C = true) : ∃ nm q N bs bm sn sub ab col dd k0 k1 k2 k3 k5, K.lookup C = some (excClassObj nm q C N bs bm true sn sub ab col dd k0 k1 k2 k3 k5 "ValueError.__new__") ∧ PySem.HandSPX.refsVE bm = true := by
  unfold oexB at h
  split at h
  · rename_i t dd nm bs C' bm N q sn sub ab col k0 k1 k2 k3 n k5 e
    simp only [Bool.and_eq_true, decide_eq_true_eq] at h
    obtain ⟨⟨⟨rfl, rfl⟩, rfl⟩, hb⟩ := h
    exact ⟨nm, q, N, bs, bm, sn, sub, ab, col, dd, k0, k1, k2, k3, k5, e, hb⟩
  · cases h
def oV (a : Option Value) (b : Option Value) : Bool := decide (a = b)
def oB (a : Option Bool) (b : Bool) : Bool := decide (a = some b)
/-- what else of such a class with the field f -/
def errB (K : PySem.W.Frag) (f : Str) (x : Str) : Bool :=
  oexB K (ga K x) && eqO (PySem.W.findIn K (.ref (ga K x)) "__setattr__") (some (some (.builtin "object.__setattr__"))) && eqO (PySem.W.findIn K (.ref (ga K x)) "__getattribute__") (some (some (.builtin "BaseException.__getattribute__"))) && eqO (PySem.W.findIn K (.ref (ga K x)) "__getattr__") (some none) &&
  eqO (PySem.W.findIn K (.ref (ga K x)) f) (some none) && eqO (PySem.W.findIn K (.ref (ga K x)) "__init__") (some (some (.ref (ma K (ga K x) "__init__")))) && oV (PySem.W.typeIn K (.ref (ma K (ga K x) "__init__"))) (some (.type "function")) && PySem.W.keepIn K (.ref (ga K x)) &&
  oB (PySem.W.subIn K (.ref (ga K x)) (.type "BaseException")) true && oV (PySem.W.typeIn K (.ref (ga K x))) (some (.type "type")) && PySem.W.hasDictIn K (ga K x) && eqO (PySem.W.findIn K (.ref (ga K x)) "__class__") (some (some (.builtin "object.__class__"))) && oB (PySem.W.mroIn K (ga K x) (.type "object")) true &&
  eqO (PySem.W.specialIn K (.builtin "object.__class__") "__get__") (some (some (.builtin "getset_descriptor.__get__"))) && oB (PySem.W.takesIn K (.builtin "object.__class__")) true
theorem errB_ok {K : PySem.W.Frag} {f x : Str} (h : errB K f x = true) : ErC K (ga K x) (ma K (ga K x) "__init__") f := by
  unfold errB eqO oV oB at h
  simp only [Bool.and_eq_true, decide_eq_true_eq] at h
  obtain ⟨⟨⟨⟨⟨⟨⟨⟨⟨⟨⟨⟨⟨⟨h1, h2⟩, h3⟩, h4⟩, h5⟩, h6⟩, h7⟩, h8⟩, h9⟩, h10⟩, h11⟩, h12⟩, h13⟩, h14⟩, h15⟩ := h
  exact ⟨⟨oexB_ok h1, h2, h9, h10, h8⟩, h6, h7, h5, ⟨h3, h4, h9, h11, h12, h14, h15, h13⟩⟩
/-- an error's class with its __init__ -/
theorem er_of {P : Program} {w : World} {K : PySem.W.Frag} {mg : Str → Option Value} {base : Heap} {x : Str} {qual : Str} {p1 p2 p3 p4 p5 p6 p7 : Pos} {fd : FuncData} (h : errB K "value" x = true)
    (F : FunD K "__init__" qual (iArgs "value" p1 p2 p3) (iBody "value" p4 p5 p6 p7) (iScope "value") [.non] [] (ma K (ga K x) "__init__") fd) (hm : mg x = some (.ref (ga K x))) : ErT P w K mg base x (ga K x) (ma K (ga K x) "__init__") fd :=
  ⟨errB_ok h, ok_initV F, init_b1 F (.inl rfl), hm⟩
/-- own instances: isinstance, == -/
def instB (K : PySem.W.Frag) (x : Str) : Bool :=
  eqO (PySem.W.findIn K (.ref (ga K x)) "__class__") (some (some (.builtin "object.__class__"))) && eqO (PySem.W.specialIn K (.builtin "object.__class__") "__get__") (some (some (.builtin "getset_descriptor.__get__"))) && oB (PySem.W.takesIn K (.builtin "object.__class__")) true && oB (PySem.W.mroIn K (ga K x) (.type "object")) true &&
  oB (PySem.W.kitOne K (.ref (ga K x)) (.ref (ga K x))) true && eqO (PySem.W.findIn K (.ref (ga K x)) "__eq__") (some (some (.ref (ma K (ga K x) "__eq__")))) && eqO (PySem.W.findIn K (.ref (ga K x)) "__ne__") (some (some (.builtin "object.__ne__"))) && oB (PySem.W.subIn K (.ref (ga K x)) (.type "object")) true &&
  PySem.W.isFn K (.ref (ma K (ga K x) "__eq__")) && otTab K (ga K x)
theorem instB_ok {K : PySem.W.Frag} {x : Str} (h : instB K x = true) : IsT K (ga K x) ∧ EqT K (ga K x) (ma K (ga K x) "__eq__") := by
  unfold instB eqO oB at h
  simp only [Bool.and_eq_true, decide_eq_true_eq] at h
  obtain ⟨⟨⟨⟨⟨⟨⟨⟨⟨h1, h2⟩, h3⟩, h4⟩, h5⟩, h6⟩, h7⟩, h8⟩, h9⟩, h10⟩ := h
  exact ⟨⟨h1, h2, h3, h4, h5⟩, ⟨h6, h7, h8, h9, h10⟩⟩
/-- the errors of a form among one another -/
def ktfB (K : PySem.W.Frag) (xN xL xT xS : Str) : Bool :=
  oB (PySem.W.kitOne K (.ref (ga K xN)) (.ref (ga K xN))) true && oB (PySem.W.kitOne K (.ref (ga K xN)) (.ref (ga K xL))) false && oB (PySem.W.kitOne K (.ref (ga K xN)) (.ref (ga K xT))) false && oB (PySem.W.kitOne K (.ref (ga K xL)) (.ref (ga K xN))) false && oB (PySem.W.kitOne K (.ref (ga K xL)) (.ref (ga K xL))) true && oB (PySem.W.kitOne K (.ref (ga K xL)) (.ref (ga K xT))) false &&
  oB (PySem.W.kitOne K (.ref (ga K xT)) (.ref (ga K xN))) false && oB (PySem.W.kitOne K (.ref (ga K xT)) (.ref (ga K xL))) false && oB (PySem.W.kitOne K (.ref (ga K xT)) (.ref (ga K xT))) true && oB (PySem.W.exmOne K (.ref (ga K xN)) (.ref (ga K xS))) true && oB (PySem.W.exmOne K (.ref (ga K xL)) (.ref (ga K xS))) true && oB (PySem.W.exmOne K (.ref (ga K xT)) (.ref (ga K xS))) true
theorem ktfB_ok {K : PySem.W.Frag} {xN xL xT xS : Str} (h : ktfB K xN xL xT xS = true) : KtF K (ga K xN) (ga K xL) (ga K xT) (ga K xS) := by
  unfold ktfB oB at h
  simp only [Bool.and_eq_true, decide_eq_true_eq] at h
  obtain ⟨⟨⟨⟨⟨⟨⟨⟨⟨⟨⟨h1, h2⟩, h3⟩, h4⟩, h5⟩, h6⟩, h7⟩, h8⟩, h9⟩, h10⟩, h11⟩, h12⟩ := h
  exact ⟨h1, h2, h3, h4, h5, h6, h7, h8, h9, h10, h11, h12⟩
/-- a def without defaults -/
theorem fun_of {K : PySem.W.Frag} {x qual : Str} {st : Stmt} {f : Addr} {fd : FuncData} (F : FunD K x qual (defArgs st) (defBody st) (defScope st) [] [] f fd) : Fun K x qual st f fd := by
  obtain ⟨oc, od, dV, kV, doc, pm, an, cdv, ct, osl, e, lk, hcd, hD, hK⟩ := F.ex
  have e2 : dV = .none := by
    rcases hD with ⟨_, z⟩ | ⟨z, _⟩
    · exact z
    · exact absurd rfl z
  subst e2
  exact ⟨⟨oc, od, kV, doc, pm, an, cdv, ct, osl, e, lk, hcd⟩, F.kp⟩
/-- its code object -/
theorem code_of {K : PySem.W.Frag} {x qual : Str} {ar : Arguments} {bo : List Stmt} {sc : Scope} {dvs : List V} {kws : List (Str × V)} {p : Defn} {fd : FuncData} (F : FunD K x qual ar bo sc dvs kws (fAd K p) fd) : fd.code = .ref (codeOf K p) := by
  obtain ⟨oc, od, dV, kV, doc, pm, an, cdv, ct, osl, rfl, lk, hcd, _⟩ := F.ex
  obtain ⟨c, rfl⟩ := codeIn_ref hcd
  rw [codeOf_eq lk rfl]
/-- the def at a top statement; a method -/
def hdG (x : Str) (st : Stmt) : DefD := ⟨(x, none), x, x, defArgs st, defBody st, defScope st, [], []⟩
def hdM (c m q : Str) (st : Stmt) : DefD := ⟨(c, some m), m, q, defArgs st, defBody st, defScope st, [], []⟩
def hdI (c q : Str) (st : Stmt) : DefD := ⟨(c, some "__init__"), "__init__", q, defArgs st, defBody st, defScope st, [.non], []⟩
/-- an empty table of code -/
theorem tabS0 {H : Hp} {P : Addr} {q : Str} (h : H P = some (.tbl #[])) : LamX.TabS H P q :=
  ⟨#[], h, by first | exact trivial | decide | simp [TriplesOk], fun pos cv e => by cases e⟩
end L2.Hd

/-! # law k10: what stands behind the top -/
namespace L2.Fo
open PySem PySem.Spec PyProof.Rows L2.Vf L2.Dw L2.Ch L2.Nk L2.Lt L2.Hd He
def pPt : Defn := ("put_together", none)
def tf : List Defn := [pPt]
def fn : List DefD := [hdG "is_whole" sWh,
  hdG "are_whole" sAr,
  hdG "is_width" sWi,
  hdG "fits_cell" sFc,
  hdG "fits_row" sFr,
  hdG "is_cell" sIc,
  hdG "is_row" sIr,
  hdG "is_letter" sLe,
  hdG "is_term" sTe,
  hdG "put_together" sPt,
  hdG "_law_mixed" sMi,
  hdG "_law_purse" sPu,
  hdG "_law_draw" sDr,
  hdG "_law_signed" sSi,
  hdG "_law_letter" sLr,
  hdG "_law_terms" sTr,
  hdG "_law_together" sTg,
  hdG "_law_caught" sCa,
  hdG "_law_refused" sRf,
  hdG "_law_told_right" sU,
  hdG "_law_equal_right" sEr,
  hdG "law" sLa,
  hdM "Form" "__init__" "Form.__init__" sFi,
  hdM "Form" "terms" "Form.terms" sTs,
  hdM "Form" "__eq__" "Form.__eq__" sEq,
  hdI "InvalidNumber" "InvalidNumber.__init__" (inClass (top 9) 0),
  hdI "InvalidList" "InvalidList.__init__" (inClass (top 13) 0),
  hdI "InvalidTerm" "InvalidTerm.__init__" (inClass (top 11) 0)]
def fa : List Fa := [.glo "is_whole", .glo "are_whole", .glo "is_width", .glo "fits_cell", .glo "fits_row", .glo "is_cell", .glo "is_row", .glo "is_letter", .glo "is_term", .glo "put_together", .glo "_law_mixed", .glo "_law_purse", .glo "_law_draw", .glo "_law_signed", .glo "_law_letter", .glo "_law_terms", .glo "_law_together", .glo "_law_caught", .glo "_law_refused", .glo "_law_told_right", .glo "_law_equal_right", .glo "law", .glo "InvalidNumber", .glo "InvalidList", .glo "InvalidTerm", .glo "SumsError", .glo "Form", .free "isinstance", .free "int", .free "bool", .free "list", .free "tuple", .free "range", .free "len", .free "sum", .free "max", .free "zip", .free "repr", .free "sorted", .cls "Form", .noat "Form" "width", .noat "Form" "_terms", .mkr "Form", .meth "Form" "terms", .exm "InvalidNumber" "InvalidNumber" true]
def ex (K : PySem.W.Frag) : Bool := errB K "value" "InvalidNumber" && errB K "value" "InvalidList" && errB K "value" "InvalidTerm" && instB K "Form" && ktfB K "InvalidNumber" "InvalidList" "InvalidTerm" "SumsError"
theorem facts {P : Program} {w : World} {K : PySem.W.Frag} {h : Heap} {mg : Str → Option Value} {f : Addr} (X : K.In h) (G : h.Ns mainGlobals mg) (hfa : mg ("law" : Str) = some (.ref f)) (c : SaysX fa fn [] tf ex w h K) :
    ∃ fd : FuncData, (∀ (s : Shared) (v : Value), BindsTo s fd ⟨[v], []⟩ [("_law_script", v)]) ∧ ∀ base : Heap, K.In base → base.Ns mainGlobals mg → (∀ p ∈ tf.map (He.cT K), LamX.TabB base mg p.1 p.2) → FnG P w K mg base CX0 10 f fd ["_law_script"] (spLa K [((He.cT K pPt).2, lamPt)]) := by
  have cd := c.t.d
  obtain ⟨fdWh, DWh⟩ := cd.def_ 0 (d := hdG "is_whole" sWh) rfl
  have FWh : Fun K "is_whole" "is_whole" sWh _ fdWh := fun_of DWh
  obtain ⟨fdAr, DAr⟩ := cd.def_ 1 (d := hdG "are_whole" sAr) rfl
  have FAr : Fun K "are_whole" "are_whole" sAr _ fdAr := fun_of DAr
  obtain ⟨fdWi, DWi⟩ := cd.def_ 2 (d := hdG "is_width" sWi) rfl
  have FWi : Fun K "is_width" "is_width" sWi _ fdWi := fun_of DWi
  obtain ⟨fdFc, DFc⟩ := cd.def_ 3 (d := hdG "fits_cell" sFc) rfl
  have FFc : Fun K "fits_cell" "fits_cell" sFc _ fdFc := fun_of DFc
  obtain ⟨fdFr, DFr⟩ := cd.def_ 4 (d := hdG "fits_row" sFr) rfl
  have FFr : Fun K "fits_row" "fits_row" sFr _ fdFr := fun_of DFr
  obtain ⟨fdIc, DIc⟩ := cd.def_ 5 (d := hdG "is_cell" sIc) rfl
  have FIc : Fun K "is_cell" "is_cell" sIc _ fdIc := fun_of DIc
  obtain ⟨fdIr, DIr⟩ := cd.def_ 6 (d := hdG "is_row" sIr) rfl
  have FIr : Fun K "is_row" "is_row" sIr _ fdIr := fun_of DIr
  obtain ⟨fdLe, DLe⟩ := cd.def_ 7 (d := hdG "is_letter" sLe) rfl
  have FLe : Fun K "is_letter" "is_letter" sLe _ fdLe := fun_of DLe
  obtain ⟨fdTe, DTe⟩ := cd.def_ 8 (d := hdG "is_term" sTe) rfl
  have FTe : Fun K "is_term" "is_term" sTe _ fdTe := fun_of DTe
  obtain ⟨fdPt, DPt⟩ := cd.def_ 9 (d := hdG "put_together" sPt) rfl
  have FPt : Fun K "put_together" "put_together" sPt _ fdPt := fun_of DPt
  obtain ⟨fdMi, DMi⟩ := cd.def_ 10 (d := hdG "_law_mixed" sMi) rfl
  have FMi : Fun K "_law_mixed" "_law_mixed" sMi _ fdMi := fun_of DMi
  obtain ⟨fdPu, DPu⟩ := cd.def_ 11 (d := hdG "_law_purse" sPu) rfl
  have FPu : Fun K "_law_purse" "_law_purse" sPu _ fdPu := fun_of DPu
  obtain ⟨fdDr, DDr⟩ := cd.def_ 12 (d := hdG "_law_draw" sDr) rfl
  have FDr : Fun K "_law_draw" "_law_draw" sDr _ fdDr := fun_of DDr
  obtain ⟨fdSi, DSi⟩ := cd.def_ 13 (d := hdG "_law_signed" sSi) rfl
  have FSi : Fun K "_law_signed" "_law_signed" sSi _ fdSi := fun_of DSi
  obtain ⟨fdLr, DLr⟩ := cd.def_ 14 (d := hdG "_law_letter" sLr) rfl
  have FLr : Fun K "_law_letter" "_law_letter" sLr _ fdLr := fun_of DLr
  obtain ⟨fdTr, DTr⟩ := cd.def_ 15 (d := hdG "_law_terms" sTr) rfl
  have FTr : Fun K "_law_terms" "_law_terms" sTr _ fdTr := fun_of DTr
  obtain ⟨fdTg, DTg⟩ := cd.def_ 16 (d := hdG "_law_together" sTg) rfl
  have FTg : Fun K "_law_together" "_law_together" sTg _ fdTg := fun_of DTg
  obtain ⟨fdCa, DCa⟩ := cd.def_ 17 (d := hdG "_law_caught" sCa) rfl
  have FCa : Fun K "_law_caught" "_law_caught" sCa _ fdCa := fun_of DCa
  obtain ⟨fdRf, DRf⟩ := cd.def_ 18 (d := hdG "_law_refused" sRf) rfl
  have FRf : Fun K "_law_refused" "_law_refused" sRf _ fdRf := fun_of DRf
  obtain ⟨fdU, DU⟩ := cd.def_ 19 (d := hdG "_law_told_right" sU) rfl
  have FU : Fun K "_law_told_right" "_law_told_right" sU _ fdU := fun_of DU
  obtain ⟨fdEr, DEr⟩ := cd.def_ 20 (d := hdG "_law_equal_right" sEr) rfl
  have FEr : Fun K "_law_equal_right" "_law_equal_right" sEr _ fdEr := fun_of DEr
  obtain ⟨fdLa, DLa⟩ := cd.def_ 21 (d := hdG "law" sLa) rfl
  have FLa : Fun K "law" "law" sLa _ fdLa := fun_of DLa
  obtain ⟨fdFi, DFi⟩ := cd.def_ 22 (d := hdM "Form" "__init__" "Form.__init__" sFi) rfl
  have FFi : Fun K "__init__" "Form.__init__" sFi _ fdFi := fun_of DFi
  obtain ⟨fdTs, DTs⟩ := cd.def_ 23 (d := hdM "Form" "terms" "Form.terms" sTs) rfl
  have FTs : Fun K "terms" "Form.terms" sTs _ fdTs := fun_of DTs
  obtain ⟨fdEq, DEq⟩ := cd.def_ 24 (d := hdM "Form" "__eq__" "Form.__eq__" sEq) rfl
  have FEq : Fun K "__eq__" "Form.__eq__" sEq _ fdEq := fun_of DEq
  obtain ⟨fdN, DN⟩ := cd.def_ 25 (d := hdI "InvalidNumber" "InvalidNumber.__init__" (inClass (top 9) 0)) rfl
  obtain ⟨fdL, DL⟩ := cd.def_ 26 (d := hdI "InvalidList" "InvalidList.__init__" (inClass (top 13) 0)) rfl
  obtain ⟨fdT, DT⟩ := cd.def_ 27 (d := hdI "InvalidTerm" "InvalidTerm.__init__" (inClass (top 11) 0)) rfl
  have g_is_whole := glo_ok X G (cd.fact 0 (f := .glo "is_whole") rfl)
  have g_are_whole := glo_ok X G (cd.fact 1 (f := .glo "are_whole") rfl)
  have g_is_width := glo_ok X G (cd.fact 2 (f := .glo "is_width") rfl)
  have g_fits_cell := glo_ok X G (cd.fact 3 (f := .glo "fits_cell") rfl)
  have g_fits_row := glo_ok X G (cd.fact 4 (f := .glo "fits_row") rfl)
  have g_is_cell := glo_ok X G (cd.fact 5 (f := .glo "is_cell") rfl)
  have g_is_row := glo_ok X G (cd.fact 6 (f := .glo "is_row") rfl)
  have g_is_letter := glo_ok X G (cd.fact 7 (f := .glo "is_letter") rfl)
  have g_is_term := glo_ok X G (cd.fact 8 (f := .glo "is_term") rfl)
  have g_put_together := glo_ok X G (cd.fact 9 (f := .glo "put_together") rfl)
  have g__law_mixed := glo_ok X G (cd.fact 10 (f := .glo "_law_mixed") rfl)
  have g__law_purse := glo_ok X G (cd.fact 11 (f := .glo "_law_purse") rfl)
  have g__law_draw := glo_ok X G (cd.fact 12 (f := .glo "_law_draw") rfl)
  have g__law_signed := glo_ok X G (cd.fact 13 (f := .glo "_law_signed") rfl)
  have g__law_letter := glo_ok X G (cd.fact 14 (f := .glo "_law_letter") rfl)
  have g__law_terms := glo_ok X G (cd.fact 15 (f := .glo "_law_terms") rfl)
  have g__law_together := glo_ok X G (cd.fact 16 (f := .glo "_law_together") rfl)
  have g__law_caught := glo_ok X G (cd.fact 17 (f := .glo "_law_caught") rfl)
  have g__law_refused := glo_ok X G (cd.fact 18 (f := .glo "_law_refused") rfl)
  have g__law_told_right := glo_ok X G (cd.fact 19 (f := .glo "_law_told_right") rfl)
  have g__law_equal_right := glo_ok X G (cd.fact 20 (f := .glo "_law_equal_right") rfl)
  have g_law := glo_ok X G (cd.fact 21 (f := .glo "law") rfl)
  have g_InvalidNumber := glo_ok X G (cd.fact 22 (f := .glo "InvalidNumber") rfl)
  have g_InvalidList := glo_ok X G (cd.fact 23 (f := .glo "InvalidList") rfl)
  have g_InvalidTerm := glo_ok X G (cd.fact 24 (f := .glo "InvalidTerm") rfl)
  have g_SumsError := glo_ok X G (cd.fact 25 (f := .glo "SumsError") rfl)
  have g_Form := glo_ok X G (cd.fact 26 (f := .glo "Form") rfl)
  have n_isi := free_ok X G (cd.fact 27 (f := .free "isinstance") rfl)
  have n_int := free_ok X G (cd.fact 28 (f := .free "int") rfl)
  have n_bool := free_ok X G (cd.fact 29 (f := .free "bool") rfl)
  have n_lst := free_ok X G (cd.fact 30 (f := .free "list") rfl)
  have n_tup := free_ok X G (cd.fact 31 (f := .free "tuple") rfl)
  have n_rng := free_ok X G (cd.fact 32 (f := .free "range") rfl)
  have n_len := free_ok X G (cd.fact 33 (f := .free "len") rfl)
  have n_sum := free_ok X G (cd.fact 34 (f := .free "sum") rfl)
  have n_max := free_ok X G (cd.fact 35 (f := .free "max") rfl)
  have n_zip := free_ok X G (cd.fact 36 (f := .free "zip") rfl)
  have n_rep := free_ok X G (cd.fact 37 (f := .free "repr") rfl)
  have n_sorted := free_ok X G (cd.fact 38 (f := .free "sorted") rfl)
  have cCls := cls_ok (cd.fact 39 (f := .cls "Form") rfl)
  have cW := noat_ok (cd.fact 40 (f := .noat "Form" "width") rfl)
  have cT_ := noat_ok (cd.fact 41 (f := .noat "Form" "_terms") rfl)
  have cM := mkr_ok (cd.fact 42 (f := .mkr "Form") rfl)
  have cS := meth_ok (cd.fact 43 (f := .meth "Form" "terms") rfl)
  have bWh := FWh.binds (ps := ["value"]) fun _ _ _ _ _ _ us hl => match us, hl with | [_], _ => rfl
  have bAr := FAr.binds (ps := ["values"]) fun _ _ _ _ _ _ us hl => match us, hl with | [_], _ => rfl
  have bWi := FWi.binds (ps := ["value"]) fun _ _ _ _ _ _ us hl => match us, hl with | [_], _ => rfl
  have bFc := FFc.binds (ps := ["value", "width"]) fun _ _ _ _ _ _ us hl => match us, hl with | [_, _], _ => rfl
  have bFr := FFr.binds (ps := ["value", "width"]) fun _ _ _ _ _ _ us hl => match us, hl with | [_, _], _ => rfl
  have bIc := FIc.binds (ps := ["value", "width"]) fun _ _ _ _ _ _ us hl => match us, hl with | [_, _], _ => rfl
  have bIr := FIr.binds (ps := ["value", "width"]) fun _ _ _ _ _ _ us hl => match us, hl with | [_, _], _ => rfl
  have bLe := FLe.binds (ps := ["value", "width"]) fun _ _ _ _ _ _ us hl => match us, hl with | [_, _], _ => rfl
  have bTe := FTe.binds (ps := ["value", "width"]) fun _ _ _ _ _ _ us hl => match us, hl with | [_, _], _ => rfl
  have bPt := FPt.binds (ps := ["terms"]) fun _ _ _ _ _ _ us hl => match us, hl with | [_], _ => rfl
  have bMi := FMi.binds (ps := ["_law_cell", "_law_k"]) fun _ _ _ _ _ _ us hl => match us, hl with | [_, _], _ => rfl
  have bPu := FPu.binds (ps := ["_law_script", "_law_at"]) fun _ _ _ _ _ _ us hl => match us, hl with | [_, _], _ => rfl
  have bDr := FDr.binds (ps := ["_law_purse_here", "_law_out_of"]) fun _ _ _ _ _ _ us hl => match us, hl with | [_, _], _ => rfl
  have bSi := FSi.binds (ps := ["_law_purse_here", "_law_most"]) fun _ _ _ _ _ _ us hl => match us, hl with | [_, _], _ => rfl
  have bLr := FLr.binds (ps := ["_law_purse_here", "_law_width"]) fun _ _ _ _ _ _ us hl => match us, hl with | [_, _], _ => rfl
  have bTr := FTr.binds (ps := ["_law_purse_here", "_law_width", "_law_most", "_law_letters_to"]) fun _ _ _ _ _ _ us hl => match us, hl with | [_, _, _, _], _ => rfl
  have bTg := FTg.binds (ps := ["_law_terms_here"]) fun _ _ _ _ _ _ us hl => match us, hl with | [_], _ => rfl
  have bCa := FCa.binds (ps := ["_law_width", "_law_terms_here"]) fun _ _ _ _ _ _ us hl => match us, hl with | [_, _], _ => rfl
  have bRf := FRf.binds (ps := ["_law_width", "_law_terms_here"]) fun _ _ _ _ _ _ us hl => match us, hl with | [_, _], _ => rfl
  have bU := FU.binds (ps := ["_law_width"]) fun _ _ _ _ _ _ us hl => match us, hl with | [_], _ => rfl
  have bEr := FEr.binds (ps := ["_law_purse_here", "_law_width", "_law_terms_here"]) fun _ _ _ _ _ _ us hl => match us, hl with | [_, _, _], _ => rfl
  have bLa := FLa.binds (ps := ["_law_script"]) fun _ _ _ _ _ _ us hl => match us, hl with | [_], _ => rfl
  have bFi := FFi.binds (ps := ["self", "width", "terms"]) fun _ _ _ _ _ _ us hl => match us, hl with | [_, _, _], _ => rfl
  have bTs := FTs.binds (ps := ["self"]) fun _ _ _ _ _ _ us hl => match us, hl with | [_], _ => rfl
  have bEq := FEq.binds (ps := ["self", "other"]) fun _ _ _ _ _ _ us hl => match us, hl with | [_, _], _ => rfl
  have mex := c.more
  unfold ex at mex
  simp only [Bool.and_eq_true] at mex
  obtain ⟨⟨⟨⟨xN, xL⟩, xT⟩, xI⟩, xK⟩ := mex
  obtain ⟨iT, eT⟩ := instB_ok xI
  have Kt := ktfB_ok xK
  have N : Nm mg := ⟨n_isi, n_int, n_bool, n_lst, n_tup, n_rng, n_len, n_sum, n_max, n_zip, n_rep⟩
  have e := hfa.symm.trans g_law
  cases e
  have bl : ∀ (s : Shared) (v : Value), BindsTo s fdLa ⟨[v], []⟩ [("_law_script", v)] := by
    obtain ⟨⟨oc, od, kV, doc, pm, an, cdv, ct, osl, e, lk, hcd⟩, _⟩ := FLa
    subst e
    exact fun s v => BindsTo.of_eq (show bindArgs _ ⟨[v], []⟩ = _ from rfl)
  refine ⟨fdLa, bl, fun base KB GB TB => ?_⟩
  have EN : ErT P w K mg base "InvalidNumber" _ _ fdN := er_of xN DN g_InvalidNumber
  have EL : ErT P w K mg base "InvalidList" _ _ fdL := er_of xL DL g_InvalidList
  have ET : ErT P w K mg base "InvalidTerm" _ _ fdT := er_of xT DT g_InvalidTerm
  have FT : FoT K mg (ga K "Form") := ⟨cCls, cW, cT_, g_Form⟩
  have oWh := ok_wh (P := P) (w := w) (base := base) FWh N
  have oAr := ok_ar FAr oWh g_is_whole FWh.kp bWh
  have oWi := ok_wi FWi oWh g_is_whole FWh.kp bWh
  have oFc := ok_fc FFc N oAr g_are_whole FAr.kp bAr
  have oFr := ok_fr FFr N oFc g_fits_cell FFc.kp bFc
  have oLe := ok_le FLe oFc g_fits_cell FFc.kp bFc
  have oTe := ok_te FTe N oWh g_is_whole FWh.kp bWh oLe g_is_letter FLe.kp bLe
  have tb := TB (He.cT K pPt) (List.mem_map.mpr ⟨pPt, List.mem_singleton.mpr rfl, rfl⟩)
  have oPt := ok_pt (P := P) (w := w) (T := [((He.cT K pPt).2, lamPt)]) FPt (code_of (p := pPt) DPt) N n_sorted tb (List.mem_singleton.mpr rfl) (fun p hp _ => by rw [List.mem_singleton.mp hp])
  have oFi := ok_fi FFi N FT EN EL ET oWi g_is_width FWi.kp bWi oTe g_is_term FTe.kp bTe oPt g_put_together FPt.kp bPt
  have oTs := ok_ts (P := P) (w := w) (base := base) FTs N FT
  have oEq := ok_eq (P := P) (w := w) (base := base) FEq N FT iT
  have oIc := ok_ic FIc EN oWi g_is_width FWi.kp bWi oFc g_fits_cell FFc.kp bFc
  have oIr := ok_ir FIr EN oWi g_is_width FWi.kp bWi oFr g_fits_row FFr.kp bFr
  have oMi := ok_mi (P := P) (w := w) (mg := mg) (base := base) FMi
  have oPu := ok_pu (P := P) (w := w) (base := base) FPu N
  have oDr := ok_dr FDr N oMi g__law_mixed FMi.kp bMi
  have oSi := ok_si FSi oDr g__law_draw FDr.kp bDr
  have oLr := ok_lr FLr N oDr g__law_draw FDr.kp bDr
  have oTr := ok_tr FTr N oDr g__law_draw FDr.kp bDr oSi g__law_signed FSi.kp bSi oLr g__law_letter FLr.kp bLr
  have oTg := ok_tg (P := P) (w := w) (base := base) FTg N n_sorted
  have oCa := ok_ca FCa N FT g_SumsError Kt EN EL ET cM oFi bFi
  have oRf := ok_rf FRf N oCa g__law_caught FCa.kp bCa
  have exN : PySem.W.exmOne K (.ref (ga K "InvalidNumber")) (.ref (ga K "InvalidNumber")) = some true := exm_ok (cd.fact 44 (f := .exm "InvalidNumber" "InvalidNumber" true) rfl)
  have oU := ok_u FU N EN exN oIc g_is_cell FIc.kp bIc oIr g_is_row FIr.kp bIr
  have Fm : FmT P w K mg base [((He.cT K pPt).2, lamPt)] ⟨ga K "Form", ga K "InvalidNumber", ga K "InvalidList", ga K "InvalidTerm"⟩ _ _ _ fdFi fdEq fdTs := ⟨FT, iT, eT, cM, oFi, bFi, oEq, bEq, cS, oTs, bTs⟩
  have oEr := ok_er FEr N Fm oTg g__law_together FTg.kp bTg
  exact ok_la FLa N Fm ⟨oPu, g__law_purse, FPu.kp, bPu⟩ ⟨oDr, g__law_draw, FDr.kp, bDr⟩ ⟨oTr, g__law_terms, FTr.kp, bTr⟩ ⟨oTg, g__law_together, FTg.kp, bTg⟩ ⟨oRf, g__law_refused, FRf.kp, bRf⟩ ⟨oU, g__law_told_right, FU.kp, bU⟩ ⟨oEr, g__law_equal_right, FEr.kp, bEr⟩
end L2.Fo
/-! # law k10: the top's run -/
namespace L2.Fo
open PySem PySem.Spec PyProof.Rows L2.Vf L2.Hd He
abbrev Rw : PySem.W.OpenRow := PySem.W.OpenLaw.row PySem.Challenge.rw_latesums_k10_forms_made
abbrev hk : PySem.W.Hook := hookX 6 fa fn [] tf ex
def ob (s : PySem.W.SharedT) : AlX := obsX 6 fa fn [] tf ex (HandSHeadRun.getT s)
theorem ob_eq (s : PySem.W.SharedT) : ob s = hk.obs s.abs := obsX_eq (HandSHeadRun.getT_eq s)
def names : List Str := "_wall" :: "__name__" :: "is_whole" :: "are_whole" :: "is_width" :: "fits_cell" :: "fits_row" :: "SumsError" :: "InvalidNumber" :: "InvalidRow" :: "InvalidTerm" :: "InvalidForm" :: "InvalidList" :: "is_cell" :: "is_row" :: "Form" :: "made_form" :: "is_letter" :: "is_term" :: "put_together" :: "letter_worth" :: "worth_table" :: "tail_worths" :: "by_first_letter" :: "times" :: "multiplied" :: "interleaved" :: "_law_mixed" :: "_law_purse" :: "_law_draw" :: "_law_signed" :: "_law_letter" :: "_law_terms" :: "_law_together" :: "_law_caught" :: "_law_refused" :: "_law_told_right" :: "_law_equal_right" :: []
set_option maxHeartbeats 0 in
theorem run (w : World) : HandSHeadRun.RunEq Rw (PySem.W.view Rw.prog [41]) hk ob 3000 names w := by
  intro os
  kernel_rfl
end L2.Fo

open PySem PySem.W PySem.Calls PyProof.Rows
set_option maxRecDepth 100000 in
set_option maxHeartbeats 0 in
theorem PySem.Challenge.cw_latesums_k10_forms_made_holds : PySem.Challenge.rw_latesums_k10_forms_made.Holds := by
  w_on; o_law
  refine HandSHeadRun.head_any (r := OpenLaw.row PySem.Challenge.rw_latesums_k10_forms_made) (q := view (OpenLaw.row PySem.Challenge.rw_latesums_k10_forms_made).prog [41]) (H := L2.Fo.hk) (ob := L2.Fo.ob) (M := 3000) (loose := L2.Fo.names) (d := HandSHeadRun.topDef (OpenLaw.row PySem.Challenge.rw_latesums_k10_forms_made).prog 41) (kwd := []) L2.Fo.ob_eq
    (by kernel_rfl) (fun s => by kernel_rfl) L2.Fo.run (by kernel_rfl) (by kernel_rfl) (by kernel_rfl) (by rfl) (by first | assumption | decide +kernel) (by decide +kernel) ⟨rfl, rfl, rfl, rfl, rfl, by decide +kernel⟩ ?hw ?hc
  case hw => w_witness2
  case hc =>
    refine L2.Hd.walkGT (l := PySem.Challenge.rw_latesums_k10_forms_made) (n := 63) (k := 10) (x := "_law_script") rfl (by decide) (by kernel_rfl) ⟨rfl, by decide, by decide⟩ ?F
    intro w mg fa h Y G hmg0
    obtain ⟨K, KX, c⟩ := Y
    have hmg : mg ("law" : PySem.Str) = some (.ref fa) := by
      have e : (HandSHeadRun.topDef (OpenLaw.row PySem.Challenge.rw_latesums_k10_forms_made).prog 41).name = ("law" : PySem.Str) := by kernel_rfl
      rw [← e]
      exact hmg0
    obtain ⟨fd, hb, hF⟩ := L2.Fo.facts (P := PySem.Challenge.rw_latesums_k10_forms_made.prog) (w := w) KX G hmg c
    refine ⟨K, fd, L2.Fo.tf.map (He.cT K), L2.Fo.spLa K [((He.cT K L2.Fo.pPt).2, L2.Fo.lamPt)], KX, ?_, ?_, ?_, hb, ?_, hF⟩
    · intro p hp
      obtain ⟨q, hq, rfl⟩ := List.mem_map.mp hp
      exact c.empty q hq
    · intro p hp
      obtain ⟨q, hq, rfl⟩ := List.mem_map.mp hp
      exact c.out q hq
    · intro p hp
      obtain ⟨q, hq, rfl⟩ := List.mem_map.mp hp
      exact codeHd_of_K KX (c.hd q hq)
    · intro H a ns hl hH hS
      refine ⟨a, ns, rfl, hS, fun p hp => ?_, fun _ => rfl⟩
      rw [List.mem_singleton.mp hp]
      exact LamX.TabS.nil (hH _ (List.mem_map.mpr ⟨L2.Fo.pPt, List.mem_singleton.mpr rfl, rfl⟩))
