import PyProof.Rows.All
import Wide.All
import OpenK.AllK
import Wide.FinOn
import PyProof.EqAt
import PyProof.EqKinds
import PyProof.TupleCall
import PyProof.Rows.EqDataRows
import PyProof.ReprRoads
import KE.KIsAll
import KE.KTryMore
import HandS.ForMost
import HandS.ForExc
import HandS.ExcInit
import HandS.ExcIs
import HandS.IsInst
import HandS.More
import HandS.Defaults
import HandS.MakeKw
import HandS.MakeKwOnly
import HandS.ExcValue
import HandS.ExcField
import HandS.Wide
import HandS.WideBits
import HandS.OwnEq
import HandS.CallSlots
import PyProof.InstEq
import PyProof.FactsAll.dict_1
import HandS.Zip0
import HandS.Zip
import HandS.Walk
import HandS.TupMul
import HandS.Style
import PySem.Challenge.RW_latesums_k15_changes_made
set_option Elab.async false
set_option linter.all false
set_option maxRecDepth 100000
set_option maxHeartbeats 8000000
/-! # What the laws' proofs lean on, 1: data that is shown and compared as a whole; errors held as values; defs whose frame knows that no repr runs around them. -/
namespace L2.Vf
open PySem PySem.Spec PyProof.Rows

/-! ## data, read off the abstract heap -/
def keyD : Key → PyData
  | .inl i => .int i
  | .inr x => .str x
mutual
/-- the value v is the data d; as: the lists in it -/
inductive Sh (K : PySem.W.Frag) (H : Hp) : V → PyData → List Addr → Prop
  | non : Sh K H .non .none []
  | bl (b : Bool) : Sh K H (.bl b) (.bool b) []
  | int (i : Int) : Sh K H (.int i) (.int i) []
  | str (x : Str) : Sh K H (.str x) (.str x) []
  | lst {a : Addr} {xs : List V} {ds : List PyData} {as : List Addr} : SqL K H a xs → Shs K H xs ds as → Sh K H (.ref a) (.list ds) (a :: as)
  | tup {a : Addr} {xs : List V} {ds : List PyData} {as : List Addr} : SqT K H a xs → Shs K H xs ds as → Sh K H (.ref a) (.tuple ds) as
  | dK {a : Addr} {kvs : List (Key × V)} {ds : List PyData} {as : List Addr} : Rd H a (.dK kvs) → Shs K H (kvs.map (·.2)) ds as → Sh K H (.ref a) (.dict ((kvs.map fun p => keyD p.1).zip ds)) as
inductive Shs (K : PySem.W.Frag) (H : Hp) : List V → List PyData → List Addr → Prop
  | nil : Shs K H [] [] []
  | cons {x : V} {xs : List V} {d : PyData} {ds : List PyData} {as bs : List Addr} : Sh K H x d as → Shs K H xs ds bs → Shs K H (x :: xs) (d :: ds) (as ++ bs)
end
theorem Shs.length {K : PySem.W.Frag} {H : Hp} : ∀ {xs : List V} {ds : List PyData} {as : List Addr}, Shs K H xs ds as → xs.length = ds.length
  | _, _, _, .nil => rfl
  | _, _, _, .cons _ t => by simp [Shs.length t]

theorem reads_keys {P : Program} {w : World} {h : Heap} : ∀ {es : List DictEntry} {vs : List (Key × Value)}, PySem.Pairs (mixKind P w) es vs → ReadsAll h (es.map (·.key)) (vs.map fun p => keyD p.1) []
  | _, _, .nil => .nil
  | _, _, .cons (e := e) (kv := kv) h1 _ t => by
    have ih := reads_keys (h := h) t
    have k : Reads h e.key (keyD kv.1) [] := by
      rcases keyIs_shape (show keyIs kv.1 e.key = true from h1) with ⟨i, u, e1, e2⟩ | ⟨x, u, e1, e2⟩
      · rw [e1, e2]; exact .int i u
      · rw [e1, e2]; exact .str x u
    exact ReadsAll.cons (as := []) (bs := []) k ih
theorem pairs_vals {P : Program} {w : World} : ∀ {es : List DictEntry} {vs : List (Key × Value)}, PySem.Pairs (mixKind P w) es vs → es.map (·.val) = vs.map (·.2)
  | _, _, .nil => rfl
  | _, _, .cons _ h2 t => by
    rw [List.map_cons, List.map_cons, pairs_vals t, h2]
theorem kv_keys : ∀ {ks : List (Key × V)} {vs : List (Key × Value)}, KV ks vs → (ks.map fun p => keyD p.1) = vs.map fun p => keyD p.1
  | _, _, .nil => rfl
  | _, _, .cons h t => by
    rw [List.map_cons, List.map_cons, kv_keys t, h.1]
theorem kv_vals : ∀ {ks : List (Key × V)} {vs : List (Key × Value)}, KV ks vs → Vals (ks.map (·.2)) (vs.map (·.2))
  | _, _, .nil => .nil
  | _, _, .cons h t => .cons h.2 (kv_vals t)

section
variable {X : Cx} {pins : List (Addr × Obj)} {σ : St} {H : Hp} {s : Shared}
mutual
theorem Sh.reads (I : Inv X pins σ H s) : ∀ {v : V} {d : PyData} {as : List Addr} {u : Value}, Sh X.K H v d as → RelV v u → ∃ bs, Reads s.heap u d bs ∧ ∀ b ∈ bs, b ∈ as ∨ b ≠ sysModules
  | _, _, _, _, .non, r => by cases r; exact ⟨[], .none, fun _ h => nomatch h⟩
  | _, _, _, _, .bl b, r => by cases r; exact ⟨[], .bool b, fun _ h => nomatch h⟩
  | _, _, _, _, .int i, r => by obtain ⟨t, rfl⟩ := r; exact ⟨[], .int i t, fun _ h => nomatch h⟩
  | _, _, _, _, .str x, r => by obtain ⟨t, rfl⟩ := r; exact ⟨[], .str x t, fun _ h => nomatch h⟩
  | _, _, _, _, .lst (a := a) h hs, r => by
    cases r
    obtain ⟨us, rv, ⟨o, n, e, hc, _, hd⟩, _⟩ := I.list h
    obtain ⟨bs, q, hb⟩ := Shs.reads I hs rv
    exact ⟨_, .list e hc hd q, fun b m => (List.mem_cons.mp m).elim (fun z => .inl (z ▸ List.mem_cons_self)) fun z => (hb b z).imp (List.mem_cons_of_mem _) id⟩
  | _, _, _, _, .tup (a := a) h hs, r => by
    cases r
    obtain ⟨us, rv, ⟨o, e, hc, n, hd⟩, _⟩ := I.tuple h
    obtain ⟨bs, q, hb⟩ := Shs.reads I hs rv
    exact ⟨_, .tuple e hc hd q, hb⟩
  | _, _, _, _, .dK (a := a) (kvs := kvs) (ds := ds) h hs, r => by
    cases r
    obtain ⟨_, hm, vs, kv, o, es, ep, e, hc, hd, _, pr, _⟩ := dk_rd I.hok h
    have l1 := hs.length
    rw [List.length_map] at l1
    have k1 : (((kvs.map fun p => keyD p.1).zip ds).map (·.1)) = vs.map fun p => keyD p.1 := by
      rw [← kv_keys kv, List.map_fst_zip]
      rw [List.length_map]; omega
    have k2 : (((kvs.map fun p => keyD p.1).zip ds).map (·.2)) = ds := by
      rw [List.map_snd_zip]
      rw [List.length_map]; omega
    obtain ⟨bs, q, hb⟩ := Shs.reads I hs (kv_vals kv)
    refine ⟨_, Reads.dict (as := []) (bs := bs) e hc.1 hd ?_ ?_, fun b m => ?_⟩
    · rw [k1]; exact reads_keys pr
    · rw [k2, pairs_vals pr]; exact q
    · rcases List.mem_cons.mp (show b ∈ a :: bs from m) with z | z
      · exact .inr (by rw [z]; exact beq_eq_false_iff_ne.mp hm)
      · exact hb b z
theorem Shs.reads (I : Inv X pins σ H s) : ∀ {vs : List V} {ds : List PyData} {as : List Addr} {us : List Value}, Shs X.K H vs ds as → Vals vs us → ∃ bs, ReadsAll s.heap us ds bs ∧ ∀ b ∈ bs, b ∈ as ∨ b ≠ sysModules
  | _, _, _, _, .nil, r => by cases r; exact ⟨[], .nil, fun _ h => nomatch h⟩
  | _, _, _, _, .cons h t, r => by
    cases r with
    | cons r1 r2 =>
      obtain ⟨b1, q1, m1⟩ := Sh.reads I h r1
      obtain ⟨b2, q2, m2⟩ := Shs.reads I t r2
      exact ⟨_, .cons q1 q2, fun b m => (List.mem_append.mp m).elim (fun z => (m1 b z).imp (List.mem_append_left _) id) fun z => (m2 b z).imp (List.mem_append_right _) id⟩
end
end

/-- data that may be written out: ints not too long, not too deep, short enough; no table of modules in a dict -/
structure Wr (d : PyData) (as : List Addr) : Prop where
  show_ : d.showable = true
  deep : d.depth ≤ 50
  len : d.shown.length ≤ sizeLine
  nom : d.hasDict = true → sysModules ∉ as
/-- repr(x) -/
def rRepr (K : PySem.W.Frag) : List V → Hp → VK → Prop := fun xs H Q => ∃ (v : V) (d : PyData) (as : List Addr), xs = [v] ∧ Sh K H v d as ∧ Wr d as ∧ Q (.str d.shown) H
section
variable {X : Cx}
theorem call_reprD (hg : X.A.guards = some []) (hu : X.A.units + 64 < cLine) : CallR X (.builtin "repr") (rRepr X.K) := by
  intro pins s σ H xs us Q I r h
  obtain ⟨v, d, as, rfl, hs, hw, q⟩ := h
  obtain ⟨u, rfl, r1⟩ := vals1 r
  obtain ⟨bs, rd, hb⟩ := hs.reads I r1
  have nom : d.hasDict = true → sysModules ∉ bs := fun h m => (hb _ m).elim (hw.nom h) fun z => z rfl
  have fin : ∀ h' t tk, (∀ b o, s.heap.get? b = some o → h'.get? b = some o) → EP X pins σ Q (.str d.shown t) { s with heap := h', toks := tk } := fun h' t tk k => ⟨.str d.shown, H, I.kept k, ⟨t, rfl⟩, q⟩
  cases rd with
  | none => exact PySem.P.repr_of_none (fin s.heap _ _ fun _ _ e => e)
  | bool b => exact PySem.P.repr_of_bool (fin s.heap _ _ fun _ _ e => e)
  | int i t => exact PySem.P.repr_of_int (by simpa [PyData.showable] using hw.show_) (fin s.heap _ _ fun _ _ e => e)
  | str x t => exact PySem.P.repr_of_str (fin s.heap _ _ fun _ _ e => e) (by simpa only [PyData.shown] using hw.len)
  | list h1 h2 h3 h4 => exact repr_of_reads' (.list h1 h2 h3 h4) hw.show_ nom hg (by have := hw.deep; omega) (fun _ _ e => e) fin hw.len
  | tuple h1 h2 h3 h4 => exact repr_of_reads' (.tuple h1 h2 h3 h4) hw.show_ nom hg (by have := hw.deep; omega) (fun _ _ e => e) fin hw.len
  | dict h1 h2 h3 h4 h5 => exact repr_of_reads' (.dict h1 h2 h3 h4 h5) hw.show_ nom hg (by have := hw.deep; omega) (fun _ _ e => e) fin hw.len
/-- a == b, a != b of data without dicts -/
def rEqD (K : PySem.W.Frag) (neg : Bool) : R2 := fun x y H Q => ∃ (d e : PyData) (as bs : List Addr), Sh K H x d as ∧ Sh K H y e bs ∧ SeqAt.shaped d = true ∧ SeqAt.shaped e = true ∧ Q (.bl (if neg then !PyData.eqv d e else PyData.eqv d e)) H
theorem op_eqD (hu : X.A.units + 64 < cLine) : OpR X (compareOp .Eq) (rEqD X.K false) := by
  intro pins s σ H x y v u Q I rx ry h
  obtain ⟨d, e, as, bs, h1, h2, s1, s2, q⟩ := h
  obtain ⟨_, q1, _⟩ := h1.reads I rx
  obtain ⟨_, q2, _⟩ := h2.reads I ry
  exact eq_dataH q1 q2 s1 s2 hu ⟨.bl _, H, I, rfl, q⟩
theorem op_neD (hu : X.A.units + 64 < cLine) : OpR X (compareOp .NotEq) (rEqD X.K true) := by
  intro pins s σ H x y v u Q I rx ry h
  obtain ⟨d, e, as, bs, h1, h2, s1, s2, q⟩ := h
  obtain ⟨_, q1, _⟩ := h1.reads I rx
  obtain ⟨_, q2, _⟩ := h2.reads I ry
  exact ne_dataH q1 q2 s1 s2 hu ⟨.bl _, H, I, rfl, q⟩
end
end L2.Vf

/-! # 2: errors of the program's own made by a call with keywords -/
namespace PySem
namespace VfK
open PySem.W PySem.Calls PyProof.Rows PySem.HandSPX
open Builtin Builtin.ObjectAttr
section
variable {prog : Program} {w : World} {A : Around} {E : Value → Shared → Prop} {R : Result → Shared → Prop} {h : Heap} {g : Array GenState} {d : Drawn} {t : Nat} {os : OsState} {kw : List (Str × Value)}
variable {nm q : Str} {C N : Addr} {bs bm bmB : List Value} {hdct : Bool} {sn : List Str} {sub : List Value} {ab : Bool} {col : Option Bool} {dd : Option Addr} {k0 k1 k2 k3 k5 : Option Value} {B newId initId : String}
theorem kw_check {M : Model} (F : ExcBaseFacts B newId initId bmB) (hT : ∀ X : String, bm.contains (.type X) = bmB.contains (.type X)) {rest : List Value} {Q : Unit → Shared → Prop}
    (hC : h.get? C = some (excClassObj nm q C N bs bm hdct sn sub ab col dd k0 k1 k2 k3 k5 newId)) (hq : Q () ⟨h, g, d, t, os⟩) : wpAny M A (checkBuiltinCall newId ⟨.ref C :: rest, kw⟩) Q E ⟨h, g, d, t, os⟩ := by
  have hstar := F.noStar; have hcont : (Value.ref C :: bm).contains (.type B) = true := by rw [List.contains_cons, hT, F.hasB, Bool.or_true]
  simp only [checkBuiltinCall, F.newKind, F.newSplit, F.newRow] <;> repeat (first | refine wpAny_loadPart_at hC ?_ | (refine wpAny_isSubtype_exc hC ?_; rw [hcont]) | refine wpAny_staticBase_exc hC ?_ | refine wpAny_madeBy_exc hC ?_ | simp only [bne_self_eq_false, Bool.false_eq_true, if_false] | wp_step)
  exact hq
theorem kw_new (F : ExcBaseFacts B newId initId bmB) (hT : ∀ X : String, bm.contains (.type X) = bmB.contains (.type X)) {rest : List Value}
    (hC : h.get? C = some (excClassObj nm q C N bs bm hdct sn sub ab col dd k0 k1 k2 k3 k5 newId)) (hrest : rest.length ≤ sizeLine)
    (hq : R (.ok (.ret (.ref (h.objs.size + 1)))) ⟨(h.push (W.kdv_tup rest)).push (excO C h.objs.size), g, d, t, os⟩) : codeAny (model prog w) A (.builtin newId ⟨.ref C :: rest, kw⟩) R ⟨h, g, d, t, os⟩ := by
  have hends := F.ends; have hcB : (Value.ref C :: bm).contains (.type B) = true := by rw [List.contains_cons, hT, F.hasB, Bool.or_true]
  have hcA : (Value.ref C :: bm).contains (.type "AttributeError") = false ∧ (Value.ref C :: bm).contains (.type "NameError") = false := ⟨by rw [List.contains_cons, hT, F.noAttr]; rfl, by rw [List.contains_cons, hT, F.noName]; rfl⟩
  refine codeAny_builtinAt F.entry ?_; unfold Builtin.«BaseException.__new__»
  refine wpAt_bind ?_; show wpAt _ _ _ (stack >>= _) _ _ _
  refine wpAt_bind (wpAt_stack fun p below => wpAt_of_wpAny ?_); wp_walk
  refine wpAt_of_wpAny ?_; rw [F.owner]; repeat (first | with_reducible refine wpAny_madeHere_exc F.canon hC ?_ | with_reducible refine wpAny_loadPart_at hC ?_ | (with_reducible refine wpAny_isSubtype_exc hC ?_; first | rw [hcB] | rw [hcA.1] | rw [hcA.2]) | wp_step)
  show R _ _; rw [Heap.size_push]; exact hq
theorem kw_type (F : ExcBaseFacts B newId initId bmB) (hT : ∀ X : String, bm.contains (.type X) = bmB.contains (.type X)) {rest : List Value} {fI : Addr} {Q : Fin → Shared → Prop}
    (hC : h.get? C = some (excClassObj nm q C N bs bm hdct sn sub ab col dd k0 k1 k2 k3 k5 newId)) (hrest : rest.length ≤ sizeLine)
    (hi : W.Looks (model prog w) h (typeLookup (.ref C) "__init__") (some (.ref fI))) (hb : ∀ self, W.Looks (model prog w) h (bindSpecial (.ref fI) self) (.ref fI, [self]))
    (hq : codeAny (model prog w) A (.call (.ref fI) ⟨.ref (h.objs.size + 1) :: rest, kw⟩) (fun r s' => match r with | .ok (.ret v) => v = .none ∧ Q (.done (.ret (.ref (h.objs.size + 1)))) s' | .ok _ => False | .error e => E e s')
      ⟨(h.push (W.kdv_tup rest)).push (excO C h.objs.size), g, d, t, os⟩) : wpAny (model prog w) A (Builtin.«type.__call__» ⟨.ref C :: rest, kw⟩) Q E ⟨h, g, d, t, os⟩ := by
  repeat (first | with_reducible refine wpAny_loadPart_at hC ?_ | with_reducible refine wpAny_madeBy_exc hC ?_ | wp_step)
  refine codeAny_call_builtin_code (Code.quiet_builtin _ F.quiet) (kw_check F hT hC ?_); refine kw_new F hT hC hrest ?_
  show wpAny _ _ _ _ _ _
  have k : ∀ b o, h.get? b = some o → ((h.push (W.kdv_tup rest)).push (excO C h.objs.size)).get? b = some o := fun b o e => Heap.get?_push_of_some _ (Heap.get?_push_of_some _ e)
  have i1 := hi.keeps k; have b1 := (hb (.ref (h.objs.size + 1))).keeps k; have hC₁ := k _ _ hC
  have hcC : (Value.ref C :: bm).contains (.ref C) = true ∧ ((h.push (W.kdv_tup rest)).push (excO C h.objs.size)).get? (h.objs.size + 1) = some (excO C h.objs.size) := ⟨by simp, by heap_get⟩
  have hget := hcC.2
  unfold isInstance; repeat (first | with_reducible refine wpAny_loadPart_at hget ?_ | (with_reducible refine wpAny_isSubtype_exc hC₁ ?_; rw [hcC.1]) | wp_step)
  show wpAny _ _ (typeLookup (.ref C) _) _ _ _; refine i1.at ?_; refine wpAny_holding (wpAny_bind (b1.at ?_))
  refine wpAny_bind (wpAny_call (codeAny_mono hq fun r s' z => ?_)); rcases r with e | (v | _ | _ | _) <;> first | exact z | exact z.elim | skip
  obtain ⟨rfl, z⟩ := z; first | exact wpAny_pure (wpAny_pure z) | (wp_walk; exact z)
theorem kw_call (F : ExcBaseFacts B newId initId bmB) (hT : ∀ X : String, bm.contains (.type X) = bmB.contains (.type X)) {rest : List Value} {fI : Addr}
    (hC : h.get? C = some (excClassObj nm q C N bs bm hdct sn sub ab col dd k0 k1 k2 k3 k5 newId)) (hrest : rest.length ≤ sizeLine)
    (hi : W.Looks (model prog w) h (typeLookup (.ref C) "__init__") (some (.ref fI))) (hb : ∀ self, W.Looks (model prog w) h (bindSpecial (.ref fI) self) (.ref fI, [self]))
    (hq : codeAny (model prog w) (A.under (.builtin "type.__call__" ⟨.ref C :: rest, kw⟩)) (.call (.ref fI) ⟨.ref (h.objs.size + 1) :: rest, kw⟩) (W.InitBack (h.objs.size + 1) R) ⟨(h.push (W.kdv_tup rest)).push (excO C h.objs.size), g, d, t, os⟩) :
    codeAny (model prog w) A (.call (.ref C) ⟨rest, kw⟩) R ⟨h, g, d, t, os⟩ := by
  have f1 := tc_lookup; have f2 := tc_bind (.ref C); have hTy : (⟨h, g, d, t, os⟩ : Shared).TypeIs (.ref C) "type" := ⟨_, hC, rfl⟩
  refine codeAny_of_tree ?_; show wpAny _ _ (callAny (.ref C) _) _ _ _
  repeat (any_goals (first | assumption | with_reducible refine wpAny_loadPart_at hC ?_ | wp_step))
  refine ⟨rfl, ?_⟩; refine codeAny_call_builtin_at (Code.quiet_builtin _ (by decide +kernel)) entry_typeCall (wpAny_check_type_call_sub hC (kw_type F hT hC hrest hi hb ?_))
  refine codeAny_mono hq fun r s' z => ?_; rcases r with e | (v | _ | _ | _) <;> exact z
end
end VfK
end PySem

/-! # 3: errors of the program's own, held as values: made, read, asked for their class -/
namespace L2.Vf
open PySem PySem.Spec PyProof.Rows

/-- what the written part says of such a class, its __init__ at fI, its field fld -/
structure ErC (K : PySem.W.Frag) (C fI : Addr) (fld : Str) : Prop where
  ox : OexC K C
  iC : PySem.W.findIn K (.ref C) "__init__" = some (some (.ref fI))
  tI : PySem.W.typeIn K (.ref fI) = some (.type "function")
  no : PySem.W.findIn K (.ref C) fld = some none
  xc : ExcC K C

section
variable {X : Cx} {CX : CXT} {k : Nat} {pins : List (Addr × Obj)} {σ : St} {H : Hp} {s : Shared}
/-- C(..): us positional, kw by name; ws what they bind to behind self -/
theorem run_er {C fI : Addr} {fd : FuncData} {ps : List Str} {sp : Sp} {Q : VK} {us ws : List Value} {kw : List (Str × Value)} {vs : List V} (T : OexC X.K C)
    (iC : PySem.W.findIn X.K (.ref C) "__init__" = some (some (.ref fI))) (tI : PySem.W.typeIn X.K (.ref fI) = some (.type "function"))
    (F1 : FnOk X.prog X.w X.K X.mg X.base CX k fI fd ps sp) (hr : Room (k + 1) X.A) (hz : us.length ≤ 1000)
    (hb : ∀ (s : Shared) (x : Value), X.K.In s.heap → BindsTo s fd ⟨x :: us, kw⟩ (ps.zip (x :: ws))) (hx : Passes CX X E0) (I : Inv X pins σ H s) (r : Vals vs ws)
    (h : ∀ a, H a = none → sp (.ref a :: vs) (upd H a (exo a C none)) (fun v H2 => v = .non ∧ Q (.ref a) H2) E0) :
    wpAny (model X.prog X.w) X.A (call (.ref C) us kw) (EP X pins σ Q) X.xe s := by
  obtain ⟨nm, q, N, bs, bm, sn, sub, ab, col, dd, k0, k1, k2, k3, k5, hC, hbm⟩ := T.cls
  obtain ⟨hp, g, dr, tk, os⟩ := s
  have hsz : hp.objs.size ≤ hp.objs.size + 1 := Nat.le_succ _
  have hn : H (hp.objs.size + 1) = none := I.hok.fresh hsz
  have hq := h (hp.objs.size + 1) hn
  have kk : ∀ b o, hp.get? b = some o → ((hp.push (PySem.W.kdv_tup us)).push (PySem.HandSPX.excO C hp.objs.size)).get? b = some o := fun b o e => by
    exact Heap.get?_push_of_some _ (Heap.get?_push_of_some _ e)
  have hget : ((hp.push (PySem.W.kdv_tup us)).push (PySem.HandSPX.excO C hp.objs.size)).get? (hp.objs.size + 1) = some (PySem.HandSPX.excO C hp.objs.size) := by
    heap_get
  have I2 : Inv X pins σ (upd H (hp.objs.size + 1) (exo (hp.objs.size + 1) C none)) ⟨(hp.push (PySem.W.kdv_tup us)).push (PySem.HandSPX.excO C hp.objs.size), g, dr, tk, os⟩ := by
    exact I.laid (t' := tk) (a := hp.objs.size + 1) (o := exo (hp.objs.size + 1) C none) kk hsz (exo_ok hget)
  have hus : us.length ≤ sizeLine := by rw [sizeLine_eq]; omega
  refine wpAny_call (PySem.VfK.kw_call F.excBase_ValueError (fun Y => PySem.HandSPX.refsVE_contains Y bm hbm) (I.kIn _ _ hC) hus (PySem.W.looks_findIn I.kIn iC) (fun self => PySem.W.bind_fn I.kIn self tI) ?_)
  refine codeAny_mono (F1.run _ X.stack _ _ _ (Value.ref (hp.objs.size + 1) :: ws) (.ref (hp.objs.size + 1) :: vs) _ E0 (hr.make C us kw) (I2.env0.make C us kw) (hb _ _ I2.kIn) (.cons rfl r) hq) fun r s' hq' => ?_
  cases r with
  | error er => exact hx pins σ _ _ er s' I2 hq'
  | ok fl =>
    cases fl with
    | ret u =>
      obtain ⟨v, H', I3, rv, ev, q3⟩ := I2.after hq'
      subst ev
      exact ⟨rv, ⟨V.ref (hp.objs.size + 1), H', I3, rfl, q3⟩⟩
    | next => exact hq'.elim
    | brk => exact hq'.elim
    | cont => exact hq'.elim

/-- an error without __init__ -/
theorem run_er0 {C : Addr} {bmB : List Value} {B newId initId : String} {Q : VK} {us : List Value} (F : ExcBaseFacts B newId initId bmB) (q : PySem.W.excIn X.K C bmB newId = true) (hz : us.length ≤ 1000) (I : Inv X pins σ H s)
    (h : ∀ a, H a = none → Q (.ref a) (upd H a (exo a C none))) : wpAny (model X.prog X.w) X.A (call (.ref C) us) (EP X pins σ Q) X.xe s := by
  obtain ⟨bm, N, nm, qn, bs, hdct, sn, sub, ab, col, dd, k0, k1, k2, k3, k5, mN, hC, hN, hni, T⟩ := exc_obj I.kIn q
  refine wpAny_call_exc_subT F T hC hN hni (fun h' a hm => ?_) (by rw [sizeLine_eq]; omega)
  have hn : H a = none := I.hok.gone hm.new
  obtain ⟨t, ht, _, _⟩ := hm.there
  exact ⟨.ref a, upd H a (exo a C none), I.laidN hm.keeps hm.new hn (exo_ok ht), rfl, h a hn⟩

/-! ### the calls, as expressions -/
/-- C(e), C(f = e), C() -/
def tEr (C : Addr) (sp : Sp) (t : TA) : TE := fun σ H Q => t σ H fun vs H1 => vs.length ≤ 1000 ∧ ∀ a, H1 a = none → sp (.ref a :: vs) (upd H1 a (exo a C none)) (fun v H2 => v = .non ∧ Q (.ref a) H2) E0
def tErD (C : Addr) (sp : Sp) : TE := fun σ H Q => ∀ a, H a = none → sp [.ref a, .non] (upd H a (exo a C none)) (fun v H2 => v = .non ∧ Q (.ref a) H2) E0
variable {C fI : Addr} {fld x : Str} {fd : FuncData} {ps ks : List Str} {sp : Sp} {e : Expr} {es : List Expr} {kws : List Keyword} {t : TA} {p pos : Pos}
theorem pe_er (T : ErC X.K C fI fld) (F1 : FnOk X.prog X.w X.K X.mg X.base CX k fI fd ps sp) (hr : Room (k + 1) X.A) (hb : Binds X.K fd ps []) (hx : Passes CX X E0) (hg : Gl X x) (hm : X.mg x = some (.ref C)) (ha : PA X (e :: es) t)
    (hdb : (x == ("__debug__" : Str)) = false := by decide) (he : starEach (e :: es) X.env = (false, eval e X.env) :: starEach es X.env := by rfl) (hpl : (backTo pos (starEach es X.env)).any (·.1) = false := by rfl) :
    PE X (.Call (.Name x p) (e :: es) [] pos) (tEr C sp t) := by
  refine ⟨fun pins s σ H Q I h => wpAny_Call_Name_kw (ld_glob I hg hm ?_ hdb)⟩
  refine PySem.W.callWith_K (h₀ := X.base) I.ok.mod.kin T.ox.kC (thn (ha.run pos pins s σ H _ I h) fun us s1 hh => ?_) he hpl
  obtain ⟨vs, H1, I1, r, hz, q⟩ := hh
  have hl : us.length ≤ 1000 := by rw [← r.length]; exact hz
  have hn : H1 s1.heap.objs.size = none := I1.hok.fresh (Nat.le_refl _)
  have l2 := F1.len _ _ _ _ (q _ hn)
  refine ⟨I1.kIn, run_er T.ox T.iC T.tI F1 hr hl (fun s x X => ?_) hx I1 r q⟩
  have z := hb s (x :: us) X (by rw [List.append_nil, List.length_cons, ← r.length]; exact l2)
  rw [List.append_nil] at z
  exact z
theorem pe_erK (T : ErC X.K C fI fld) (F1 : FnOk X.prog X.w X.K X.mg X.base CX k fI fd ps sp) (hr : Room (k + 1) X.A) (hb : ∀ (s : Shared) (x : Value) (ws : List Value), X.K.In s.heap → (x :: ws).length = ps.length → BindsTo s fd ⟨[x], ks.zip ws⟩ (ps.zip (x :: ws)))
    (hx : Passes CX X E0) (hg : Gl X x) (hm : X.mg x = some (.ref C)) (hk : PK X kws t) (hall : (backToKw pos (keywordEach kws X.env)).all (·.1.isSome) = true := by rfl) (hks : (backToKw pos (keywordEach kws X.env)).filterMap (·.1) = ks := by rfl)
    (hdb : (x == ("__debug__" : Str)) = false := by decide) (hpl : ((backTo pos (starEach [] X.env)).any (·.1) || (backToKw pos (keywordEach kws X.env)).any (·.1.isNone)) = false := by rfl) :
    PE X (.Call (.Name x p) [] kws pos) (tEr C sp t) := by
  refine ⟨fun pins s σ H Q I h => wpAny_Call_Name_kw (ld_glob I hg hm ?_ hdb)⟩
  refine PySem.W.callWith_KW0 (h₀ := X.base) I.ok.mod.kin T.ox.kC hall ?_ hpl
  refine thn (hk.run pos pins s σ H _ I h) fun ws s1 hh => ?_
  obtain ⟨vs, H1, I1, r, hz, q⟩ := hh
  have hn : H1 s1.heap.objs.size = none := I1.hok.fresh (Nat.le_refl _)
  have l2 := F1.len _ _ _ _ (q _ hn)
  rw [hks]
  refine ⟨I1.kIn, run_er (us := []) T.ox T.iC T.tI F1 hr (by decide) (fun s x X => ?_) hx I1 r q⟩
  exact hb s x ws X (by rw [List.length_cons, ← r.length]; exact l2)
theorem pe_erD (T : ErC X.K C fI fld) (F1 : FnOk X.prog X.w X.K X.mg X.base CX k fI fd ps sp) (hr : Room (k + 1) X.A) (hb : ∀ (s : Shared) (x : Value), X.K.In s.heap → BindsTo s fd ⟨[x], []⟩ (ps.zip [x, .none]))
    (hx : Passes CX X E0) (hg : Gl X x) (hm : X.mg x = some (.ref C)) (hdb : (x == ("__debug__" : Str)) = false := by decide) : PE X (.Call (.Name x p) [] [] pos) (tErD C sp) := by
  refine ⟨fun pins s σ H Q I h => wpAny_Call_Name_kw (ld_glob I hg hm ?_ hdb)⟩
  exact PySem.W.callWith_K0 I.kIn T.ox.kC (run_er (us := []) (ws := [.none]) (vs := [.non]) T.ox T.iC T.tI F1 hr (by decide) (fun s x X => hb s x X) hx I (.cons rfl .nil) h)
theorem pe_er0 {bmB : List Value} {B newId initId : String} (F : ExcBaseFacts B newId initId bmB) (q : PySem.W.excIn X.K C bmB newId = true) (kC : PySem.W.keepIn X.K (.ref C) = true) (hg : Gl X x) (hm : X.mg x = some (.ref C))
    (hdb : (x == ("__debug__" : Str)) = false := by decide) : PE X (.Call (.Name x p) [] [] pos) (fun σ H Q => ∀ a, H a = none → Q (.ref a) (upd H a (exo a C none))) := by
  refine ⟨fun pins s σ H Q I h => wpAny_Call_Name_kw (ld_glob I hg hm ?_ hdb)⟩
  exact PySem.W.callWith_K0 I.kIn kC (run_er0 (us := []) F q (by decide) I h)

/-! ### the field -/
/-- e.f of such an error -/
def tErF (K : PySem.W.Frag) (f : Str) (te : TE) : TE := fun σ H Q => te σ H fun x H1 => ∃ (a C d : Addr) (fs : List (Str × V)) (v : V), x = .ref a ∧ H1 a = some (exo a C (some d)) ∧ H1 d = some (exd d fs) ∧ fs.lookup f = some v ∧
  ExcC K C ∧ PySem.W.findIn K (.ref C) f = some none ∧ Q v H1
theorem pe_erF {te : TE} {f : Str} (he : PE X e te) (hb : attributeBase e f X.env (eval e X.env) = eval e X.env := by rfl) : PE X (.Attribute e f pos) (tErF X.K f te) := by
  refine ⟨fun pins s σ H Q I h => attr_of hb (thn (he.run pins s σ H _ I h) fun u s1 hh => ?_)⟩
  obtain ⟨x, H1, I1, rx, a, C, d, fs, v, ex, ea, ed, l, T, no, q⟩ := hh
  subst ex
  obtain rfl : u = Value.ref a := rx
  obtain ⟨t1, ho⟩ := exo_at I1.hok ea
  obtain ⟨mA, hns, hr⟩ := exd_at I1.hok ed
  obtain ⟨od, hod, hl⟩ := lookIn_ns hns
  obtain ⟨u, hu, ru⟩ := RelO.some_of (v := v) (o := mA f) (by rw [← l]; exact hr f)
  have J : PySem.W.InstAt s1.heap a _ C (some od) := ⟨ho, rfl, rfl, hod⟩
  exact HandSPX.exc_get I1.kIn J T.hg T.hk T.hs (PySem.W.findObj_own T.hd no rfl (by rw [hl, hu])) (handed_of ru) ⟨v, H1, I1.tok _, ru, q⟩
end
end L2.Vf

/-! # 4: isinstance of errors held as values; a class's __init__ that stores its one parameter -/
namespace PySem.VfK
open PySem PySem.Spec PySem.Calls PyProof.Rows PySem.W
section
variable {prog : Program} {w : World} {A : Around} {E : Value → Shared → Prop} {s : Shared} {K : Frag} {x D : Addr} {ox : Obj} {od : Option Obj}
theorem data_any {C : Addr} {name : Str} {a g : Value} (hc : (clsIn K C).isSome = true) (ha : findIn K (.ref C) name = some (some a)) (hg : specialIn K a "__get__" = some (some g)) (ht : takesIn K a = some true) : findObj K C od name = some (.bind g a) := by
  unfold findObj; obtain ⟨cd, hc⟩ := Option.isSome_iff_exists.mp hc
  rw [hc, Option.bind_some, ha, Option.bind_some]; simp [hg, ht]
theorem cls_any {Q : Option Value → Shared → Prop} (T : L2.ExcC K D) (X : K.In s.heap) (I : InstAt s.heap x ox D od) (h : Q (some (.ref D)) { s with toks := s.toks + 1 }) : wpAny (model prog w) A (getAttr? (.ref x) "__class__") Q E s := by
  have hf : findObj K D od "__class__" = some (.bind (.builtin "getset_descriptor.__get__") (.builtin "object.__class__")) := data_any (by obtain ⟨cd, hc, _⟩ := any_some T.hd; rw [hc]; rfl) T.ha T.hn T.ht
  obtain ⟨hp, g, d, t, os⟩ := s
  have L0 := I.type (M := model prog w); have L1 := looks_findIn (M := model prog w) X T.hg; have L2 := looks_findIn (M := model prog w) X T.hk; have L3 := looks_find (M := model prog w) X I hf
  have sub : Looks (model prog w) hp (isInstance (.ref x) (.type "BaseException")) true := L0.andThen (looks_subIn X T.hs)
  have hx0 : (false && onTheHeap (Value.builtin "BaseException.__getattribute__")) = false ∧ (Value.builtin "BaseException.__getattribute__" == Value.builtin "object.__getattribute__") = false := ⟨rfl, by decide +kernel⟩
  have hx1 : (onTheHeap (Value.ref D) && Value.builtin "BaseException.__getattribute__" == Value.builtin "object.__getattribute__") = false := by rw [hx0.2]; rfl
  unfold getAttr? getAttrBy? getAttrBy; refine wpAny_bind (wpAny_mkText (wpAny_bind (wpAny_attempt (wpAny_holding (wpAny_bind (L0.at (wpAny_bind (L1.at ?_))))))))
  show wpAny _ _ (if (onTheHeap (Value.ref D) && Value.builtin "BaseException.__getattribute__" == Value.builtin "object.__getattribute__") = true then _ else _) _ _ _; rw [hx1, if_neg Bool.false_ne_true]
  unfold getAttrByItsOwn hookBefore; refine wpAny_bind ?_; rw [if_pos (show onTheHeap (Value.ref D) = true from rfl)]; refine L2.at ?_
  refine wpAny_bind (wpAny_attempt (wpAny_holding ?_)); unfold callGetattribute; rw [hx0.1, if_neg Bool.false_ne_true]; unfold boundAndCalled
  rw [PySem.F.excAttr_ValueError.ga.bind (.ref x)]; refine wpAny_bind (wpAny_pure ?_)
  show wpAny _ _ (call (.builtin "BaseException.__getattribute__") [.ref x, .str "__class__" t]) _ _ _; refine wpAny_call (codeAny_call_builtin PySem.F.excAttr_ValueError.ga.plain PySem.F.entry_bexc_ga ?_)
  refine @check_slot (model prog w) _ _ ⟨hp, g, d, t + 1, os⟩ "BaseException.__getattribute__" "BaseException" "__getattribute__" (.ref x) [.str "__class__" t] [] _ (by decide +kernel) (by decide +kernel) sub (PySem.F.args_bexc_ga (.ref x) (.str "__class__" t)) ?_ ; unfold Builtin.«object.__getattribute__»
  refine wpAny_bind (wpAny_of_eq (a := ((Value.ref x : Value), [Value.str "__class__" t])) (by first | rfl | (simp only [slotArgs]; rfl)) ?_); refine wpAny_bind (wpAny_pure (wpAny_bind (L0.at (wpAny_bind (L3.at ?_)))))
  show wpAny _ _ (holding [Value.builtin "object.__class__"] (call (.builtin "getset_descriptor.__get__") [.builtin "object.__class__", .ref x, .ref D]) >>= ret) _ _ _
  refine wpAny_bind (wpAny_holding (wpAny_call (class_get (s := ⟨hp, g, d, t + 1, os⟩) (ox := ox) (od := od) X I T.hm ?_))); refine wpAny_pure ?_
  show wpAny _ _ (handedOut (.ref D)) _ _ _; rw [handedOut_of (v := .ref D) rfl]
  first | exact wpAny_pure (wpAny_pure h) | exact wpAny_pure h | exact wpAny_pure (wpAny_bind (wpAny_pure (wpAny_pure h)))
theorem kit_any (T : L2.ExcC K D) : KitX K (.ref x) (.ref D) (fun h => InstAt h x ox D od) where
  ty := fun _ _ _ I => I.type
  it := fun _ _ X _ => by
    obtain ⟨c, hc, _⟩ := any_some T.hd; unfold clsIn at hc; split at hc
    · rename_i c' d' cd' sl' ho
      intro A' Q' E' s' k q; unfold isType loadHead; exact wpAny_bind (wpAny_loadPart (k _ _ (X _ _ ho)) (wpAny_pure q))
    · cases hc
  ne := fun h tp dd its n sl X htp => by
    obtain ⟨c, hc, _⟩ := any_some T.hd
    refine Bool.eq_false_iff.mpr fun q => ?_; have e : D = tp := Value.ref.inj (beq_iff_eq.mp q); subst e; unfold clsIn at hc; split at hc
    · rename_i c' d' cd' sl' ho
      have z := (X _ _ ho).symm.trans htp; cases z
    · cases hc
  ca := fun X I k => cls_any T X I k
end
end PySem.VfK

namespace L2.Vf
open PySem PySem.Spec PyProof.Rows
/-- isinstance(e, c), e such an error -/
def rIsX (K : PySem.W.Frag) : List V → Hp → VK → Prop := fun xs H Q => ∃ (a C : Addr) (d : Option Addr) (c : V) (cv : Value) (b : Bool), xs = [.ref a, c] ∧ H a = some (exo a C d) ∧ (∀ d0, d = some d0 → ∃ fs, H d0 = some (exd d0 fs)) ∧ ExcC K C ∧ ClsV c cv ∧
  PySem.W.kitOne K (.ref C) cv = some b ∧ Q (.bl b) H
section
variable {X : Cx} {f : Addr}
theorem call_isiX : CallR X (.builtin "isinstance") (fun xs H Q => rIsi X.K xs H Q ∨ rIsX X.K xs H Q) := by
  intro pins s σ H xs us Q I r h
  rcases h with h | ⟨a, C, d, c, cv, b, rfl, ha, hd, T, hc, e, q⟩
  · exact call_isi pins s σ H xs us Q I r h
  · obtain ⟨u1, u2, rfl, r1, r2⟩ := vals2 r
    obtain rfl : u1 = Value.ref a := r1
    have e2 := hc.eq r2
    subst e2
    obtain ⟨t1, ho⟩ := exo_at I.hok ha
    have J : ∃ od, PySem.W.InstAt s.heap a { cls := .ref C, dict := d, data := .fields #[.ref t1, .none, .none, .none, .bool false, .none] } C od := by
      cases d with
      | none => exact ⟨none, ho, rfl, rfl, trivial⟩
      | some d0 =>
        obtain ⟨fs, hq⟩ := hd d0 rfl
        obtain ⟨mA, ⟨o, es, ep, e1, _⟩, _⟩ := exd_at I.hok hq
        exact ⟨some o, ho, rfl, rfl, e1⟩
    obtain ⟨od, J⟩ := J
    exact PySem.W.kia_one (PySem.VfK.kit_any T) I.kIn J e (fun z => nomatch z) fun tk => ⟨.bl b, H, I.kept (t' := tk) fun _ _ z => z, rfl, q⟩

/-! ### def __init__(self, f=None): self.f = f -/
def iArgs (f : Str) (p1 p2 p3 : Pos) : Arguments := { posonlyargs := [], args := [⟨"self", none, p1⟩, ⟨f, none, p2⟩], vararg := none, kwonlyargs := [], kw_defaults := [], kwarg := none, defaults := [.Constant .none 0 p3] }
def iBody (f : Str) (p1 p2 p3 p4 : Pos) : List Stmt := [.Assign [.Attribute (.Name "self" p1) f p2] (.Name f p3) p4]
def iScope (f : Str) : Scope := ⟨.function, [("self", .local), (f, .local)], false, false, []⟩
/-- the new error keeps what it was given -/
def spInit (K : PySem.W.Frag) (fld : Str) : Sp := fun vs H Q _ => ∃ (a C : Addr) (v : V), vs = [.ref a, v] ∧ OexC K C ∧ PySem.W.findIn K (.ref C) fld = some none ∧ H a = some (exo a C none) ∧
  ∀ dx, H dx = none → dx ≠ a → Q .non (upd (upd H dx (exd dx [(fld, v)])) a (exo a C (some dx)))
end
section
variable {P : Program} {w : World} {K : PySem.W.Frag} {mg : Str → Option Value} {base : Heap} {f : Addr} {fd : FuncData} {qual : Str} {p1 p2 p3 p4 p5 p6 p7 : Pos}
theorem ok_initV (F : FunD K "__init__" qual (iArgs "value" p1 p2 p3) (iBody "value" p4 p5 p6 p7) (iScope "value") [.non] [] f fd) : FnOk P w K mg base CX0 1 f fd ["self", "value"] (spInit K "value") := by
  have sc : FnScope ["self", "value"] ["self", "value"] (iScope "value") := ⟨rfl, rfl, rfl, by decide +kernel, rfl, by decide +kernel, by decide +kernel⟩
  refine F.ok sc (fun vs H Q E h => ?_) fun cdv A outer s H vs Q E hr h => ?_
  · obtain ⟨a, C, v, rfl, _⟩ := h; rfl
  · obtain ⟨a, C, v, rfl, T, no, ea, q⟩ := h
    refine ⟨_, (pss_one (ps_ost (pv 0) (pv 1))).nox, ?_⟩
    exact ⟨v, rfl, _, rfl, a, C, rfl, T, no, .inl ⟨ea, fun dx n ne => q dx n ne⟩⟩
theorem ok_initN (F : FunD K "__init__" qual (iArgs "name" p1 p2 p3) (iBody "name" p4 p5 p6 p7) (iScope "name") [.non] [] f fd) : FnOk P w K mg base CX0 1 f fd ["self", "name"] (spInit K "name") := by
  have sc : FnScope ["self", "name"] ["self", "name"] (iScope "name") := ⟨rfl, rfl, rfl, by decide +kernel, rfl, by decide +kernel, by decide +kernel⟩
  refine F.ok sc (fun vs H Q E h => ?_) fun cdv A outer s H vs Q E hr h => ?_
  · obtain ⟨a, C, v, rfl, _⟩ := h; rfl
  · obtain ⟨a, C, v, rfl, T, no, ea, q⟩ := h
    refine ⟨_, (pss_one (ps_ost (pv 0) (pv 1))).nox, ?_⟩
    exact ⟨v, rfl, _, rfl, a, C, rfl, T, no, .inl ⟨ea, fun dx n ne => q dx n ne⟩⟩
/-- how its arguments bind -/
theorem init_look {fld : Str} (F : FunD K "__init__" qual (iArgs fld p1 p2 p3) (iBody fld p4 p5 p6 p7) (iScope fld) [.non] [] f fd) {s : Shared} {x y : Value} {us : List Value} {kw : List (Str × Value)} (X : K.In s.heap)
    (h : ∀ (T : Addr) (kV doc pm : Value) (an : Option Addr) (cdv ct : Value), ∃ k, bindArgs (PySem.W.fnOf "__init__" qual (iArgs fld p1 p2 p3) (iBody fld p4 p5 p6 p7) (iScope fld) (.ref T) kV doc pm an cdv ct) ⟨us, kw⟩ = seqItems? (.ref T) >>= k ∧
      k (some #[.none]) = pure ((["self", fld] : List Str).zip [x, y])) : BindsTo s fd ⟨us, kw⟩ ((["self", fld] : List Str).zip [x, y]) := by
  obtain ⟨oc, od, dV, kV, doc, pm, an, cdv, ct, osl, rfl, lk, hcd, hD, hK⟩ := F.ex
  rcases hD with ⟨e, _⟩ | ⟨_, T, o, its, m, rfl, lT, oT, rT⟩
  · cases e
  · cases rT with
    | cons r1 r2 =>
      cases r2
      cases r1
      obtain ⟨k, e1, e2⟩ := h T kV doc pm an cdv ct
      refine BindsTo.of_looks fun M => ?_
      rw [e1]
      exact looks_items X lT oT (.of_pure e2)
theorem init_b1 {fld : Str} (F : FunD K "__init__" qual (iArgs fld p1 p2 p3) (iBody fld p4 p5 p6 p7) (iScope fld) [.non] [] f fd) (hf : fld = "value" ∨ fld = "name") : Binds K fd ["self", fld] [] := by
  intro s us X hl
  rw [List.append_nil] at hl ⊢
  match us, hl with
  | [a, b], _ => exact init_look F X fun T kV doc pm an cdv ct => by rcases hf with rfl | rfl <;> exact ⟨_, rfl, rfl⟩
theorem init_bK {fld : Str} (F : FunD K "__init__" qual (iArgs fld p1 p2 p3) (iBody fld p4 p5 p6 p7) (iScope fld) [.non] [] f fd) (hf : fld = "value" ∨ fld = "name") (s : Shared) (x : Value) (ws : List Value) (X : K.In s.heap)
    (hl : (x :: ws).length = (["self", fld] : List Str).length) : BindsTo s fd ⟨[x], ([fld] : List Str).zip ws⟩ ((["self", fld] : List Str).zip (x :: ws)) := by
  match ws, hl with
  | [b], _ => exact init_look F X fun T kV doc pm an cdv ct => by rcases hf with rfl | rfl <;> exact ⟨_, rfl, rfl⟩
theorem init_bD {fld : Str} (F : FunD K "__init__" qual (iArgs fld p1 p2 p3) (iBody fld p4 p5 p6 p7) (iScope fld) [.non] [] f fd) (hf : fld = "value" ∨ fld = "name") (s : Shared) (x : Value) (X : K.In s.heap) : BindsTo s fd ⟨[x], []⟩ ((["self", fld] : List Str).zip [x, .none]) :=
  init_look F X fun T kV doc pm an cdv ct => by rcases hf with rfl | rfl <;> exact ⟨_, rfl, rfl⟩
end
end L2.Vf

/-! # 5: defs that are called where no repr runs around them, and what is known of that in their bodies -/
namespace L2.Vf
open PySem PySem.Spec PyProof.Rows
theorem guards_make (A : Around) (C : Addr) (us : List Value) (kw : List (Str × Value)) (h : A.guards = some []) : (A.under (.builtin "type.__call__" ⟨.ref C :: us, kw⟩)).guards = some [] := by
  simp [Around.under, Code.guards, Code.isGuard, pushGuards, h]
  rw [if_neg (by decide)]
/-- what FnOk says, where no guarded builtin runs -/
structure FnG (P : Program) (w : World) (K : PySem.W.Frag) (mg : Str → Option Value) (base : Heap) (CX : CXT) (k : Nat) (f : Addr) (fd : FuncData) (ps : List Str) (sp : Sp) : Prop where
  len : ∀ vs H Q E, sp vs H Q E → vs.length = ps.length
  go : ∀ (A : Around) (outer : List Env) (s : Shared) (H : Hp) (args : Args) (us : List Value) (vs : List V) (Q : VK) (E : XK), A.guards = some [] → Room k A → Env0 P w K mg base A outer s H → BindsTo s fd args (ps.zip us) → Vals vs us →
    sp vs H Q E → codeAny (model P w) A (.call (.ref f) args) (CR CX outer P w H s Q E) s
section
variable {P : Program} {w : World} {K : PySem.W.Frag} {mg : Str → Option Value} {base : Heap} {CX : CXT} {k : Nat} {f : Addr} {fd : FuncData} {ps N : List Str} {sp : Sp}
theorem FnG.of (F : FnOk P w K mg base CX k f fd ps sp) : FnG P w K mg base CX k f fd ps sp :=
  ⟨F.len, fun A outer s H args us vs Q E _ hr he hb hv hs => F.run A outer s H args us vs Q E hr he hb hv hs⟩
/-- a def of the text, its body walked -/
theorem FnG.mk' {name qual : Str} {params : Arguments} {body : List Stmt} {scope : Scope} {dV kV doc pm cdv ct oc : Value} {an od : Option Addr} {osl : Array (Option Value)}
    (lk : K.lookup f = some ⟨oc, od, .func (PySem.W.fnOf name qual params body scope dV kV doc pm an cdv ct), osl⟩) (hcd : PySem.W.codeIn K cdv qual = true) (S : FnScope N ps scope) (len : ∀ vs H Q E, sp vs H Q E → vs.length = ps.length)
    (hbody : ∀ (A : Around) (outer : List Env) (s : Shared) (H : Hp) (vs : List V) (Q : VK) (E : XK), (A.deeper (envOfC qual scope s.heap.objs.size f cdv)).guards = some [] → Room k (A.deeper (envOfC qual scope s.heap.objs.size f cdv)) → sp vs H Q E →
      ∃ t, PSs (cxOf CX P w K mg base N qual scope f cdv A outer s H E) body t ∧ t { nx := fun _ H' => Q .non H', rt := Q } (start N vs) H) :
    FnG P w K mg base CX (k + 1) f (PySem.W.fnOf name qual params body scope dV kV doc pm an cdv ct) ps sp := by
  refine ⟨len, fun A outer s H args us vs Q E hg hr e0 hb r hsp => ?_⟩
  have hl := len _ _ _ _ hsp
  have KX : K.In s.heap := e0.mod.kin.keeps fun b o e => by exact (e0.bs b o e).1
  have lim : s.heap.NoLimit := e0.mod.nolimit.keeps fun b o e => by exact (e0.bs b o e).1
  have hkind : ∀ y ∈ ps.zip us, scope.names.lookup y.1 = some .local ∨ (scope.names.lookup y.1 = some .cell ∧ ((cellsFrom (s.heap.objs.size + 1) scope.names []).lookup y.1).isSome = true) := fun y hy => by
    obtain ⟨n, v⟩ := y
    rcases S.par n (List.of_mem_zip hy).1 with q | q
    · exact Or.inl q
    · exact Or.inr ⟨q, PySem.W.cellsFrom_some _ _ _ (.inl q)⟩
  refine codeAny_call_function hr.depth (KX _ _ lk) rfl S.co S.gen rfl (PySem.W.codeRec_of KX hcd) (hb _ _ _ _ (wpAny_newFunctionEnv_cells S.kind hkind fun env he s1 x => ?_))
  subst he
  refine ⟨lim.keeps x.toInCall.keep, codeAny_func ?_⟩
  obtain ⟨t, ht, hq⟩ := hbody A outer s H vs Q E hg (hr.deeper _) hsp
  have I : Inv (cxOf CX P w K mg base N qual scope f cdv A outer s H E) [] (start N vs) H s1 := by exact inv_start S hr.hd e0 hl r x
  refine wpAny_mono (ht.run [] s1 (start N vs) H _ I hq) (fun fl s' hs => ?_) fun e s' hs => by exact hs
  cases fl with
  | ret u =>
    obtain ⟨v, σ', H', J, rv, q⟩ := hs
    exact ⟨v, H', J.os, J.bare, J.base, J.hok, rv, q⟩
  | next =>
    obtain ⟨σ', H', J, q⟩ := hs
    exact ⟨.non, H', J.os, J.bare, J.base, J.hok, rfl, q⟩
  | brk => obtain ⟨_, _, _, q⟩ := hs; exact q.elim
  | cont => obtain ⟨_, _, _, q⟩ := hs; exact q.elim
/-- from which no error leaves -/
theorem okG {x qual : Str} {st : Stmt} (F : Fun K x qual st f fd) (S : FnScope N ps (defScope st)) (len : ∀ vs H Q E, sp vs H Q E → vs.length = ps.length)
    (hbody : ∀ (cdv : Value) (A : Around) (outer : List Env) (s : Shared) (H : Hp) (vs : List V) (Q : VK) (E : XK), (A.deeper (envOfC qual (defScope st) s.heap.objs.size f cdv)).guards = some [] → Room k (A.deeper (envOfC qual (defScope st) s.heap.objs.size f cdv)) →
      sp vs H Q E → ∃ t, PSs (cxOf CX0 P w K mg base N qual (defScope st) f cdv A outer s H E).nox (defBody st) t ∧ t { nx := fun _ H' => Q .non H', rt := Q } (start N vs) H) : FnG P w K mg base CX0 (k + 1) f fd ps sp := by
  obtain ⟨oc, od, kV, doc, pm, an, cdv, ct, osl, rfl, lk, hcd⟩ := F.ex
  refine FnG.mk' lk hcd S len fun A outer s H vs Q E hg hr hsp => ?_
  obtain ⟨t, h, q⟩ := hbody cdv A outer s H vs Q E hg hr hsp
  exact ⟨t, h.nox, q⟩
end
section
variable {X : Cx} {CX : CXT} {k : Nat} {f : Addr} {fd : FuncData} {ps : List Str} {sp : Sp} {dvs : List V} {ds : List Value} {E : XK} {x : Str} {p pos : Pos} {e : Expr} {es : List Expr} {t : TA}
theorem runG {pins : List (Addr × Obj)} {σ : St} {H : Hp} {s : Shared} {Q : VK} {us : List Value} {vs : List V} (F : FnG X.prog X.w X.K X.mg X.base CX k f fd ps sp) (hg : X.A.guards = some []) (hr : Room k X.A) (hb : Binds X.K fd ps ds) (hd : Vals dvs ds)
    (hx : Passes CX X E) (I : Inv X pins σ H s) (r : Vals vs us) (h : sp (vs ++ dvs) H Q E) : wpAny (model X.prog X.w) X.A (call (.ref f) us) (EP X pins σ Q) X.xe s := by
  have r2 : Vals (vs ++ dvs) (us ++ ds) := r.append hd
  have hl : (us ++ ds).length = ps.length := by rw [← r2.length]; exact F.len _ _ _ _ h
  refine wpAny_call (codeAny_mono (F.go X.A X.stack s H ⟨us, []⟩ (us ++ ds) (vs ++ dvs) Q E hg hr I.env0 (hb s us I.kIn hl) r2 h) fun r s' hq => ?_)
  cases r with
  | error e => exact hx pins σ H s e s' I hq
  | ok fl =>
    cases fl with
    | ret u => exact I.after hq
    | next => exact hq.elim
    | brk => exact hq.elim
    | cont => exact hq.elim
theorem pe_callG (F : FnG X.prog X.w X.K X.mg X.base CX k f fd ps sp) (hG : X.A.guards = some []) (hr : Room k X.A) (hg : Gl X x) (hm : X.mg x = some (.ref f)) (hk : PySem.W.keepIn X.K (.ref f) = true) (hb : Binds X.K fd ps ds) (hd : Vals dvs ds)
    (hx : Passes CX X E) (ha : PA X (e :: es) t) (hdb : (x == ("__debug__" : Str)) = false := by decide) (he : starEach (e :: es) X.env = (false, eval e X.env) :: starEach es X.env := by rfl)
    (hpl : (backTo pos (starEach es X.env)).any (·.1) = false := by rfl) : PE X (.Call (.Name x p) (e :: es) [] pos) (tCall sp dvs E t) := by
  refine ⟨fun pins s σ H Q I h => wpAny_Call_Name_kw (ld_glob I hg hm ?_ hdb)⟩
  refine PySem.W.callWith_K (h₀ := X.base) I.ok.mod.kin hk (thn (ha.run pos pins s σ H _ I h) fun us s1 hh => ?_) he hpl
  obtain ⟨vs, H1, I1, r, q⟩ := hh
  exact ⟨I1.kIn, runG F hG hr hb hd hx I1 r q⟩
end

/-! ### the end of a law -/
/-- the call's heap without what is tracked, and the facts of the module over it -/
theorem lawG_at {P : Program} {w : World} {K : PySem.W.Frag} {mg mb : Str → Option Value} {k : Nat} {fa a : Addr} {fd : FuncData} {x : Str} {sp : Sp} {s₁ : Shared} {vs : List Value} {H : Hp}
    (KX : K.In s₁.heap) (hns : s₁.heap.Ns mainGlobals mg) (hb : s₁.heap.Ns builtinsNs mb) (hbb : ∀ x : Str, x ≠ "__name__" → mb x = bootBuiltins x) (hlim : s₁.heap.NoLimit) (hg : s₁.gens = #[])
    (ha : s₁.heap.get? a = some { cls := .type "list", data := .seq vs.toArray }) (hr : Room k callerA)
    (F : ∀ base : Heap, K.In base → base.Ns mainGlobals mg → FnG P w K mg base CX0 k fa fd [x] sp) (hbind : ∀ (s : Shared) (u : Value), BindsTo s fd ⟨[u], []⟩ [(x, u)])
    (hO : Only H) (hsp : sp [.ref a] H (fun v _ => v = .bl true) fun _ _ _ => False) (hok : HOk P w H s₁.heap) (hA : ∀ b, H b ≠ none → b = a) (hK : H a ≠ none → K.lookup a = none) :
    codeAny (model P w) callerA (.call (.ref fa) ⟨[.ref a], []⟩) (fun r s' => r = .ok (.ret (.bool true)) ∧ OldK s₁.heap s'.heap ∧ s'.os = s₁.os ∧ AllBare s'.gens) s₁ := by
  have noD : ∀ {b : Addr} {o : Obj} {es : Array DictEntry} {ep : Nat}, s₁.heap.get? b = some o → o.data = .dict es ep → H b = none := fun {b o es ep} e d => by
    cases q : H b with
    | none => rfl
    | some u =>
      have e' := hA b (by rw [q]; simp)
      subst e'
      rw [ha] at e
      cases e
      cases (show Data.seq vs.toArray _ = Data.dict es ep from d)
  have nsK : ∀ {b : Addr} {m : Str → Option Value}, s₁.heap.Ns b m → (hidT s₁.heap H).Ns b m := fun {b m} z => by
    obtain ⟨o, es, ep, e, d, r⟩ := z
    exact ⟨o, es, ep, hidT_get e (noD e d), d, r⟩
  have hKb : K.In (hidT s₁.heap H) := fun b o e => hidT_get (KX b o e) (by
    cases q : H b with
    | none => rfl
    | some u =>
      have e' := hA b (by rw [q]; simp)
      subst e'
      rw [hK (by rw [q]; simp)] at e
      cases e)
  have hM : Mod K mg (hidT s₁.heap H) := by
    obtain ⟨mc, h1, h2⟩ := hlim
    exact ⟨hKb, nsK hns, ⟨mb, nsK hb, hbb⟩, mc, nsK h1, h2⟩
  have e0 : Env0 P w K mg (hidT s₁.heap H) callerA [] s₁ H := by
    exact ⟨rfl, hM, fun b o e => of_hidT e, Nat.le_of_eq (hidT_size _ _), trivial, fun b hb => absurd (show b ∈ ([] : List Addr) from hb) (by simp), hok, .of_eq hg⟩
  refine codeAny_mono ((F _ hKb (nsK hns)).go callerA [] s₁ H ⟨[.ref a], []⟩ [.ref a] [.ref a] _ _ rfl hr e0 (hbind s₁ (.ref a)) (.cons rfl .nil) hsp) fun r s' h => ?_
  cases r with
  | error e => exact False.elim h
  | ok fl =>
    cases fl with
    | next => exact h.elim
    | brk => exact h.elim
    | cont => exact h.elim
    | ret u =>
      obtain ⟨v, H', os, bare, un, hok', r', q⟩ := h
      subst q
      obtain rfl : u = Value.bool true := r'
      refine ⟨rfl, OldK.of_keep fun b o e => ?_, os, bare⟩
      cases q : H b with
      | none => exact un.keep b o e q (by intro z; exact absurd (show b ∈ ([] : List Addr) from z) (by simp)) (by simp)
      | some u =>
        rcases hO b with z | ⟨ob, xs, z⟩
        · rw [q] at z
          cases z
        · obtain ⟨e1, _⟩ := hok b _ z
          obtain ⟨e2, _⟩ := hok' b _ (un.frzs b ob _ z)
          rw [e] at e1
          cases e1
          exact e2
theorem lawG {P : Program} {w : World} {K : PySem.W.Frag} {mg mb : Str → Option Value} {k : Nat} {fa a : Addr} {fd : FuncData} {x : Str} {sp : Sp} {s₁ : Shared} {vs : List Value} {ns : List Int}
    (KX : K.In s₁.heap) (hns : s₁.heap.Ns mainGlobals mg) (hb : s₁.heap.Ns builtinsNs mb) (hbb : ∀ x : Str, x ≠ "__name__" → mb x = bootBuiltins x) (hlim : s₁.heap.NoLimit) (hg : s₁.gens = #[])
    (ha : s₁.heap.get? a = some { cls := .type "list", data := .seq vs.toArray }) (hi : IntsAre vs ns) (hl : ns.length ≤ sizeLine) (hr : Room k callerA)
    (F : ∀ base : Heap, K.In base → base.Ns mainGlobals mg → FnG P w K mg base CX0 k fa fd [x] sp) (hbind : ∀ (s : Shared) (u : Value), BindsTo s fd ⟨[u], []⟩ [(x, u)])
    (hsp : ∀ H : Hp, Only H → SqL K H a (ns.map V.int) → sp [.ref a] H (fun v _ => v = .bl true) fun _ _ _ => False) :
    codeAny (model P w) callerA (.call (.ref fa) ⟨[.ref a], []⟩) (fun r s' => r = .ok (.ret (.bool true)) ∧ OldK s₁.heap s'.heap ∧ s'.os = s₁.os ∧ AllBare s'.gens) s₁ := by
  have rv := vals_ints hi
  have lenV := hi.length
  cases hk : K.lookup a with
  | some o =>
    have e := KX a o hk
    rw [ha] at e
    cases e
    have hO : Only (fun _ => none) := fun _ => .inl rfl
    refine lawG_at KX hns hb hbb hlim hg ha hr F hbind hO (hsp _ hO (.inr ⟨_, vs.toArray, _, hk, rfl, rfl, rfl, by rw [List.size_toArray, lenV]; exact hl, by simpa using rv⟩)) (fun b u z => by cases (show (none : Option HO) = some u from z)) (fun b z => absurd rfl z) fun z => absurd rfl z
  | none =>
    let o : Obj := { cls := .type "list", data := .seq vs.toArray }
    have at_ : ∀ {b : Addr}, b = a → (if b = a then some (HO.frz o (.lst (ns.map V.int))) else none) = some (HO.frz o (.lst (ns.map V.int))) := fun h => if_pos h
    have off : ∀ {b : Addr}, b ≠ a → (if b = a then some (HO.frz o (.lst (ns.map V.int))) else none) = none := fun h => if_neg h
    have hO : Only (fun b => if b = a then some (.frz o (.lst (ns.map V.int))) else none) := fun b => by
      by_cases hb : b = a
      · exact .inr ⟨_, _, at_ hb⟩
      · exact .inl (off hb)
    refine lawG_at KX hns hb hbb hlim hg ha hr F hbind hO (hsp _ hO (.inl (.inr ⟨o, at_ rfl⟩))) (fun b u z => ?_) (fun b z => ?_) fun _ => hk
    · by_cases hb : b = a
      · cases (at_ hb).symm.trans z
        subst hb
        exact ⟨ha, by rw [List.length_map]; exact hl, vs, _, rv, ha⟩
      · cases (off hb).symm.trans z
    · by_cases hb : b = a
      · exact hb
      · exact absurd (off hb) z
/-- the goal that the head leaves -/
theorem walkG {l : PySem.W.OpenLaw} {n k : Nat} {q : Program} {loose : List Str} {XP : (Str → Option Value) → Heap → Prop} {YP : World → Heap → Prop} {d : DefRec} {K : Params → PySem.W.Frag} {sp : PySem.W.Frag → Sp} {x : Str}
    (hn : l.most = some n) (hn2 : n ≤ sizeLine) (hdf : d.params.defaults = []) (hr : Room k callerA) (hY : ∀ (w : World) (h : Heap), YP w h → (K w.params).In h)
    (F : ∀ (w : World) (mg : Str → Option Value) (fa : Addr) (h : Heap), (K w.params).In h → h.Ns mainGlobals mg → mg d.name = some (.ref fa) → ∃ fd : FuncData, (∀ (s : Shared) (u : Value), BindsTo s fd ⟨[u], []⟩ [(x, u)]) ∧
      ∀ base : Heap, (K w.params).In base → base.Ns mainGlobals mg → FnG l.prog w (K w.params) mg base CX0 k fa fd [x] (sp (K w.params)))
    (hsp : ∀ (K : PySem.W.Frag) (H : Hp) (a : Addr) (ns : List Int), ns.length ≤ n → Only H → SqL K H a (ns.map V.int) → sp K [.ref a] H (fun v _ => v = .bl true) fun _ _ _ => False) :
    PySem.W.WalkO q loose XP YP l.row.toRowW d [] (fun f vs => PySem.call f vs) := by
  refine Att.attach_call hn hdf fun w s₀ s₁ mg mb fa o pm cd doc a vs ns G Y ho hd hcd hmg hobj hints hlen hg => ?_
  obtain ⟨fd, hb, hF⟩ := F w mg fa _ (hY w _ Y) G.T.g hmg
  exact lawG (hY w _ Y) G.T.g G.T.b G.T.builtins G.T.nolimit hg hobj hints (Nat.le_trans hlen hn2) hr hF hb fun H hO hS => hsp _ H a ns hlen hO hS
end L2.Vf

/-! # 6: new lists that are not the table of modules -/
namespace L2.Vf
open PySem PySem.Spec PyProof.Rows
section
variable {X : Cx} {e : Expr} {es : List Expr} {te : TE} {t : TA} {pos : Pos}
def tLstF (t : TA) : TE := fun σ H Q => t σ H fun xs H1 => xs.length ≤ sizeLine ∧ ∀ p, H1 p = none → p ≠ sysModules → Q (.ref p) (upd H1 p (.lst xs))
theorem pe_lstF (h : PA X es t) : PE X (.List es pos) (tLstF t) := by
  refine ⟨fun pins s σ H Q I hq => wpAny_List_spliced (thn (h.run pos pins s σ H _ I hq) fun us s1 hh => ?_)⟩
  obtain ⟨xs, H1, I1, r, z, q⟩ := hh
  refine ⟨by rw [← r.length]; exact z, .ref s1.heap.objs.size, upd H1 s1.heap.objs.size (.lst xs), I1.laid (t' := s1.toks) (fun b u e => by exact Heap.get?_push_of_some _ e) (Nat.le_refl _) ⟨z, us, 0, r, Heap.get?_push_size _ rfl⟩, rfl, q _ (I1.hok.fresh (Nat.le_refl _)) (Nat.ne_of_gt I1.big)⟩
def rCatF : R2 := fun x y H Q => ∃ l b xs zs, x = .ref l ∧ y = .ref b ∧ H l = some (.lst xs) ∧ H b = some (.lst zs) ∧ xs.length + zs.length ≤ sizeLine ∧ ∀ p, H p = none → p ≠ sysModules → Q (.ref p) (upd H p (.lst (xs ++ zs)))
theorem op_catF : OpR X (binaryOp .Add) rCatF := by
  intro pins s σ H x y v u Q I rx ry h; obtain ⟨l, b, xs, zs, rfl, rfl, hH, hB, hz, q⟩ := h; cases rx; cases ry
  obtain ⟨_, its, n, r, hl, e⟩ := I.lstM hH; obtain ⟨_, its2, n2, r2, hl2, e2⟩ := I.lstM hB
  have ea : its.toArray ++ its2.toArray = (its ++ its2).toArray := by simp only [List.append_toArray]
  refine PySem.P.add_list e e2 ?_ (by rw [List.size_toArray, List.size_toArray]; omega); rw [ea]
  exact ⟨.ref _, _, I.lnew (t' := s.toks) (r.append r2) (by rw [List.length_append]; omega), rfl, q _ I.fresh (Nat.ne_of_gt I.big)⟩
def rRepF : R2 := fun x y H Q => ∃ l k xs, x = .ref l ∧ y = .int k ∧ H l = some (.lst xs) ∧ 0 ≤ k ∧ k < 2 ^ 63 ∧ xs.length * k.toNat ≤ sizeLine ∧ ∀ p, H p = none → p ≠ sysModules → Q (.ref p) (upd H p (.lst (List.replicate k.toNat xs).flatten))
theorem op_repF : OpR X (binaryOp .Mult) rRepF := by
  intro pins s σ H x y v u Q I rx ry h; obtain ⟨l, k, xs, rfl, rfl, hH, h1, h2, hz, q⟩ := h; cases rx; obtain ⟨t, rfl⟩ := ry
  obtain ⟨_, its, n, r, hl, e⟩ := I.lstM hH
  have hlen : its.toArray.size * k.toNat ≤ sizeLine := by rw [List.size_toArray, ← hl] <;> exact hz
  have hcap : ¬ its.toArray.size * k.toNat > (2 ^ 63 - 1) / 8 := by have z : (sizeLine : Nat) ≤ (2 ^ 63 - 1) / 8 := by decide
                                                                    omega
  have hfit : ¬ (!Builtin.List.listFitsIndex k) = true := by rw [fitsIndex_both (by omega) h2] <;> exact Bool.false_ne_true
  have hlong : ¬ Builtin.List.listTooLong (its.toArray.size * k.toNat) = true := by rw [notLongL hlen] <;> exact Bool.false_ne_true
  have f0 : ∀ m : Nat, List.foldl (fun x1 x2 => x1 ++ x2) #[] (List.replicate m its.toArray) = (List.replicate m its).flatten.toArray := fun m => by
    have z := foldl_rep its m []; rw [List.nil_append] at z; exact z
  have hnew : List.foldl (fun x1 x2 => x1 ++ x2) #[] (List.replicate (if its.toArray.isEmpty = true then 0 else k.toNat) its.toArray) = (List.replicate k.toNat its).flatten.toArray := by
    rw [f0]; cases its with
    | nil => simp only [List.isEmpty_toArray, List.isEmpty_nil, if_true, List.replicate_zero, List.flatten_nil, List.flatten_replicate_nil]
    | cons a r' => rw [if_neg (by simp only [List.isEmpty_toArray, List.isEmpty_cons, Bool.false_eq_true, not_false_eq_true])]
  refine wpAny_binaryOp_repeat_ref (T := "list") (U := "int") (by decide) ⟨_, e, rfl⟩ (fun s' => typeIs_int s' k t) noFill_list_mul F.fills_int_mul F.slot_int_rmul repeat_list F.slot_int_index.lookup (call_meets F.slot_int_rmul (typeIs_int s k t) F.entry_int_rmul (F.args_int_rmul_2 _ _) (int___rmul___int_list k t l its.toArray n) ⟨e, rfl, ⟨_, e, rfl⟩, call_meets F.slot_list_mul ⟨_, e, rfl⟩ F.entry_list_mul (F.args_list_mul_2 _ _) (AutoListH.list___mul___list_int_3 l its.toArray n k t hfit hcap hlong) ⟨e, ?_⟩⟩); rw [hnew]
  exact ⟨.ref _, _, I.lnew (t' := s.toks) (r.rep k.toNat) (by rw [PyProof.Rows.lm_len_rep_flat, Nat.mul_comm]; exact hz), rfl, q _ I.fresh (Nat.ne_of_gt I.big)⟩
end
end L2.Vf

/-! # 7: powers of great ints -/
namespace L2.Vf
open PySem PySem.Spec PyProof.Rows
section
variable {X : Cx}
theorem op_powW : OpR X (binaryOp .Pow) (rI (fun i j => 0 ≤ j ∧ (Builtin.Int.intBits i : Int) * j ≤ 2 ^ 27) fun i j => .int (i ^ j.toNat)) := opI fun _ _ _ _ _ _ _ hc q => pow_int hc.1 hc.2 q
end
end L2.Vf

/-! # 8: an error that is caught and kept behind the suite -/
namespace L2.Vf
open PySem PySem.Spec PyProof.Rows
/-- at a: an error of the class cls that has flown, its own dict at d -/
def exoG (a : Addr) (cls : Value) (d : Option Addr) : HO := .ext fun h => ∃ (o : Obj) (vs : Array Value), h.get? a = some o ∧ o.cls = cls ∧ o.dict = d ∧ o.data = .fields vs
theorem exoG_ok {P : Program} {w : World} {H : Hp} {h : Heap} {a : Addr} {cls : Value} {d : Option Addr} {o : Obj} {vs : Array Value} (e : h.get? a = some o) (z : Zc cls d o) (hd : o.data = .fields vs) : ObjOk P w H h a (exoG a cls d) :=
  ⟨⟨o, vs, e, z.1, z.2, hd⟩, ⟨o, e⟩, fun h1 h2 q k => by
    obtain ⟨o, vs, q1, q2⟩ := q
    exact ⟨o, vs, k _ q1, q2⟩⟩
theorem exoG_at {P : Program} {w : World} {H : Hp} {h : Heap} {a : Addr} {cls : Value} {d : Option Addr} (hok : HOk P w H h) (e : H a = some (exoG a cls d)) : ∃ (o : Obj) (vs : Array Value), h.get? a = some o ∧ o.cls = cls ∧ o.dict = d ∧ o.data = .fields vs := by
  have x : ObjOk P w H h a (.ext fun h => ∃ (o : Obj) (vs : Array Value), h.get? a = some o ∧ o.cls = cls ∧ o.dict = d ∧ o.data = .fields vs) := hok a _ e
  exact x.1
section
variable {X : Cx} {pins : List (Addr × Obj)} {σ : St} {H : Hp} {s : Shared} {a : Addr} {o : HO}
/-- an object that was not there at the entry is tracked from here on -/
theorem Inv.track (I : Inv X pins σ H s) (hn : H a = none) (ok : ObjOk X.prog X.w (upd H a o) s.heap a o) (hL : a ≠ X.env.locals) (hc : ∀ x c, X.env.cells.lookup x = some c → c ≠ a) (hp : ∀ p ∈ X.pn ++ pins, p.1 ≠ a) (hf : ∀ ob, X.s_0.heap.get? a = some ob → X.H_0 a ≠ none) :
    Inv X pins σ (upd H a o) s := by
  have ne : ∀ {b : Addr} {u : HO}, H b = some u → b ≠ a := fun h => ne_of_none h hn
  refine ⟨I.ok, I.os, I.bare, ⟨I.base.keep, I.base.slot, fun b ob e n hx => ?_, I.base.there, fun b xs e => by rw [upd_ne (ne (I.base.tups b xs e))]; exact I.base.tups b xs e, fun b ob u e => by rw [upd_ne (ne (I.base.frzs b ob u e))]; exact I.base.frzs b ob u e, fun b ps e => ?_⟩, I.loc, I.cell, by rw [upd_ne (Ne.symm hL)]; exact I.free, fun x c e => by rw [upd_ne (hc x c e)]; exact I.freeC x c e, fun p hm => ?_, fun b u e => ?_, I.len⟩
  · have hb : b ≠ a := fun z => by subst z; exact hf ob e n
    rw [upd_ne hb]
    exact I.base.free b ob e n hx
  · obtain ⟨m, q⟩ := I.base.tbls b ps e
    exact ⟨m, by rw [upd_ne (ne q)]; exact q⟩
  · obtain ⟨e, n, r⟩ := I.pin p hm
    exact ⟨e, by rw [upd_ne (hp p hm)]; exact n, r⟩
  · by_cases hb : b = a
    · subst hb
      rw [upd_same] at e
      cases e
      exact ok
    · rw [upd_ne hb] at e
      exact (I.hok b u e).stay (fun c v _ q => q) (fun c q => by rw [upd_ne (ne q)]; exact q) fun c xs q => by rw [upd_ne (ne q)]; exact q
end
/-- what the clause wishes: the error is of the class that it names; behind the suite it is kept -/
def wHold (K : PySem.W.Frag) (c : Value) (i : Nat) (ts : Addr → Value → Option Addr → TS) (D : Ends) : WX := fun cls d σ H => PySem.W.exmOne K cls c = some true ∧
  ∀ a, H a = none → ts a cls d { nx := fun σ' H' => D.nx (σ'.set i none) (upd H' a (exoG a cls d)), rt := fun _ _ => False } (σ.set i (some (.ref a))) H
section
variable {X : Cx} {x n : Str} {c : Value} {i : Nat} {body suite : List Stmt} {b₀ : Stmt} {np pos pos' : Pos} {tb : WX → TS} {ts : Addr → Value → Option Addr → TS}
theorem ps_hold (hs : X.stack = X.env :: X.outer) (hf : X.env.frame = some X.env.locals) (hex : X.ex = []) (hN : X.N.Nodup) (hi : X.N[i]? = some n) (hln : X.env.kindOf n = some .local) (hc : Names X x c)
    (hb : ∀ (W : WX) (pn : List (Addr × Obj)) (xe : Value → Shared → Prop), Takes (X.tr pn xe) W → PassesOwn (model X.prog X.w) X.A X.env xe → PSs (X.tr pn xe) body (tb W))
    (hsu : ∀ (a : Addr) (oe : Obj) (cls : Value) (d : Option Addr) (pn : List (Addr × Obj)), Zc cls d oe → (∃ vs, oe.data = .fields vs) → PSs (X.suite a ((a, oe) :: pn)) (b₀ :: suite) (ts a cls d)) :
    PS X (.Try body [.ExceptHandler (some (.Name x np)) (some n) (b₀ :: suite) pos'] [] [] pos) (fun D σ H => tb (wHold X.K c i ts D) D σ H) := by
  refine ⟨fun pins s σ H D I h => wpAny_Try_except ?_⟩
  have ok := I.ok; have hfr : X.A.frames = some (X.env :: X.outer) := by rw [ok.frames, hs]
  refine wpAny_mono ((hb (wHold X.K c i ts D) (X.pn ++ pins) (fun e s₁ => wpAny (model X.prog X.w) X.A (noteFrame e X.env) (fun _ s₂ => wpAny (model X.prog X.w) X.A (setFlight e none) (fun _ s₃ => wpAny (model X.prog X.w) X.A (handleBy e X.env [.ExceptHandler (some (.Name x np)) (some n) (b₀ :: suite) pos']) (SP X pins D) X.xe s₃) X.xe s₂) X.xe s₁)
    (fun u s' xx => ?_) PassesOwn.looking).run [] s σ H D (I.toTry _) h) (fun f s1 hsp => ?_) (fun e s1 he => by exact he)
  · obtain ⟨a, B, sI, pins', σ', H', cls, d, rfl, J', nb, up, sky, na, os, ag, hb1, hyes⟩ := xx
    have J : Inv X pins σ' H' sI := J'.ofTry ok
    have sky' : Sky B (X.env :: X.outer) a (Zc cls d) X.env.locals s'.heap := by rw [← hs] ; exact sky
    show wpAny (model X.prog X.w) X.A (noteFrame (.ref a) X.env) _ _ _ ; refine Sky.land Zc.steady hfr hf sky' fun h3 fl3 up3 => ?_
    have J3 : Inv X pins σ' H' { s' with heap := h3 } := J.landed nb fl3.1 (up.trans up3) os ag ; obtain ⟨oe3, vs3, he3, hz3, hd3⟩ := fl3.there
    have nfr : a ∉ frs (X.env :: X.outer) := fun hm => by
      obtain ⟨_, o', e', hnf⟩ := fl3.2.2.1.mem hm
      rw [he3] at e' ; cases e' ; exact hnf _ hd3
    have nL : a ≠ X.env.locals := fun z => nfr (List.mem_filterMap.mpr ⟨X.env, List.mem_cons_self, by rw [hf, z]⟩) ; have nF : a ∉ X.fs := fun hm => by
      obtain ⟨e, he, q⟩ := List.mem_filterMap.mp hm
      exact nfr (List.mem_filterMap.mpr ⟨e, List.mem_cons_of_mem _ he, q⟩)
    have nB : B.get? a = none := fl3.2.1
    have out : ∀ {b : Addr} {ob : Obj}, sI.heap.get? b = some ob → b ∉ X.fs → b ≠ X.env.locals → b ≠ a := fun {b ob} e h1 h2 z => by
      have q := nb b ob e (by
        rw [hs]
        intro hm
        obtain ⟨e2, he2, q2⟩ := List.mem_filterMap.mp hm
        rcases List.mem_cons.mp he2 with r | r
        · rw [r, hf] at q2 ; exact h2 (Option.some.inj q2).symm
        · exact h1 (List.mem_filterMap.mpr ⟨e2, r, q2⟩))
      rw [z, nB] at q ; cases q
    have fresh : ∀ ob, X.s_0.heap.get? a = some ob → X.H_0 a ≠ none := fun ob e z => by
      have q := J.base.keep a ob e z nF (by rw [hex]; exact fun z => nomatch z)
      exact out q nF nL rfl
    have pinF : ∀ p ∈ X.pn ++ pins, p.1 ≠ a := fun p hp => by
      obtain ⟨e, _, e2, e3, _⟩ := J.pin p hp
      exact out e e3 e2
    have S3 := J3.suite he3 hd3 na nL nF ; refine wpAny_handleBy_cons (codeAny_handlers_test ?_) (by intro q; cases q)
    have LT : PySem.W.Looks (model X.prog X.w) h3 (typeOf (.ref a)) cls := fun A Q E s k q => wpAny_typeOf_ref (k _ _ he3) (by rw [hz3.1] ; exact q)
    have LM := PySem.W.exm_one (M := model X.prog X.w) (J3.kIn) LT hb1 ; have test : ∀ {Q : Value → Shared → Prop} {E : Value → Shared → Prop}, Q c { s' with heap := h3 } → wpAny (model X.prog X.w) (X.A.mark (some (.ref a))) (eval (.Name x np) X.env) Q E { s' with heap := h3 } := fun {Q E} q => by
      obtain ⟨hg, hdbg, hm | ⟨hm, hv, hnn⟩⟩ := hc
      · exact ld_glob (X := X.suite a ((a, oe3) :: (X.pn ++ pins))) S3 hg hm q hdbg
      · exact ld_blt (X := X.suite a ((a, oe3) :: (X.pn ++ pins))) S3 hg hm hv q hnn hdbg
    refine test (LM.here ?_) ; refine codeAny_handlers_suite_as ?_ ; refine HandSPX.lands_againZ fl3 fun h4 fl4 up4 => ?_
    have J4 : Inv X pins σ' H' { s' with heap := h4 } := J.landed nb fl4.1 ((up.trans up3).trans up4) os ag ; obtain ⟨oe4, vs4, he4, hz4, hd4⟩ := fl4.there
    have S4 := J4.suite he4 hd4 na nL nF ; refine store_ok (X := X.suite a ((a, oe4) :: (X.pn ++ pins))) (v := .ref a) S4 hN hi (.inl hln) rfl (fun s5 S5 => ?_) (.inr hln)
    refine wpAny_mono ((hsu a oe4 cls d (X.pn ++ pins) hz4 ⟨_, hd4⟩).run [] s5 _ H' _ S5 (hyes a na)) (fun f s6 hsp => ?_) (fun _ _ z => z.elim)
    cases f with
    | next =>
      obtain ⟨σ6, H6, S6, q6⟩ := hsp
      obtain ⟨e6, n6, _⟩ := S6.pin (a, oe4) (List.mem_append_left _ List.mem_cons_self)
      have T6 := Inv.track (o := exoG a cls d) (S6.unsuite ok) n6 (exoG_ok e6 hz4 hd4) nL (fun y c' e z => by
        obtain ⟨v, ob, h1, h2⟩ := S6.cell y c' e
        rw [z, e6] at h1 ; cases h1 ; rw [hd4] at h2 ; cases h2) pinF fresh
      exact gone_ok T6 hN hi hln fun s7 J7 => ⟨_, _, J7, q6⟩
    | brk => obtain ⟨_, _, _, q6⟩ := hsp ; exact q6.elim
    | cont => obtain ⟨_, _, _, q6⟩ := hsp ; exact q6.elim
    | ret u => obtain ⟨_, _, _, _, _, q6⟩ := hsp ; exact q6.elim
  · cases f with
    | next => obtain ⟨σ1, H1, J1, q⟩ := hsp ; exact wpAny_execs_nil ⟨σ1, H1, J1.ofTry ok, q⟩
    | brk => obtain ⟨σ1, H1, J1, q⟩ := hsp ; exact ⟨σ1, H1, J1.ofTry ok, q⟩
    | cont => obtain ⟨σ1, H1, J1, q⟩ := hsp ; exact ⟨σ1, H1, J1.ofTry ok, q⟩
    | ret u => obtain ⟨v, σ1, H1, J1, r, q⟩ := hsp ; exact ⟨v, σ1, H1, J1.ofTry ok, r, q⟩
end
end L2.Vf

/-! # 9: what is caught, read; raise of an error with one field; objects made, methods called where a try stands around -/
namespace L2.Vf
open PySem PySem.Spec PyProof.Rows
/-! ### a caught error: its class, its field -/
def rIsG (K : PySem.W.Frag) : List V → Hp → VK → Prop := fun xs H Q => ∃ (a C : Addr) (d : Addr) (fs : List (Str × V)) (c : V) (cv : Value) (b : Bool), xs = [.ref a, c] ∧ H a = some (exoG a (.ref C) (some d)) ∧ H d = some (.xd fs) ∧ ExcC K C ∧ ClsV c cv ∧
  PySem.W.kitOne K (.ref C) cv = some b ∧ Q (.bl b) H
/-- e.f of such an error -/
def tErG (K : PySem.W.Frag) (f : Str) (te : TE) : TE := fun σ H Q => te σ H fun x H1 => ∃ (a C d : Addr) (fs : List (Str × V)) (v : V), x = .ref a ∧ H1 a = some (exoG a (.ref C) (some d)) ∧ H1 d = some (.xd fs) ∧ fs.lookup f = some v ∧
  ExcC K C ∧ PySem.W.findIn K (.ref C) f = some none ∧ Q v H1
section
variable {X : Cx} {e : Expr} {pos : Pos}
theorem xd_at {P : Program} {w : World} {H : Hp} {h : Heap} {d : Addr} {fs : List (Str × V)} (hok : HOk P w H h) (e : H d = some (.xd fs)) : ∃ mA, h.Ns1 d mA ∧ ∀ f, RelO (fs.lookup f) (mA f) := by
  have x : ObjOk P w H h d (.xd fs) := hok d _ e
  exact x
theorem call_isiG : CallR X (.builtin "isinstance") (fun xs H Q => rIsi X.K xs H Q ∨ rIsG X.K xs H Q) := by
  intro pins s σ H xs us Q I r h
  rcases h with h | ⟨a, C, d, fs, c, cv, b, rfl, ha, hd, T, hc, e, q⟩
  · exact call_isi pins s σ H xs us Q I r h
  · obtain ⟨u1, u2, rfl, r1, r2⟩ := vals2 r
    obtain rfl : u1 = Value.ref a := r1
    have e2 := hc.eq r2
    subst e2
    obtain ⟨o, vs, ho, h1, h2, h3⟩ := exoG_at I.hok ha
    obtain ⟨mA, ⟨od, es, ep, e1, _⟩, _⟩ := xd_at I.hok hd
    have J : PySem.W.InstAt s.heap a o C (some od) := ⟨ho, h1, by unfold PySem.W.notCls; rw [h3], by rw [h2]; exact e1⟩
    exact PySem.W.kia_one (PySem.VfK.kit_any T) I.kIn J e (fun z => nomatch z) fun tk => ⟨.bl b, H, I.kept (t' := tk) fun _ _ z => z, rfl, q⟩
theorem pe_erG {te : TE} {f : Str} (he : PE X e te) (hb : attributeBase e f X.env (eval e X.env) = eval e X.env := by rfl) : PE X (.Attribute e f pos) (tErG X.K f te) := by
  refine ⟨fun pins s σ H Q I h => attr_of hb (thn (he.run pins s σ H _ I h) fun u s1 hh => ?_)⟩
  obtain ⟨x, H1, I1, rx, a, C, d, fs, v, ex, ea, ed, l, T, no, q⟩ := hh
  subst ex
  obtain rfl : u = Value.ref a := rx
  obtain ⟨o, vs, ho, h1, h2, h3⟩ := exoG_at I1.hok ea
  obtain ⟨mA, hns, hr⟩ := xd_at I1.hok ed
  obtain ⟨od, hod, hl⟩ := lookIn_ns hns
  obtain ⟨u, hu, ru⟩ := RelO.some_of (v := v) (o := mA f) (by rw [← l]; exact hr f)
  have J : PySem.W.InstAt s1.heap a o C (some od) := ⟨ho, h1, by unfold PySem.W.notCls; rw [h3], by rw [h2]; exact hod⟩
  exact HandSPX.exc_get I1.kIn J T.hg T.hk T.hs (PySem.W.findObj_own T.hd no rfl (by rw [hl, hu])) (handed_of ru) ⟨v, H1, I1.tok _, ru, q⟩
end
/-! ### raise X(e), X with one field -/
/-- raise X(v), v in slot i -/
def tRaiseE (C : Addr) (fld : Str) (i : Nat) (W : WX) : TS := fun _ σ H => ∃ v, σ[i]? = some (some v) ∧ ∀ d, H d = none → W (.ref C) (some d) σ (upd H d (.xd [(fld, v)]))
section
variable {X : Cx} {C fI : Addr} {fld : Str} {fd : FuncData} {e : Expr} {i : Nat} {W : WX} {x : Str} {p pos pos2 : Pos}
theorem ps_raiseE (hc : X.calm = true) (T : ErC X.K C fI fld) (F1 : FnOk X.prog X.w X.K X.mg X.base CX0 1 fI fd ["self", fld] (spInit X.K fld)) (hb : Binds X.K fd ["self", fld] []) (hr : Room 2 X.A) (tk : Takes X W) (hg : Gl X x) (hm : X.mg x = some (.ref C)) (ha : PA X [e] (tCons (tVar i) tNil))
    (hdb : (x == ("__debug__" : Str)) = false := by decide) (he : starEach [e] X.env = (false, eval e X.env) :: starEach [] X.env := by rfl) (hpl : (backTo pos (starEach [] X.env)).any (·.1) = false := by rfl) :
    PS X (.Raise (some (.Call (.Name x p) [e] [] pos)) none pos2) (tRaiseE C fld i W) := by
  have h := ps_raise (pos := pos2) hc tk (pmk_oex (pos := pos) (p := p) T.ox T.iC T.tI F1 hr hb .nil pass0 hg hm ha hdb he hpl)
  refine ⟨fun pins s σ H D I q => h.run pins s σ H D I ?_⟩
  obtain ⟨v, hv, q⟩ := q
  refine ⟨v, hv, (show 1 ≤ 1000 by decide), fun a ha => ⟨a, C, v, rfl, T.ox, T.no, upd_same, fun dx hd ne => ⟨rfl, dx, _, upd_same, by rw [upd_ne ne, upd_same], ?_, ?_⟩⟩⟩
  · rw [upd_ne ne] at hd
    exact hd
  · rw [upd_ne ne] at hd
    have := q dx hd
    have e : upd (del (upd (upd (upd H a (exo a C none)) dx (exd dx [(fld, v)])) a (exo a C (some dx))) a) dx (.xd [(fld, v)]) = upd H dx (.xd [(fld, v)]) := by
      funext b
      by_cases h1 : b = dx
      · rw [h1, upd_same, upd_same]
      · rw [upd_ne h1, upd_ne h1]
        by_cases h2 : b = a
        · subst h2
          simp [del, ha]
        · simp [del, h2, upd_ne h2, upd_ne h1]
    rw [e]
    exact this
end
end L2.Vf

/-! # 10: == and != of an own instance and another thing, either way round -/
namespace PySem.VfE
open PySem PySem.Spec PySem.Calls PyProof.Rows PySem.W PySem.SeqAt AutoSeq1 MeetsSeq
section
variable {prog : Program} {w : World} {A : Around} {E : Value → Shared → Prop} {s : Shared} {K : Frag} {x C L f : Addr} {h₀ : Heap} {m : Str → Option Value} {ox : Obj} {od : Option Obj} {b : Value}
/-- the other one is none of T: T's own == declines -/
theorem decl_list (l a : Addr) (items : Array Value) (n : Nat) (dd : Option Addr) (sl : Array (Option Value)) :
    Meets (Builtin.«list.__eq__» ⟨[.ref l, .ref a], []⟩) (fun _ R s => s.heap.get? l = some { cls := .type "list", dict := dd, data := .seq items n, slots := sl } ∧ (∀ M, Looks M s.heap (isInstance (.ref a) (.type "list")) false) ∧ R (.ok (.ret .notImplemented)) s) :=
  .of_wp fun prog w A R s h => by obtain ⟨hp, g, d, tk, os⟩ := s; obtain ⟨hl, hb, h⟩ := h; wp_walk using wpAny_loadPart' hl, (hb _).at; exact ⟨_, rfl, h⟩
theorem decl_tuple (l a : Addr) (items : Array Value) (n : Nat) (dd : Option Addr) (sl : Array (Option Value)) :
    Meets (Builtin.«tuple.__eq__» ⟨[.ref l, .ref a], []⟩) (fun _ R s => s.heap.get? l = some { cls := .type "tuple", dict := dd, data := .seq items n, slots := sl } ∧ (∀ M, Looks M s.heap (isInstance (.ref a) (.type "tuple")) false) ∧ R (.ok (.ret .notImplemented)) s) :=
  .of_wp fun prog w A R s h => by obtain ⟨hp, g, d, tk, os⟩ := s; obtain ⟨hl, hb, h⟩ := h; wp_walk using wpAny_loadPart' hl, (hb _).at; exact ⟨_, rfl, h⟩
theorem decl_dict (l a : Addr) (o : Obj) :
    Meets (Builtin.«dict.__eq__» ⟨[.ref l, .ref a], []⟩) (fun _ R s => s.heap.get? l = some o ∧ (∀ M, Looks M s.heap (isInstance (.ref a) (.type "dict")) false) ∧ R (.ok (.ret .notImplemented)) s) :=
  .of_wp fun prog w A R s h => by obtain ⟨hp, g, d, tk, os⟩ := s; obtain ⟨hl, hb, h⟩ := h; wp_walk using wpAny_loadPart' hl, (hb _).at; exact ⟨_, rfl, h⟩
theorem decl_int (i : Int) (u : Tok) (a C dx : Addr) :
    Meets (Builtin.«int.__eq__» ⟨[.int i u, .ref a], []⟩) (fun _ R s => s.heap.get? a = some (instObj C dx) ∧ R (.ok (.ret .notImplemented)) s) :=
  .of_wp fun prog w A R s h => by obtain ⟨hp, g, d, tk, os⟩ := s; obtain ⟨hl, h⟩ := h; unfold instObj at hl; wp_walk using wpAny_load hl; exact ⟨_, rfl, h⟩
theorem none_of {h : Heap} {x C : Addr} {ox : Obj} {od : Option Obj} {T : String} (X : K.In h) (I : InstAt h x ox C od) (hsub : subIn K (.ref C) (.type T) = some false) (M : Model) : Looks M h (isInstance (.ref x) (.type T)) false :=
  (I.type (M := M)).andThen (looks_subIn X hsub)
/-- y == x, x own, y of the built-in type T, whose own == declines -/
theorem rc_refl {u : Value} {T id : String} {Q : Value → Shared → Prop} (hT : s.TypeIs u T) (slot : Slot T (cmpInfo .Eq).2.1 id) (hu : A.units < cLine) (X : K.In s.heap) (I : InstAt s.heap x ox C od) (hsub : subIn K (.ref C) (.type T) = some false)
    (hs : findIn K (.ref C) "__eq__" = some (some (.ref f))) (hf : isFn K (.ref f) = true) (decl : ∀ Q' : Value → Shared → Prop, Q' .notImplemented s → wpAny (model prog w) A (call (.builtin id) [u, .ref x]) Q' E s)
    (h : wpAny (model prog w) A (call (.ref f) [.ref x, u]) (PySem.W.CmpBack Q) E s) : wpAny (model prog w) A (richCompare .Eq u (.ref x)) Q E s := by
  rcases hi : cmpInfo CmpOp.Eq with ⟨sym, f1, r1⟩
  have e2 : f1 = "__eq__" ∧ r1 = "__eq__" := by rw [cmpInfo_Eq] at hi; cases hi; exact ⟨rfl, rfl⟩
  rw [hi] at slot
  obtain ⟨rfl, rfl⟩ := e2
  simp only [richCompare, hi, hT.oneThing_none]
  refine wpAny_holding (wpAny_bind (wpAny_cRoomFor hu ?_))
  refine wpAny_bind (wpAny_typeOf hT (wpAny_bind (I.type.here ?_)))
  rw [if_pos (show (Value.type T != Value.ref C) = true by simp)]
  refine wpAny_bind ((looks_subIn X hsub).here ?_)
  simp only [Bool.false_eq_true, if_false, Bool.not_false, if_true]
  refine wpAny_bind (wpAny_tryCompare_declines hT slot (decl _ ⟨rfl, ?_⟩))
  unfold tryCompare
  refine wpAny_bind (wpAny_bind (ifBound_K X I hs hf (wpAny_mono h (fun v s' hv => ?_) fun _ _ e => e)))
  cases v <;> first | exact hv.elim | exact wpAny_pure (wpAny_pure hv)
/-- x.__ne__ of its own is object's -/
theorem ifBound_B {M : Model} {id : String} {name : Str} {args : List Value} {Q : Option Value → Shared → Prop} (X : K.In s.heap) (I : InstAt s.heap x ox C od) (S : Slot "object" name id) (hs : findIn K (.ref C) name = some (some (.builtin id)))
    (h : wpAny M A (call (.builtin id) (.ref x :: args)) (fun v => Q (some v)) E s) : wpAny M A (callSpecialIfBound? (.ref x) name args) Q E s := by
  simp only [callSpecialIfBound?, bindSpecialIfBound?]
  refine wpAny_holding (wpAny_bind (wpAny_bind (wpAny_bind (I.type.here ((looks_findIn X hs).here ?_)))))
  simp only [S.bind]
  refine wpAny_bind (wpAny_askSetting (wpAny_ite ?_))
  have fin : wpAny M A (call (.builtin id) ([.ref x] ++ args) >>= fun v => pure (some v)) Q E s := wpAny_bind (wpAny_mono h (fun v s' h' => wpAny_pure h') fun _ _ h' => h')
  split
  · exact wpAny_bind (wpAny_pure (wpAny_pure fin))
  · exact wpAny_tryCatch (wpAny_bind (wpAny_pure (wpAny_pure fin)))
/-- x != b, by x's own == -/
theorem rc_neO {tb : Value} {Q : Value → Shared → Prop} (hu : A.units + 1 < cLine) (X : K.In s.heap) (I : InstAt s.heap x ox C od) (hb : Looks (model prog w) s.heap (typeOf b) tb) (hn : notFirst K C tb = true) (hsub : subIn K (.ref C) (.type "object") = some true)
    (hs : findIn K (.ref C) "__eq__" = some (some (.ref f))) (hne : findIn K (.ref C) "__ne__" = some (some (.builtin "object.__ne__"))) (hf : isFn K (.ref f) = true)
    (h : wpAny (model prog w) A.in1 (call (.ref f) [.ref x, b]) (fun v s' => ∃ r, v = .bool r ∧ Q (.bool (!r)) s') E s) : wpAny (model prog w) A (richCompare .NotEq (.ref x) b) Q E s := by
  have one : wpAny (model prog w) A (tryCompare (.ref x) "__ne__" b) (fun r s' => ∃ v, r = some v ∧ Q v s') E s := by
    unfold tryCompare
    refine wpAny_bind (ifBound_B X I F.cmp_object.ne hne ?_)
    refine wpAny_call (codeAny_call_builtin F.cmp_object.ne.plain F.cmpEntry_ne ?_)
    refine check_slot F.cmpKind_ne F.cmpSplit_ne ((I.type (M := model prog w)).andThen (looks_subIn X hsub)) (F.cmpArgs_ne _ _) ?_
    unfold Builtin.«object.__ne__»
    refine wpAny_bind (wpAny_of_eq (a := ((Value.ref x : Value), [b])) (by first | rfl | (simp only [slotArgs]; rfl)) ?_)
    refine wpAny_bind (wpAny_cRoomFor hu ?_)
    refine wpAny_bind (ifBound_K X I hs hf (wpAny_mono h (fun v s' hv => ?_) fun _ _ e => e))
    obtain ⟨r, rfl, q⟩ := hv
    refine wpAny_bind (wpAny_truthy_bool ?_)
    exact wpAny_pure (wpAny_pure ⟨_, rfl, q⟩)
  unfold richCompare
  simp only [oneThing_ref, cmpInfo_NotEq]
  refine wpAny_holding (wpAny_bind (wpAny_cRoomFor (Nat.lt_of_succ_lt hu) ?_))
  refine wpAny_bind (I.type.here (wpAny_bind (hb.here ?_)))
  split
  · rename_i q
    have e : subIn K tb (.ref C) = some false := by
      rcases Bool.or_eq_true_iff.mp hn with e | e
      · rw [beq_iff_eq.mp e] at q; simp at q
      · exact beq_iff_eq.mp e
    refine wpAny_bind ((looks_subIn X e).here ?_)
    simp only [Bool.false_eq_true, if_false]
    refine wpAny_bind (wpAny_mono one (fun r s' z => ?_) fun _ _ e => e)
    obtain ⟨v, rfl, hq⟩ := z
    exact wpAny_pure hq
  · refine wpAny_bind (wpAny_pure ?_)
    simp only [Bool.false_eq_true, if_false]
    refine wpAny_bind (wpAny_mono one (fun r s' z => ?_) fun _ _ e => e)
    obtain ⟨v, rfl, hq⟩ := z
    exact wpAny_pure hq
end
end PySem.VfE

/-! # 11: == and != by an own __eq__, as rules; objects made and methods called where what is raised is wished for at the slots -/
namespace L2.Vf
open PySem PySem.Spec PyProof.Rows
/-- the own == answers b -/
abbrev KBl (g : Bool → V) (Q : VK) : VK := fun v H' => ∃ b : Bool, v = .bl b ∧ Q (g b) H'
/-- x == y (g = id), x != y (g = not), x own, y of any type that is no kind of x's class -/
def rEqO (K : PySem.W.Frag) (C : Addr) (sp : Sp) (g : Bool → V) : R2 := fun x y H Q => ∃ (a dx : Addr) (fs : List (Str × V)) (t : Value), x = .ref a ∧ H a = some (.ins C dx fs) ∧ TyX K H y t ∧ PySem.W.notFirst K C t = true ∧ sp [x, y] H (KBl g Q) E0
/-- y == x, x own, y None, an int, a list, a tuple or a dict of ints and texts -/
inductive Oth (K : PySem.W.Frag) (H : Hp) : V → String → Prop
  | non : Oth K H .non "NoneType"
  | int (i : Int) : Oth K H (.int i) "int"
  | lst {a : Addr} {xs : List V} : SqL K H a xs → Oth K H (.ref a) "list"
  | tup {a : Addr} {xs : List V} : SqT K H a xs → Oth K H (.ref a) "tuple"
  | dct {a : Addr} {kvs : List (Key × V)} : H a = some (.dK kvs) → Oth K H (.ref a) "dict"
def rEqR (K : PySem.W.Frag) (C : Addr) (sp : Sp) : R2 := fun x y H Q => ∃ (a dx : Addr) (fs : List (Str × V)) (T : String), y = .ref a ∧ H a = some (.ins C dx fs) ∧ Oth K H x T ∧ PySem.W.subIn K (.ref C) (.type T) = some false ∧ sp [y, x] H (KBl V.bl Q) E0
section
variable {X : Cx} {k : Nat} {C f : Addr} {fd : FuncData} {ps : List Str} {sp : Sp}
theorem run_own {A : Around} {pins : List (Addr × Obj)} {σ : St} {H : Hp} {s : Shared} {a : Addr} {y : V} {u : Value} {g : Bool → V} {Q : VK} (hA : A.frames = X.A.frames) (hr : Room k A) (F : FnOk X.prog X.w X.K X.mg X.base CX0 k f fd ps sp) (hb : Binds X.K fd ps [])
    (I : Inv X pins σ H s) (ry : RelV y u) (h : sp [.ref a, y] H (KBl g Q) E0) :
    wpAny (model X.prog X.w) A (call (.ref f) [.ref a, u]) (fun v s' => ∃ b H', v = .bool b ∧ Inv X pins σ H' s' ∧ Q (g b) H') X.xe s := by
  have e0 : Env0 X.prog X.w X.K X.mg X.base A X.stack s H := by
    have e := I.env0
    exact ⟨by rw [hA]; exact e.frames, e.mod, e.bs, e.bsz, e.funs, e.frf, e.hok, e.bare⟩
  have hl := F.len _ _ _ _ h
  have r2 : Vals [V.ref a, y] [Value.ref a, u] := .cons rfl (.cons ry .nil)
  refine wpAny_call (codeAny_mono (F.run A X.stack s H ⟨[.ref a, u], []⟩ [.ref a, u] [.ref a, y] _ E0 hr e0 (by have := hb s [.ref a, u] I.kIn (by simpa using hl); simpa using this) r2 h) fun r s' hq => ?_)
  cases r with
  | error e => exact pass0 pins σ H s e s' I hq
  | ok fl =>
    cases fl with
    | ret w =>
      obtain ⟨z, H', I', rz, b, ez, q⟩ := I.after hq
      subst ez
      cases rz
      exact ⟨b, H', rfl, I', q⟩
    | next => exact False.elim hq
    | brk => exact False.elim hq
    | cont => exact False.elim hq
theorem op_eqO (F : FnOk X.prog X.w X.K X.mg X.base CX0 k f fd ps sp) (hr : Room k X.A) (hb : Binds X.K fd ps []) (hs : PySem.W.findIn X.K (.ref C) "__eq__" = some (some (.ref f))) (hf : PySem.W.isFn X.K (.ref f) = true) : OpR X (compareOp .Eq) (rEqO X.K C sp V.bl) := by
  intro pins s σ H x y v u Q I rx ry h
  obtain ⟨a, dx, fs, t, rfl, ha, ty, hn, q⟩ := h
  cases rx
  obtain ⟨P, kit, hP, _⟩ := kit_of I ry ty
  obtain ⟨mA, J, _⟩ := ins_get I.hok ha
  obtain ⟨od, J, _⟩ := J.look
  obtain ⟨m, hF⟩ := I.fr
  refine PySem.W.cmp_K (op := .Eq) (tb := t) hr.units0 hF I.ok.mod.kin J (kit.ty _ _ I.kIn hP) hn hs hf (wpAny_mono (run_own rfl hr F hb I ry q) (fun z s' hz => ?_) fun _ _ e => e)
  obtain ⟨b, H', rfl, I', q'⟩ := hz
  exact ⟨.bl b, H', I', rfl, q'⟩
theorem op_neO (F : FnOk X.prog X.w X.K X.mg X.base CX0 k f fd ps sp) (hr : Room (k + 1) X.A) (hb : Binds X.K fd ps []) (hs : PySem.W.findIn X.K (.ref C) "__eq__" = some (some (.ref f))) (hne : PySem.W.findIn X.K (.ref C) "__ne__" = some (some (.builtin "object.__ne__")))
    (hsub : PySem.W.subIn X.K (.ref C) (.type "object") = some true) (hf : PySem.W.isFn X.K (.ref f) = true) : OpR X (compareOp .NotEq) (rEqO X.K C sp fun b => .bl (!b)) := by
  intro pins s σ H x y v u Q I rx ry h
  obtain ⟨a, dx, fs, t, rfl, ha, ty, hn, q⟩ := h
  cases rx
  obtain ⟨P, kit, hP, _⟩ := kit_of I ry ty
  obtain ⟨mA, J, _⟩ := ins_get I.hok ha
  obtain ⟨od, J, _⟩ := J.look
  refine PySem.VfE.rc_neO (tb := t) hr.in1.units0 I.kIn J (kit.ty _ _ I.kIn hP) hn hsub hs hne hf (wpAny_mono (run_own (A := X.A.in1) rfl hr.in1 F hb I ry q) (fun z s' hz => ?_) fun _ _ e => e)
  obtain ⟨b, H', rfl, I', q'⟩ := hz
  exact ⟨b, rfl, ⟨.bl (!b), H', I', rfl, q'⟩⟩
theorem op_eqR (F : FnOk X.prog X.w X.K X.mg X.base CX0 k f fd ps sp) (hr : Room k X.A) (hb : Binds X.K fd ps []) (hs : PySem.W.findIn X.K (.ref C) "__eq__" = some (some (.ref f))) (hf : PySem.W.isFn X.K (.ref f) = true) : OpR X (compareOp .Eq) (rEqR X.K C sp) := by
  intro pins s σ H x y v u Q I rx ry h
  obtain ⟨a, dx, fs, T, rfl, ha, ho, hsub, q⟩ := h
  cases ry
  obtain ⟨mA, O, _⟩ := ins_get I.hok ha
  have hob := O.obj
  obtain ⟨od, J, _⟩ := O.look
  have fin : wpAny (model X.prog X.w) X.A (call (.ref f) [.ref a, v]) (PySem.W.CmpBack (EP X pins σ Q)) X.xe s := wpAny_mono (run_own rfl hr F hb I rx q) (fun z s' hz => by
    obtain ⟨b, H', rfl, I', q'⟩ := hz
    exact ⟨.bl b, H', I', rfl, q'⟩) fun _ _ e => e
  show wpAny (model X.prog X.w) X.A (richCompare .Eq v (.ref a)) (EP X pins σ Q) X.xe s
  cases ho with
  | non =>
    cases (show v = Value.none from rx)
    exact PySem.VfE.rc_refl (T := "NoneType") rfl PySem.F.slot_NoneType_eq hr.units0 I.kIn J hsub hs hf (fun _ hq => call_gives PySem.F.slot_NoneType_eq rfl PySem.F.entry_NoneType_eq (PySem.F.args_NoneType_eq_2 _ _) (PySem.SeqAt.NoneType___eq___none_ref_0 a) hq) fin
  | int i =>
    obtain ⟨t, e⟩ := (show ∃ t, v = Value.int i t from rx)
    cases e
    exact PySem.VfE.rc_refl (T := "int") (PySem.typeIs_int s i t) PySem.F.slot_int_eq hr.units0 I.kIn J hsub hs hf (fun _ hq => call_meets PySem.F.slot_int_eq (PySem.typeIs_int s i t) PySem.F.entry_int_eq (PySem.F.args_int_eq_2 _ _) (PySem.VfE.decl_int i t a C dx) ⟨hob, hq⟩) fin
  | lst hl =>
    cases (show v = Value.ref _ from rx)
    obtain ⟨its, _, ⟨⟨cls, dd, data, sl⟩, n, e, hc, _, hd⟩, _⟩ := I.list hl
    simp only at hc hd
    subst hc hd
    have iso := PySem.VfE.none_of I.kIn J hsub
    exact PySem.VfE.rc_refl (T := "list") ⟨_, e, rfl⟩ PySem.F.slot_list_eq hr.units0 I.kIn J hsub hs hf (fun _ hq => call_meets PySem.F.slot_list_eq ⟨_, e, rfl⟩ PySem.F.entry_list_eq (PySem.F.args_list_eq_2 _ _) (PySem.VfE.decl_list _ a _ n _ _) ⟨e, iso, hq⟩) fin
  | tup hl =>
    cases (show v = Value.ref _ from rx)
    obtain ⟨its, _, ⟨⟨cls, dd, data, sl⟩, e, hc, n, hd⟩, _⟩ := I.tuple hl
    simp only at hc hd
    subst hc hd
    have iso := PySem.VfE.none_of I.kIn J hsub
    exact PySem.VfE.rc_refl (T := "tuple") ⟨_, e, rfl⟩ PySem.F.slot_tuple_eq hr.units0 I.kIn J hsub hs hf (fun _ hq => call_meets PySem.F.slot_tuple_eq ⟨_, e, rfl⟩ PySem.F.entry_tuple_eq (PySem.F.args_tuple_eq_2 _ _) (PySem.VfE.decl_tuple _ a _ n dd sl) ⟨e, iso, hq⟩) fin
  | @dct d kvs hl =>
    cases (show v = Value.ref _ from rx)
    obtain ⟨_, _, vs, _, o, es, ep, h1, h2, _⟩ := (show ObjOk X.prog X.w H s.heap d (.dK kvs) from I.hok d _ hl)
    have iso := PySem.VfE.none_of I.kIn J hsub
    exact PySem.VfE.rc_refl (T := "dict") ⟨_, h1, h2.1⟩ PySem.F.slot_dict_eq hr.units0 I.kIn J hsub hs hf (fun _ hq => call_meets PySem.F.slot_dict_eq ⟨_, h1, h2.1⟩ PySem.F.entry_dict_eq (PySem.F.args_dict_eq_2 _ _) (PySem.VfE.decl_dict _ a _) ⟨h1, iso, hq⟩) fin
end
/-! ### C(e, .., k = v, ..), o.m(e, ..) where what is raised is wished for at the slots -/
section
variable {X : Cx} {CX : CXT} {k n : Nat} {f C : Addr} {fd : FuncData} {ps ks : List Str} {sp : Sp} {E : St → XK} {x m : Str} {p pos apos : Pos} {e o : Expr} {es : List Expr} {kws : List Keyword} {t tk : TA} {ta : TE} {g : List Value → List Value → List Value} {gV : List V → List V → List V}
/-- what a call of the class wishes: the new instance and its dict, then __init__ -/
def KMake (C : Addr) (sp : Sp) (bd : V → List V) (E : XK) (Q : VK) (H : Hp) : Prop := ∀ x dx, H x = none → H dx = none → dx ≠ x → sp (bd (.ref x)) (upd (upd H dx (.own x)) x (.ins C dx [])) (fun v H3 => v = .non ∧ Q (.ref x) H3) E
def tMakeKS (C : Addr) (n m : Nat) (sp : Sp) (gV : List V → List V → List V) (E : St → XK) (t tk : TA) : TE := fun σ H Q => t σ H fun vs H1 => tk σ H1 fun zs H2 => vs.length = n ∧ zs.length = m ∧ KMake C sp (fun x => gV (x :: vs) zs) (E σ) Q H2
theorem run_makeS {pins : List (Addr × Obj)} {σ : St} {H : Hp} {s : Shared} {Q : VK} {us : List Value} {kw : List (Str × Value)} {bu : Value → List Value} {bd : V → List V} (M : Mk X.K C f) (F : FnOk X.prog X.w X.K X.mg X.base CX k f fd ps sp) (hr : Room (k + 1) X.A)
    (hb : ∀ (s : Shared) (x : Value), X.K.In s.heap → BindsTo s fd ⟨x :: us, kw⟩ (ps.zip (bu x))) (hx : PassesAt CX X σ (E σ)) (I : Inv X pins σ H s) (r : ∀ y : Addr, Vals (bd (.ref y)) (bu (.ref y))) (h : KMake C sp bd (E σ) Q H) :
    wpAny (model X.prog X.w) X.A (call (.ref C) us kw) (EP X pins σ Q) X.xe s := by
  have hq := h (s.heap.objs.size + 1) s.heap.objs.size (I.hok.fresh (Nat.le_succ _)) (I.hok.fresh (Nat.le_refl _)) (Nat.ne_of_lt (Nat.lt_succ_self _)); have I2 := Inv.made (C := C) I
  refine wpAny_call (make_map (f := f) I.kIn M.makes M.init (beq_iff_eq.mp M.fn) (codeAny_mono (F.run _ X.stack _ _ ⟨Value.ref (s.heap.objs.size + 1) :: us, kw⟩ (bu (.ref (s.heap.objs.size + 1))) _ _ (E σ) (hr.make C us kw) (I2.env0.make C us kw) (hb _ _ I2.kIn) (r _) hq) fun r s' hq' => ?_))
  cases r with
  | error e => exact hx pins _ _ e s' I2 hq'
  | ok fl =>
    cases fl with
    | ret u => obtain ⟨v, H', I3, rv, ev, q3⟩ := I2.after hq' ; subst ev ; exact ⟨rv, ⟨V.ref (s.heap.objs.size + 1), H', I3, rfl, q3⟩⟩
    | next => exact hq'.elim
    | brk => exact hq'.elim
    | cont => exact hq'.elim
theorem pe_makeKS (M : Mk X.K C f) (F : FnOk X.prog X.w X.K X.mg X.base CX k f fd ps sp) (hr : Room (k + 1) X.A) (hg : Gl X x) (hm : X.mg x = some (.ref C)) (hb : KBn X.K fd ps (n + 1) ks g gV) (hx : ∀ σ, PassesAt CX X σ (E σ)) (ha : PA X (e :: es) t) (hkw : PK X kws tk)
    (hall : (backToKw pos (keywordEach kws X.env)).all (·.1.isSome) = true := by rfl) (hks : (backToKw pos (keywordEach kws X.env)).filterMap (·.1) = ks := by rfl) (hdb : (x == ("__debug__" : Str)) = false := by decide)
    (he : starEach (e :: es) X.env = (false, eval e X.env) :: starEach es X.env := by rfl) (hpl : ((backTo pos (starEach (e :: es) X.env)).any (·.1) || (backToKw pos (keywordEach kws X.env)).any (·.1.isNone)) = false := by rfl) :
    PE X (.Call (.Name x p) (e :: es) kws pos) (tMakeKS C n ks.length sp gV E t tk) := by
  refine ⟨fun pins s σ H Q I h => wpAny_Call_Name_kw (ld_glob I hg hm (PySem.W.callWith_KW (h₀ := X.base) I.ok.mod.kin M.kp hall (thn (ha.run pos pins s σ H _ I h) fun us s1 ⟨vs, H1, I1, r, q⟩ => ?_) hpl he) hdb)⟩
  refine thn (hkw.run pos pins s1 σ H1 _ I1 q) fun ws s2 ⟨zs, H2, I2, rz, l1, l2, q2⟩ => ⟨I2.kIn, ?_⟩
  rw [hks]
  exact run_makeS (E := E) (bu := fun x => g (x :: us) ws) M F hr (fun s' y X' => hb.to s' (y :: us) ws X' (by rw [List.length_cons, ← r.length, l1]) (rz.length.symm.trans l2)) (hx σ) I2 (fun y => hb.rel (Paired.cons (show RelV (V.ref y) (Value.ref y) from rfl) r) rz) q2
/-- C(e, ..), the rest of the parameters by their defaults -/
def tMakeS (C : Addr) (sp : Sp) (dvs : List V) (E : St → XK) (t : TA) : TE := fun σ H Q => t σ H fun vs H1 => vs.length + dvs.length + 1 = ps.length ∧ KMake C sp (fun x => x :: (vs ++ dvs)) (E σ) Q H1
theorem pe_makeS {ds : List Value} {dvs : List V} (M : Mk X.K C f) (F : FnOk X.prog X.w X.K X.mg X.base CX k f fd ps sp) (hr : Room (k + 1) X.A) (hg : Gl X x) (hm : X.mg x = some (.ref C)) (hb : Binds X.K fd ps ds) (hd : Vals dvs ds) (hx : ∀ σ, PassesAt CX X σ (E σ)) (ha : PA X (e :: es) t)
    (hdb : (x == ("__debug__" : Str)) = false := by decide) (he : starEach (e :: es) X.env = (false, eval e X.env) :: starEach es X.env := by rfl) (hpl : (backTo pos (starEach es X.env)).any (·.1) = false := by rfl) :
    PE X (.Call (.Name x p) (e :: es) [] pos) (tMakeS (ps := ps) C sp dvs E t) := by
  refine ⟨fun pins s σ H Q I h => wpAny_Call_Name_kw (ld_glob I hg hm (PySem.W.callWith_K (h₀ := X.base) I.ok.mod.kin M.kp (thn (ha.run pos pins s σ H _ I h) fun us s1 ⟨vs, H1, I1, r, l, q⟩ => ⟨I1.kIn, ?_⟩) he hpl) hdb)⟩
  refine run_makeS (E := E) (us := us) (kw := []) (bu := fun x => x :: (us ++ ds)) M F hr (fun s' y X' => hb s' (y :: us) X' ?_) (hx σ) I1 (fun y => Paired.cons (show RelV (V.ref y) (Value.ref y) from rfl) (r.append hd)) q
  have l1 := r.length
  have l2 := hd.length
  simp only [List.cons_append, List.length_cons, List.length_append]
  omega
/-- o.m(e, ..) -/
def tMethSD (C : Addr) (m : Str) (sp : Sp) (E : St → XK) (ta : TE) (t : TA) : TE := fun σ H Q => ta σ H fun x H1 => ∃ (a dx : Addr) (fs : List (Str × V)), x = .ref a ∧ H1 a = some (.ins C dx fs) ∧ fs.lookup m = none ∧ t σ H1 fun vs H2 => sp (x :: vs) H2 Q (E σ)
theorem pe_methSD {pl : Sem Bool} (he : PE X o ta) (c : Cls X.K C) (hm : Meth X.K C m f) (F : FnOk X.prog X.w X.K X.mg X.base CX k f fd ps sp) (hr : Room k X.A) (hb : Binds X.K fd ps []) (hx : ∀ σ, PassesAt CX X σ (E σ)) (ha : PA X (e :: es) t)
    (hst : starEach (e :: es) X.env = (false, eval e X.env) :: starEach es X.env := by rfl) (hpl : (backTo pos (starEach es X.env)).any (·.1) = false := by rfl)
    (ht : eval (.Call (.Attribute o m apos) (e :: es) [] pos) X.env = (do
      let ov ← eval o X.env; standAt apos.atName
      let (f, first) ← holding [ov] (getMethod ov m pl); callWith pos f first (backTo pos (starEach (e :: es) X.env)) (backToKw pos (keywordEach [] X.env))) := by rfl) :
    PE X (.Call (.Attribute o m apos) (e :: es) [] pos) (tMethSD C m sp E ta t) := by
  refine ⟨fun pins s σ H Q I h => PySem.W.methodCall_KW (pl := pl) (thn (he.run pins s σ H _ I h) fun u s1 ⟨x, H1, I1, rx, a, dx, fs, ex, ea, l, q⟩ => ?_) ht⟩
  subst ex; obtain rfl : u = Value.ref a := rx
  refine getmeth_ok I1 ea c hm l (PySem.W.callWith_K (first := [.ref a]) (h₀ := X.base) I.ok.mod.kin hm.kp (thn (ha.run pos pins s1 σ H1 _ I1 q) fun us s2 ⟨vs, H2, I2, r, q2⟩ => ⟨I2.kIn, ?_⟩) hst hpl)
  exact run_fnS (E := E) (us := .ref a :: us) (vs := .ref a :: vs) F hr hb (hx σ) I2 (.cons rfl r) q2
end
end L2.Vf

/-! # 12: zip of a list and a tuple (of any two kinds of which the next item is known) -/
namespace PySem.VfZ
open PySem PySem.Spec PySem.Calls PyProof.Rows
open PySem.Sem (wp)
/-- a kind of iterator: I its state, S what it walks -/
structure ZK (I : Heap → Addr → Addr → Nat → Prop) (S : Heap → Addr → Array Value → Prop) : Prop where
  item : ∀ {prog : Program} {w : World} {A : Around} {E : Value → Shared → Prop} {s : Shared} {it l : Addr} {i : Nat} {xs : Array Value} {x : Value} {Q : Value → Shared → Prop}, I s.heap it l i → S s.heap l xs → xs[i]? = some x →
    (∀ h', I h' it l (i + 1) → Heap.SameBut it s.heap h' → Q x { s with heap := h' }) → wpAny (model prog w) A (Builtin.SmallTypes.nextOf (.ref it)) Q E s
  fin : ∀ {prog : Program} {w : World} {A : Around} {E : Value → Shared → Prop} {s : Shared} {it l : Addr} {i : Nat} {xs : Array Value} {Q : Value → Shared → Prop}, A.handled = none → I s.heap it l i → S s.heap l xs → xs[i]? = none →
    (∀ h' e, Heap.ExtBut it s.heap h' → (∃ o, h'.get? e = some o ∧ o.cls = .type "StopIteration") → E (.ref e) { s with heap := h' }) → wpAny (model prog w) A (Builtin.SmallTypes.nextOf (.ref it)) Q E s
  ie : ∀ {h h' : Heap} {a b l : Addr} {i : Nat}, I h a l i → Heap.ExtBut b h h' → a ≠ b → I h' a l i
  se : ∀ {h h' : Heap} {a b : Addr} {xs : Array Value}, S h a xs → Heap.ExtBut b h h' → a ≠ b → S h' a xs
  ia : ∀ {h h' : Heap} {a l : Addr} {i : Nat}, I h a l i → (∀ o, h.get? a = some o → h'.get? a = some o) → I h' a l i
  lt : ∀ {h : Heap} {a l : Addr} {i : Nat}, I h a l i → a < h.objs.size
theorem zk_list : ZK Heap.IsListIter Heap.IsList where
  item := fun a b c d => wpAny_nextOf_list_item a b c d
  fin := fun a b c d e => wpAny_nextOf_list_end a b c d e
  ie := fun a b c => a.extBut b c
  se := fun a b c => a.extBut b c
  ia := fun a b => a.at b
  lt := fun ⟨_, e, _⟩ => Heap.lt_size e
theorem zk_tuple : ZK Heap.IsTupleIter Heap.IsTuple where
  item := fun a b c d => RZ.nextOf_tuple_item a b c d
  fin := fun a b c d e => RZ.nextOf_tuple_end a b c d e
  ie := fun a b c => a.extBut b c
  se := fun a b c => a.extBut b c
  ia := fun a b => a.at b
  lt := fun ⟨_, e, _⟩ => Heap.lt_size e
section
variable {prog : Program} {w : World} {A : Around} {E : Value → Shared → Prop} {s : Shared} {I1 I2 : Heap → Addr → Addr → Nat → Prop} {S1 S2 : Heap → Addr → Array Value → Prop}
/-- what holds at each turn -/
structure At (I1 I2 : Heap → Addr → Addr → Nat → Prop) (h : Heap) (z TI TO i1 i2 l1 l2 : Addr) (k : Nat) (f0 a b : Value) : Prop where
  z : IsZip h z TI TO f0
  ti : IsPair h TI (.ref i1) (.ref i2)
  to : IsPair h TO a b
  i1 : I1 h i1 l1 k
  i2 : I2 h i2 l2 k
theorem z_item {z TI TO i1 i2 l1 l2 : Addr} {k : Nat} {xs ys : Array Value} {x y a b : Value} {Q : Value → Shared → Prop} (K1 : ZK I1 S1) (K2 : ZK I2 S2) (D : ZipApart z TI TO i1 i2 l1 l2) (T : At I1 I2 s.heap z TI TO i1 i2 l1 l2 k .none a b)
    (hl1 : S1 s.heap l1 xs) (hl2 : S2 s.heap l2 ys) (hx : xs[k]? = some x) (hy : ys[k]? = some y)
    (hQ : ∀ h', At I1 I2 h' z TI TO i1 i2 l1 l2 (k + 1) (rawInt s.heap.objs.size) x y → IsPair h' s.heap.objs.size x y → (∀ c o, c ≠ z → c ≠ TO → c ≠ i1 → c ≠ i2 → s.heap.get? c = some o → h'.get? c = some o) → Q (.ref s.heap.objs.size) { s with heap := h' }) :
    wpAny (model prog w) A (Builtin.«zip.__next__» ⟨[.ref z], []⟩) (fun fin s' => ∃ v, fin = .done (.ret v) ∧ Q v s') E s := by
  obtain ⟨hz, hTI, hTO, h1, h2⟩ := T
  -- the record is read
  show wpAny _ _ (field (.ref z) 2 >>= _) _ _ _ ; refine wpAny_bind (wpAny_field hz rfl (x := .bool false) rfl ?_) ; show wpAny _ _ (field (.ref z) 3 >>= _) _ _ _ ; refine wpAny_bind (wpAny_field hz rfl (x := .ref TI) rfl (wpAny_bind (wpAny_seqItems hTI rfl ?_)))
  show wpAny _ _ (Builtin.SmallTypes.ownedTupleIsFree (.ref z) >>= _) _ _ _ ; refine wpAny_bind ?_ ; unfold Builtin.SmallTypes.ownedTupleIsFree ; refine wpAny_bind (wpAny_field hz rfl (x := .none) rfl (wpAny_pure ?_)) ; simp only [if_true]
  refine wpAny_bind (wpAny_rule (wpAny_bind (wpAny_field hz rfl (x := .ref TO) rfl (wpAny_bind (wpAny_setField_rec hz (by simp) fun ha za sa => ?_))))) ; replace za : IsZip ha z TI TO .ellipsis := za ; refine wpAny_bind ?_ ; simp only [List.zipIdx_cons, List.zipIdx_nil, List.forIn_cons, List.forIn_nil]
  -- the first
  refine wpAny_bind (wpAny_bind (wpAny_onRaise ?_)) ; show wpAny _ _ (Builtin.SmallTypes.nextOf (.ref i1) >>= _) _ _ _ ; refine wpAny_bind (K1.item (K1.ie h1 sa.extBut D.i1z) (K1.se hl1 sa.extBut D.l1z) hx fun hb f1 sb => wpAny_pure ?_)
  have tb : IsPair hb TO a b := sb.extBut _ _ D.TOi1 (sa.extBut _ _ D.TOz hTO)
  refine wpAny_bind (wpAny_seqItems tb rfl (wpAny_bind (wpAny_updateSeq_pair tb fun hc tc sc => wpAny_bind (wpAny_letGo (wpAny_pure ?_))))) ; replace tc : IsPair hc TO x b := tc
  -- the second
  refine wpAny_bind (wpAny_bind (wpAny_onRaise ?_)) ; show wpAny _ _ (Builtin.SmallTypes.nextOf (.ref i2) >>= _) _ _ _
  refine wpAny_bind (K2.item (K2.ie (K2.ie (K2.ie h2 sa.extBut D.i2z) sb.extBut D.i12.symm) sc.extBut D.TOi2.symm) (K2.se (K2.se (K2.se hl2 sa.extBut D.l2z) sb.extBut D.l2i1) sc.extBut D.l2TO) hy fun hd f2 sd => wpAny_pure ?_)
  have td : IsPair hd TO x b := sd.extBut _ _ D.TOi2 tc
  refine wpAny_bind (wpAny_seqItems td rfl (wpAny_bind (wpAny_updateSeq_pair td fun he te se => wpAny_bind (wpAny_letGo (wpAny_pure (wpAny_pure ?_)))))) ; replace te : IsPair he TO x y := te
  -- the pair is handed out
  refine wpAny_bind (wpAny_seqItems te rfl (wpAny_bind (wpAny_newTuple ?_)))
  have hsz : he.objs.size = s.heap.objs.size := by rw [se.1, sd.1, sc.1, sb.1, sa.1]
  have ze : IsZip he z TI TO .ellipsis := se.extBut _ _ D.TOz.symm (sd.extBut _ _ D.i2z.symm (sc.extBut _ _ D.TOz.symm (sb.extBut _ _ D.i1z.symm za)))
  have ke : ∀ c o, c ≠ z → c ≠ TO → c ≠ i1 → c ≠ i2 → s.heap.get? c = some o → he.get? c = some o := fun c o c1 c2 c3 c4 e => se.extBut _ _ c2 (sd.extBut _ _ c4 (sc.extBut _ _ c2 (sb.extBut _ _ c3 (sa.extBut _ _ c1 e))))
  have g1 := K1.ie (K1.ie (K1.ie f1 sc.extBut D.TOi1.symm) sd.extBut D.i12) se.extBut D.TOi1.symm ; have g2 := K2.ie f2 se.extBut D.TOi2.symm
  have lz : z < he.objs.size := Heap.lt_size ze
  show wpAny _ _ (Builtin.SmallTypes.ownedTupleHandOut (.ref z) (.ref he.objs.size) >>= _) _ _ _ ; refine wpAny_bind ?_ ; unfold Builtin.SmallTypes.ownedTupleHandOut
  have zf : IsZip (he.push { cls := .type "tuple", data := .seq #[x, y] }) z TI TO .ellipsis := Heap.get?_push_of_some _ ze
  refine wpAny_bind (wpAny_setField_rec zf (by simp) fun hg zg sg => ?_) ; replace zg : IsZip hg z TI TO (rawInt he.objs.size) := zg ; refine wpAny_setField_rec zg (by simp) fun hi zi si => ?_ ; replace zi : IsZip hi z TI TO (rawInt he.objs.size) := zi
  have up : ∀ c o, c ≠ z → he.get? c = some o → hi.get? c = some o := fun c o c1 e => si.extBut _ _ c1 (sg.extBut _ _ c1 (Heap.get?_push_of_some _ e))
  have ti : IsPair hi he.objs.size x y := si.extBut _ _ (Nat.ne_of_gt lz) (sg.extBut _ _ (Nat.ne_of_gt lz) (Heap.get?_push_size _ rfl))
  rw [hsz] at zi ti
  refine wpAny_pure ⟨_, rfl, ?_⟩ ; show Q (.ref he.objs.size) _ ; rw [hsz]
  exact hQ hi ⟨zi, up _ _ D.TIz (ke _ _ D.TIz D.TITO D.TIi1 D.TIi2 hTI), up _ _ D.TOz te, K1.ia g1 fun o e => up _ o D.i1z e, K2.ia g2 fun o e => up _ o D.i2z e⟩ ti fun c o c1 c2 c3 c4 e => up c o c1 (ke c o c1 c2 c3 c4 e)
theorem z_end {z TI TO i1 i2 l1 l2 : Addr} {k : Nat} {xs ys : Array Value} {a b : Value} {Q : Fin → Shared → Prop} (hh : A.handled = none) (K1 : ZK I1 S1) (K2 : ZK I2 S2) (D : ZipApart z TI TO i1 i2 l1 l2) (T : At I1 I2 s.heap z TI TO i1 i2 l1 l2 k .none a b)
    (hl1 : S1 s.heap l1 xs) (hl2 : S2 s.heap l2 ys) (hend : xs[k]? = none ∨ ys[k]? = none)
    (hE : ∀ h' e, (∀ c o, c ≠ z → c ≠ TO → c ≠ i1 → c ≠ i2 → s.heap.get? c = some o → h'.get? c = some o) → (∃ o, h'.get? e = some o ∧ o.cls = .type "StopIteration") → E (.ref e) { s with heap := h' }) :
    wpAny (model prog w) A (Builtin.«zip.__next__» ⟨[.ref z], []⟩) Q E s := by
  obtain ⟨hz, hTI, hTO, h1, h2⟩ := T
  show wpAny _ _ (field (.ref z) 2 >>= _) _ _ _ ; refine wpAny_bind (wpAny_field hz rfl (x := .bool false) rfl ?_) ; show wpAny _ _ (field (.ref z) 3 >>= _) _ _ _ ; refine wpAny_bind (wpAny_field hz rfl (x := .ref TI) rfl (wpAny_bind (wpAny_seqItems hTI rfl ?_)))
  show wpAny _ _ (Builtin.SmallTypes.ownedTupleIsFree (.ref z) >>= _) _ _ _ ; refine wpAny_bind ?_ ; unfold Builtin.SmallTypes.ownedTupleIsFree ; refine wpAny_bind (wpAny_field hz rfl (x := .none) rfl (wpAny_pure ?_)) ; simp only [if_true]
  refine wpAny_bind (wpAny_rule (wpAny_bind (wpAny_field hz rfl (x := .ref TO) rfl (wpAny_bind (wpAny_setField_rec hz (by simp) fun ha za sa => ?_))))) ; replace za : IsZip ha z TI TO .ellipsis := za ; refine wpAny_bind ?_ ; simp only [List.zipIdx_cons, List.zipIdx_nil, List.forIn_cons, List.forIn_nil]
  refine wpAny_bind (wpAny_bind (wpAny_onRaise ?_)) ; show wpAny _ _ (Builtin.SmallTypes.nextOf (.ref i1) >>= _) _ _ _
  have a1 := K1.ie h1 sa.extBut D.i1z ; have a2 := K1.se hl1 sa.extBut D.l1z
  cases hx : xs[k]? with
  | none =>
    refine wpAny_bind (K1.fin hh a1 a2 hx fun hb e sb he => ?_) ; obtain ⟨oe, hoe, hce⟩ := he
    have zb : IsZip hb z TI TO .ellipsis := sb _ _ D.i1z.symm za ; have ez : e ≠ z := fun x => by subst x; rw [zb] at hoe; cases hoe; simp at hce
    exact wpAny_setField_rec zb (by simp) fun hc _ sc => hE hc e (fun c o c1 _ c3 _ x => sc.extBut _ _ c1 (sb _ _ c3 (sa.extBut _ _ c1 x))) ⟨oe, sc.extBut _ _ ez hoe, hce⟩
  | some x =>
    have hy : ys[k]? = none := by rcases hend with h | h; rw [hx] at h; cases h; exact h
    refine wpAny_bind (K1.item a1 a2 hx fun hb f1 sb => wpAny_pure ?_) ; have tb : IsPair hb TO a b := sb.extBut _ _ D.TOi1 (sa.extBut _ _ D.TOz hTO)
    refine wpAny_bind (wpAny_seqItems tb rfl (wpAny_bind (wpAny_updateSeq_pair tb fun hc tc sc => wpAny_bind (wpAny_letGo (wpAny_pure (wpAny_bind (wpAny_bind (wpAny_onRaise ?_)))))))) ; show wpAny _ _ (Builtin.SmallTypes.nextOf (.ref i2) >>= _) _ _ _
    refine wpAny_bind (K2.fin hh (K2.ie (K2.ie (K2.ie h2 sa.extBut D.i2z) sb.extBut D.i12.symm) sc.extBut D.TOi2.symm) (K2.se (K2.se (K2.se hl2 sa.extBut D.l2z) sb.extBut D.l2i1) sc.extBut D.l2TO) hy fun hd e sd he => ?_) ; obtain ⟨oe, hoe, hce⟩ := he
    have zd : IsZip hd z TI TO .ellipsis := sd _ _ D.i2z.symm (sc.extBut _ _ D.TOz.symm (sb.extBut _ _ D.i1z.symm za)) ; have ez : e ≠ z := fun x => by subst x; rw [zd] at hoe; cases hoe; simp at hce
    exact wpAny_setField_rec zd (by simp) fun hf _ sf => hE hf e (fun c o c1 c2 c3 c4 x => sf.extBut _ _ c1 (sd _ _ c4 (sc.extBut _ _ c2 (sb.extBut _ _ c3 (sa.extBut _ _ c1 x))))) ⟨oe, sf.extBut _ _ ez hoe, hce⟩
/-- the next pair, and no more -/
theorem next_item {z TI TO i1 i2 l1 l2 : Addr} {k : Nat} {xs ys : Array Value} {x y a b : Value} {Q : Option Value → Shared → Prop} (K1 : ZK I1 S1) (K2 : ZK I2 S2) (D : ZipApart z TI TO i1 i2 l1 l2) (T : At I1 I2 s.heap z TI TO i1 i2 l1 l2 k .none a b)
    (hl1 : S1 s.heap l1 xs) (hl2 : S2 s.heap l2 ys) (hx : xs[k]? = some x) (hy : ys[k]? = some y)
    (hQ : ∀ h', At I1 I2 h' z TI TO i1 i2 l1 l2 (k + 1) (rawInt s.heap.objs.size) x y → IsPair h' s.heap.objs.size x y → (∀ c o, c ≠ z → c ≠ TO → c ≠ i1 → c ≠ i2 → s.heap.get? c = some o → h'.get? c = some o) → Q (some (.ref s.heap.objs.size)) { s with heap := h' }) :
    wpAny (model prog w) A (pyNext (.ref z)) Q E s := by
  have hT : s.TypeIs (.ref z) "zip" := ⟨_, T.z, rfl⟩ ; unfold pyNext
  refine wpAny_bind (wpAny_attempt (wpAny_callSpecial?_slot (name := Str.ofString "__next__") hT F.slot_zip_next (wpAny_call_entry F.slot_zip_next hT F.entry_zip_next ?_ (F.args_zip_next_1 _))))
  exact z_item K1 K2 D T hl1 hl2 hx hy fun h' a1 a2 a3 => wpAny_pure (hQ h' a1 a2 a3)
theorem next_end {z TI TO i1 i2 l1 l2 : Addr} {k : Nat} {xs ys : Array Value} {a b : Value} {Q : Option Value → Shared → Prop} (hh : A.handled = none) (K1 : ZK I1 S1) (K2 : ZK I2 S2) (D : ZipApart z TI TO i1 i2 l1 l2) (T : At I1 I2 s.heap z TI TO i1 i2 l1 l2 k .none a b)
    (hl1 : S1 s.heap l1 xs) (hl2 : S2 s.heap l2 ys) (hend : xs[k]? = none ∨ ys[k]? = none)
    (hQ : ∀ h', (∀ c o, c ≠ z → c ≠ TO → c ≠ i1 → c ≠ i2 → s.heap.get? c = some o → h'.get? c = some o) → Q none { s with heap := h' }) : wpAny (model prog w) A (pyNext (.ref z)) Q E s := by
  have hT : s.TypeIs (.ref z) "zip" := ⟨_, T.z, rfl⟩ ; unfold pyNext
  refine wpAny_bind (wpAny_attempt (wpAny_callSpecial?_slot (name := Str.ofString "__next__") hT F.slot_zip_next (wpAny_call_entry F.slot_zip_next hT F.entry_zip_next ?_ (F.args_zip_next_1 _))))
  refine z_end hh K1 K2 D T hl1 hl2 hend fun h' e hk he => ?_ ; obtain ⟨o, ho, hc⟩ := he
  exact wpAny_bind (wpAny_isInstance (T := "StopIteration") (b := true) ⟨o, ho, hc⟩ isSubtype_stop (wpAny_pure (hQ _ hk)))
end
/-! ### zip(list, tuple), made -/
abbrev hI (h : Heap) (n : String) (l : Addr) : Heap := h.push { cls := .type n, data := .fields #[.ref l, .int 0 0] }
abbrev hP (h : Heap) (a b : Value) : Heap := h.push { cls := .type "tuple", data := .seq #[a, b] }
abbrev hA (h : Heap) (l1 l2 : Addr) : Heap := hI (hI h "list_iterator" l1) "tuple_iterator" l2
abbrev hB (h : Heap) (l1 l2 : Addr) : Heap := hP (hA h l1 l2) (.ref h.objs.size) (.ref (hI h "list_iterator" l1).objs.size)
abbrev hC (h : Heap) (l1 l2 : Addr) : Heap := hP (hB h l1 l2) .none .none
abbrev hD (h : Heap) (l1 l2 : Addr) : Heap := (hC h l1 l2).push { cls := .type "zip", data := .fields #[.none, .bool false, .bool false, .ref (hA h l1 l2).objs.size, .ref (hB h l1 l2).objs.size] }
theorem meets_new (l1 l2 : Addr) (xs ys : Array Value) : Meets (Builtin.«zip.__new__» ⟨[.type "zip", .ref l1, .ref l2], []⟩) (fun _ R s => s.heap.IsList l1 xs ∧ s.heap.IsTuple l2 ys ∧ R (.ok (.ret (.ref (hC s.heap l1 l2).objs.size))) { s with heap := hD s.heap l1 l2 }) :=
  .of_wp fun prog w A R s h => by
    obtain ⟨hp, g, d, tk, os⟩ := s; obtain ⟨a, b, h⟩ := h; have sz := sub_zip
    have a' : Heap.IsList (Shared.heap ⟨hp, g, d, tk, os⟩) l1 xs := a; have b' : Heap.IsTuple (Shared.heap ⟨hI hp "list_iterator" l1, g, d, tk, os⟩) l2 ys := Heap.IsTuple.push b _
    wp_walk using wpAny_pyIter_list a', wpAny_pyIter_tuple b'; exact ⟨_, rfl, h⟩
section
variable {prog : Program} {w : World} {A : Around} {E : Value → Shared → Prop} {s : Shared}
theorem call_zipM {l1 l2 : Addr} {xs ys : Array Value} {Q : Value → Shared → Prop} (hl1 : s.heap.IsList l1 xs) (hl2 : s.heap.IsTuple l2 ys)
    (h : ∀ h', At Heap.IsListIter Heap.IsTupleIter h' (s.heap.objs.size + 4) (s.heap.objs.size + 2) (s.heap.objs.size + 3) s.heap.objs.size (s.heap.objs.size + 1) l1 l2 0 .none .none .none → (∀ c o, s.heap.get? c = some o → h'.get? c = some o) → Q (.ref (s.heap.objs.size + 4)) { s with heap := h' }) :
    wpAny (model prog w) A (call (.type "zip") [.ref l1, .ref l2]) Q E s := by
  refine callType_new F.called_zip (by decide) (F.typeCall_zip_2 _ _) (F.newCall_zip_2 _ _) (fun obj => F.args_object_init_3 obj _ _) F.entry_zip_new (meets_new l1 l2 xs ys) ⟨hl1, hl2, ?_⟩
  have n1 : (hI s.heap "list_iterator" l1).objs.size = s.heap.objs.size + 1 := Heap.size_push ..
  have n2 : (hA s.heap l1 l2).objs.size = s.heap.objs.size + 2 := by rw [Heap.size_push, n1]
  have n3 : (hB s.heap l1 l2).objs.size = s.heap.objs.size + 3 := by rw [Heap.size_push, n2]
  have n4 : (hC s.heap l1 l2).objs.size = s.heap.objs.size + 4 := by rw [Heap.size_push, n3]
  have e5 : (hD s.heap l1 l2).get? (hC s.heap l1 l2).objs.size = some _ := Heap.get?_push_size _ rfl
  have e4 : (hD s.heap l1 l2).get? (hB s.heap l1 l2).objs.size = some _ := Heap.get?_push_of_some _ (Heap.get?_push_size _ rfl)
  have e3 : (hD s.heap l1 l2).get? (hA s.heap l1 l2).objs.size = some _ := Heap.get?_push_of_some _ (Heap.get?_push_of_some _ (Heap.get?_push_size _ rfl))
  have e2 : (hD s.heap l1 l2).get? (hI s.heap "list_iterator" l1).objs.size = some _ := Heap.get?_push_of_some _ (Heap.get?_push_of_some _ (Heap.get?_push_of_some _ (Heap.get?_push_size _ rfl)))
  have e1 : (hD s.heap l1 l2).get? s.heap.objs.size = some _ := Heap.get?_push_of_some _ (Heap.get?_push_of_some _ (Heap.get?_push_of_some _ (Heap.get?_push_of_some _ (Heap.get?_push_size _ rfl))))
  show _ ∧ _ ; rw [n2, n3, n4] at e5 ; rw [n1, n2] at e3 ; rw [n3] at e4 ; rw [n1] at e2 ; rw [n4]
  exact ⟨⟨_, e5, rfl⟩, h _ ⟨e5, e3, e4, ⟨_, e1, rfl, rfl⟩, ⟨_, e2, rfl, rfl⟩⟩ fun c o x => Heap.get?_push_of_some _ (Heap.get?_push_of_some _ (Heap.get?_push_of_some _ (Heap.get?_push_of_some _ (Heap.get?_push_of_some _ x))))⟩
end
end PySem.VfZ

/-! # 13: for a, b in zip(list, tuple): the walk -/
namespace L2.Vf
open PySem PySem.Spec PyProof.Rows PySem.VfZ
/-- the list at a and the tuple at b as they stand at each turn, the items in new pairs -/
def ItzM (K : PySem.W.Frag) (a b : Addr) : It :=
  ⟨fun i H => ∃ (xs ys : List V) (x y : V), SqL K H a xs ∧ SqT K H b ys ∧ xs[i]? = some x ∧ ys[i]? = some y,
    fun i H v H' => ∃ T x y, v = .ref T ∧ H T = none ∧ H' = upd H T (.tup [x, y]) ∧ (∀ xs, SqL K H a xs → xs[i]? = some x) ∧ ∀ ys, SqT K H b ys → ys[i]? = some y,
    fun i H => ∃ xs ys : List V, SqL K H a xs ∧ SqT K H b ys ∧ (xs.length ≤ i ∨ ys.length ≤ i)⟩
theorem list_inj {X : Cx} {pins : List (Addr × Obj)} {σ : St} {H : Hp} {s : Shared} {a : Addr} {xs ys : List V} (I : Inv X pins σ H s) (h : SqL X.K H a xs) (h' : SqL X.K H a ys) : ∀ {i : Nat} {y : V}, ys[i]? = some y → xs[i]? = some y := by
  exact fun e => by rw [I.list_inj h h']; exact e
abbrev TnM (z TI TO i1 i2 a b : Addr) : Nat → Heap → Prop := fun i h => ∃ x y, At Heap.IsListIter Heap.IsTupleIter h z TI TO i1 i2 a b i .none x y
theorem five {P : Addr → Prop} {z TI TO i1 i2 : Addr} (h1 : P z) (h2 : P TI) (h3 : P TO) (h4 : P i1) (h5 : P i2) : ∀ c ∈ [z, TI, TO, i1, i2], P c := fun c hc => by
  rcases (by simpa using hc : c = z ∨ c = TI ∨ c = TO ∨ c = i1 ∨ c = i2) with rfl | rfl | rfl | rfl | rfl
  · exact h1
  · exact h2
  · exact h3
  · exact h4
  · exact h5
theorem turn_zipM {P : Program} {w : World} {K : PySem.W.Frag} {elts : List Expr} {kk : Nat} {tpos : Pos} {a b z TI TO i1 i2 : Addr} (D : ZipApart z TI TO i1 i2 a b) : Turn P w K (.Tuple elts kk tpos) (ItzM K a b) [z, TI, TO, i1, i2] z (TnM z TI TO i1 i2 a b) where
  mem := by simp
  obj := fun i h st => by
    obtain ⟨x, y, hz, hTI, hTO, ⟨o1, e1, _, d1⟩, ⟨o2, e2, _, d2⟩⟩ := st
    exact five ⟨_, hz, fun v q => nomatch q⟩ ⟨_, hTI, fun v q => nomatch q⟩ ⟨_, hTO, fun v q => nomatch q⟩ ⟨o1, e1, fun v q => by rw [d1] at q; cases q⟩ ⟨o2, e2, fun v q => by rw [d2] at q; cases q⟩
  keep := fun i h h' st k => by
    obtain ⟨x, y, hz, hTI, hTO, h1, h2⟩ := st
    exact ⟨x, y, k z (by simp) _ hz, k TI (by simp) _ hTI, k TO (by simp) _ hTO, h1.at fun o q => k i1 (by simp) o q, h2.at fun o q => k i2 (by simp) o q⟩
  item := by
    intro X hP hw hK hc i pins s σ H E I hf st hg
    subst hP hw hK
    obtain ⟨x0, y0, T⟩ := st
    obtain ⟨xs, ys, x, y, hqx, hqy, hx, hy⟩ := hg
    obtain ⟨its, rv, p, _⟩ := I.list hqx
    obtain ⟨its2, rv2, p2, _⟩ := I.tuple hqy
    obtain ⟨u, hu, ru⟩ := rv.get hx
    obtain ⟨u2, hu2, ru2⟩ := rv2.get hy
    have lz : z < s.heap.objs.size := Heap.lt_size T.z
    refine next_item zk_list zk_tuple D T p.isList p2 (x := u) (y := u2) (by simpa using hu) (by simpa using hu2) fun h' T' hT hk => ⟨_, rfl, wpAny_letOwnedTupleGo_zip (s := { s with heap := h' }) T'.z fun h2 z2 sb => ?_⟩
    have hT2 : h2.get? s.heap.objs.size = some { cls := .type "tuple", data := .seq #[u, u2] } := (sb.2 _ (Nat.ne_of_gt lz)).trans hT
    have new : ObjOk X.prog X.w (upd H s.heap.objs.size (.tup [x, y])) h2 s.heap.objs.size (.tup [x, y]) := ⟨by show 2 ≤ sizeLine; decide, [u, u2], .cons ru (.cons ru2 .nil), ⟨_, hT2, rfl, _, rfl⟩⟩
    have I1 : Inv X pins σ (upd H s.heap.objs.size (.tup [x, y])) { s with heap := h2 } :=
      I.turnedNew (t' := s.toks) (ch := [z, TI, TO, i1, i2]) (fun c o hb q => (sb.2 c (fun e => hb (by simp [e]))).trans (hk c o (fun e => hb (by simp [e])) (fun e => hb (by simp [e])) (fun e => hb (by simp [e])) (fun e => hb (by simp [e])) q)) hf (Nat.le_refl _) new
    refine ⟨.ref s.heap.objs.size, _, I1, rfl, ⟨_, x, y, rfl, I.hok.fresh (Nat.le_refl _), rfl, fun l hl => list_inj I hl hqx hx, fun l hl => by rw [I.tuple_inj hl hqy]; exact hy⟩, ⟨u, u2, z2, (sb.2 _ D.TIz).trans T'.ti, (sb.2 _ D.TOz).trans T'.to, T'.i1.at fun o q => (sb.2 _ D.i1z).trans q, T'.i2.at fun o q => (sb.2 _ D.i2z).trans q⟩, ?_⟩
    have low : ∀ c, c < s.heap.objs.size → H c = none → upd H s.heap.objs.size (.tup [x, y]) c = none := fun c l n => by rw [upd_ne (Nat.ne_of_lt l)]; exact n
    exact five (low _ lz (hf z (by simp)).1) (low _ (Heap.lt_size T.ti) (hf TI (by simp)).1) (low _ (Heap.lt_size T.to) (hf TO (by simp)).1) (low _ (zk_list.lt T.i1) (hf i1 (by simp)).1) (low _ (zk_tuple.lt T.i2) (hf i2 (by simp)).1)
  done := by
    intro X hP hw hK hc i pins s σ H E I hf st hg
    subst hP hw hK
    obtain ⟨x0, y0, T⟩ := st
    obtain ⟨xs, ys, hqx, hqy, hend⟩ := hg
    obtain ⟨its, rv, p, _⟩ := I.list hqx
    obtain ⟨its2, rv2, p2, _⟩ := I.tuple hqy
    have l1 := rv.length
    have l2 := rv2.length
    have he : its.toArray[i]? = none ∨ its2.toArray[i]? = none := hend.elim (fun q => .inl (by simp; omega)) fun q => .inr (by simp; omega)
    exact next_end (I.ok.hd hc) zk_list zk_tuple D T p.isList p2 he fun h' hk => ⟨rfl, I.turnedL (t' := s.toks) (ch := [z, TI, TO, i1, i2]) (fun c o hb q => hk c o (fun e => hb (by simp [e])) (fun e => hb (by simp [e])) (fun e => hb (by simp [e])) (fun e => hb (by simp [e])) q) hf⟩
  self := fun A i s Q E st h => by
    obtain ⟨x, y, T⟩ := st
    exact wpAny_pyIter_zip T.z h
def iZipM (K : PySem.W.Frag) (ta : TA) : TI := fun σ H R => ta σ H fun vs H1 => ∃ a b xs ys, vs = [.ref a, .ref b] ∧ SqL K H1 a xs ∧ SqT K H1 b ys ∧ R (ItzM K a b) H1
theorem pi_zipM {X : Cx} {e e2 : Expr} {ta : TA} {p pos tpos : Pos} {elts : List Expr} {kk : Nat} (hg : Gl X "zip") (hm : X.mg "zip" = none) (ha : PA X [e, e2] ta)
    (hs : starEach [e, e2] X.env = (false, eval e X.env) :: starEach [e2] X.env := by rfl) (hpl : (backTo pos (starEach [e2] X.env)).any (·.1) = false := by rfl) :
    PI X (.Tuple elts kk tpos) (.Call (.Name "zip" p) [e, e2] [] pos) (iZipM X.K ta) := by
  refine ⟨fun pins s σ H R I h => Call_ (ld_blt I hg hm PyProof.Rows.boot_zip (PyProof.Rows.callWith_type1 (thn (ha.run pos pins s σ H _ I h) fun us s1 ⟨vs, H1, I1, r1, q1⟩ => ?_) hs hpl))⟩
  obtain ⟨a, b, xs, ys, ex, hqx, hqy, q⟩ := q1
  subst ex
  obtain ⟨u1, u2, rfl, r, r'⟩ := vals2 r1
  cases r
  cases r'
  obtain ⟨its, rv, p1, _⟩ := I1.list hqx
  obtain ⟨its2, rv2, p2, _⟩ := I1.tuple hqy
  obtain ⟨o2, ho2, _⟩ := id p2
  have fr : ∀ c, s1.heap.objs.size ≤ c → FpOk X pins H1 c := fun c hle => I1.fpOk hle (I1.hok.fresh hle)
  refine call_zipM p1.isList p2 fun h' T hk => wpAny_pyIter_zip T.z ⟨s1.heap.objs.size + 4, [s1.heap.objs.size + 4, s1.heap.objs.size + 2, s1.heap.objs.size + 3, s1.heap.objs.size, s1.heap.objs.size + 1], _, _, H1, rfl, I1.kept (t' := s1.toks) hk, turn_zipM (PySem.W.ktu_apart s1.heap.objs.size a b p1.lt (Heap.lt_size ho2)), ⟨_, _, T⟩, ?_, q⟩
  exact five (fr _ (Nat.le_add_right _ _)) (fr _ (Nat.le_add_right _ _)) (fr _ (Nat.le_add_right _ _)) (fr _ (Nat.le_refl _)) (fr _ (Nat.le_add_right _ _))
theorem walk_zipM {K : PySem.W.Frag} {a b : Addr} {xs ys : List V} {n : Nat} (hn : n = min xs.length ys.length) : Walk (ItzM K a b) n (fun H => SqL K H a xs ∧ SqT K H b ys) (YPair (fun i => xs[i]?) (fun i => ys[i]?)) := by
  subst hn
  refine ⟨fun i _ hi q => ⟨xs, ys, xs[i]'(by omega), ys[i]'(by omega), q.1, q.2, List.getElem?_eq_getElem (by omega), List.getElem?_eq_getElem (by omega)⟩, fun _ q => ⟨xs, ys, q.1, q.2, by omega⟩, fun i H v H' _ q y => ?_⟩
  obtain ⟨T, x, z, h1, h2, h3, h4, h5⟩ := y
  exact ⟨T, x, z, h1, h2, h3, h4 xs q.1, h5 ys q.2⟩
end L2.Vf

/-! # 14: a tuple times 1 is the tuple itself -/
namespace L2.Vf
open PySem PySem.Spec PyProof.Rows
theorem tuple_mul1 (l : Addr) (items : Array Value) (n : Nat) (dd : Option Addr) (sl : Array (Option Value)) (u : Tok) :
    Meets (Builtin.«tuple.__mul__» ⟨[.ref l, .int 1 u], []⟩) (fun _ R s => s.heap.get? l = some { cls := .type "tuple", dict := dd, data := .seq items n, slots := sl } ∧ R (.ok (.ret (Value.ref l))) s) :=
  .of_wp fun prog w A R s h => by
    obtain ⟨hp, g, d, tk, os⟩ := s; obtain ⟨hl, h⟩ := h; have f1 := AutoSeq1.idx_int
    wp_walk using wpAny_loadPart' hl
    repeat (first
      | (refine wpAny_ite_true (by simp) ?_; wp_walk using wpAny_loadPart' hl)
      | (refine wpAny_ite_false (by decide) ?_; wp_walk using wpAny_loadPart' hl))
    exact ⟨_, rfl, h⟩
/-- t * 1 -/
def rRepT1 (K : PySem.W.Frag) : R2 := fun x y H Q => ∃ l xs, x = .ref l ∧ y = .int 1 ∧ SqT K H l xs ∧ Q (.ref l) H
section
variable {X : Cx}
theorem op_repT1 : OpR X (binaryOp .Mult) (rRepT1 X.K) := by
  intro pins s σ H x y v u Q I rx ry h
  obtain ⟨l, xs, rfl, rfl, hT, q⟩ := h
  cases rx
  obtain ⟨t, rfl⟩ := ry
  obtain ⟨its, r, ⟨⟨cls, dd, data, sl⟩, ho, hc, n, hd⟩, _⟩ := I.tuple hT
  simp only at hc hd
  subst hc hd
  refine wpAny_binaryOp_repeat_ref (T := "tuple") (U := "int") (by decide) ⟨_, ho, rfl⟩ (fun s' => typeIs_int s' 1 t) noFill_tuple_mul F.fills_int_mul F.slot_int_rmul repeat_tuple F.slot_int_index.lookup ?_
  refine call_meets F.slot_int_rmul (typeIs_int s 1 t) F.entry_int_rmul (F.args_int_rmul_2 _ _) (int_rmul_tuple 1 t l its.toArray n dd sl) ⟨ho, rfl, ⟨_, ho, rfl⟩, ?_⟩
  exact call_meets F.slot_tuple_mul ⟨_, ho, rfl⟩ F.entry_tuple_mul (F.args_tuple_mul_2 _ _) (tuple_mul1 l its.toArray n dd sl t) ⟨ho, ⟨.ref l, H, I, rfl, q⟩⟩
/-- t * k, k from 1 to 1000 -/
def rRepTA (K : PySem.W.Frag) : R2 := fun x y H Q => ∃ l k xs, x = .ref l ∧ y = .int k ∧ SqT K H l xs ∧ xs ≠ [] ∧ 1 ≤ k ∧ k ≤ 1000 ∧ xs.length ≤ 1000 ∧ (k = 1 → Q (.ref l) H) ∧ (2 ≤ k → ∀ p, H p = none → Q (.ref p) (upd H p (.tup (List.replicate k.toNat xs).flatten)))
theorem op_repTA : OpR X (binaryOp .Mult) (rRepTA X.K) := by
  intro pins s σ H x y v u Q I rx ry h
  obtain ⟨l, k, xs, rfl, rfl, hT, hne, h1, h2, hz, q1, q2⟩ := h
  by_cases e : k = 1
  · subst e
    exact op_repT1 pins s σ H _ _ v u Q I rx ry ⟨l, xs, rfl, rfl, hT, q1 rfl⟩
  · exact op_repT pins s σ H _ _ v u Q I rx ry ⟨l, k, xs, rfl, rfl, hT, hne, by omega, h2, hz, q2 (by omega)⟩
end
end L2.Vf

/-! # what is drawn from the script: numbers, cells, rows -/
namespace L2.Dw
open PySem PySem.Spec PyProof.Rows L2.Vf
def top (i : Nat) : Stmt := PySem.Challenge.pw_latesums_k15_changes_made.main.body.getD i (.Pass ⟨0, 0, 0, 0⟩)
/-- the place of the first of these defs -/
abbrev d0 : Nat := 18
abbrev sMi : Stmt := top (d0 + 0)
abbrev sPu : Stmt := top (d0 + 1)
abbrev sDr : Stmt := top (d0 + 2)
abbrev sSi : Stmt := top (d0 + 3)
abbrev sCe : Stmt := top (d0 + 4)
abbrev sRo : Stmt := top (d0 + 5)
/-- names that stay the built-in ones -/
structure Nm (mg : Str → Option Value) : Prop where
  isi : mg "isinstance" = none
  int : mg "int" = none
  bool : mg "bool" = none
  lst : mg "list" = none
  tup : mg "tuple" = none
  rng : mg "range" = none
  len : mg "len" = none
  sum : mg "sum" = none
  max : mg "max" = none
  zip : mg "zip" = none
  rep : mg "repr" = none
theorem same_new {H : Hp} {p : Addr} {o : HO} (h : H p = none) : Same H (upd H p o) := fun b u e => by
  rw [upd_ne (ne_of_none e h)]
  exact e
theorem upd_self {H : Hp} {g : Addr} {o : HO} (h : H g = some o) : upd H g o = H := by
  funext b
  by_cases e : b = g
  · rw [e, upd_same, h]
  · rw [upd_ne e]
/-- all but g stays -/
def Keep (g : Addr) (H H' : Hp) : Prop := ∀ b o, b ≠ g → H b = some o → H' b = some o
theorem Keep.refl {g : Addr} {H : Hp} : Keep g H H := fun _ _ _ e => e
theorem Keep.trans {g : Addr} {H H1 H2 : Hp} (a : Keep g H H1) (b : Keep g H1 H2) : Keep g H H2 := fun c o n e => b c o n (a c o n e)
theorem Keep.of {g : Addr} {H H' : Hp} (s : Same H H') : Keep g H H' := fun b o _ e => s b o e
theorem keep_upd {g : Addr} {H : Hp} {o : HO} : Keep g H (upd H g o) := fun b u n e => by
  rw [upd_ne n]
  exact e
theorem Keep.new {g p : Addr} {H H' : Hp} {o : HO} (k : Keep g H H') (h : H' p = none) : Keep g H (upd H' p o) := k.trans (.of (same_new h))
/-- the purse: what is left of the digits, the number, how often it was mixed (at most c times) -/
def Pu (H : Hp) (g : Addr) (c : Nat) : Prop := ∃ x y z : Int, H g = some (.lst [.int x, .int y, .int z]) ∧ 0 ≤ y ∧ y < 2147483648 ∧ 0 ≤ z ∧ z ≤ c
theorem Pu.mono {H H' : Hp} {g : Addr} {c : Nat} (h : Pu H g c) (s : Same H H') : Pu H' g c := by
  obtain ⟨x, y, z, h1, h2⟩ := h
  exact ⟨x, y, z, s _ _ h1, h2⟩
theorem Pu.le {H : Hp} {g : Addr} {c d : Nat} (h : Pu H g c) (l : c ≤ d) : Pu H g d := by
  obtain ⟨x, y, z, h1, h2, h3, h4, h5⟩ := h
  exact ⟨x, y, z, h1, h2, h3, h4, by omega⟩
theorem Pu.lst {H : Hp} {g : Addr} {c : Nat} (h : Pu H g c) : ∃ xs, H g = some (.lst xs) := by
  obtain ⟨x, y, z, h1, _⟩ := h
  exact ⟨_, h1⟩
theorem Pu.keep {H H' : Hp} {g b : Addr} {c : Nat} (h : Pu H g c) (k : Keep b H H') (n : g ≠ b) : Pu H' g c := by
  obtain ⟨x, y, z, h1, h2⟩ := h
  exact ⟨x, y, z, k _ _ n h1, h2⟩
theorem Pu.ne {H : Hp} {g p : Addr} {c : Nat} (h : Pu H g c) (hp : H p = none) : g ≠ p := by
  obtain ⟨x, y, z, h1, _⟩ := h
  exact ne_of_none h1 hp
def spMi : Sp := fun vs H Q _ => ∃ s i : Int, vs = [.int s, .int i] ∧ 0 ≤ s ∧ s < 2147483648 ∧ 0 ≤ i ∧ i < 1000000000 ∧ ∀ n : Int, Q (.int n) H
def spPu (K : PySem.W.Frag) : Sp := fun vs H Q _ => ∃ (a : Addr) (ns : List Int) (i : Nat), vs = [.ref a, .int (i : Nat)] ∧ SqL K H a (ns.map V.int) ∧ i ≤ 1000 ∧ ∀ (p : Addr) (H' : Hp), H p = none → Same H H' → Pu H' p (1000 * i) → Q (.ref p) H'
def spDr : Sp := fun vs H Q _ => ∃ (g : Addr) (n : Int) (c : Nat), vs = [.ref g, .int n] ∧ 0 < n ∧ n < 2 ^ 70 ∧ Pu H g c ∧ c ≤ 100000000 ∧ ∀ (r : Int) (H' : Hp), 0 ≤ r → r < n → Keep g H H' → Pu H' g (c + 3) → Q (.int r) H'
def spSi : Sp := fun vs H Q _ => ∃ (g : Addr) (m : Int) (c : Nat), vs = [.ref g, .int m] ∧ 0 ≤ m ∧ m < 2 ^ 67 ∧ Pu H g c ∧ c ≤ 100000000 ∧ ∀ (r : Int) (H' : Hp), -m ≤ r → r ≤ m → Keep g H H' → Pu H' g (c + 3) → Q (.int r) H'
section
variable {P : Program} {w : World} {K : PySem.W.Frag} {mg : Str → Option Value} {base : Heap}
theorem scMi : FnScope ["_law_cell_here", "_law_k", "_law_number"] ["_law_cell_here", "_law_k"] (defScope sMi) := ⟨rfl, rfl, rfl, by decide +kernel, rfl, by decide +kernel, by decide +kernel⟩
theorem ok_mi {f : Addr} {fd : FuncData} (F : Fun K "_law_mixed" "_law_mixed" sMi f fd) : FnOk P w K mg base CX0 1 f fd ["_law_cell_here", "_law_k"] spMi := by
  refine F.ok scMi (fun vs H Q E h => ?_) fun cdv A outer s H vs Q E hr h => ?_
  · obtain ⟨a, ns, rfl, _⟩ := h
    rfl
  · obtain ⟨s0, i, rfl, h1, h2, h3, h4, q⟩ := h
    refine ⟨_, pss_cons (ps_set (i := 2) scMi.nd rfl (.inl rfl) (pe_op op_mod (pe_op op_add (pe_op op_add (pe_op op_add (pe_op op_mul (pv 0) pe_int) (pe_op op_mul (pe_op op_mul pe_int (pv 1)) (pv 1))) (pv 1)) pe_int) pe_int))
      (pss_cons (ps_set (i := 2) scMi.nd rfl (.inl rfl) (pe_op op_mod (pe_op op_add (pe_op op_mul (pv 2) (pv 2)) pe_int) pe_int))
      (pss_one (ps_ret (pe_op op_mod (pe_op op_mul (pv 2) pe_int) pe_int)))), ?_⟩
    refine ⟨_, rfl, _, _, rfl, rfl, .inl ⟨by omega, by omega⟩, _, rfl, _, _, rfl, rfl, .inl ⟨by decide, by decide⟩, _, rfl, _, _, rfl, rfl, .inr ⟨by omega, by omega⟩, _, _, rfl, rfl, _, rfl, _, _, rfl, rfl, _, _, rfl, rfl, _, _, rfl, rfl, (by show (0 : Int) < 2147483647; decide), ?_⟩
    have b1 := Int.emod_nonneg (s0 * 1103515245 + 7919 * i * i + i + 1) (show (2147483647 : Int) ≠ 0 by decide)
    have b2 := Int.emod_lt_of_pos (s0 * 1103515245 + 7919 * i * i + i + 1) (show (0 : Int) < 2147483647 by decide)
    generalize (s0 * 1103515245 + 7919 * i * i + i + 1) % 2147483647 = m at b1 b2
    refine ⟨_, rfl, _, rfl, _, _, rfl, rfl, .inl ⟨by omega, by omega⟩, _, _, rfl, rfl, _, _, rfl, rfl, (by show (0 : Int) < 2147483629; decide), ?_⟩
    exact ⟨_, rfl, _, _, rfl, rfl, .inr ⟨by decide, by decide⟩, _, _, rfl, rfl, (by show (0 : Int) < 2147483587; decide), q _⟩
theorem scPu : FnScope ["_law_script", "_law_at", "_law_cell_here"] ["_law_script", "_law_at"] (defScope sPu) := ⟨rfl, rfl, rfl, by decide +kernel, rfl, by decide +kernel, by decide +kernel⟩
theorem cut_ints (ns : List Int) (lo hi : Option Int) : ∃ ms : List Int, cutV (ns.map V.int) lo hi = ms.map V.int := ⟨_, by unfold cutV; rw [← List.map_drop, ← List.map_take]⟩
theorem boot_max : bootBuiltins "max" = some (.builtin "max") := by decide +kernel
theorem boot_sum : bootBuiltins "sum" = some (.builtin "sum") := by decide +kernel
theorem ok_pu {f : Addr} {fd : FuncData} (F : Fun K "_law_purse" "_law_purse" sPu f fd) (N : Nm mg) : FnOk P w K mg base CX0 1 f fd ["_law_script", "_law_at"] (spPu K) := by
  refine F.ok scPu (fun vs H Q E h => ?_) fun cdv A outer s H vs Q E hr h => ?_
  · obtain ⟨a, ns, i, rfl, _⟩ := h
    rfl
  · obtain ⟨a, ns, i, rfl, hS, hi, q⟩ := h
    refine ⟨_, pss_cons (ps_set (i := 2) scPu.nd rfl (.inl rfl) (pe_callB (cr_sum rfl) (by rfl) N.sum boot_sum (pa_cons (pe_slice sl_list (pv 0) (po_some (pv 1)) (po_some (pe_op op_add (pv 1) pe_int))) pa_nil)))
      (pss_one (ps_ret (pe_lst (pa_cons (pe_op op_mod (pe_callB (call_max2 rfl) (by rfl) N.max boot_max (pa_cons (pe_op op_sub (pv 2) (pe_op op_powW pe_int pe_int)) (pa_cons pe_int pa_nil))) (pe_op op_powW (pe_op op_powW pe_int pe_int) pe_int))
        (pa_cons (pe_op op_mod (pv 2) pe_int) (pa_cons (pe_op op_mul pe_int (pv 1)) pa_nil)))))), ?_⟩
    obtain ⟨ms, hm⟩ := cut_ints ns (some (i : Int)) (some ((i : Int) + 1))
    refine ⟨_, rfl, _, rfl, _, rfl, _, rfl, _, _, rfl, rfl, _, rfl, a, _, rfl, hS, fun l hl => ⟨l, ms, rfl, SqL.of (by rw [upd_same, hm]), ?_⟩⟩
    generalize ms.sum = n
    refine ⟨_, rfl, _, _, rfl, rfl, ⟨by decide, by decide +kernel⟩, _, _, rfl, rfl, _, _, rfl, _, _, rfl, rfl, ⟨by decide, by decide +kernel⟩, _, _, rfl, rfl, ⟨by decide, by decide +kernel⟩, _, _, rfl, rfl, ?_, ?_⟩
    · show (0 : Int) < (10 ^ Int.toNat 60) ^ Int.toNat 10
      decide +kernel
    · refine ⟨_, rfl, _, _, rfl, rfl, (by show (0 : Int) < 2147483647; decide), _, rfl, _, _, rfl, rfl, .inl ⟨by decide, by decide⟩, (by show 3 ≤ sizeLine; decide), fun p hp => ?_⟩
      have s1 := same_new (o := .lst (cutV (ns.map V.int) (some (i : Int)) (some ((i : Int) + 1)))) hl
      refine q p _ (s1.free hp) (s1.trans (same_new hp)) ⟨_, _, _, upd_same, Int.emod_nonneg _ (by decide), Int.lt_of_lt_of_le (Int.emod_lt_of_pos n (show (0 : Int) < 2147483647 by decide)) (by decide), by omega, by omega⟩
theorem scDr : FnScope ["_law_purse_here", "_law_out_of", "_law_drawn", "_law_number", "_law_k"] ["_law_purse_here", "_law_out_of"] (defScope sDr) := ⟨rfl, rfl, rfl, by decide +kernel, rfl, by decide +kernel, by decide +kernel⟩
theorem bits70 {n : Int} (h0 : 0 < n) (h : n < 2 ^ 70) : Builtin.Int.intBits n ≤ 70 := by
  unfold Builtin.Int.intBits
  split
  · omega
  · have : n.natAbs < 2 ^ 70 := by omega
    have := PySem.Flt.log2_lt_of (show 0 < 70 by decide) this
    omega
theorem ok_dr {f fM : Addr} {fd dM : FuncData} (F : Fun K "_law_draw" "_law_draw" sDr f fd) (N : Nm mg) (GM : FnOk P w K mg base CX0 1 fM dM ["_law_cell_here", "_law_k"] spMi) (mM : mg "_law_mixed" = some (.ref fM)) (kM : PySem.W.keepIn K (.ref fM) = true) (bM : Binds K dM ["_law_cell_here", "_law_k"] []) :
    FnOk P w K mg base CX0 2 f fd ["_law_purse_here", "_law_out_of"] spDr := by
  refine F.ok scDr (fun vs H Q E h => ?_) fun cdv A outer s H vs Q E hr h => ?_
  · obtain ⟨g, x, y, rfl, _⟩ := h
    rfl
  · obtain ⟨g, n, c, rfl, hn, hn2, ⟨x, y, z, hg, h1, h2, h3, h4⟩, hc, q⟩ := h
    refine ⟨_, pss_cons (ps_if (pt_cmpR op_gt (pe_ix ix_list (pv 0) pe_int (fun _ _ => rfl)) pe_int (nomark _))
        (pss_cons (ps_set (i := 2) scDr.nd rfl (.inl rfl) (pe_op op_mod (pe_ix ix_list (pv 0) pe_int (fun _ _ => rfl)) (pv 1)))
        (pss_cons (ps_asg (pe_op op_fdivW (pe_ix ix_list (pv 0) pe_int (fun _ _ => rfl)) (pv 1)) (pg_sub (pv 0) pe_int set_list))
        (pss_one (ps_ret (pv 2))))) pss_nil)
      (pss_cons (ps_set (i := 3) scDr.nd rfl (.inl rfl) pe_int)
      (pss_cons (ps_for PassesOwn.never rfl (pi_range1 (by rfl) N.rng (pa_cons (pe_op op_add pe_int (pe_op op_fdiv (pe_bits (pv 1)) pe_int)) pa_nil)) (pg_name (i := 4) scDr.nd rfl (Or.inl rfl))
        (pss_cons (ps_asg (pe_op op_add (pe_ix ix_list (pv 0) pe_int (fun _ _ => rfl)) pe_int) (pg_sub (pv 0) pe_int set_list))
        (pss_one (ps_set (i := 3) scDr.nd rfl (.inl rfl) (pe_op op_add (pe_op op_mul (pv 3) pe_int) (pe_call GM hr rfl mM kM bM .nil pass0 (pa_cons (pe_ix ix_list (pv 0) pe_int (fun _ _ => rfl)) (pa_cons (pe_ix ix_list (pv 0) pe_int (fun _ _ => rfl)) pa_nil))))))))
      (pss_one (ps_ret (pe_op op_mod (pv 3) (pv 1)))))), ?_⟩
    refine ⟨_, rfl, g, _, 0, .int x, rfl, rfl, SqL.of hg, rfl, _, _, rfl, rfl, _, rfl, ?_⟩
    refine ite2 (fun _ => ?_) fun _ => ?_
    · refine ⟨_, rfl, g, _, 0, .int x, rfl, rfl, SqL.of hg, rfl, _, rfl, _, _, rfl, rfl, hn, ?_⟩
      refine ⟨_, rfl, g, _, 0, .int x, rfl, rfl, SqL.of hg, rfl, _, rfl, _, _, rfl, rfl, wide_div hn (show n.natAbs < 2 ^ 70 by omega) (by decide) (by decide), ?_⟩
      refine ⟨_, rfl, g, _, 0, 0, rfl, rfl, hg, rfl, ?_⟩
      exact ⟨_, rfl, q _ _ (Int.emod_nonneg x (by omega)) (Int.emod_lt_of_pos x hn) keep_upd ⟨_, _, _, upd_same, h1, h2, h3, by omega⟩⟩
    · have hb := bits70 hn hn2
      generalize hm : Builtin.Int.intBits n = m at hb
      refine ⟨_, rfl, _, rfl, _, _, rfl, rfl, ⟨by decide, by decide⟩, _, _, rfl, rfl, _, rfl, ?_⟩
      rw [hm]
      have hk : ∃ k : Nat, 1 + (m : Int) / 30 = (k : Int) ∧ k ≤ 3 := ⟨1 + m / 30, by omega, by omega⟩
      obtain ⟨k, hk, hk3⟩ := hk
      rw [hk]
      refine ⟨by omega, by omega, ?_⟩
      refine for_range (lo := 0) (n := k) (fun i σ H' => ∃ (d : Int) (t : Option V), σ = [some (.ref g), some (.int n), none, some (.int d), t] ∧ H' = upd H g (.lst [.int x, .int y, .int (z + (i : Nat))])) ⟨0, none, rfl, ?_⟩ (fun i σ H' hi hP => ?_) fun σ H' hP => ?_
      · rw [show z + ((0 : Nat) : Int) = z by simp]
        exact (upd_self hg).symm
      · obtain ⟨d, t, rfl, rfl⟩ := hP
        refine ⟨_, rfl, g, _, 2, _, rfl, rfl, SqL.of upd_same, rfl, _, _, rfl, rfl, _, rfl, g, _, 2, 2, rfl, rfl, upd_same, rfl, ?_⟩
        refine ⟨_, rfl, _, _, rfl, rfl, .inr ⟨by decide, by decide⟩, _, rfl, g, _, 1, .int y, rfl, rfl, SqL.of upd_same, rfl, _, rfl, g, _, 2, _, rfl, rfl, SqL.of upd_same, rfl, y, z + (i : Int) + 1, rfl, h1, h2, by omega, by omega, fun r => ?_⟩
        refine ⟨_, _, rfl, rfl, _, _, rfl, ?_⟩
        rw [upd_upd, show z + ((i + 1 : Nat) : Int) = z + (i : Int) + 1 by omega]
        rfl
      · obtain ⟨d, t, rfl, rfl⟩ := hP
        exact ⟨_, rfl, _, rfl, _, _, rfl, rfl, hn, q _ _ (Int.emod_nonneg d (by omega)) (Int.emod_lt_of_pos d hn) keep_upd ⟨_, _, _, upd_same, h1, h2, by omega, by omega⟩⟩
theorem scSi : FnScope ["_law_purse_here", "_law_most"] ["_law_purse_here", "_law_most"] (defScope sSi) := ⟨rfl, rfl, rfl, by decide +kernel, rfl, by decide +kernel, by decide +kernel⟩
theorem ok_si {f fD : Addr} {fd dD : FuncData} (F : Fun K "_law_signed" "_law_signed" sSi f fd) (GD : FnOk P w K mg base CX0 2 fD dD ["_law_purse_here", "_law_out_of"] spDr) (mD : mg "_law_draw" = some (.ref fD)) (kD : PySem.W.keepIn K (.ref fD) = true) (bD : Binds K dD ["_law_purse_here", "_law_out_of"] []) :
    FnOk P w K mg base CX0 3 f fd ["_law_purse_here", "_law_most"] spSi := by
  refine F.ok scSi (fun vs H Q E h => ?_) fun cdv A outer s H vs Q E hr h => ?_
  · obtain ⟨g, x, y, rfl, _⟩ := h
    rfl
  · obtain ⟨g, m, c, rfl, hm, hm2, hp, hc, q⟩ := h
    refine ⟨_, pss_one (ps_ret (pe_op op_sub (pe_call GD hr rfl mD kD bD .nil pass0 (pa_cons (pv 0) (pa_cons (pe_op op_add (pe_op op_mul pe_int (pv 1)) pe_int) pa_nil))) (pv 1))), ?_⟩
    refine ⟨_, rfl, _, rfl, _, _, rfl, rfl, .inl ⟨by decide, by decide⟩, _, _, rfl, rfl, g, 2 * m + 1, c, rfl, by omega, by omega, hp, hc, fun r H' h1 h2 k p' => ?_⟩
    exact ⟨_, rfl, _, _, rfl, rfl, q _ _ (by omega) (by omega) k p'⟩
end
end L2.Dw

/-! # what is drawn, b: lists of drawn numbers, cells, rows -/
namespace L2.Dw
open PySem PySem.Spec PyProof.Rows L2.Vf
/-- whole numbers within m -/
def In (m : Int) (cs : List Int) : Prop := ∀ c ∈ cs, -m ≤ c ∧ c ≤ m
/-- what is told of a value by the object that it names alone -/
def Flat (R : V → Hp → Prop) : Prop := ∀ v H H', R v H → (∀ a o, v = .ref a → H a = some o → H' a = some o) → R v H'
/-- v is no object of H -/
def New (v : V) (H : Hp) : Prop := ∀ a, v = .ref a → H a = none
/-- [drawn(purse) for x in range(n)]: a list of things that R tells, each drawn at the cost of k -/
theorem drawn_run {R : V → Hp → Prop} {te : TE} {σ : St} {vs : List Nat} {g : Addr} {H : Hp} {n k c i0 : Nat} {Q : Addr → Hp → Prop} (hR : Flat R) (hn : n ≤ 1000) (hp : Pu H g c)
    (hte : ∀ (x : V) (j : Nat) (H1 : Hp) (Qe : VK), j < n → Keep g H H1 → Pu H1 g (c + k * j) → (∀ v H2, New v H1 → Keep g H1 H2 → Pu H2 g (c + k * (j + 1)) → R v H2 → Qe v H2) → te ((wipe σ vs).set i0 (some x)) H1 Qe)
    (hw : ∀ x, wipe ((wipe σ vs).set i0 (some x)) vs = wipe σ vs)
    (h : ∀ D xs H', H D = none → Keep g H H' → Pu H' g (c + k * n) → xs.length = n → (∀ v ∈ xs, R v H' ∧ New v H ∧ v ≠ .ref D ∧ v ≠ .ref g) → H' D = some (.lst xs) → Q D H') :
    ∀ D, H D = none → ∃ W : Nat → Nat → Hp → Prop, (∃ m, W 0 m (upd H D (.lst []))) ∧ ∀ i m H, W i m H → ((Itr 0 n).stop i H ∧ Q D H) ∨ ((Itr 0 n).go i H ∧ ∃ Nx : Hp → Prop, (∀ H', Nx H' → ∃ m', m' < m ∧ W (i + 1) m' H') ∧ ∀ x H', (Itr 0 n).yld i H x H' →
      gName i0 x (wipe σ vs) H' fun σ2 H2 => wipe σ2 vs = wipe σ vs ∧ tYes σ2 H2 fun b H3 => if b = true then te σ2 H3 fun y H4 => ∃ acc, H4 D = some (.lst acc) ∧ acc.length < sizeLine ∧ Nx (upd H4 D (.lst (acc ++ [y]))) else Nx H3) := by
  intro D hD
  have hgD : g ≠ D := hp.ne hD
  refine lc_range (lo := 0) (n := n) (fun j H' => Keep g H H' ∧ Pu H' g (c + k * j) ∧ ∃ xs : List V, xs.length = j ∧ (∀ v ∈ xs, R v H' ∧ New v H ∧ v ≠ .ref D ∧ v ≠ .ref g) ∧ H' D = some (.lst xs)) ?_ (fun j H1 hj hP => ?_) fun H1 hP => ?_
  · exact ⟨.new .refl hD, (hp.mono (same_new hD)).le (Nat.le_add_right _ _), [], rfl, fun v hv => absurd hv (by simp), upd_same⟩
  · obtain ⟨k1, p1, xs, l1, r1, e1⟩ := hP
    refine ⟨hw _, hte _ j H1 _ hj k1 p1 fun v H2 n2 k2 p2 r2 => ?_⟩
    refine ⟨xs, k2 _ _ hgD.symm e1, by rw [l1, sizeLine_eq]; omega, ?_, ?_, xs ++ [v], by simp [l1], ?_, upd_same⟩
    · intro b o hb e
      have hbD : b ≠ D := ne_of_none e hD
      rw [upd_ne hbD]
      exact k2 _ _ hb (k1 _ _ hb e)
    · obtain ⟨x, y, z, q1, q2⟩ := p2
      exact ⟨x, y, z, by rw [upd_ne hgD]; exact q1, q2⟩
    · have nD : v ≠ .ref D := fun e => by rw [n2 D e] at e1; cases e1
      have ng : v ≠ .ref g := fun e => by
        obtain ⟨ys, q⟩ := p1.lst
        rw [n2 g e] at q
        cases q
      intro u hu
      rcases List.mem_append.mp hu with hu | hu
      · obtain ⟨a1, a2, a3, a4⟩ := r1 u hu
        refine ⟨hR _ _ _ a1 fun a o e ea => ?_, a2, a3, a4⟩
        have h1 : a ≠ D := fun z => a3 (by rw [e, z])
        have h2 : a ≠ g := fun z => a4 (by rw [e, z])
        rw [upd_ne h1]
        exact k2 _ _ h2 ea
      · rw [List.mem_singleton.mp hu]
        refine ⟨hR _ _ _ r2 fun a o e ea => ?_, fun a e => ?_, nD, ng⟩
        · rw [upd_ne (fun z => nD (by rw [e, z]))]
          exact ea
        · by_cases q : H a = none
          · exact q
          · obtain ⟨o, ho⟩ := Option.ne_none_iff_exists'.mp q
            have := k1 a o (fun z => ng (by rw [e, z])) ho
            rw [n2 a e] at this
            cases this
  · obtain ⟨k1, p1, xs, l1, r1, e1⟩ := hP
    exact h D xs H1 hD k1 p1 l1 r1 e1
/-- a number within m -/
def RInt (m : Int) : V → Hp → Prop := fun v _ => ∃ i : Int, v = .int i ∧ -m ≤ i ∧ i ≤ m
theorem flat_int {m : Int} : Flat (RInt m) := fun _ _ _ h _ => h
theorem ints_of {m : Int} {H : Hp} {P : V → Prop} : ∀ {xs : List V}, (∀ v ∈ xs, RInt m v H ∧ P v) → ∃ cs : List Int, xs = cs.map V.int ∧ In m cs
  | [], _ => ⟨[], rfl, fun c h => absurd h (by simp)⟩
  | v :: xs, h => by
    obtain ⟨⟨i, rfl, b⟩, _⟩ := h v List.mem_cons_self
    obtain ⟨cs, rfl, q⟩ := ints_of (m := m) (H := H) (P := P) fun u hu => h u (List.mem_cons_of_mem _ hu)
    refine ⟨i :: cs, rfl, fun c hc => ?_⟩
    rcases List.mem_cons.mp hc with rfl | hc
    · exact b
    · exact q c hc
/-- a cell of n numbers within m; a list of such numbers -/
def RCell (n : Nat) (m : Int) : V → Hp → Prop := fun v H => ∃ (a : Addr) (cs : List Int), v = .ref a ∧ cs.length = n ∧ In m cs ∧ H a = some (.tup (cs.map V.int))
def RLine (n : Nat) (m : Int) : V → Hp → Prop := fun v H => ∃ (a : Addr) (cs : List Int), v = .ref a ∧ cs.length = n ∧ In m cs ∧ H a = some (.lst (cs.map V.int))
theorem flat_cell {n : Nat} {m : Int} : Flat (RCell n m) := fun v H H' ⟨a, cs, e, l, b, h⟩ k => ⟨a, cs, e, l, b, k a _ e h⟩
theorem flat_line {n : Nat} {m : Int} : Flat (RLine n m) := fun v H H' ⟨a, cs, e, l, b, h⟩ k => ⟨a, cs, e, l, b, k a _ e h⟩
def spCe : Sp := fun vs H Q _ => ∃ (g : Addr) (n : Nat) (m : Int) (c : Nat), vs = [.ref g, .int (n : Nat), .int m] ∧ 1 ≤ n ∧ n ≤ 2 ∧ 0 ≤ m ∧ m < 2 ^ 67 ∧ Pu H g c ∧ c ≤ 1000000 ∧ ∀ (v : V) (H' : Hp), New v H → Keep g H H' → Pu H' g (c + 6) → RCell n m v H' → Q v H'
def spRo : Sp := fun vs H Q _ => ∃ (g : Addr) (n k : Nat) (m : Int) (c : Nat), vs = [.ref g, .int (n : Nat), .int (k : Nat), .int m] ∧ 1 ≤ n ∧ n ≤ 2 ∧ k ≤ 100 ∧ 0 ≤ m ∧ m < 2 ^ 67 ∧ Pu H g c ∧ c ≤ 100000 ∧
  ∀ (D : Addr) (xs : List V) (H' : Hp), H D = none → Keep g H H' → Pu H' g (c + 3 + 6 * k) → xs.length ≤ k → (∀ v ∈ xs, RCell n m v H' ∧ New v H ∧ v ≠ .ref D ∧ v ≠ .ref g) → H' D = some (.lst xs) → Q (.ref D) H'
section
variable {P : Program} {w : World} {K : PySem.W.Frag} {mg : Str → Option Value} {base : Heap}
theorem scCe : FnScope ["_law_purse_here", "_law_width", "_law_most", "_law_part"] ["_law_purse_here", "_law_width", "_law_most"] (defScope sCe) := ⟨rfl, rfl, rfl, by decide +kernel, rfl, by decide +kernel, by decide +kernel⟩
theorem ok_ce {f fS : Addr} {fd dS : FuncData} (F : Fun K "_law_cell" "_law_cell" sCe f fd) (N : Nm mg) (GS : FnOk P w K mg base CX0 3 fS dS ["_law_purse_here", "_law_most"] spSi) (mS : mg "_law_signed" = some (.ref fS)) (kS : PySem.W.keepIn K (.ref fS) = true) (bS : Binds K dS ["_law_purse_here", "_law_most"] []) :
    FnOk P w K mg base CX0 4 f fd ["_law_purse_here", "_law_width", "_law_most"] spCe := by
  refine F.ok scCe (fun vs H Q E h => ?_) fun cdv A outer s H vs Q E hr h => ?_
  · obtain ⟨g, n, m, c, rfl, _⟩ := h
    rfl
  · obtain ⟨g, n, m, c, rfl, hn1, hn2, hm, hm2, hp, hc, q⟩ := h
    refine ⟨_, pss_one (ps_ret (pe_callTy call_tuple_of (by rfl) N.tup PyProof.Rows.boot_tuple (pa_cons
      (pe_lc (own := [("_law_part", 3)]) (g := gName 3) (tt := tYes) (te := tCall spSi [] E0 (tCons (tVar 0) (tCons (tVar 2) tNil))) rfl scCe.nd (pi_range1 (by rfl) N.rng (pa_cons (pv 1) pa_nil)) (blkOk_by (N := ["_law_purse_here", "_law_width", "_law_most", "_law_part"]) (sc := defScope sCe) (by decide +kernel))
        (fun _ _ _ _ _ => pg_name (i := 3) scCe.nd rfl (Or.inl rfl)) (fun _ _ _ _ _ => pts_nil) (fun _ _ _ _ _ => pe_call GS hr rfl mS kS bS .nil pass0 (pa_cons (pv 0) (pa_cons (pv 2) pa_nil)))) pa_nil))), ?_⟩
    refine ⟨_, rfl, n, rfl, by omega, by omega, ?_⟩
    refine drawn_run (R := RInt m) (σ := start ["_law_purse_here", "_law_width", "_law_most", "_law_part"] [.ref g, .int n, .int m]) (g := g) (c := c) (k := 3) flat_int (by omega) hp (fun x j H1 Qe hj k1 p1 qe => ?_) (fun x => rfl) fun D xs H1 hD k1 p1 l1 r1 e1 => ?_
    · exact ⟨_, rfl, _, rfl, g, m, _, rfl, hm, hm2, p1, by omega, fun r H2 b1 b2 k2 p2 => qe _ _ (fun a e => nomatch e) k2 p2 ⟨r, rfl, b1, b2⟩⟩
    · obtain ⟨cs, rfl, hcs⟩ := ints_of r1
      rw [List.length_map] at l1
      refine ⟨D, _, rfl, .inl ⟨SqL.of e1, fun l hl => ?_⟩⟩
      have hgl : g ≠ l := p1.ne hl
      refine q _ _ (fun a e => ?_) (k1.new hl) ((p1.mono (same_new hl)).le (by omega)) ⟨l, cs, rfl, l1, hcs, upd_same⟩
      cases e
      by_cases z : H l = none
      · exact z
      · obtain ⟨o, ho⟩ := Option.ne_none_iff_exists'.mp z
        rw [k1 _ _ hgl.symm ho] at hl
        cases hl
theorem scRo : FnScope ["_law_purse_here", "_law_width", "_law_cells_to", "_law_most", "_law_turn"] ["_law_purse_here", "_law_width", "_law_cells_to", "_law_most"] (defScope sRo) := ⟨rfl, rfl, rfl, by decide +kernel, rfl, by decide +kernel, by decide +kernel⟩
theorem ok_ro {f fC fD : Addr} {fd dC dD : FuncData} (F : Fun K "_law_row" "_law_row" sRo f fd) (N : Nm mg) (GC : FnOk P w K mg base CX0 4 fC dC ["_law_purse_here", "_law_width", "_law_most"] spCe) (mC : mg "_law_cell" = some (.ref fC)) (kC : PySem.W.keepIn K (.ref fC) = true) (bC : Binds K dC ["_law_purse_here", "_law_width", "_law_most"] [])
    (GD : FnOk P w K mg base CX0 2 fD dD ["_law_purse_here", "_law_out_of"] spDr) (mD : mg "_law_draw" = some (.ref fD)) (kD : PySem.W.keepIn K (.ref fD) = true) (bD : Binds K dD ["_law_purse_here", "_law_out_of"] []) :
    FnOk P w K mg base CX0 5 f fd ["_law_purse_here", "_law_width", "_law_cells_to", "_law_most"] spRo := by
  refine F.ok scRo (fun vs H Q E h => ?_) fun cdv A outer s H vs Q E hr h => ?_
  · obtain ⟨g, n, k, m, c, rfl, _⟩ := h
    rfl
  · obtain ⟨g, n, k, m, c, rfl, hn1, hn2, hk, hm, hm2, hp, hc, q⟩ := h
    refine ⟨_, pss_one (ps_ret
      (pe_lc (own := [("_law_turn", 4)]) (g := gName 4) (tt := tYes) (te := tCall spCe [] E0 (tCons (tVar 0) (tCons (tVar 1) (tCons (tVar 3) tNil)))) rfl scRo.nd (pi_range1 (by rfl) N.rng (pa_cons (pe_call GD (hr.mono (by decide)) rfl mD kD bD .nil pass0 (pa_cons (pv 0) (pa_cons (pe_op op_add (pv 2) pe_int) pa_nil))) pa_nil)) (blkOk_by (N := ["_law_purse_here", "_law_width", "_law_cells_to", "_law_most", "_law_turn"]) (sc := defScope sRo) (by decide +kernel))
        (fun _ _ _ _ _ => pg_name (i := 4) scRo.nd rfl (Or.inl rfl)) (fun _ _ _ _ _ => pts_nil) (fun _ _ _ _ _ => pe_call GC hr rfl mC kC bC .nil pass0 (pa_cons (pv 0) (pa_cons (pv 1) (pa_cons (pv 3) pa_nil)))))), ?_⟩
    refine ⟨_, rfl, _, rfl, _, _, rfl, rfl, g, (k : Int) + 1, c, rfl, by omega, by omega, hp, by omega, fun r H1 b1 b2 k1 p1 => ?_⟩
    obtain ⟨j, rfl⟩ : ∃ j : Nat, r = (j : Int) := ⟨r.toNat, by omega⟩
    refine ⟨j, rfl, by omega, by omega, ?_⟩
    refine drawn_run (R := RCell n m) (σ := start ["_law_purse_here", "_law_width", "_law_cells_to", "_law_most", "_law_turn"] [.ref g, .int n, .int k, .int m]) (g := g) (c := c + 3) (k := 6) flat_cell (by omega) p1 (fun x i H2 Qe hi k2 p2 qe => ?_) (fun x => rfl) fun D xs H2 hD k2 p2 l2 r2 e2 => ?_
    · exact ⟨_, rfl, _, rfl, _, rfl, g, n, m, _, rfl, hn1, hn2, hm, hm2, p2, by omega, fun v H3 n3 k3 p3 c3 => qe _ _ n3 k3 p3 c3⟩
    · have back : ∀ a : Addr, a ≠ g → H1 a = none → H a = none := fun a na h1 => by
        by_cases z : H a = none
        · exact z
        · obtain ⟨o, ho⟩ := Option.ne_none_iff_exists'.mp z
          rw [k1 _ _ na ho] at h1
          cases h1
      refine q D xs H2 (back D (p1.ne hD).symm hD) (k1.trans k2) (p2.le (by omega)) (by omega) (fun v hv => ?_) e2
      obtain ⟨a1, a2, a3, a4⟩ := r2 v hv
      exact ⟨a1, fun a e => back a (fun z => a4 (by rw [e, z])) (a2 a e), a3, a4⟩
end
end L2.Dw

/-! # what counts as a whole number, a line, a matrix, a cell, a row: asked of any data -/
namespace L2.Ch
open PySem PySem.Spec PyProof.Rows L2.Vf L2.Dw
abbrev sWh : Stmt := top 2
abbrev sAr : Stmt := top 3
abbrev sFc : Stmt := top 4
abbrev sFr : Stmt := top 5
abbrev sLi : Stmt := top 6
abbrev sMa : Stmt := top 14
def tyD : PyData → String
  | .none => "NoneType"
  | .bool _ => "bool"
  | .int _ => "int"
  | .str _ => "str"
  | .list _ => "list"
  | .tuple _ => "tuple"
  | .dict _ => "dict"
def isI : PyData → Bool
  | .int _ => true
  | _ => false
def lineD (n : Nat) : PyData → Bool
  | .list ds => ds.length == n && ds.all isI
  | _ => false
def matD : PyData → Bool
  | .list ds => decide (1 ≤ ds.length) && decide (ds.length ≤ 2) && ds.all (lineD ds.length)
  | _ => false
def cellD (n : Nat) : PyData → Bool
  | .tuple ds => ds.length == n && ds.all isI
  | _ => false
def rowD (n : Nat) : PyData → Bool
  | .list ds => ds.all (cellD n)
  | _ => false
section
variable {K : PySem.W.Frag} {H : Hp}
theorem sh_ty {v : V} {d : PyData} {as : List Addr} (h : Sh K H v d as) : TyX K H v (.type (tyD d)) := by
  cases h with
  | non => exact .base .non
  | bl b => exact .base (.bl b)
  | int i => exact .base (.int i)
  | str x => exact .base (.str x)
  | lst h _ =>
    rcases h with (h | ⟨o, h⟩) | ⟨o, its, n, hk, hc, _⟩
    · exact .base (.lst h)
    · exact .base (.frz h)
    · exact .kList hk hc
  | tup h _ =>
    rcases h with (h | ⟨o, h⟩) | ⟨o, its, n, hk, hc, _⟩
    · exact .base (.tup h)
    · exact .fTuple h
    · exact .kTuple hk hc
  | dK h _ =>
    rcases h with h | ⟨o, h⟩
    · exact .base (.dK h)
    · exact .fDict h
theorem kit_int (d : PyData) : kitB (tyD d) "int" = some (isI d || tyD d == "bool") := by cases d <;> kernel_rfl
theorem kit_bool (d : PyData) : kitB (tyD d) "bool" = some (tyD d == "bool") := by cases d <;> kernel_rfl
theorem kit_list (d : PyData) : kitB (tyD d) "list" = some (tyD d == "list") := by cases d <;> kernel_rfl
theorem kit_tuple (d : PyData) : kitB (tyD d) "tuple" = some (tyD d == "tuple") := by cases d <;> kernel_rfl
/-- isinstance(slot i, T) -/
abbrev tIsT (K : PySem.W.Frag) (i : Nat) (n : String) : TE := tCB (rIsi K) (tCons (tVar i) (tCons (tC (.ty n)) tNil))
/-- len of slot i -/
abbrev tLenS (K : PySem.W.Frag) (i : Nat) : TE := tCB (fun xs H Q => ∃ p ys, xs = [.ref p] ∧ (SqL K H p ys ∨ SqT K H p ys) ∧ Q (.int ys.length) H) (tCons (tVar i) tNil)
theorem isT_run {σ : St} {i : Nat} {v : V} {d : PyData} {as : List Addr} {n : String} {b : Bool} {Q : VK} (hσ : σ[i]? = some (some v)) (h : Sh K H v d as) (e : kitB (tyD d) n = some b) (q : Q (.bl b) H) : tIsT K i n σ H Q :=
  ⟨_, hσ, _, _, _, _, b, rfl, .ty n, sh_ty h, kit_ty e, q⟩
end
/-! ### a list or tuple in a slot, walked until one item does not fit -/
def iSeq (K : PySem.W.Frag) (i : Nat) : TI := fun σ H R => ∃ a, σ[i]? = some (some (.ref a)) ∧ (((∃ xs, SqL K H a xs) ∧ R (Itl K a) H) ∨ ((∃ xs, SqT K H a xs) ∧ R (Itt K a) H))
section
variable {X : Cx} {tg e : Expr} {i : Nat}
theorem pi_seq (h1 : PI X tg e (iList X.K (tVar i))) (h2 : PI X tg e (iTup X.K (tVar i))) : PI X tg e (iSeq X.K i) := by
  refine ⟨fun pins s σ H R I h => ?_⟩
  obtain ⟨a, e, ⟨x, q⟩ | ⟨x, q⟩⟩ := h
  · exact h1.run pins s σ H R I ⟨_, e, a, rfl, x, q⟩
  · exact h2.run pins s σ H R I ⟨_, e, a, rfl, x, q⟩
end
/-- one turn: if not f(x): return False -/
def tTurn (te : TE) : TS := tIfS (tNot (tB te)) (tRet (tC (.bl false))) tNext
section
theorem Shs.get {K : PySem.W.Frag} {H : Hp} : ∀ {xs : List V} {ds : List PyData} {as : List Addr} {i : Nat} {x : V}, Shs K H xs ds as → xs[i]? = some x → ∃ d bs, ds[i]? = some d ∧ Sh K H x d bs
  | _, _, _, _, _, .nil, e => by simp at e
  | _, _, _, 0, _, .cons h _, e => by simp at e; subst e; exact ⟨_, _, rfl, h⟩
  | _, _, _, i + 1, _, .cons _ t, e => by
    obtain ⟨d, bs, h1, h2⟩ := Shs.get (i := i) t (by simpa using e)
    exact ⟨d, bs, by simpa using h1, h2⟩
variable {K : PySem.W.Frag} {H : Hp} {σ0 : St} {i0 : Nat} {te : TE} {D : Ends} {xs : List V} {a : Addr} {f : PyData → Bool} {ds : List PyData} {as : List Addr}
theorem all_list (hi : i0 < σ0.length) (hx : SqL K H a xs) (hs : Shs K H xs ds as) (ht : ∀ x d bs (o : Option V) (Q : VK), Sh K H x d bs → Q (.bl (f d)) H → te ((σ0.set i0 o).set i0 (some x)) H Q)
    (hf : ds.all f = false → D.rt (.bl false) H) (hd : ds.all f = true → ∀ o, D.nx (σ0.set i0 o) H) (o0 : Option V) :
    ∃ W : Nat → Nat → St → Hp → Prop, (∃ m, W 0 m (σ0.set i0 o0) H) ∧ ∀ i m σ H, W i m σ H →
      ((Itl K a).stop i H ∧ D.nx σ H) ∨ ((Itl K a).go i H ∧ ∃ N : St → Hp → Prop, (∀ σ' H', N σ' H' → ∃ m', m' < m ∧ W (i + 1) m' σ' H') ∧ ∀ x H', (Itl K a).yld i H x H' → gName i0 x σ H' fun σ2 H2 => tTurn te { D with nx := N, ct := N, bk := D.nx } σ2 H2) := by
  refine for_list (xs := xs) (fun i σ H' => H' = H ∧ (∃ o, σ = σ0.set i0 o) ∧ ∀ j d, j < i → ds[j]? = some d → f d = true) ⟨rfl, ⟨o0, rfl⟩, fun j x h => absurd h (by omega)⟩ (fun i σ H' _ hP => ?_) (fun i x σ H' hx' hP => ?_) fun σ H' hP => ?_
  · rw [hP.1]; exact hx
  · obtain ⟨rfl, ⟨o, rfl⟩, h⟩ := hP
    obtain ⟨d, bs, hd', hsh⟩ := Shs.get hs hx'
    refine ht x d bs o _ hsh ⟨f d, rfl, ?_⟩
    cases e : f d with
    | false =>
      refine iteT (hf ?_)
      rw [List.all_eq_false]
      exact ⟨d, List.mem_of_getElem? hd', by rw [e]; simp⟩
    | true =>
      refine iteF ⟨rfl, ⟨some x, by rw [List.set_set]⟩, fun j y hj hy => ?_⟩
      by_cases q : j < i
      · exact h j y q hy
      · have : j = i := by omega
        subst this
        rw [hd'] at hy
        cases hy
        exact e
  · obtain ⟨rfl, ⟨o, rfl⟩, h⟩ := hP
    refine hd ?_ o
    rw [List.all_eq_true]
    intro x hx'
    obtain ⟨j, hj⟩ := List.getElem?_of_mem hx'
    exact h j x (by rw [hs.length]; exact (List.getElem?_eq_some_iff.mp hj).1) hj
theorem all_tup (hi : i0 < σ0.length) (hx : SqT K H a xs) (hs : Shs K H xs ds as) (ht : ∀ x d bs (o : Option V) (Q : VK), Sh K H x d bs → Q (.bl (f d)) H → te ((σ0.set i0 o).set i0 (some x)) H Q)
    (hf : ds.all f = false → D.rt (.bl false) H) (hd : ds.all f = true → ∀ o, D.nx (σ0.set i0 o) H) (o0 : Option V) :
    ∃ W : Nat → Nat → St → Hp → Prop, (∃ m, W 0 m (σ0.set i0 o0) H) ∧ ∀ i m σ H, W i m σ H →
      ((Itt K a).stop i H ∧ D.nx σ H) ∨ ((Itt K a).go i H ∧ ∃ N : St → Hp → Prop, (∀ σ' H', N σ' H' → ∃ m', m' < m ∧ W (i + 1) m' σ' H') ∧ ∀ x H', (Itt K a).yld i H x H' → gName i0 x σ H' fun σ2 H2 => tTurn te { D with nx := N, ct := N, bk := D.nx } σ2 H2) := by
  refine for_tup (xs := xs) (fun i σ H' => H' = H ∧ (∃ o, σ = σ0.set i0 o) ∧ ∀ j d, j < i → ds[j]? = some d → f d = true) ⟨rfl, ⟨o0, rfl⟩, fun j x h => absurd h (by omega)⟩ (fun i σ H' _ hP => ?_) (fun i x σ H' hx' hP => ?_) fun σ H' hP => ?_
  · rw [hP.1]; exact hx
  · obtain ⟨rfl, ⟨o, rfl⟩, h⟩ := hP
    obtain ⟨d, bs, hd', hsh⟩ := Shs.get hs hx'
    refine ht x d bs o _ hsh ⟨f d, rfl, ?_⟩
    cases e : f d with
    | false =>
      refine iteT (hf ?_)
      rw [List.all_eq_false]
      exact ⟨d, List.mem_of_getElem? hd', by rw [e]; simp⟩
    | true =>
      refine iteF ⟨rfl, ⟨some x, by rw [List.set_set]⟩, fun j y hj hy => ?_⟩
      by_cases q : j < i
      · exact h j y q hy
      · have : j = i := by omega
        subst this
        rw [hd'] at hy
        cases hy
        exact e
  · obtain ⟨rfl, ⟨o, rfl⟩, h⟩ := hP
    refine hd ?_ o
    rw [List.all_eq_true]
    intro x hx'
    obtain ⟨j, hj⟩ := List.getElem?_of_mem hx'
    exact h j x (by rw [hs.length]; exact (List.getElem?_eq_some_iff.mp hj).1) hj
end
/-- a def that answers whether data fits, and changes nothing -/
def spAsk (K : PySem.W.Frag) (p : PyData → Bool) : Sp := fun vs H Q _ => ∃ v d as, vs = [v] ∧ Sh K H v d as ∧ Q (.bl (p d)) H
def spAsk2 (K : PySem.W.Frag) (p : Nat → PyData → Bool) : Sp := fun vs H Q _ => ∃ v d as, ∃ n : Nat, vs = [v, .int (n : Nat)] ∧ Sh K H v d as ∧ Q (.bl (p n d)) H
/-- are_whole: of a list or tuple -/
def spAr (K : PySem.W.Frag) : Sp := fun vs H Q _ => ∃ v d as ds, vs = [v] ∧ Sh K H v d as ∧ (d = .list ds ∨ d = .tuple ds) ∧ Q (.bl (ds.all isI)) H
section
variable {P : Program} {w : World} {K : PySem.W.Frag} {mg : Str → Option Value} {base : Heap}
theorem scWh : FnScope ["value"] ["value"] (defScope sWh) := ⟨rfl, rfl, rfl, by decide +kernel, rfl, by decide +kernel, by decide +kernel⟩
theorem boot_isi : bootBuiltins "isinstance" = some (.builtin "isinstance") := by decide +kernel
theorem ok_wh {f : Addr} {fd : FuncData} (F : Fun K "is_whole" "is_whole" sWh f fd) (N : Nm mg) : FnOk P w K mg base CX0 1 f fd ["value"] (spAsk K isI) := by
  refine F.ok scWh (fun vs H Q E h => ?_) fun cdv A outer s H vs Q E hr h => ?_
  · obtain ⟨v, d, as, rfl, _⟩ := h
    rfl
  · obtain ⟨v, d, as, rfl, hs, q⟩ := h
    refine ⟨tRet (tAndV (tIsT K 0 "int") (tNotV (tIsT K 0 "bool"))), pss_one (ps_ret (pe_and (pe_callB call_isi (by rfl) N.isi boot_isi (pa_cons (pv 0) (pa_cons (pe_bltn (by rfl) N.int PyProof.Rows.boot_int (by rfl)) pa_nil)))
      (pe_one (pe_not (pe_callB call_isi (by rfl) N.isi boot_isi (pa_cons (pv 0) (pa_cons (pe_bltn (by rfl) N.bool PyProof.Rows.Boot.«bool» (by rfl)) pa_nil))))))), ?_⟩
    refine isT_run rfl hs (kit_int d) ⟨_, rfl, ?_⟩
    cases d <;> first | exact iteF q | exact iteT (isT_run rfl hs (kit_bool _) ⟨_, rfl, q⟩)
theorem scAr : FnScope ["values", "value"] ["values"] (defScope sAr) := ⟨rfl, rfl, rfl, by decide +kernel, rfl, by decide +kernel, by decide +kernel⟩
theorem ok_ar {f fW : Addr} {fd dW : FuncData} (F : Fun K "are_whole" "are_whole" sAr f fd) (GW : FnOk P w K mg base CX0 1 fW dW ["value"] (spAsk K isI)) (mW : mg "is_whole" = some (.ref fW)) (kW : PySem.W.keepIn K (.ref fW) = true) (bW : Binds K dW ["value"] []) : FnOk P w K mg base CX0 2 f fd ["values"] (spAr K) := by
  refine F.ok scAr (fun vs H Q E h => ?_) fun cdv A outer s H vs Q E hr h => ?_
  · obtain ⟨v, d, as, ds, rfl, _⟩ := h
    rfl
  · obtain ⟨v, d, as, ds, rfl, hs, hd, q⟩ := h
    refine ⟨tSeq (tFor (iSeq K 0) (gName 1) (tTurn (tCall (spAsk K isI) [] E0 (tCons (tVar 1) tNil)))) (tRet (tC (.bl true))), pss_cons (ps_for PassesOwn.never rfl (pi_seq (pi_list (pv 0)) (pi_tup (pv 0))) (pg_name (i := 1) scAr.nd rfl (Or.inl rfl))
      (pss_one (ps_if (pt_not (pt_val (pe_call GW hr rfl mW kW bW .nil pass0 (pa_cons (pv 1) pa_nil)))) (pss_one (ps_ret pe_bl)) pss_nil))) (pss_one (ps_ret pe_bl)), ?_⟩
    have turn : ∀ (x : V) (d : PyData) (bs : List Addr) (o : Option V) (Q : VK), Sh K H x d bs → Q (.bl (isI d)) H → (tCall (spAsk K isI) [] E0 (tCons (tVar 1) tNil)) (((start ["values", "value"] [v]).set 1 o).set 1 (some x)) H Q := fun x d bs o Q h q => ⟨_, rfl, x, d, bs, rfl, h, q⟩
    rcases hd with rfl | rfl
    · cases hs with
      | @lst a xs _ _ h1 h2 => exact ⟨a, rfl, .inl ⟨⟨_, h1⟩, all_list (σ0 := start ["values", "value"] [.ref a]) (i0 := 1) (show 1 < 2 by decide) h1 h2 turn (fun e => by rw [e] at q; exact q) (fun e o => by rw [e] at q; exact q) none⟩⟩
    · cases hs with
      | @tup a xs _ _ h1 h2 => exact ⟨a, rfl, .inr ⟨⟨_, h1⟩, all_tup (σ0 := start ["values", "value"] [.ref a]) (i0 := 1) (show 1 < 2 by decide) h1 h2 turn (fun e => by rw [e] at q; exact q) (fun e o => by rw [e] at q; exact q) none⟩⟩
theorem scFc : FnScope ["value", "width"] ["value", "width"] (defScope sFc) := ⟨rfl, rfl, rfl, by decide +kernel, rfl, by decide +kernel, by decide +kernel⟩
theorem len_eq (n m : Nat) : (decide (((n : Nat) : Int) = ((m : Nat) : Int))) = (n == m) := by
  by_cases h : n = m
  · subst h; simp
  · rw [decide_eq_false (by omega)]; simp [h]
theorem ok_fc {f fA : Addr} {fd dA : FuncData} (F : Fun K "fits_cell" "fits_cell" sFc f fd) (N : Nm mg) (GA : FnOk P w K mg base CX0 2 fA dA ["values"] (spAr K)) (mA : mg "are_whole" = some (.ref fA)) (kA : PySem.W.keepIn K (.ref fA) = true) (bA : Binds K dA ["values"] []) : FnOk P w K mg base CX0 3 f fd ["value", "width"] (spAsk2 K cellD) := by
  refine F.ok scFc (fun vs H Q E h => ?_) fun cdv A outer s H vs Q E hr h => ?_
  · obtain ⟨v, d, as, n, rfl, _⟩ := h
    rfl
  · obtain ⟨v, d, as, n, rfl, hs, q⟩ := h
    refine ⟨_, pss_one (ps_ret (pe_and (pe_callB call_isi (by rfl) N.isi boot_isi (pa_cons (pv 0) (pa_cons (pe_bltn (v := V.ty "tuple") (by rfl) N.tup PyProof.Rows.boot_tuple (by rfl)) pa_nil)))
      (pe_and (pe_cmp (pc_eqI (pe_callB call_len_seq (by rfl) N.len PySem.boot_len (pa_cons (pv 0) pa_nil)) (pv 1)) rfl) (pe_one (pe_call GA hr rfl mA kA bA .nil pass0 (pa_cons (pv 0) pa_nil)))))), ?_⟩
    refine isT_run (σ := start ["value", "width"] [v, .int n]) rfl hs (kit_tuple d) ⟨_, rfl, ?_⟩
    cases d with
    | tuple ds =>
      refine iteT ?_
      have hs' := hs
      cases hs' with
      | @tup a xs _ _ h1 h2 =>
        refine ⟨_, rfl, a, _, rfl, .inr h1, _, rfl, _, _, rfl, rfl, _, rfl, ?_⟩
        rw [Shs.length h2, show (fun i j : Int => decide (i = j)) (ds.length : Int) (n : Int) = (ds.length == n) from len_eq _ _]
        cases e : (ds.length == n) with
        | false =>
          refine iteF ?_
          have : cellD n (.tuple ds) = false := by show (ds.length == n && ds.all isI) = false; rw [e]; rfl
          rw [this] at q
          exact q
        | true =>
          refine iteT ⟨_, rfl, _, _, _, ds, rfl, hs, .inr rfl, ?_⟩
          have : cellD n (.tuple ds) = ds.all isI := by show (ds.length == n && ds.all isI) = _; rw [e]; rfl
          rw [this] at q
          exact q
    | _ => exact iteF q
theorem scFr : FnScope ["value", "width", "cell"] ["value", "width"] (defScope sFr) := ⟨rfl, rfl, rfl, by decide +kernel, rfl, by decide +kernel, by decide +kernel⟩
theorem ok_fr {f fC : Addr} {fd dC : FuncData} (F : Fun K "fits_row" "fits_row" sFr f fd) (N : Nm mg) (GC : FnOk P w K mg base CX0 3 fC dC ["value", "width"] (spAsk2 K cellD)) (mC : mg "fits_cell" = some (.ref fC)) (kC : PySem.W.keepIn K (.ref fC) = true) (bC : Binds K dC ["value", "width"] []) : FnOk P w K mg base CX0 4 f fd ["value", "width"] (spAsk2 K rowD) := by
  refine F.ok scFr (fun vs H Q E h => ?_) fun cdv A outer s H vs Q E hr h => ?_
  · obtain ⟨v, d, as, n, rfl, _⟩ := h
    rfl
  · obtain ⟨v, d, as, n, rfl, hs, q⟩ := h
    refine ⟨tSeq (tIfS (tNot (tB (tIsT K 0 "list"))) (tRet (tC (.bl false))) tNext) (tSeq (tFor (iList K (tVar 0)) (gName 2) (tTurn (tCall (spAsk2 K cellD) [] E0 (tCons (tVar 2) (tCons (tVar 1) tNil))))) (tRet (tC (.bl true)))),
      pss_cons (ps_if (pt_not (pt_val (pe_callB call_isi (by rfl) N.isi boot_isi (pa_cons (pv 0) (pa_cons (pe_bltn (v := V.ty "list") (by rfl) N.lst PyProof.Rows.boot_list (by rfl)) pa_nil))))) (pss_one (ps_ret pe_bl)) pss_nil)
      (pss_cons (ps_for PassesOwn.never rfl (pi_list (pv 0)) (pg_name (i := 2) scFr.nd rfl (Or.inl rfl))
      (pss_one (ps_if (pt_not (pt_val (pe_call GC hr rfl mC kC bC .nil pass0 (pa_cons (pv 2) (pa_cons (pv 1) pa_nil))))) (pss_one (ps_ret pe_bl)) pss_nil))) (pss_one (ps_ret pe_bl))), ?_⟩
    refine isT_run (σ := start ["value", "width", "cell"] [v, .int n]) rfl hs (kit_list d) ⟨_, rfl, ?_⟩
    cases d with
    | list ds =>
      refine iteF ?_
      cases hs with
      | @lst a xs _ _ h1 h2 =>
        refine ⟨_, rfl, a, rfl, ⟨_, h1⟩, all_list (f := cellD n) (te := tCall (spAsk2 K cellD) [] E0 (tCons (tVar 2) (tCons (tVar 1) tNil))) (σ0 := start ["value", "width", "cell"] [.ref a, .int n]) (i0 := 2) (show 2 < 3 by decide) h1 h2 (fun x d bs o Q h q => ⟨_, rfl, _, rfl, x, d, bs, n, rfl, h, q⟩) (fun e => ?_) (fun e o => ?_) none⟩
        · have : rowD n (.list ds) = false := e
          rw [this] at q; exact q
        · have : rowD n (.list ds) = true := e
          rw [this] at q; exact q
    | _ => exact iteT q
theorem scLi : FnScope ["value", "many"] ["value", "many"] (defScope sLi) := ⟨rfl, rfl, rfl, by decide +kernel, rfl, by decide +kernel, by decide +kernel⟩
theorem ok_li {f fA : Addr} {fd dA : FuncData} (F : Fun K "is_line" "is_line" sLi f fd) (N : Nm mg) (GA : FnOk P w K mg base CX0 2 fA dA ["values"] (spAr K)) (mA : mg "are_whole" = some (.ref fA)) (kA : PySem.W.keepIn K (.ref fA) = true) (bA : Binds K dA ["values"] []) : FnOk P w K mg base CX0 3 f fd ["value", "many"] (spAsk2 K lineD) := by
  refine F.ok scLi (fun vs H Q E h => ?_) fun cdv A outer s H vs Q E hr h => ?_
  · obtain ⟨v, d, as, n, rfl, _⟩ := h
    rfl
  · obtain ⟨v, d, as, n, rfl, hs, q⟩ := h
    refine ⟨_, pss_one (ps_ret (pe_and (pe_callB call_isi (by rfl) N.isi boot_isi (pa_cons (pv 0) (pa_cons (pe_bltn (v := V.ty "list") (by rfl) N.lst PyProof.Rows.boot_list (by rfl)) pa_nil)))
      (pe_and (pe_cmp (pc_eqI (pe_callB call_len_seq (by rfl) N.len PySem.boot_len (pa_cons (pv 0) pa_nil)) (pv 1)) rfl) (pe_one (pe_call GA hr rfl mA kA bA .nil pass0 (pa_cons (pv 0) pa_nil)))))), ?_⟩
    refine isT_run (σ := start ["value", "many"] [v, .int n]) rfl hs (kit_list d) ⟨_, rfl, ?_⟩
    cases d with
    | list ds =>
      refine iteT ?_
      have hs' := hs
      cases hs' with
      | @lst a xs _ _ h1 h2 =>
        refine ⟨_, rfl, a, _, rfl, .inl h1, _, rfl, _, _, rfl, rfl, _, rfl, ?_⟩
        rw [Shs.length h2, show (fun i j : Int => decide (i = j)) (ds.length : Int) (n : Int) = (ds.length == n) from len_eq _ _]
        cases e : (ds.length == n) with
        | false =>
          refine iteF ?_
          have : lineD n (.list ds) = false := by show (ds.length == n && ds.all isI) = false; rw [e]; rfl
          rw [this] at q
          exact q
        | true =>
          refine iteT ⟨_, rfl, _, _, _, ds, rfl, hs, .inl rfl, ?_⟩
          have : lineD n (.list ds) = ds.all isI := by show (ds.length == n && ds.all isI) = _; rw [e]; rfl
          rw [this] at q
          exact q
    | _ => exact iteF q
theorem scMa : FnScope ["value", "line"] ["value"] (defScope sMa) := ⟨rfl, rfl, rfl, by decide +kernel, rfl, by decide +kernel, by decide +kernel⟩
theorem ok_ma {f fL : Addr} {fd dL : FuncData} (F : Fun K "is_matrix" "is_matrix" sMa f fd) (N : Nm mg) (GL : FnOk P w K mg base CX0 3 fL dL ["value", "many"] (spAsk2 K lineD)) (mL : mg "is_line" = some (.ref fL)) (kL : PySem.W.keepIn K (.ref fL) = true) (bL : Binds K dL ["value", "many"] []) : FnOk P w K mg base CX0 4 f fd ["value"] (spAsk K matD) := by
  refine F.ok scMa (fun vs H Q E h => ?_) fun cdv A outer s H vs Q E hr h => ?_
  · obtain ⟨v, d, as, rfl, _⟩ := h
    rfl
  · obtain ⟨v, d, as, rfl, hs, q⟩ := h
    refine ⟨tSeq (tIfS (tOr (tNot (tB (tIsT K 0 "list"))) (tNot (tTest (tChain (rI0 fun i j => .bl (decide (i ≤ j))) (rI0 fun i j => .bl (decide (i ≤ j))) (tC (.int 1)) (tLenS K 0) (tC (.int 2)))))) (tRet (tC (.bl false))) tNext) (tSeq (tFor (iList K (tVar 0)) (gName 1) (tTurn (tCall (spAsk2 K lineD) [] E0 (tCons (tVar 1) (tCons (tLenS K 0) tNil))))) (tRet (tC (.bl true)))),
      pss_cons (ps_if (PW.pt (pw_or (pt_not (pt_val (pe_callB call_isi (by rfl) N.isi boot_isi (pa_cons (pv 0) (pa_cons (pe_bltn (v := V.ty "list") (by rfl) N.lst PyProof.Rows.boot_list (by rfl)) pa_nil))))) (pw_or1 (pt_not (pt_chain op_le op_le pe_int (pe_callB call_len_seq (by rfl) N.len PySem.boot_len (pa_cons (pv 0) pa_nil)) pe_int))))) (pss_one (ps_ret pe_bl)) pss_nil)
      (pss_cons (ps_for PassesOwn.never rfl (pi_list (pv 0)) (pg_name (i := 1) scMa.nd rfl (Or.inl rfl))
      (pss_one (ps_if (pt_not (pt_val (pe_call GL hr rfl mL kL bL .nil pass0 (pa_cons (pv 1) (pa_cons (pe_callB call_len_seq (by rfl) N.len PySem.boot_len (pa_cons (pv 0) pa_nil)) pa_nil))))) (pss_one (ps_ret pe_bl)) pss_nil))) (pss_one (ps_ret pe_bl))), ?_⟩
    refine isT_run (σ := start ["value", "line"] [v]) rfl hs (kit_list d) ⟨_, rfl, ?_⟩
    cases d with
    | list ds =>
      refine iteF ?_
      cases hs with
      | @lst a xs _ _ h1 h2 =>
        refine ⟨_, rfl, a, _, rfl, .inl h1, _, _, rfl, rfl, _, rfl, ?_⟩
        rw [Shs.length h2]
        by_cases c1 : 1 ≤ ds.length
        · rw [decide_eq_true (by omega)]
          refine iteT ⟨_, _, rfl, rfl, _, rfl, ?_⟩
          by_cases c2 : ds.length ≤ 2
          · rw [decide_eq_true (by omega)]
            refine iteF ⟨_, rfl, a, rfl, ⟨_, h1⟩, all_list (f := lineD ds.length) (te := tCall (spAsk2 K lineD) [] E0 (tCons (tVar 1) (tCons (tLenS K 0) tNil))) (σ0 := start ["value", "line"] [.ref a]) (i0 := 1) (show 1 < 2 by decide) h1 h2 (fun x d bs o Q h q => ⟨_, rfl, _, rfl, a, _, rfl, .inl h1, x, d, bs, ds.length, by rw [Shs.length h2]; rfl, h, q⟩) (fun e => ?_) (fun e o => ?_) none⟩
            · have : matD (.list ds) = false := by show (decide (1 ≤ ds.length) && decide (ds.length ≤ 2) && ds.all (lineD ds.length)) = false; rw [e, Bool.and_false]
              rw [this] at q; exact q
            · have : matD (.list ds) = true := by show (decide (1 ≤ ds.length) && decide (ds.length ≤ 2) && ds.all (lineD ds.length)) = true; rw [e, decide_eq_true c1, decide_eq_true c2]; rfl
              rw [this] at q; exact q
          · rw [decide_eq_false (by omega)]
            have : matD (.list ds) = false := by show (decide (1 ≤ ds.length) && decide (ds.length ≤ 2) && ds.all (lineD ds.length)) = false; rw [decide_eq_false c2, Bool.and_false]; rfl
            rw [this] at q
            exact iteT q
        · rw [decide_eq_false (by omega)]
          have : matD (.list ds) = false := by show (decide (1 ≤ ds.length) && decide (ds.length ≤ 2) && ds.all (lineD ds.length)) = false; rw [decide_eq_false c1]; rfl
          rw [this] at q
          exact iteF ⟨_, rfl, iteT q⟩
    | _ => exact iteT (iteT q)
end
end L2.Ch

/-! # matrices and lines as data and as lists; lists of lists copied -/
namespace L2.Ch
open PySem PySem.Spec PyProof.Rows L2.Vf L2.Dw
def lineL (o : List Int) : PyData := .list (o.map .int)
def matL (m : List (List Int)) : PyData := .list (m.map lineL)
theorem ints_all : ∀ {ds : List PyData}, ds.all isI = true → ∃ ns : List Int, ds = ns.map .int
  | [], _ => ⟨[], rfl⟩
  | d :: ds, h => by
    rw [List.all_cons, Bool.and_eq_true] at h
    obtain ⟨ns, rfl⟩ := ints_all h.2
    cases d <;> first | exact ⟨_ :: ns, rfl⟩ | cases h.1
theorem line_of {n : Nat} {d : PyData} (h : lineD n d = true) : ∃ ns : List Int, d = lineL ns ∧ ns.length = n := by
  cases d with
  | list ds =>
    have h : (ds.length == n && ds.all isI) = true := h
    rw [Bool.and_eq_true] at h
    obtain ⟨ns, rfl⟩ := ints_all h.2
    exact ⟨ns, rfl, by simpa using h.1⟩
  | _ => cases h
theorem lines_of {n : Nat} : ∀ {ds : List PyData}, ds.all (lineD n) = true → ∃ m : List (List Int), ds = m.map lineL ∧ ∀ r ∈ m, r.length = n
  | [], _ => ⟨[], rfl, fun r h => absurd h (by simp)⟩
  | d :: ds, h => by
    rw [List.all_cons, Bool.and_eq_true] at h
    obtain ⟨m, rfl, hm⟩ := lines_of h.2
    obtain ⟨ns, rfl, hn⟩ := line_of h.1
    refine ⟨ns :: m, rfl, fun r hr => ?_⟩
    rcases List.mem_cons.mp hr with rfl | hr
    · exact hn
    · exact hm r hr
theorem mat_of {d : PyData} (h : matD d = true) : ∃ m : List (List Int), d = matL m ∧ 1 ≤ m.length ∧ m.length ≤ 2 ∧ ∀ r ∈ m, r.length = m.length := by
  cases d with
  | list ds =>
    have h : (decide (1 ≤ ds.length) && decide (ds.length ≤ 2) && ds.all (lineD ds.length)) = true := h
    rw [Bool.and_eq_true, Bool.and_eq_true, decide_eq_true_eq, decide_eq_true_eq] at h
    obtain ⟨m, rfl, hm⟩ := lines_of h.2
    rw [List.length_map] at h hm
    exact ⟨m, rfl, h.1.1, h.1.2, hm⟩
  | _ => cases h
theorem line_yes {ns : List Int} : lineD ns.length (lineL ns) = true := by
  show ((ns.map PyData.int).length == ns.length && (ns.map PyData.int).all isI) = true
  rw [List.length_map, Bool.and_eq_true]
  refine ⟨by simp, ?_⟩
  rw [List.all_eq_true]
  intro d hd
  obtain ⟨i, _, rfl⟩ := List.mem_map.mp hd
  rfl
theorem mat_yes {m : List (List Int)} (h1 : 1 ≤ m.length) (h2 : m.length ≤ 2) (h : ∀ r ∈ m, r.length = m.length) : matD (matL m) = true := by
  show (decide (1 ≤ (m.map lineL).length) && decide ((m.map lineL).length ≤ 2) && (m.map lineL).all (lineD (m.map lineL).length)) = true
  rw [List.length_map, decide_eq_true h1, decide_eq_true h2]
  show (m.map lineL).all (lineD m.length) = true
  rw [List.all_eq_true]
  intro d hd
  obtain ⟨r, hr, rfl⟩ := List.mem_map.mp hd
  rw [← h r hr]
  exact line_yes
section
variable {K : PySem.W.Frag} {H : Hp}
theorem shs_ints : ∀ {ns : List Int} {xs : List V} {as : List Addr}, Shs K H xs (ns.map .int) as → xs = ns.map V.int
  | [], _, _, h => by cases h; rfl
  | n :: ns, _, _, h => by
    cases h with
    | cons h1 h2 =>
      cases h1
      rw [shs_ints h2]; rfl
theorem sh_line {ns : List Int} {v : V} {as : List Addr} (h : Sh K H v (lineL ns) as) : ∃ a, v = .ref a ∧ SqL K H a (ns.map V.int) := by
  cases h with
  | lst h1 h2 =>
    rw [shs_ints h2] at h1
    exact ⟨_, rfl, h1⟩
/-- the lists ls are the lines m -/
abbrev Lns (K : PySem.W.Frag) (H : Hp) (ls : List Addr) (m : List (List Int)) : Prop := Paired (fun l r => SqL K H l (r.map V.int)) ls m
theorem shs_lines : ∀ {m : List (List Int)} {xs : List V} {as : List Addr}, Shs K H xs (m.map lineL) as → ∃ ls : List Addr, xs = ls.map .ref ∧ Lns K H ls m
  | [], _, _, h => by cases h; exact ⟨[], rfl, .nil⟩
  | r :: m, _, _, h => by
    cases h with
    | cons h1 h2 =>
      obtain ⟨a, rfl, e⟩ := sh_line h1
      obtain ⟨ls, rfl, q⟩ := shs_lines h2
      exact ⟨a :: ls, rfl, .cons e q⟩
theorem sh_mat {m : List (List Int)} {v : V} {as : List Addr} (h : Sh K H v (matL m) as) : ∃ a ls, v = .ref a ∧ SqL K H a (ls.map .ref) ∧ Lns K H ls m := by
  cases h with
  | lst h1 h2 =>
    obtain ⟨ls, rfl, q⟩ := shs_lines h2
    exact ⟨_, ls, rfl, h1, q⟩
theorem int_shs : ∀ (ns : List Int), Shs K H (ns.map V.int) (ns.map .int) []
  | [] => .nil
  | n :: ns => .cons (as := []) (bs := []) (.int n) (int_shs ns)
theorem line_sh {ns : List Int} {a : Addr} (h : SqL K H a (ns.map V.int)) : Sh K H (.ref a) (lineL ns) [a] := .lst h (int_shs ns)
theorem lines_shs : ∀ {ls : List Addr} {m : List (List Int)}, Lns K H ls m → Shs K H (ls.map .ref) (m.map lineL) ls
  | _, _, .nil => .nil
  | _, _, .cons h t => .cons (as := [_]) (line_sh h) (lines_shs t)
theorem mat_sh {m : List (List Int)} {a : Addr} {ls : List Addr} (h : SqL K H a (ls.map .ref)) (q : Lns K H ls m) : Sh K H (.ref a) (matL m) (a :: ls) := .lst h (lines_shs q)
end
theorem Paired.snoc {α β : Type} {R : α → β → Prop} : ∀ {xs : List α} {ys : List β} {x : α} {y : β}, Paired R xs ys → R x y → Paired R (xs ++ [x]) (ys ++ [y])
  | _, _, _, _, .nil, h => .cons h .nil
  | _, _, _, _, .cons a t, h => .cons a (Paired.snoc t h)
theorem Paired.at {α β : Type} {R : α → β → Prop} : ∀ {xs : List α} {ys : List β} {i : Nat} {x : α}, Paired R xs ys → xs[i]? = some x → ∃ y, ys[i]? = some y ∧ R x y
  | _, _, _, _, .nil, e => by simp at e
  | _, _, 0, _, .cons h _, e => by simp at e; subst e; exact ⟨_, rfl, h⟩
  | _, _, i + 1, _, .cons _ t, e => by
    obtain ⟨y, h1, h2⟩ := Paired.at (i := i) t (by simpa using e)
    exact ⟨y, by simpa using h1, h2⟩
/-- list(slot i) -/
abbrev rLsO (K : PySem.W.Frag) : List V → Hp → VK → Prop := fun xs H Q => ∃ p ys, xs = [.ref p] ∧ (SqL K H p ys ∨ SqT K H p ys) ∧ ∀ l, H l = none → Q (.ref l) (upd H l (.lst ys))
abbrev tLsO (K : PySem.W.Frag) (i : Nat) : TE := tCB (rLsO K) (tCons (tVar i) tNil)
/-- new lists ls, the lines m -/
abbrev New2 (H H' : Hp) (D : Addr) (ls : List Addr) (m : List (List Int)) : Prop := Paired (fun l r => H' l = some (.lst (r.map V.int)) ∧ H l = none ∧ l ≠ D) ls m
theorem SqL.mono {K : PySem.W.Frag} {H H' : Hp} {a : Addr} {xs : List V} (h : SqL K H a xs) (s : Same H H') : SqL K H' a xs := s.seq h
/-- [list(x) for x in ..] of lines -/
theorem copy_run {K : PySem.W.Frag} {σ : St} {H : Hp} {a : Addr} {ls : List Addr} {m : List (List Int)} {i0 : Nat} {Q : Addr → Hp → Prop} (hi : i0 < σ.length) (hs : SqL K H a (ls.map .ref)) (hl : Lns K H ls m) (hn : m.length ≤ 1000)
    (h : ∀ D ls' H', H D = none → Same H H' → New2 H H' D ls' m → H' D = some (.lst (ls'.map .ref)) → Q D H') :
    ∀ D, H D = none → ∃ W : Nat → Nat → Hp → Prop, (∃ m, W 0 m (upd H D (.lst []))) ∧ ∀ i m H, W i m H → ((Itl K a).stop i H ∧ Q D H) ∨ ((Itl K a).go i H ∧ ∃ Nx : Hp → Prop, (∀ H', Nx H' → ∃ m', m' < m ∧ W (i + 1) m' H') ∧ ∀ x H', (Itl K a).yld i H x H' →
      gName i0 x (wipe σ [i0]) H' fun σ2 H2 => wipe σ2 [i0] = wipe σ [i0] ∧ tYes σ2 H2 fun b H3 => if b = true then tLsO K i0 σ2 H3 fun y H4 => ∃ acc, H4 D = some (.lst acc) ∧ acc.length < sizeLine ∧ Nx (upd H4 D (.lst (acc ++ [y]))) else Nx H3) := by
  intro D hD
  have one : (wipe σ [i0]).length = σ.length := wipe_length _ _
  refine lc_list (xs := ls.map V.ref) (fun j H' => ∃ ls', Same H H' ∧ New2 H H' D ls' (m.take j) ∧ H' D = some (.lst (ls'.map .ref))) ⟨[], same_new hD, .nil, upd_same⟩ (fun i H' _ hP => ?_) (fun i x H' hx hP => ?_) fun H' hP => ?_
  · obtain ⟨_, s, _⟩ := hP
    exact SqL.mono hs s
  · obtain ⟨ls', s, nw, e⟩ := hP
    rw [List.getElem?_map] at hx
    cases el : ls[i]? with
    | none => rw [el] at hx; cases hx
    | some l =>
      rw [el] at hx
      cases hx
      obtain ⟨r, hr, hlr⟩ := Paired.at hl el
      have hi2 : i < m.length := (List.getElem?_eq_some_iff.mp hr).1
      refine ⟨by show wipe ((wipe σ [i0]).set i0 _) [i0] = wipe σ [i0]; simp [wipe, List.set_set], ?_⟩
      show tLsO K i0 ((wipe σ [i0]).set i0 (some (.ref l))) H' _
      refine ⟨_, by rw [List.getElem?_set_self (by rw [one]; exact hi)], l, _, rfl, .inl (SqL.mono hlr s), fun q hq => ?_⟩
      have hqD : q ≠ D := fun z => by rw [z, e] at hq; cases hq
      have hln : ls'.length = i := by
        have := Paired.length nw
        rw [this, List.length_take]
        omega
      refine ⟨_, by rw [upd_ne hqD.symm]; exact e, by rw [List.length_map, hln, sizeLine_eq]; omega, ls' ++ [q], ?_, ?_, by rw [upd_same, List.map_append]; rfl⟩
      · intro b o hb
        rw [upd_ne (ne_of_none hb hD), upd_ne (ne_of_none (s b o hb) hq)]
        exact s b o hb
      · have et : m.take (i + 1) = m.take i ++ [r] := by
          rw [List.take_add_one, hr]
          rfl
        rw [et]
        refine Paired.snoc (Paired.mapP nw fun l' r' h => ?_) ⟨?_, s.free hq, hqD⟩
        · obtain ⟨h1, h2, h3⟩ := h
          refine ⟨?_, h2, h3⟩
          rw [upd_ne h3, upd_ne (ne_of_none h1 hq)]
          exact h1
        · rw [upd_ne hqD, upd_same]
  · obtain ⟨ls', s, nw, e⟩ := hP
    rw [List.length_map, Paired.length hl, List.take_length] at nw
    exact h D ls' H' hD s nw e
end L2.Ch

/-! # a change: made, or refused; what it tells -/
namespace L2.Ch
open PySem PySem.Spec PyProof.Rows L2.Vf L2.Dw
abbrev sCh : Stmt := top 13
abbrev sIn : Stmt := inClass sCh 0
abbrev sMx : Stmt := inClass sCh 1
abbrev sOf : Stmt := inClass sCh 2
/-- a matrix and offsets that fit -/
structure Shp (m : List (List Int)) (o : List Int) : Prop where
  lo : 1 ≤ m.length
  hi : m.length ≤ 2
  sq : ∀ r ∈ m, r.length = m.length
  of : o.length = m.length
/-- at p: a change of m, o and t; its parts: ps -/
def Chg (C : Addr) (H : Hp) (p : Addr) (m : List (List Int)) (o : List Int) (t : Bool) (ps : List Addr) : Prop := ∃ (dx a b : Addr) (ls : List Addr), ps = p :: a :: b :: ls ∧
  H p = some (.ins C dx [("width", .int (m.length : Nat)), ("turns", .bl t), ("_matrix", .ref a), ("_offsets", .ref b)]) ∧ H a = some (.lst (ls.map .ref)) ∧ Paired (fun l r => H l = some (.lst (r.map V.int))) ls m ∧ H b = some (.lst (o.map V.int))
theorem paired_mem {α β : Type} {R S : α → β → Prop} : ∀ {xs : List α} {ys : List β}, Paired R xs ys → (∀ x y, x ∈ xs → R x y → S x y) → Paired S xs ys
  | _, _, .nil, _ => .nil
  | _, _, .cons h t, k => .cons (k _ _ List.mem_cons_self h) (paired_mem t fun x y m => k x y (List.mem_cons_of_mem _ m))
theorem Chg.stay {C : Addr} {H H' : Hp} {p : Addr} {m : List (List Int)} {o : List Int} {t : Bool} {ps : List Addr} (h : Chg C H p m o t ps) (k : ∀ x ∈ ps, ∀ u, H x = some u → H' x = some u) : Chg C H' p m o t ps := by
  obtain ⟨dx, a, b, ls, rfl, h1, h2, h3, h4⟩ := h
  refine ⟨dx, a, b, ls, rfl, k _ (by simp) _ h1, k _ (by simp) _ h2, ?_, k _ (by simp) _ h4⟩
  exact paired_mem h3 fun l r hl e => k l (by simp [hl]) _ e
theorem Chg.mono {C : Addr} {H H' : Hp} {p : Addr} {m : List (List Int)} {o : List Int} {t : Bool} {ps : List Addr} (h : Chg C H p m o t ps) (s : Same H H') : Chg C H' p m o t ps := h.stay fun x _ u e => s x u e
theorem Chg.keep {C : Addr} {H H' : Hp} {p g : Addr} {m : List (List Int)} {o : List Int} {t : Bool} {ps : List Addr} (h : Chg C H p m o t ps) (s : Keep g H H') (n : g ∉ ps) : Chg C H' p m o t ps := h.stay fun x hx u e => s x u (fun z => n (z ▸ hx)) e
theorem mat_le {m : List (List Int)} (h : matD (matL m) = true) : m.length ≤ 2 := by
  have h : (decide (1 ≤ (m.map lineL).length) && decide ((m.map lineL).length ≤ 2) && (m.map lineL).all (lineD (m.map lineL).length)) = true := h
  rw [Bool.and_eq_true, Bool.and_eq_true, decide_eq_true_eq, decide_eq_true_eq, List.length_map] at h
  exact h.1.2
/-- an instance is no list -/
theorem SqL.keepI {K : PySem.W.Frag} {H H' : Hp} {a p : Addr} {xs : List V} {C dx : Addr} {fs : List (Str × V)} (h : SqL K H a xs) (hp : H p = some (.ins C dx fs)) (k : Keep p H H') : SqL K H' a xs := by
  rcases h with (h | ⟨o, h⟩) | h
  · exact .inl (.inl (k _ _ (fun z => by rw [z, hp] at h; cases h) h))
  · exact .inl (.inr ⟨o, k _ _ (fun z => by rw [z, hp] at h; cases h) h⟩)
  · exact .inr h
/-- what making a change ends in -/
def InRest (C CL CN p : Addr) (vm vo vt : V) (dm do_ dt : PyData) (H : Hp) (Q : VK) (E : XK) : Prop :=
  (matD dm = false ∧ ∀ d, H d = none → E (.ref CL) (some d) (upd H d (.xd [("value", vm)]))) ∨
  ∃ m, dm = matL m ∧ matD dm = true ∧ ((lineD m.length do_ = false ∧ ∀ d, H d = none → E (.ref CL) (some d) (upd H d (.xd [("value", vo)]))) ∨
    ∃ o, do_ = lineL o ∧ o.length = m.length ∧ (((tyD dt == "bool") = false ∧ ∀ d, H d = none → E (.ref CN) (some d) (upd H d (.xd [("value", vt)]))) ∨
      ∃ t, dt = .bool t ∧ ∀ H' ps, (∀ x ∈ ps, x ≠ p → H x = none) → Keep p H H' → Chg C H' p m o t ps → Q .non H'))
def spIn (K : PySem.W.Frag) (C CL CN : Addr) : Sp := fun vs H Q E => ∃ (p dx : Addr) (vm vo vt : V) (dm do_ dt : PyData) (s1 s2 s3 : List Addr), vs = [.ref p, vm, vo, vt] ∧ H p = some (.ins C dx []) ∧ Sh K H vm dm s1 ∧ Sh K H vo do_ s2 ∧ Sh K H vt dt s3 ∧
  InRest C CL CN p vm vo vt dm do_ dt H Q E
/-- what the written part says of an error's class and its making -/
structure ErT (P : Program) (w : World) (K : PySem.W.Frag) (mg : Str → Option Value) (base : Heap) (x : Str) (C fI : Addr) (fd : FuncData) : Prop where
  cl : ErC K C fI "value"
  fi : FnOk P w K mg base CX0 1 fI fd ["self", "value"] (spInit K "value")
  b1 : Binds K fd ["self", "value"] []
  mg_ : mg x = some (.ref C)
/-- what it says of the class Change -/
structure ChT (K : PySem.W.Frag) (mg : Str → Option Value) (C : Addr) : Prop where
  cl : Cls K C
  nW : NoAttr K C "width"
  nT : NoAttr K C "turns"
  nM : NoAttr K C "_matrix"
  nO : NoAttr K C "_offsets"
  mg_ : mg "Change" = some (.ref C)
abbrev nIn : List Str := ["self", "matrix", "offsets", "turns", "line"]
theorem scIn : FnScope nIn ["self", "matrix", "offsets", "turns"] (defScope sIn) := ⟨rfl, rfl, rfl, by decide +kernel, rfl, by decide +kernel, by decide +kernel⟩
section
variable {P : Program} {w : World} {K : PySem.W.Frag} {mg : Str → Option Value} {base : Heap}
theorem ok_in {C CL CN iL iN f fM fL : Addr} {fd dM dL dIL dIN : FuncData} (F : FunD K "__init__" "Change.__init__" (defArgs sIn) (defBody sIn) (defScope sIn) [] [("turns", .bl false)] f fd) (N : Nm mg) (T : ChT K mg C) (EL : ErT P w K mg base "InvalidList" CL iL dIL) (EN : ErT P w K mg base "InvalidNumber" CN iN dIN)
    (GM : FnOk P w K mg base CX0 4 fM dM ["value"] (spAsk K matD)) (mM : mg "is_matrix" = some (.ref fM)) (kM : PySem.W.keepIn K (.ref fM) = true) (bM : Binds K dM ["value"] [])
    (GL : FnOk P w K mg base CX0 3 fL dL ["value", "many"] (spAsk2 K lineD)) (mL : mg "is_line" = some (.ref fL)) (kL : PySem.W.keepIn K (.ref fL) = true) (bL : Binds K dL ["value", "many"] []) :
    FnOk P w K mg base (L2.CX P w) 5 f fd ["self", "matrix", "offsets", "turns"] (spIn K C CL CN) := by
  refine F.ok scIn (fun vs H Q E h => ?_) fun cdv A outer s H vs Q E hr h => ?_
  · obtain ⟨p, dx, vm, vo, vt, dm, do_, dt, s1, s2, s3, rfl, _⟩ := h
    rfl
  · obtain ⟨p, dx, vm, vo, vt, dm, do_, dt, s1, s2, s3, rfl, hp, h1, h2, h3, q⟩ := h
    have hr2 := hr.mono (show 2 ≤ 4 by decide)
    refine ⟨_, pss_cons (ps_if (pt_not (pt_val (pe_call GM hr rfl mM kM bM .nil pass0 (pa_cons (pv 1) pa_nil)))) (pss_one (ps_raiseE rfl EL.cl EL.fi EL.b1 hr2 (takes_of rfl rfl rfl rfl) (by rfl) EL.mg_ (pa_cons (pv 1) pa_nil))) pss_nil)
      (pss_cons (ps_if (pt_not (pt_val (pe_call GL (hr.mono (by decide)) rfl mL kL bL .nil pass0 (pa_cons (pv 2) (pa_cons (pe_callB call_len_seq (by rfl) N.len PySem.boot_len (pa_cons (pv 1) pa_nil)) pa_nil))))) (pss_one (ps_raiseE rfl EL.cl EL.fi EL.b1 hr2 (takes_of rfl rfl rfl rfl) (by rfl) EL.mg_ (pa_cons (pv 2) pa_nil))) pss_nil)
      (pss_cons (ps_if (pt_not (pt_val (pe_callB call_isi (by rfl) N.isi boot_isi (pa_cons (pv 3) (pa_cons (pe_bltn (v := V.ty "bool") (by rfl) N.bool PyProof.Rows.boot_bool (by rfl)) pa_nil))))) (pss_one (ps_raiseE rfl EN.cl EN.fi EN.b1 hr2 (takes_of rfl rfl rfl rfl) (by rfl) EN.mg_ (pa_cons (pv 3) pa_nil))) pss_nil)
      (pss_cons (ps_fld (pv 0) (pe_callB call_len_seq (by rfl) N.len PySem.boot_len (pa_cons (pv 1) pa_nil)) rfl)
      (pss_cons (ps_fld (pv 0) (pv 3) rfl)
      (pss_cons (ps_fld (pv 0) (pe_lc (own := [("line", 4)]) (g := gName 4) (tt := tYes) (te := tLsO K 4) rfl scIn.nd (pi_list (pv 1)) (blkOk_by (N := nIn) (sc := defScope sIn) (by decide +kernel)) (fun _ _ _ _ _ => pg_name (i := 4) scIn.nd rfl (Or.inl rfl)) (fun _ _ _ _ _ => pts_nil) (fun _ _ _ _ _ => pe_callTy call_list_of (by rfl) N.lst PyProof.Rows.boot_list (pa_cons (pv 4) pa_nil))) rfl)
      (pss_one (ps_fld (pv 0) (pe_callTy call_list_of (by rfl) N.lst PyProof.Rows.boot_list (pa_cons (pv 2) pa_nil)) rfl))))))), ?_⟩
    refine ⟨_, rfl, vm, dm, s1, rfl, h1, ⟨_, rfl, ?_⟩⟩
    rcases q with ⟨e1, q⟩ | ⟨m, rfl, e1, q⟩
    · rw [e1]
      exact iteT ⟨vm, rfl, q⟩
    · rw [e1]
      obtain ⟨a, ls, rfl, ha, hls⟩ := sh_mat h1
      have lm : (ls.map V.ref).length = m.length := by rw [List.length_map]; exact Paired.length hls
      have hm2 := mat_le e1
      refine iteF ⟨_, rfl, _, rfl, a, _, rfl, .inl ha, vo, do_, s2, m.length, by rw [lm]; rfl, h2, ⟨_, rfl, ?_⟩⟩
      rcases q with ⟨e2, q⟩ | ⟨o, rfl, lo, q⟩
      · rw [e2]
        exact iteT ⟨vo, rfl, q⟩
      · rw [← lo, line_yes]
        refine iteF (isT_run (i := 3) rfl h3 (kit_bool dt) ⟨_, rfl, ?_⟩)
        rcases q with ⟨e3, q⟩ | ⟨t, rfl, q⟩
        · rw [e3]
          exact iteT ⟨vt, rfl, q⟩
        · cases h3
          refine iteF ?_
          obtain ⟨b, rfl, hb⟩ := sh_line h2
          -- self.width
          refine ⟨_, rfl, a, _, rfl, .inl ha, _, rfl, p, C, dx, _, rfl, hp, T.cl, T.nW, by decide, ?_⟩
          -- self.turns
          refine ⟨_, rfl, _, rfl, p, C, dx, _, rfl, upd_same, T.cl, T.nT, (by show 1 < 1000; decide), ?_⟩
          rw [upd_upd, lm]
          -- self._matrix
          have k0 : Keep p H (upd H p (.ins C dx (putF "turns" (.bl t) (putF "width" (.int (m.length : Nat)) [])))) := keep_upd
          have hls0 : Lns K (upd H p (.ins C dx (putF "turns" (.bl t) (putF "width" (.int (m.length : Nat)) [])))) ls m := Paired.mapP hls fun _ _ h => SqL.keepI h hp k0
          refine ⟨_, rfl, a, rfl, ⟨_, SqL.keepI ha hp k0⟩, ?_⟩
          refine copy_run (σ := start nIn [.ref p, .ref a, .ref b, .bl t]) (show 4 < 5 by decide) (SqL.keepI ha hp k0) hls0 (by omega) fun D ls' H1 hD s1 nw eD => ?_
          have hp1 := s1 _ _ (upd_same (H := H) (a := p) (o := .ins C dx (putF "turns" (.bl t) (putF "width" (.int (m.length : Nat)) []))))
          refine ⟨_, rfl, p, C, dx, _, rfl, hp1, T.cl, T.nM, (by show 2 < 1000; decide), ?_⟩
          -- self._offsets
          have pD : p ≠ D := ne_of_none upd_same hD
          have k1 : Keep p H (upd H1 p (.ins C dx (putF "_matrix" (.ref D) (putF "turns" (.bl t) (putF "width" (.int (m.length : Nat)) []))))) := (k0.trans (.of s1)).trans keep_upd
          refine ⟨_, rfl, b, _, rfl, .inl (SqL.keepI hb hp k1), fun l hl => ⟨_, rfl, p, C, dx, putF "_matrix" (.ref D) (putF "turns" (.bl t) (putF "width" (.int (m.length : Nat)) [])), rfl, ?_, T.cl, T.nO, (by show 3 < 1000; decide), ?_⟩⟩
          · rw [upd_ne (ne_of_none upd_same hl), upd_same]
          have pl : p ≠ l := ne_of_none upd_same hl
          have none0 : ∀ x, x ≠ p → H1 x = none → H x = none := fun x hx h => by
            by_cases z : H x = none
            · exact z
            · obtain ⟨u, hu⟩ := Option.ne_none_iff_exists'.mp z
              rw [s1 _ _ (k0 _ _ hx hu)] at h
              cases h
          have hl1 : H1 l = none := by rw [upd_ne pl.symm] at hl; exact hl
          have lD : l ≠ D := fun z => by rw [z, eD] at hl1; cases hl1
          refine q _ (p :: D :: l :: ls') (fun x hx hxp => ?_) ((k1.new hl).trans keep_upd) ⟨dx, D, l, ls', rfl, upd_same, ?_, ?_, ?_⟩
          · rcases List.mem_cons.mp hx with rfl | hx
            · exact absurd rfl hxp
            · rcases List.mem_cons.mp hx with rfl | hx
              · rw [upd_ne hxp] at hD; exact hD
              · rcases List.mem_cons.mp hx with rfl | hx
                · exact none0 _ hxp hl1
                · obtain ⟨j, hj⟩ := List.getElem?_of_mem hx
                  obtain ⟨r, _, _, h2, _⟩ := Paired.at nw hj
                  rw [upd_ne hxp] at h2; exact h2
          · rw [upd_ne pD.symm, upd_ne lD.symm, upd_ne pD.symm]
            exact eD
          · refine Paired.mapP nw fun x r h => ?_
            obtain ⟨h1, h2, h3⟩ := h
            have xp : x ≠ p := fun z => by rw [z, upd_same] at h2; cases h2
            have xl : x ≠ l := fun z => by rw [z, hl1] at h1; cases h1
            rw [upd_ne xp, upd_ne xl, upd_ne xp]
            exact h1
          · rw [upd_ne pl.symm, upd_same]
end
end L2.Ch

/-! # products of lines and parts; the parts that a change makes -/
namespace L2.Ch
open PySem PySem.Spec PyProof.Rows L2.Vf L2.Dw
abbrev sDo : Stmt := top 15
abbrev sCp : Stmt := top 16
def Big (r : List Int) : Prop := ∀ x ∈ r, x.natAbs < 2 ^ 10000
def dotL (r c : List Int) : Int := (List.zipWith (· * ·) r c).sum
def chC (m : List (List Int)) (o c : List Int) : List Int := List.zipWith (fun r x => x + dotL r c) m o
/-- a, b in zip(slot i, slot j): two lists, or a list and a tuple -/
def iZipB (K : PySem.W.Frag) (i j : Nat) : TI := fun σ H R => ∃ a b, σ[i]? = some (some (.ref a)) ∧ σ[j]? = some (some (.ref b)) ∧ ∃ xs ys, SqL K H a xs ∧ ((SqL K H b ys ∧ R (Itz K a b) H) ∨ (SqT K H b ys ∧ R (ItzM K a b) H))
theorem pi_zipB {X : Cx} {tg e : Expr} {i j : Nat} (h1 : PI X tg e (iZip X.K (tCons (tVar i) (tCons (tVar j) tNil)))) (h2 : PI X tg e (iZipM X.K (tCons (tVar i) (tCons (tVar j) tNil)))) : PI X tg e (iZipB X.K i j) := by
  refine ⟨fun pins s σ H R I h => ?_⟩
  obtain ⟨a, b, e1, e2, xs, ys, hx, ⟨hy, q⟩ | ⟨hy, q⟩⟩ := h
  · exact h1.run pins s σ H R I ⟨_, e1, _, e2, a, b, xs, ys, rfl, hx, hy, q⟩
  · exact h2.run pins s σ H R I ⟨_, e1, _, e2, a, b, xs, ys, rfl, hx, hy, q⟩
abbrev gPair (K : PySem.W.Frag) (i j : Nat) : TG := gTup K 2 (gCons (gName i) (gCons (gName j) gNil))
abbrev tMul (i j : Nat) : TE := tOp (rI CMulW fun i j => .int (i * j)) (tVar i) (tVar j)
def spDo (K : PySem.W.Frag) : Sp := fun vs H Q _ => ∃ (a b : Addr) (r c : List Int), vs = [.ref a, .ref b] ∧ SqL K H a (r.map V.int) ∧ (SqL K H b (c.map V.int) ∨ SqT K H b (c.map V.int)) ∧ Big r ∧ Big c ∧ r.length = c.length ∧ c.length ≤ 1000 ∧ ∀ H', Same H H' → Q (.int (dotL r c)) H'
theorem zw_at {r c : List Int} {i : Nat} {x y : Int} (hx : r[i]? = some x) (hy : c[i]? = some y) : (List.zipWith (· * ·) r c)[i]? = some (x * y) := by
  rw [List.getElem?_zipWith, hx, hy]
theorem map_at {r : List Int} {i : Nat} {v : V} (h : (r.map V.int)[i]? = some v) : ∃ x, r[i]? = some x ∧ v = .int x := by
  rw [List.getElem?_map] at h
  cases e : r[i]? with
  | none => rw [e] at h; cases h
  | some x => rw [e] at h; cases h; exact ⟨x, rfl, rfl⟩
section
variable {K : PySem.W.Frag} {H : Hp} {σ : St} {r c : List Int} {J : It} {G : Hp → Prop} {Q : Addr → Hp → Prop}
theorem dot_run (w : Walk J r.length G (YPair (fun i => (r.map V.int)[i]?) (fun i => (c.map V.int)[i]?))) (hσ : 3 < σ.length) (hG : ∀ H', Same H H' → G H') (hr : Big r) (hc : Big c) (hl : r.length = c.length) (h1 : c.length ≤ 1000)
    (h : ∀ D H', Same H H' → H' D = some (.lst ((List.zipWith (· * ·) r c).map V.int)) → Q D H') :
    ∀ D, H D = none → ∃ W : Nat → Nat → Hp → Prop, (∃ m, W 0 m (upd H D (.lst []))) ∧ ∀ i m H, W i m H → (J.stop i H ∧ Q D H) ∨ (J.go i H ∧ ∃ Nx : Hp → Prop, (∀ H', Nx H' → ∃ m', m' < m ∧ W (i + 1) m' H') ∧ ∀ x H', J.yld i H x H' →
      gPair K 2 3 x (wipe σ [2, 3]) H' fun σ2 H2 => wipe σ2 [2, 3] = wipe σ [2, 3] ∧ tYes σ2 H2 fun b H3 => if b = true then tMul 2 3 σ2 H3 fun y H4 => ∃ acc, H4 D = some (.lst acc) ∧ acc.length < sizeLine ∧ Nx (upd H4 D (.lst (acc ++ [y]))) else Nx H3) := by
  intro D hD
  have len : (wipe σ [2, 3]).length = σ.length := wipe_length _ _
  refine lc_it w (fun j H' => Same H H' ∧ H' D = some (.lst (((List.zipWith (· * ·) r c).take j).map V.int))) ⟨same_new hD, upd_same⟩ (fun i H' _ hP => hG H' hP.1) (fun i v H' H2 hi hP hy => ?_) fun H' hP => ?_
  · obtain ⟨s, e⟩ := hP
    obtain ⟨T, vx, vy, rfl, hT, rfl, hx, hy⟩ := hy
    obtain ⟨x, ex, rfl⟩ := map_at hx
    obtain ⟨y, ey, rfl⟩ := map_at hy
    refine ⟨T, _, rfl, .inl (.inl upd_same), rfl, _, _, rfl, _, _, rfl, rfl, ?_⟩
    refine ⟨by show wipe (((wipe σ [2, 3]).set 2 _).set 3 _) [2, 3] = wipe σ [2, 3]; simp [wipe, List.set_set, List.set_comm], ?_⟩
    show tMul 2 3 (((wipe σ [2, 3]).set 2 (some (.int x))).set 3 (some (.int y))) _ _
    have bx := hr x (List.mem_of_getElem? ex)
    have by' := hc y (List.mem_of_getElem? ey)
    have DT : D ≠ T := fun z => by rw [z, hT] at e; cases e
    refine ⟨_, by rw [List.getElem?_set_ne (by decide), List.getElem?_set_self (by rw [len]; omega)], _, by rw [List.getElem?_set_self (by rw [List.length_set, len]; omega)], x, y, rfl, rfl, wide_mul bx by' (by decide) (by decide) (by decide), ?_⟩
    refine ⟨_, by rw [upd_ne DT]; exact e, by rw [List.length_map, List.length_take, List.length_zipWith, sizeLine_eq]; omega, fun b o hb => ?_, ?_⟩
    · rw [upd_ne (ne_of_none hb hD), upd_ne (ne_of_none (s b o hb) hT)]
      exact s b o hb
    · rw [upd_same, List.take_add_one, zw_at ex ey, List.map_append]
      rfl
  · obtain ⟨s, e⟩ := hP
    rw [List.take_of_length_le (by rw [List.length_zipWith]; omega)] at e
    exact h D H' s e
end
section
variable {P : Program} {w : World} {K : PySem.W.Frag} {mg : Str → Option Value} {base : Heap}
abbrev nDo : List Str := ["factors", "parts", "factor", "part"]
theorem scDo : FnScope nDo ["factors", "parts"] (defScope sDo) := ⟨rfl, rfl, rfl, by decide +kernel, rfl, by decide +kernel, by decide +kernel⟩
theorem ok_do {f : Addr} {fd : FuncData} (F : Fun K "dot" "dot" sDo f fd) (N : Nm mg) : FnOk P w K mg base CX0 1 f fd ["factors", "parts"] (spDo K) := by
  refine F.ok scDo (fun vs H Q E h => ?_) fun cdv A outer s H vs Q E hr h => ?_
  · obtain ⟨a, b, r, c, rfl, _⟩ := h
    rfl
  · obtain ⟨a, b, r, c, rfl, ha, hb, hr', hc, hl, h1, q⟩ := h
    refine ⟨_, pss_one (ps_ret (pe_callB (cr_sum rfl) (by rfl) N.sum PyProof.Rows.boot_sum (pa_cons
      (pe_lc (own := [("factor", 2), ("part", 3)]) (g := gPair K 2 3) (tt := tYes) (te := tMul 2 3) rfl scDo.nd (pi_zipB (pi_zip (by rfl) N.zip (pa_cons (pv 0) (pa_cons (pv 1) pa_nil))) (pi_zipM (by rfl) N.zip (pa_cons (pv 0) (pa_cons (pv 1) pa_nil)))) (blkOk_by (N := nDo) (sc := defScope sDo) (by decide +kernel))
        (fun _ _ _ _ _ => pg_tup rfl (pgs_cons (pg_name (i := 2) scDo.nd rfl (Or.inl rfl)) (pgs_cons (pg_name (i := 3) scDo.nd rfl (Or.inl rfl)) pgs_nil))) (fun _ _ _ _ _ => pts_nil) (fun _ _ _ _ _ => pe_op op_mulW (pv 2) (pv 3))) pa_nil))), ?_⟩
    have fin : ∀ D H', Same H H' → H' D = some (.lst ((List.zipWith (· * ·) r c).map V.int)) → rSum K [.ref D] H' Q := fun D H' s e => ⟨D, _, rfl, SqL.of e, q H' s⟩
    have hn : r.length = min (r.map V.int).length (c.map V.int).length := by rw [List.length_map, List.length_map]; omega
    rcases hb with hb | hb
    · exact ⟨a, b, rfl, rfl, _, _, ha, .inl ⟨hb, dot_run (σ := start nDo [.ref a, .ref b]) (walk_zip hn) (show 3 < 4 by decide) (fun H' s => ⟨SqL.mono ha s, SqL.mono hb s⟩) hr' hc hl h1 fin⟩⟩
    · exact ⟨a, b, rfl, rfl, _, _, ha, .inr ⟨hb, dot_run (σ := start nDo [.ref a, .ref b]) (walk_zipM hn) (show 3 < 4 by decide) (fun H' s => ⟨SqL.mono ha s, hb.elim (fun h => .inl (h.elim (fun h => .inl (s _ _ h)) fun ⟨o, h⟩ => .inr ⟨o, s _ _ h⟩)) .inr⟩) hr' hc hl h1 fin⟩⟩
abbrev nCp : List Str := ["matrix", "offsets", "parts", "line", "offset"]
theorem scCp : FnScope nCp ["matrix", "offsets", "parts"] (defScope sCp) := ⟨rfl, rfl, rfl, by decide +kernel, rfl, by decide +kernel, by decide +kernel⟩
/-- what fits to be multiplied -/
structure Fit (m : List (List Int)) (o c : List Int) : Prop where
  big : ∀ r ∈ m, Big r ∧ r.length = c.length
  bigC : Big c
  of : o.length = m.length
  small : c.length ≤ 1000
  few : m.length ≤ 1000
def spCp (K : PySem.W.Frag) : Sp := fun vs H Q _ => ∃ (a b p : Addr) (ls : List Addr) (m : List (List Int)) (o c : List Int), vs = [.ref a, .ref b, .ref p] ∧ SqL K H a (ls.map .ref) ∧ Lns K H ls m ∧ SqL K H b (o.map V.int) ∧ (SqL K H p (c.map V.int) ∨ SqT K H p (c.map V.int)) ∧ Fit m o c ∧
  ∀ D H', H D = none → Same H H' → H' D = some (.lst ((chC m o c).map V.int)) → Q (.ref D) H'
abbrev tCpE (K : PySem.W.Frag) : TE := tOp (rI0 fun i j => .int (i + j)) (tVar 4) (tCall (spDo K) [] E0 (tCons (tVar 3) (tCons (tVar 2) tNil)))
theorem SqT.mono {H H' : Hp} {a : Addr} {xs : List V} (h : SqT K H a xs) (s : Same H H') : SqT K H' a xs := h.elim (fun h => .inl (h.elim (fun h => .inl (s _ _ h)) fun ⟨o, h⟩ => .inr ⟨o, s _ _ h⟩)) .inr
theorem cp_run {H : Hp} {σ : St} {a b p : Addr} {ls : List Addr} {m : List (List Int)} {o c : List Int} {Q : Addr → Hp → Prop} (hσ : 4 < σ.length) (h2 : σ[2]? = some (some (.ref p))) (ha : SqL K H a (ls.map .ref)) (hl : Lns K H ls m) (hb : SqL K H b (o.map V.int)) (hp : SqL K H p (c.map V.int) ∨ SqT K H p (c.map V.int)) (hF : Fit m o c)
    (h : ∀ D H', H D = none → Same H H' → H' D = some (.lst ((chC m o c).map V.int)) → Q D H') :
    ∀ D, H D = none → ∃ W : Nat → Nat → Hp → Prop, (∃ m, W 0 m (upd H D (.lst []))) ∧ ∀ i m H, W i m H → ((Itz K a b).stop i H ∧ Q D H) ∨ ((Itz K a b).go i H ∧ ∃ Nx : Hp → Prop, (∀ H', Nx H' → ∃ m', m' < m ∧ W (i + 1) m' H') ∧ ∀ x H', (Itz K a b).yld i H x H' →
      gPair K 3 4 x (wipe σ [3, 4]) H' fun σ2 H2 => wipe σ2 [3, 4] = wipe σ [3, 4] ∧ tYes σ2 H2 fun b H3 => if b = true then tCpE K σ2 H3 fun y H4 => ∃ acc, H4 D = some (.lst acc) ∧ acc.length < sizeLine ∧ Nx (upd H4 D (.lst (acc ++ [y]))) else Nx H3) := by
  intro D hD
  have len : (wipe σ [3, 4]).length = σ.length := wipe_length _ _
  have hml := Paired.length hl
  have hn : m.length = min (ls.map V.ref).length (o.map V.int).length := by rw [List.length_map, List.length_map, hml, hF.of]; omega
  have w2 : (wipe σ [3, 4])[2]? = some (some (.ref p)) := by
    simp [wipe, h2]
  refine lc_it (walk_zip hn) (fun j H' => Same H H' ∧ H' D = some (.lst (((chC m o c).take j).map V.int))) ⟨same_new hD, upd_same⟩ (fun i H' _ hP => ⟨SqL.mono ha hP.1, SqL.mono hb hP.1⟩) (fun i v H' H2 hi hP hy => ?_) fun H' hP => ?_
  · obtain ⟨s, e⟩ := hP
    obtain ⟨T, vx, vy, rfl, hT, rfl, hx, hy⟩ := hy
    have hx : (ls.map V.ref)[i]? = some vx := hx
    rw [List.getElem?_map] at hx
    cases el : ls[i]? with
    | none => rw [el] at hx; cases hx
    | some l =>
      rw [el] at hx
      cases hx
      obtain ⟨r, er, hlr⟩ := Paired.at hl el
      obtain ⟨x, ex, rfl⟩ := map_at hy
      refine ⟨T, _, rfl, .inl (.inl upd_same), rfl, _, _, rfl, _, _, rfl, rfl, ?_⟩
      refine ⟨by show wipe (((wipe σ [3, 4]).set 3 _).set 4 _) [3, 4] = wipe σ [3, 4]; simp [wipe, List.set_set, List.set_comm], ?_⟩
      show tCpE K (((wipe σ [3, 4]).set 3 (some (.ref l))).set 4 (some (.int x))) _ _
      have sT : Same H (upd H' T (.tup [.ref l, .int x])) := s.trans (same_new hT)
      have DT : D ≠ T := fun z => by rw [z, hT] at e; cases e
      obtain ⟨br, lr⟩ := hF.big r (List.mem_of_getElem? er)
      refine ⟨_, by rw [List.getElem?_set_self (by rw [List.length_set, len]; omega)], _, by rw [List.getElem?_set_ne (by decide), List.getElem?_set_self (by rw [len]; omega)], _, by rw [List.getElem?_set_ne (by decide), List.getElem?_set_ne (by decide)]; exact w2, l, p, r, c, rfl, SqL.mono hlr sT, hp.elim (fun h => .inl (SqL.mono h sT)) (fun h => .inr (SqT.mono h sT)), br, hF.bigC, lr, hF.small, fun H3 s3 => ⟨_, _, rfl, rfl, ?_⟩⟩
      have e3 : H3 D = some (.lst (((chC m o c).take i).map V.int)) := s3 _ _ (by rw [upd_ne DT]; exact e)
      have hc1 : (chC m o c)[i]? = some (x + dotL r c) := by
        unfold chC
        rw [List.getElem?_zipWith, er, ex]
      have lenC : (chC m o c).length ≤ m.length := by unfold chC; rw [List.length_zipWith]; omega
      refine ⟨_, e3, by rw [List.length_map, List.length_take, sizeLine_eq]; have := hF.few; omega, fun b' o' hb' => ?_, ?_⟩
      · rw [upd_ne (ne_of_none hb' hD)]
        exact s3 _ _ (sT _ _ hb')
      · rw [upd_same, List.take_add_one, hc1, List.map_append]
        rfl
  · obtain ⟨s, e⟩ := hP
    rw [List.take_of_length_le (by unfold chC; rw [List.length_zipWith]; omega)] at e
    exact h D H' hD s e
theorem ok_cp {f fD : Addr} {fd dD : FuncData} (F : Fun K "changed_parts" "changed_parts" sCp f fd) (N : Nm mg) (GD : FnOk P w K mg base CX0 1 fD dD ["factors", "parts"] (spDo K)) (mD : mg "dot" = some (.ref fD)) (kD : PySem.W.keepIn K (.ref fD) = true) (bD : Binds K dD ["factors", "parts"] []) : FnOk P w K mg base CX0 2 f fd ["matrix", "offsets", "parts"] (spCp K) := by
  refine F.ok scCp (fun vs H Q E h => ?_) fun cdv A outer s H vs Q E hr h => ?_
  · obtain ⟨a, b, p, ls, m, o, c, rfl, _⟩ := h
    rfl
  · obtain ⟨a, b, p, ls, m, o, c, rfl, ha, hl, hb, hp, hF, q⟩ := h
    refine ⟨_, pss_one (ps_ret (pe_lc (own := [("line", 3), ("offset", 4)]) (g := gPair K 3 4) (tt := tYes) (te := tCpE K) rfl scCp.nd (pi_zip (by rfl) N.zip (pa_cons (pv 0) (pa_cons (pv 1) pa_nil))) (blkOk_by (N := nCp) (sc := defScope sCp) (by decide +kernel))
        (fun _ _ _ _ _ => pg_tup rfl (pgs_cons (pg_name (i := 3) scCp.nd rfl (Or.inl rfl)) (pgs_cons (pg_name (i := 4) scCp.nd rfl (Or.inl rfl)) pgs_nil))) (fun _ _ _ _ _ => pts_nil) (fun _ _ _ _ _ => pe_op op_add (pv 4) (pe_call GD hr rfl mD kD bD .nil pass0 (pa_cons (pv 3) (pa_cons (pv 2) pa_nil)))))), ?_⟩
    exact ⟨_, rfl, _, rfl, a, b, _, _, rfl, ha, hb, cp_run (σ := start nCp [.ref a, .ref b, .ref p]) (show 4 < 5 by decide) rfl ha hl hb hp hF q⟩
end
end L2.Ch

/-! # a change's methods: matrix, offsets, == -/
namespace L2.Ch
open PySem PySem.Spec PyProof.Rows L2.Vf L2.Dw
abbrev sRw : Stmt := inClass sCh 3
abbrev sEq : Stmt := inClass sCh 5
/-! ### data compared -/
theorem eqv_ints : ∀ (a b : List Int), PyData.eqvAll (a.map PyData.int) (b.map PyData.int) = decide (a = b)
  | [], [] => by simp [PyData.eqvAll]
  | [], _ :: _ => by simp [PyData.eqvAll]
  | _ :: _, [] => by simp [PyData.eqvAll]
  | x :: a, y :: b => by
    simp only [List.map_cons, PyData.eqvAll, PyData.eqv, eqv_ints a b]
    by_cases h : x = y
    · subst h; simp
    · simp [h]
theorem eqv_line (a b : List Int) : PyData.eqv (lineL a) (lineL b) = decide (a = b) := by
  show PyData.eqv (.list _) (.list _) = _
  rw [PyData.eqv, eqv_ints]
theorem eqv_lines : ∀ (a b : List (List Int)), PyData.eqvAll (a.map lineL) (b.map lineL) = decide (a = b)
  | [], [] => by simp [PyData.eqvAll]
  | [], _ :: _ => by simp [PyData.eqvAll]
  | _ :: _, [] => by simp [PyData.eqvAll]
  | x :: a, y :: b => by
    simp only [List.map_cons, PyData.eqvAll, eqv_line, eqv_lines a b]
    by_cases h : x = y
    · subst h; simp
    · simp [h]
theorem eqv_mat (a b : List (List Int)) : PyData.eqv (matL a) (matL b) = decide (a = b) := by
  show PyData.eqv (.list _) (.list _) = _
  rw [PyData.eqv, eqv_lines]
theorem lay_ints : ∀ (a : List Int), PyData.canLayAll0 (a.map PyData.int) = true
  | [] => by simp [PyData.canLayAll0]
  | x :: a => by simp only [List.map_cons, PyData.canLayAll0, PyData.canLay0, lay_ints a, Bool.and_self]
theorem dep_ints : ∀ (a : List Int), PyData.depthAll (a.map PyData.int) = 0
  | [] => by simp [PyData.depthAll]
  | x :: a => by simp [List.map_cons, PyData.depthAll, PyData.depth, dep_ints a]
theorem shaped_line (a : List Int) : SeqAt.shaped (lineL a) = true := by
  unfold SeqAt.shaped lineL
  simp [PyData.canLay0, PyData.depth, lay_ints, dep_ints]
theorem lay_lines : ∀ (m : List (List Int)), PyData.canLayAll0 (m.map lineL) = true
  | [] => by simp [PyData.canLayAll0]
  | x :: m => by
    have : PyData.canLay0 (lineL x) = true := by unfold lineL; simp [PyData.canLay0, lay_ints]
    simp only [List.map_cons, PyData.canLayAll0, this, lay_lines m, Bool.and_self]
theorem dep_lines : ∀ (m : List (List Int)), PyData.depthAll (m.map lineL) ≤ 1
  | [] => by simp [PyData.depthAll]
  | x :: m => by
    have : PyData.depth (lineL x) = 1 := by unfold lineL; simp [PyData.depth, dep_ints]
    have := dep_lines m
    simp only [List.map_cons, PyData.depthAll]
    omega
theorem shaped_mat (m : List (List Int)) : SeqAt.shaped (matL m) = true := by
  unfold SeqAt.shaped matL
  have := dep_lines m
  simp [PyData.canLay0, PyData.depth, lay_lines]
  omega
section
variable {P : Program} {w : World} {K : PySem.W.Frag} {mg : Str → Option Value} {base : Heap}
/-- the changes' parts as lists -/
theorem Chg.at {C : Addr} {H : Hp} {p : Addr} {m : List (List Int)} {o : List Int} {t : Bool} {ps : List Addr} (h : Chg C H p m o t ps) : ∃ (dx a b : Addr) (ls : List Addr), H p = some (.ins C dx [("width", .int (m.length : Nat)), ("turns", .bl t), ("_matrix", .ref a), ("_offsets", .ref b)]) ∧
    SqL K H a (ls.map .ref) ∧ Lns K H ls m ∧ SqL K H b (o.map V.int) := by
  obtain ⟨dx, a, b, ls, rfl, h1, h2, h3, h4⟩ := h
  exact ⟨dx, a, b, ls, h1, SqL.of h2, Paired.mapP h3 fun _ _ h => SqL.of h, SqL.of h4⟩
def spMx (C : Addr) : Sp := fun vs H Q _ => ∃ (p : Addr) (m : List (List Int)) (o : List Int) (t : Bool) (ps : List Addr), vs = [.ref p] ∧ Chg C H p m o t ps ∧ Shp m o ∧ ∀ D ls H', H D = none → Same H H' → New2 H H' D ls m → H' D = some (.lst (ls.map .ref)) → Q (.ref D) H'
def spOf (C : Addr) : Sp := fun vs H Q _ => ∃ (p : Addr) (m : List (List Int)) (o : List Int) (t : Bool) (ps : List Addr), vs = [.ref p] ∧ Chg C H p m o t ps ∧ ∀ D H', H D = none → Same H H' → H' D = some (.lst (o.map V.int)) → Q (.ref D) H'
theorem scMx : FnScope ["self", "line"] ["self"] (defScope sMx) := ⟨rfl, rfl, rfl, by decide +kernel, rfl, by decide +kernel, by decide +kernel⟩
theorem ok_mx {C f : Addr} {fd : FuncData} (F : Fun K "matrix" "Change.matrix" sMx f fd) (N : Nm mg) (T : ChT K mg C) : FnOk P w K mg base CX0 1 f fd ["self"] (spMx C) := by
  refine F.ok scMx (fun vs H Q E h => ?_) fun cdv A outer s H vs Q E hr h => ?_
  · obtain ⟨p, m, o, t, ps, rfl, _⟩ := h
    rfl
  · obtain ⟨p, m, o, t, ps, rfl, hc, hS, q⟩ := h
    obtain ⟨dx, a, b, ls, hp, ha, hl, hb⟩ := hc.at (K := K)
    refine ⟨_, pss_one (ps_ret (pe_lc (own := [("line", 1)]) (g := gName 1) (tt := tYes) (te := tLsO K 1) rfl scMx.nd (pi_list (pe_fld (pv 0) rfl)) (blkOk_by (N := ["self", "line"]) (sc := defScope sMx) (by decide +kernel)) (fun _ _ _ _ _ => pg_name (i := 1) scMx.nd rfl (Or.inl rfl)) (fun _ _ _ _ _ => pts_nil) (fun _ _ _ _ _ => pe_callTy call_list_of (by rfl) N.lst PyProof.Rows.boot_list (pa_cons (pv 1) pa_nil)))), ?_⟩
    refine ⟨_, rfl, p, C, dx, _, .ref a, rfl, hp, T.cl, T.nM, rfl, a, rfl, ⟨_, ha⟩, ?_⟩
    exact copy_run (σ := start ["self", "line"] [.ref p]) (show 1 < 2 by decide) ha hl (by have := hS.hi; omega) fun D ls' H' hD s nw e => q D ls' H' hD s nw e
theorem scOf : FnScope ["self"] ["self"] (defScope sOf) := ⟨rfl, rfl, rfl, by decide +kernel, rfl, by decide +kernel, by decide +kernel⟩
theorem ok_of {C f : Addr} {fd : FuncData} (F : Fun K "offsets" "Change.offsets" sOf f fd) (N : Nm mg) (T : ChT K mg C) : FnOk P w K mg base CX0 1 f fd ["self"] (spOf C) := by
  refine F.ok scOf (fun vs H Q E h => ?_) fun cdv A outer s H vs Q E hr h => ?_
  · obtain ⟨p, m, o, t, ps, rfl, _⟩ := h
    rfl
  · obtain ⟨p, m, o, t, ps, rfl, hc, q⟩ := h
    obtain ⟨dx, a, b, ls, hp, ha, hl, hb⟩ := hc.at (K := K)
    refine ⟨_, pss_one (ps_ret (pe_callTy call_list_of (by rfl) N.lst PyProof.Rows.boot_list (pa_cons (pe_fld (pv 0) rfl) pa_nil))), ?_⟩
    exact ⟨_, rfl, p, C, dx, _, .ref b, rfl, hp, T.cl, T.nO, rfl, b, _, rfl, .inl hb, fun l hl => q l _ hl (same_new hl) upd_same⟩
/-- the other thing: no change, or one -/
def spEqC (K : PySem.W.Frag) (C : Addr) : Sp := fun vs H Q _ => ∃ (p : Addr) (m : List (List Int)) (o : List Int) (t : Bool) (ps : List Addr) (y : V), vs = [.ref p, y] ∧ Chg C H p m o t ps ∧
  ((∃ u, TyX K H y u ∧ PySem.W.kitOne K u (.ref C) = some false ∧ Q (.bl false) H) ∨ (∃ p2 m2 o2 t2 ps2, y = .ref p2 ∧ Chg C H p2 m2 o2 t2 ps2 ∧ Q (.bl (decide (m = m2 ∧ o = o2 ∧ t = t2))) H))
/-- isinstance of own instances -/
structure IsT (K : PySem.W.Frag) (C : Addr) : Prop where
  ha : PySem.W.findIn K (.ref C) "__class__" = some (some (.builtin "object.__class__"))
  hn : PySem.W.specialIn K (.builtin "object.__class__") "__get__" = some (some (.builtin "getset_descriptor.__get__"))
  ht : PySem.W.takesIn K (.builtin "object.__class__") = some true
  hm : PySem.W.mroIn K C (.type "object") = some true
  me : PySem.W.kitOne K (.ref C) (.ref C) = some true
theorem scEq : FnScope ["self", "other"] ["self", "other"] (defScope sEq) := ⟨rfl, rfl, rfl, by decide +kernel, rfl, by decide +kernel, by decide +kernel⟩
theorem and3 {a b c : Prop} [Decidable a] [Decidable b] [Decidable c] : decide (a ∧ b ∧ c) = (decide a && (decide b && decide c)) := by
  by_cases h1 : a <;> by_cases h2 : b <;> by_cases h3 : c <;> simp [h1, h2, h3]
theorem ok_eq {C f : Addr} {fd : FuncData} (F : Fun K "__eq__" "Change.__eq__" sEq f fd) (N : Nm mg) (T : ChT K mg C) (I : IsT K C) : FnOk P w K mg base CX0 1 f fd ["self", "other"] (spEqC K C) := by
  refine F.ok scEq (fun vs H Q E h => ?_) fun cdv A outer s H vs Q E hr h => ?_
  · obtain ⟨p, m, o, t, ps, y, rfl, _⟩ := h
    rfl
  · obtain ⟨p, m, o, t, ps, y, rfl, hc, h⟩ := h
    refine ⟨_, pss_one (ps_ret (pe_and (pe_callB call_isi (by rfl) N.isi boot_isi (pa_cons (pv 1) (pa_cons (pe_glob (v := V.ref C) (by rfl) T.mg_ (by rfl)) pa_nil))) (pe_and (pe_cmpR (Vf.op_eqD hr.units) (pe_fld (pv 0) rfl) (pe_fld (pv 1) rfl) (nomark _)) (pe_and (pe_cmpR (Vf.op_eqD hr.units) (pe_fld (pv 0) rfl) (pe_fld (pv 1) rfl) (nomark _)) (pe_one (pe_cmpR op_eq (pe_fld (pv 0) rfl) (pe_fld (pv 1) rfl) (nomark _))))))), ?_⟩
    rcases h with ⟨u, ty, kit, q⟩ | ⟨p2, m2, o2, t2, ps2, rfl, hc2, q⟩
    · exact ⟨_, rfl, y, .ref C, u, .ref C, false, rfl, .own C, ty, kit, false, rfl, iteF q⟩
    · obtain ⟨dx, a, b, ls, hp, ha, hl, hb⟩ := hc.at (K := K)
      obtain ⟨dx2, a2, b2, ls2, hp2, ha2, hl2, hb2⟩ := hc2.at (K := K)
      refine ⟨_, rfl, .ref p2, .ref C, .ref C, .ref C, true, rfl, .own C, .base (.ins hp2 T.cl I.ha I.hn I.ht I.hm), I.me, true, rfl, iteT ?_⟩
      refine ⟨_, rfl, p, C, dx, _, .ref a, rfl, hp, T.cl, T.nM, rfl, _, rfl, p2, C, dx2, _, .ref a2, rfl, hp2, T.cl, T.nM, rfl, matL m, matL m2, _, _, mat_sh ha hl, mat_sh ha2 hl2, shaped_mat m, shaped_mat m2, _, rfl, ?_⟩
      rw [and3] at q
      rw [(if_neg Bool.false_ne_true).trans (eqv_mat m m2)]
      by_cases h1 : m = m2
      · rw [decide_eq_true h1] at q ⊢
        refine iteT ⟨_, rfl, p, C, dx, _, .ref b, rfl, hp, T.cl, T.nO, rfl, _, rfl, p2, C, dx2, _, .ref b2, rfl, hp2, T.cl, T.nO, rfl, lineL o, lineL o2, _, _, line_sh hb, line_sh hb2, shaped_line o, shaped_line o2, _, rfl, ?_⟩
        rw [(if_neg Bool.false_ne_true).trans (eqv_line o o2)]
        by_cases h2 : o = o2
        · rw [decide_eq_true h2] at q ⊢
          refine iteT ⟨_, rfl, p, C, dx, _, .bl t, rfl, hp, T.cl, T.nT, rfl, _, rfl, p2, C, dx2, _, .bl t2, rfl, hp2, T.cl, T.nT, rfl, rfl, ?_⟩
          have e : decide (V.bl t = V.bl t2) = decide (t = t2) := by by_cases h3 : t = t2 <;> simp [h3]
          rw [e]
          exact q
        · rw [decide_eq_false h2] at q ⊢
          exact iteF q
      · rw [decide_eq_false h1] at q ⊢
        exact iteF q
end
end L2.Ch

/-! # a change's row -/
namespace L2.Ch
open PySem PySem.Spec PyProof.Rows L2.Vf L2.Dw
def cellT (c : List Int) : PyData := .tuple (c.map .int)
def rowL (rows : List (List Int)) : PyData := .list (rows.map cellT)
def rowC (m : List (List Int)) (o : List Int) (t : Bool) (rows : List (List Int)) : List (List Int) := if t = true then (rows.map (chC m o)).reverse else rows.map (chC m o)
abbrev Cls' (K : PySem.W.Frag) (H : Hp) (cs : List Addr) (rows : List (List Int)) : Prop := Paired (fun a c => SqT K H a (c.map V.int)) cs rows
theorem shs_cells {K : PySem.W.Frag} {H : Hp} : ∀ {rows : List (List Int)} {xs : List V} {as : List Addr}, Shs K H xs (rows.map cellT) as → ∃ cs : List Addr, xs = cs.map .ref ∧ Cls' K H cs rows
  | [], _, _, h => by cases h; exact ⟨[], rfl, .nil⟩
  | c :: rows, _, _, h => by
    cases h with
    | cons h1 h2 =>
      obtain ⟨cs, rfl, q⟩ := shs_cells h2
      cases h1 with
      | tup h3 h4 =>
        rw [shs_ints h4] at h3
        exact ⟨_ :: cs, rfl, .cons h3 q⟩
theorem sh_row {K : PySem.W.Frag} {H : Hp} {rows : List (List Int)} {v : V} {as : List Addr} (h : Sh K H v (rowL rows) as) : ∃ a cs, v = .ref a ∧ SqL K H a (cs.map .ref) ∧ Cls' K H cs rows := by
  cases h with
  | lst h1 h2 =>
    obtain ⟨cs, rfl, q⟩ := shs_cells h2
    exact ⟨_, cs, rfl, h1, q⟩
theorem cells_shs {K : PySem.W.Frag} {H : Hp} : ∀ {cs : List Addr} {rows : List (List Int)}, Cls' K H cs rows → Shs K H (cs.map .ref) (rows.map cellT) []
  | _, _, .nil => .nil
  | _, _, .cons h t => .cons (as := []) (bs := []) (.tup h (int_shs _)) (cells_shs t)
theorem row_sh {K : PySem.W.Frag} {H : Hp} {rows : List (List Int)} {a : Addr} {cs : List Addr} (h : SqL K H a (cs.map .ref)) (q : Cls' K H cs rows) : Sh K H (.ref a) (rowL rows) [a] := .lst h (cells_shs q)
theorem row_yes {n : Nat} {rows : List (List Int)} (h : ∀ c ∈ rows, c.length = n) : rowD n (rowL rows) = true := by
  show (rows.map cellT).all (cellD n) = true
  rw [List.all_eq_true]
  intro d hd
  obtain ⟨c, hc, rfl⟩ := List.mem_map.mp hd
  show ((c.map PyData.int).length == n && (c.map PyData.int).all isI) = true
  rw [List.length_map, Bool.and_eq_true]
  refine ⟨by simp [h c hc], ?_⟩
  rw [List.all_eq_true]
  intro d hd
  obtain ⟨i, _, rfl⟩ := List.mem_map.mp hd
  rfl
/-- new tuples, the cells rows -/
abbrev NewT (H H' : Hp) (cs : List Addr) (rows : List (List Int)) : Prop := Paired (fun a c => H' a = some (.tup (c.map V.int)) ∧ H a = none) cs rows
theorem NewT.mono {H H1 H2 : Hp} {cs : List Addr} {rows : List (List Int)} (h : NewT H H1 cs rows) (s : Same H1 H2) : NewT H H2 cs rows := Paired.mapP h fun _ _ q => ⟨s _ _ q.1, q.2⟩
/-- what a row wishes: it does not fit, or it is changed -/
def RwRest (CR : Addr) (m : List (List Int)) (o : List Int) (t : Bool) (v : V) (d : PyData) (H : Hp) (Q : VK) (E : XK) : Prop :=
  (rowD m.length d = false ∧ ∀ x, H x = none → E (.ref CR) (some x) (upd H x (.xd [("value", v)]))) ∨
  ∃ rows, d = rowL rows ∧ (∀ c ∈ rows, c.length = m.length ∧ Big c) ∧ (∀ r ∈ m, Big r) ∧ rows.length ≤ 1000 ∧ ∀ D cs H', H D = none → Same H H' → NewT H H' cs (rowC m o t rows) → H' D = some (.lst (cs.map .ref)) → Q (.ref D) H'
def spRw (K : PySem.W.Frag) (C CR : Addr) : Sp := fun vs H Q E => ∃ (p : Addr) (m : List (List Int)) (o : List Int) (t : Bool) (ps : List Addr) (v : V) (d : PyData) (as : List Addr), vs = [.ref p, v] ∧ Chg C H p m o t ps ∧ Shp m o ∧ Sh K H v d as ∧ RwRest CR m o t v d H Q E
abbrev nRw : List Str := ["self", "row", "cells", "cell"]
abbrev rTpO (K : PySem.W.Frag) : List V → Hp → VK → Prop := fun xs H Q => ∃ p ys, xs = [.ref p] ∧ ((SqL K H p ys ∧ ∀ l, H l = none → Q (.ref l) (upd H l (.tup ys))) ∨ (SqT K H p ys ∧ Q (.ref p) H))
/-- tuple(changed_parts(self._matrix, self._offsets, cell)) -/
abbrev tRwE (K : PySem.W.Frag) : TE := tCB (rTpO K) (tCons (tCall (spCp K) [] E0 (tCons (tFld K (tVar 0) "_matrix") (tCons (tFld K (tVar 0) "_offsets") (tCons (tVar 3) tNil)))) tNil)
section
variable {K : PySem.W.Frag} {mg : Str → Option Value} {C : Addr} {H : Hp} {σ : St} {p a : Addr} {m : List (List Int)} {o : List Int} {t : Bool} {ps cs : List Addr} {rows : List (List Int)} {Q : Addr → Hp → Prop}
theorem rw_run (T : ChT K mg C) (hσ : 3 < σ.length) (h0 : σ[0]? = some (some (.ref p))) (hc : Chg C H p m o t ps) (hS : Shp m o) (hm : ∀ r ∈ m, Big r) (ha : SqL K H a (cs.map .ref)) (hr : Cls' K H cs rows) (hb : ∀ c ∈ rows, c.length = m.length ∧ Big c) (hn : rows.length ≤ 1000)
    (h : ∀ D cs' H', H D = none → Same H H' → NewT H H' cs' (rows.map (chC m o)) → H' D = some (.lst (cs'.map .ref)) → Q D H') :
    ∀ D, H D = none → ∃ W : Nat → Nat → Hp → Prop, (∃ m, W 0 m (upd H D (.lst []))) ∧ ∀ i m H, W i m H → ((Itl K a).stop i H ∧ Q D H) ∨ ((Itl K a).go i H ∧ ∃ Nx : Hp → Prop, (∀ H', Nx H' → ∃ m', m' < m ∧ W (i + 1) m' H') ∧ ∀ x H', (Itl K a).yld i H x H' →
      gName 3 x (wipe σ [3]) H' fun σ2 H2 => wipe σ2 [3] = wipe σ [3] ∧ tYes σ2 H2 fun b H3 => if b = true then tRwE K σ2 H3 fun y H4 => ∃ acc, H4 D = some (.lst acc) ∧ acc.length < sizeLine ∧ Nx (upd H4 D (.lst (acc ++ [y]))) else Nx H3) := by
  intro D hD
  have len : (wipe σ [3]).length = σ.length := wipe_length _ _
  have w0 : (wipe σ [3])[0]? = some (some (.ref p)) := by simp [wipe, h0]
  refine lc_list (xs := cs.map V.ref) (fun j H' => ∃ cs', Same H H' ∧ NewT H H' cs' ((rows.map (chC m o)).take j) ∧ H' D = some (.lst (cs'.map .ref))) ⟨[], same_new hD, .nil, upd_same⟩ (fun i H' _ hP => ?_) (fun i x H' hx hP => ?_) fun H' hP => ?_
  · obtain ⟨_, s, _⟩ := hP
    exact SqL.mono ha s
  · obtain ⟨cs', s, nw, e⟩ := hP
    rw [List.getElem?_map] at hx
    cases el : cs[i]? with
    | none => rw [el] at hx; cases hx
    | some c =>
      rw [el] at hx
      cases hx
      obtain ⟨r, er, hcr⟩ := Paired.at hr el
      have hi2 : i < rows.length := (List.getElem?_eq_some_iff.mp er).1
      obtain ⟨lr, br⟩ := hb r (List.mem_of_getElem? er)
      refine ⟨by show wipe ((wipe σ [3]).set 3 _) [3] = wipe σ [3]; simp [wipe, List.set_set], ?_⟩
      show tRwE K ((wipe σ [3]).set 3 (some (.ref c))) H' _
      have z0 : ((wipe σ [3]).set 3 (some (.ref c)))[0]? = some (some (.ref p)) := by rw [List.getElem?_set_ne (by decide)]; exact w0
      obtain ⟨dx, a1, b1, ls, hp1, ha1, hl1, hb1⟩ := (hc.mono s).at (K := K)
      refine ⟨_, z0, p, C, dx, _, .ref a1, rfl, hp1, T.cl, T.nM, rfl, _, z0, p, C, dx, _, .ref b1, rfl, hp1, T.cl, T.nO, rfl, _, by rw [List.getElem?_set_self (by rw [len]; exact hσ)], a1, b1, c, ls, m, o, r, rfl, ha1, hl1, hb1, .inr (SqT.mono hcr s), ⟨fun q hq => ⟨hm q hq, by rw [hS.sq q hq, lr]⟩, br, hS.of, by rw [lr]; have := hS.hi; omega, by have := hS.hi; omega⟩, fun l H1 hl s1 e1 => ?_⟩
      refine ⟨l, _, rfl, .inl ⟨SqL.of e1, fun q hq => ?_⟩⟩
      have lenc : cs'.length = i := by
        have := Paired.length nw
        rw [this, List.length_take, List.length_map]
        omega
      have eD1 : H1 D = some (.lst (cs'.map .ref)) := s1 _ _ e
      have hqD : q ≠ D := fun z => by rw [z, eD1] at hq; cases hq
      refine ⟨_, by rw [upd_ne hqD.symm]; exact eD1, by rw [List.length_map, lenc, sizeLine_eq]; omega, cs' ++ [q], ?_, ?_, by rw [upd_same, List.map_append]; rfl⟩
      · intro b u hb'
        rw [upd_ne (ne_of_none hb' hD), upd_ne (ne_of_none (s1 _ _ (s b u hb')) hq)]
        exact s1 _ _ (s b u hb')
      · have et : (rows.map (chC m o)).take (i + 1) = (rows.map (chC m o)).take i ++ [chC m o r] := by
          rw [List.take_add_one, List.getElem?_map, er]
          rfl
        rw [et]
        refine Paired.snoc (paired_mem nw fun x y hx h => ⟨?_, h.2⟩) ⟨by rw [upd_ne hqD, upd_same], s.free (s1.free hq)⟩
        have xD : x ≠ D := fun z => by rw [z, e] at h; cases h.1
        rw [upd_ne xD, upd_ne (ne_of_none (s1 _ _ h.1) hq)]
        exact s1 _ _ h.1
  · obtain ⟨cs', s, nw, e⟩ := hP
    rw [List.length_map, Paired.length hr, List.take_of_length_le (by rw [List.length_map]; exact Nat.le_refl _)] at nw
    exact h D cs' H' hD s nw e
end
theorem Paired.rev {α β : Type} {R : α → β → Prop} : ∀ {xs : List α} {ys : List β}, Paired R xs ys → Paired R xs.reverse ys.reverse
  | _, _, .nil => .nil
  | _, _, .cons h t => by
    rw [List.reverse_cons, List.reverse_cons]
    exact Paired.snoc (Paired.rev t) h
section
variable {P : Program} {w : World} {K : PySem.W.Frag} {mg : Str → Option Value} {base : Heap}
theorem scRw : FnScope nRw ["self", "row"] (defScope sRw) := ⟨rfl, rfl, rfl, by decide +kernel, rfl, by decide +kernel, by decide +kernel⟩
theorem ok_rw {C CR iR f fF fP : Addr} {fd dF dP dIR : FuncData} (F : Fun K "row" "Change.row" sRw f fd) (N : Nm mg) (T : ChT K mg C) (ER : ErT P w K mg base "InvalidRow" CR iR dIR)
    (GF : FnOk P w K mg base CX0 4 fF dF ["value", "width"] (spAsk2 K rowD)) (mF : mg "fits_row" = some (.ref fF)) (kF : PySem.W.keepIn K (.ref fF) = true) (bF : Binds K dF ["value", "width"] [])
    (GP : FnOk P w K mg base CX0 2 fP dP ["matrix", "offsets", "parts"] (spCp K)) (mP : mg "changed_parts" = some (.ref fP)) (kP : PySem.W.keepIn K (.ref fP) = true) (bP : Binds K dP ["matrix", "offsets", "parts"] []) : FnOk P w K mg base (L2.CX P w) 5 f fd ["self", "row"] (spRw K C CR) := by
  refine F.okX scRw (fun vs H Q E h => ?_) fun cdv A outer s H vs Q E hr h => ?_
  · obtain ⟨p, m, o, t, ps, v, d, as, rfl, _⟩ := h
    rfl
  · obtain ⟨p, m, o, t, ps, v, d, as, rfl, hc, hS, hs, q⟩ := h
    obtain ⟨dx, a1, b1, ls, hp1, ha1, hl1, hb1⟩ := hc.at (K := K)
    refine ⟨_, pss_cons (ps_if (pt_not (pt_val (pe_call GF hr rfl mF kF bF .nil pass0 (pa_cons (pv 1) (pa_cons (pe_fld (pv 0) rfl) pa_nil))))) (pss_one (ps_raiseE rfl ER.cl ER.fi ER.b1 (hr.mono (by decide)) (takes_of rfl rfl rfl rfl) (by rfl) ER.mg_ (pa_cons (pv 1) pa_nil))) pss_nil)
      (pss_cons (ps_setLc (i := 2) (own := [("cell", 3)]) (g := gName 3) (tt := tYes) (te := tRwE K) rfl scRw.nd rfl rfl (sw_true rfl rfl rfl (by decide +kernel)) (pi_list (pv 1)) (blkOk_by (N := nRw) (sc := defScope sRw) (by decide +kernel)) (fun _ _ _ _ _ => pg_name (i := 3) scRw.nd rfl (Or.inl rfl)) (fun _ _ _ _ _ => pts_nil)
        (fun _ _ _ _ _ => pe_callTy call_tuple_of (by rfl) N.tup PyProof.Rows.boot_tuple (pa_cons (pe_call GP (hr.mono (by decide)) rfl mP kP bP .nil pass0 (pa_cons (pe_fld (pv 0) rfl) (pa_cons (pe_fld (pv 0) rfl) (pa_cons (pv 3) pa_nil)))) pa_nil)))
      (pss_one (ps_ret (pe_ifExp (pt_val (pe_fld (pv 0) rfl)) (pe_revL (pv 2)) (pv 2))))), ?_⟩
    refine ⟨_, rfl, _, rfl, p, C, dx, _, .int (m.length : Nat), rfl, hp1, T.cl, T.nW, rfl, v, d, as, m.length, rfl, hs, ⟨_, rfl, ?_⟩⟩
    rcases q with ⟨e1, q⟩ | ⟨rows, rfl, hb, hm, hn, q⟩
    · rw [e1]
      exact iteT ⟨v, rfl, q⟩
    · rw [row_yes fun c hc => (hb c hc).1]
      obtain ⟨a, cs, rfl, ha, hcs⟩ := sh_row hs
      refine iteF ⟨_, rfl, a, rfl, ⟨_, ha⟩, ?_⟩
      refine rw_run (σ := start nRw [.ref p, .ref a]) T (show 3 < 4 by decide) rfl hc hS hm ha hcs hb hn fun D cs' H1 hD s1 nw eD => ?_
      have hp2 := s1 _ _ hp1
      refine ⟨_, rfl, p, C, dx, _, .bl t, rfl, hp2, T.cl, T.nT, rfl, t, rfl, ?_⟩
      cases t with
      | false => exact iteF ⟨_, rfl, q D cs' H1 hD s1 nw eD⟩
      | true =>
        refine iteT ⟨_, rfl, D, _, rfl, SqL.of eD, fun l hl => ?_⟩
        have s2 := same_new (o := .lst (cs'.map V.ref).reverse) hl
        refine q l cs'.reverse _ (s1.free hl) (s1.trans s2) (NewT.mono (Paired.rev nw) s2) ?_
        rw [upd_same, List.map_reverse]
end
end L2.Ch

/-! # law k15, a: the changed row as the law works it out -/
namespace L2.Lw
open PySem PySem.Spec PyProof.Rows L2.Vf L2.Dw L2.Ch
abbrev sRc : Stmt := top 24
abbrev nRc : List Str := ["_law_change", "_law_row_here", "_law_matrix", "_law_added", "_law_found", "_law_cell_here", "_law_parts", "_law_k", "_law_j"]
theorem scRc : FnScope nRc ["_law_change", "_law_row_here"] (defScope sRc) := ⟨rfl, rfl, rfl, by decide +kernel, rfl, by decide +kernel, by decide +kernel⟩
def spRc (K : PySem.W.Frag) (C : Addr) : Sp := fun vs H Q _ => ∃ (p a : Addr) (m : List (List Int)) (o : List Int) (t : Bool) (ps cs : List Addr) (rows : List (List Int)), vs = [.ref p, .ref a] ∧ Chg C H p m o t ps ∧ Shp m o ∧ SqL K H a (cs.map .ref) ∧ Cls' K H cs rows ∧
  (∀ c ∈ rows, c.length = m.length ∧ Big c) ∧ (∀ r ∈ m, Big r) ∧ rows.length ≤ 1000 ∧ ∀ D cs' H', H D = none → Same H H' → NewT H H' cs' (rowC m o t rows) → H' D = some (.lst (cs'.map .ref)) → Q (.ref D) H'
abbrev tPrd (K : PySem.W.Frag) : TE := tOp (rI CMulW fun i j => .int (i * j)) (tOp (rIxL K) (tOp (rIxL K) (tVar 2) (tVar 7)) (tVar 8)) (tOp (rIxT K) (tVar 5) (tVar 8))
/-- the methods of the class -/
structure MeT (P : Program) (w : World) (K : PySem.W.Frag) (mg : Str → Option Value) (base : Heap) (C fM fO : Addr) (dM dO : FuncData) : Prop where
  mM : Meth K C "matrix" fM
  mO : Meth K C "offsets" fO
  gM : FnOk P w K mg base CX0 1 fM dM ["self"] (spMx C)
  gO : FnOk P w K mg base CX0 1 fO dO ["self"] (spOf C)
  bM : Binds K dM ["self"] []
  bO : Binds K dO ["self"] []
section
variable {K : PySem.W.Frag} {H : Hp} {M l c : Addr} {r cell : List Int} {ls : List Addr} {k : Nat} {Q : Addr → Hp → Prop} {σ : St}
/-- the products of a line and a cell -/
theorem prd_run (hσ : σ.length = 9) (h2 : σ[2]? = some (some (.ref M))) (h7 : σ[7]? = some (some (.int (k : Nat)))) (h5 : σ[5]? = some (some (.ref c))) (hM : SqL K H M (ls.map .ref)) (hk : ls[k]? = some l) (hl : SqL K H l (r.map V.int)) (hc : SqT K H c (cell.map V.int)) (he : r.length = cell.length) (hr : Big r) (hb : Big cell) (h1 : cell.length ≤ 1000)
    (h : ∀ D H', H D = none → Same H H' → H' D = some (.lst ((List.zipWith (· * ·) r cell).map V.int)) → Q D H') :
    ∀ D, H D = none → ∃ W : Nat → Nat → Hp → Prop, (∃ m, W 0 m (upd H D (.lst []))) ∧ ∀ i m H, W i m H → ((Itr 0 cell.length).stop i H ∧ Q D H) ∨ ((Itr 0 cell.length).go i H ∧ ∃ Nx : Hp → Prop, (∀ H', Nx H' → ∃ m', m' < m ∧ W (i + 1) m' H') ∧ ∀ x H', (Itr 0 cell.length).yld i H x H' →
      gName 8 x (wipe σ [8]) H' fun σ2 H2 => wipe σ2 [8] = wipe σ [8] ∧ tYes σ2 H2 fun b H3 => if b = true then tPrd K σ2 H3 fun y H4 => ∃ acc, H4 D = some (.lst acc) ∧ acc.length < sizeLine ∧ Nx (upd H4 D (.lst (acc ++ [y]))) else Nx H3) := by
  intro D hD
  have len : (wipe σ [8]).length = 9 := (wipe_length _ _).trans hσ
  refine lc_range (lo := 0) (n := cell.length) (fun j H' => Same H H' ∧ H' D = some (.lst (((List.zipWith (· * ·) r cell).take j).map V.int))) ⟨same_new hD, upd_same⟩ (fun j H' hj hP => ?_) fun H' hP => ?_
  · obtain ⟨s, e⟩ := hP
    refine ⟨by show wipe ((wipe σ [8]).set 8 _) [8] = wipe σ [8]; simp [wipe, List.set_set], ?_⟩
    show tPrd K ((wipe σ [8]).set 8 (some (.int (0 + (j : Int))))) H' _
    have g : ∀ i, i < 8 → ((wipe σ [8]).set 8 (some (.int (0 + (j : Int)))))[i]? = σ[i]? := fun i hi => by
      rw [List.getElem?_set_ne (by omega)]
      show (σ.set 8 none)[i]? = _
      rw [List.getElem?_set_ne (by omega)]
    have g8 : ((wipe σ [8]).set 8 (some (.int (0 + (j : Int)))))[8]? = some (some (.int (0 + (j : Int)))) := List.getElem?_set_self (by rw [len]; decide)
    obtain ⟨y, hy⟩ : ∃ y, cell[j]? = some y := ⟨_, List.getElem?_eq_getElem hj⟩
    obtain ⟨x, hx⟩ : ∃ x, r[j]? = some x := ⟨_, List.getElem?_eq_getElem (by omega)⟩
    refine ⟨_, (g 2 (by decide)).trans h2, _, (g 7 (by decide)).trans h7, M, _, _, .ref l, rfl, rfl, SqL.mono hM s, atI_nat (by rw [List.getElem?_map, hk]; rfl), _, g8, l, _, _, .int x, rfl, rfl, SqL.mono hl s, ?_, _, (g 5 (by decide)).trans h5, _, g8, c, _, _, .int y, rfl, rfl, SqT.mono hc s, ?_, x, y, rfl, rfl, wide_mul (hr x (List.mem_of_getElem? hx)) (hb y (List.mem_of_getElem? hy)) (by decide) (by decide) (by decide), ?_⟩
    · rw [Int.zero_add]; exact atI_nat (by rw [List.getElem?_map, hx]; rfl)
    · rw [Int.zero_add]; exact atI_nat (by rw [List.getElem?_map, hy]; rfl)
    · refine ⟨_, e, by rw [List.length_map, List.length_take, List.length_zipWith, sizeLine_eq]; omega, fun b o hb' => ?_, ?_⟩
      · rw [upd_ne (ne_of_none hb' hD)]; exact s b o hb'
      · rw [upd_same, List.take_add_one, zw_at hx hy, List.map_append]; rfl
  · obtain ⟨s, e⟩ := hP
    rw [List.take_of_length_le (by rw [List.length_zipWith]; omega)] at e
    exact h D H' hD s e
end
section
variable {P : Program} {w : World} {K : PySem.W.Frag} {mg : Str → Option Value} {base : Heap}
theorem ok_rc {C f fM fO : Addr} {fd dM dO : FuncData} (F : Fun K "_law_row_changed" "_law_row_changed" sRc f fd) (N : Nm mg) (T : ChT K mg C) (Me : MeT P w K mg base C fM fO dM dO) : FnOk P w K mg base CX0 2 f fd ["_law_change", "_law_row_here"] (spRc K C) := by
  refine F.ok scRc (fun vs H Q E h => ?_) fun cdv A outer s H vs Q E hr h => ?_
  · obtain ⟨p, a, m, o, t, ps, cs, rows, rfl, _⟩ := h
    rfl
  · obtain ⟨p, a, m, o, t, ps, cs, rows, rfl, hc, hS, ha, hcs, hb, hm, hn, q⟩ := h
    refine ⟨_, pss_cons (ps_asg (pe_tup (pa_cons (pe_meth0 (pv 0) T.cl Me.mM Me.gM hr Me.bM .nil pass0) (pa_cons (pe_meth0 (pv 0) T.cl Me.mO Me.gO hr Me.bO .nil pass0) (pa_cons (pe_lst pa_nil) pa_nil)))) (pg_tup (by rfl) (pgs_cons (pg_name (i := 2) scRc.nd rfl (Or.inr rfl)) (pgs_cons (pg_name (i := 3) scRc.nd rfl (Or.inl rfl)) (pgs_cons (pg_name (i := 4) scRc.nd rfl (Or.inl rfl)) pgs_nil)))))
      (pss_cons (ps_for PassesOwn.never rfl (pi_list (pv 1)) (pg_name (i := 5) scRc.nd rfl (Or.inr rfl))
        (pss_cons (ps_set (i := 6) scRc.nd rfl (.inl rfl) (pe_lst pa_nil))
        (pss_cons (ps_for PassesOwn.never rfl (pi_range1 (by rfl) N.rng (pa_cons (pe_callB call_len_seq (by rfl) N.len PySem.boot_len (pa_cons (pv 5) pa_nil)) pa_nil)) (pg_name (i := 7) scRc.nd rfl (Or.inr rfl))
          (pss_one (ps_expr (pe_bm PySem.F.plainAttrs_list PySem.F.slot_list_append PySem.F.type_list_append mt_append (pv 6) (pa_cons (pe_op op_add (pe_ix ix_list (pv 3) (pv 7) (fun _ _ => rfl)) (pe_callB (cr_sum rfl) (by rfl) N.sum PyProof.Rows.boot_sum (pa_cons
            (pe_lc (own := [("_law_j", 8)]) (g := gName 8) (tt := tYes) (te := tPrd K) rfl scRc.nd (pi_range1 (by rfl) N.rng (pa_cons (pe_callB call_len_seq (by rfl) N.len PySem.boot_len (pa_cons (pv 5) pa_nil)) pa_nil)) (blkOk_by (N := nRc) (sc := defScope sRc) (by decide +kernel)) (fun _ _ _ _ _ => pg_name (i := 8) scRc.nd rfl (Or.inl rfl)) (fun _ _ _ _ _ => pts_nil)
              (fun _ _ _ _ _ => pe_op op_mulW (pe_ix ix_list (pe_ix ix_list (pv 2) (pv 7) (fun _ _ => rfl)) (pv 8) (fun _ _ => rfl)) (pe_ix ix_tup (pv 5) (pv 8) (fun _ _ => rfl)))) pa_nil))) pa_nil)))))
        (pss_one (ps_expr (pe_bm PySem.F.plainAttrs_list PySem.F.slot_list_append PySem.F.type_list_append mt_append (pv 4) (pa_cons (pe_callTy call_tuple_of (by rfl) N.tup PyProof.Rows.boot_tuple (pa_cons (pv 6) pa_nil)) pa_nil)))))))
      (pss_one (ps_ret (pe_ifExp (pt_val (pe_fld (pv 0) rfl)) (pe_revL (pv 4)) (pv 4))))), ?_⟩
    obtain ⟨dx, a1, b1, l1, hp1, _, _, _⟩ := hc.at (K := K)
    refine ⟨_, rfl, p, dx, _, rfl, hp1, rfl, p, m, o, t, ps, rfl, hc, hS, fun M ls H1 hM s1 nwM eM => ?_⟩
    refine ⟨_, rfl, p, dx, _, rfl, s1 _ _ hp1, rfl, p, m, o, t, ps, rfl, hc.mono s1, fun O H2 hO s2 eO => ⟨Nat.zero_le _, fun L hL => ⟨by show 3 ≤ sizeLine; decide, fun tp htp => ?_⟩⟩⟩
    have s3 : Same H2 (upd (upd H2 L (.lst [])) tp (.tup [.ref M, .ref O, .ref L])) := (same_new hL).trans (same_new htp)
    have eL : (upd (upd H2 L (.lst [])) tp (.tup [.ref M, .ref O, .ref L])) L = some (.lst []) := by
      rw [upd_ne (ne_of_none upd_same htp), upd_same]
    have eT : (upd (upd H2 L (.lst [])) tp (.tup [.ref M, .ref O, .ref L])) tp = some (.tup [.ref M, .ref O, .ref L]) := upd_same
    have nL : H L = none := s1.free (s2.free hL)
    generalize upd (upd H2 L (.lst [])) tp (.tup [.ref M, .ref O, .ref L]) = H3 at s3 eL eT
    refine ⟨tp, _, rfl, .inl (.inl eT), rfl, _, _, rfl, _, _, rfl, _, _, rfl, rfl, ?_⟩
    have s13 : Same H H3 := s1.trans (s2.trans s3)
    have e3M : H3 M = some (.lst (ls.map .ref)) := s3 _ _ (s2 _ _ eM)
    have e3O : H3 O = some (.lst (o.map V.int)) := s3 _ _ eO
    have nML : M ≠ L := ne_of_none (s2 _ _ eM) hL
    have nOL : O ≠ L := ne_of_none eO hL
    have e3l : Paired (fun l r => H3 l = some (.lst (r.map V.int)) ∧ l ≠ L) ls m := Paired.mapP nwM fun l r h => ⟨s3 _ _ (s2 _ _ h.1), ne_of_none (s2 _ _ h.1) hL⟩
    have lenC : ∀ c : List Int, (chC m o c).length = m.length := fun c => by unfold chC; rw [List.length_zipWith, hS.of]; omega
    refine ⟨_, rfl, a, rfl, ⟨_, SqL.mono ha s13⟩, ?_⟩
    refine for_list (xs := cs.map V.ref) (fun i σ H' => ∃ (x5 x6 x7 : Option V) (cs' : List Addr), σ = [some (.ref p), some (.ref a), some (.ref M), some (.ref O), some (.ref L), x5, x6, x7, none] ∧ Keep L H3 H' ∧ NewT H H' cs' ((rows.map (chC m o)).take i) ∧ H' L = some (.lst (cs'.map .ref)))
      ⟨none, none, none, [], rfl, .refl, .nil, eL⟩ (fun i σ H' _ hP => ?_) (fun i x σ H' hx hP => ?_) fun σ H' hP => ?_
    · obtain ⟨_, _, _, _, _, k, _⟩ := hP
      exact SqL.mono ha fun b u e => k b u (ne_of_none e nL) (s13 b u e)
    · obtain ⟨x5, x6, x7, cs', rfl, kL, nw, eL'⟩ := hP
      have sH : Same H H' := fun b u e => kL b u (ne_of_none e nL) (s13 b u e)
      rw [List.getElem?_map] at hx
      cases el : cs[i]? with
      | none => rw [el] at hx; cases hx
      | some c =>
        rw [el] at hx
        cases hx
        obtain ⟨cell, er, hcr⟩ := Paired.at hcs el
        have hi2 : i < rows.length := (List.getElem?_eq_some_iff.mp er).1
        obtain ⟨lc, bc⟩ := hb cell (List.mem_of_getElem? er)
        refine ⟨Nat.zero_le _, fun R hR => ?_⟩
        have sR : Same H' (upd H' R (.lst [])) := same_new hR
        have hc4 : SqT K (upd H' R (.lst [])) c (cell.map V.int) := SqT.mono hcr (sH.trans sR)
        have nLR : L ≠ R := ne_of_none eL' hR
        refine ⟨_, rfl, c, _, rfl, .inr hc4, cell.length, by rw [List.length_map], by have := hS.hi; omega, by have := hS.hi; omega, ?_⟩
        refine for_range (lo := 0) (n := cell.length) (fun k σ H5 => ∃ x7, σ = [some (.ref p), some (.ref a), some (.ref M), some (.ref O), some (.ref L), some (.ref c), some (.ref R), x7, none] ∧ Keep R (upd H' R (.lst [])) H5 ∧ H5 R = some (.lst (((chC m o cell).take k).map V.int)))
          ⟨x7, rfl, .refl, upd_same⟩ (fun k σ H5 hk hQ => ?_) fun σ H5 hQ => ?_
        · obtain ⟨x7', rfl, kR, eR⟩ := hQ
          have sH5 : ∀ b u, H' b = some u → H5 b = some u := fun b u e => kR b u (ne_of_none e hR) (sR b u e)
          have e5M := sH5 _ _ (kL _ _ nML e3M)
          have e5O := sH5 _ _ (kL _ _ nOL e3O)
          obtain ⟨l, el'⟩ : ∃ l, ls[k]? = some l := ⟨_, List.getElem?_eq_getElem (by rw [Paired.length e3l]; omega)⟩
          obtain ⟨r, er', hl'⟩ := Paired.at e3l el'
          have e5l := sH5 _ _ (kL _ _ hl'.2 hl'.1)
          have hr' := List.mem_of_getElem? er'
          obtain ⟨y, ey⟩ : ∃ y, o[k]? = some y := ⟨_, List.getElem?_eq_getElem (by rw [hS.of]; omega)⟩
          have hc5 : SqT K H5 c (cell.map V.int) := SqT.mono (SqT.mono hcr sH) sH5
          refine ⟨_, rfl, .inl ⟨rfl, _, SqL.of eR⟩, _, rfl, _, rfl, O, _, _, .int y, rfl, rfl, SqL.of e5O, by rw [Int.zero_add]; exact atI_nat (by rw [List.getElem?_map, ey]; rfl), ?_⟩
          refine ⟨_, rfl, c, _, rfl, .inr hc5, cell.length, by rw [List.length_map], by have := hS.hi; omega, by have := hS.hi; omega, ?_⟩
          refine prd_run (k := k) (σ := [some (.ref p), some (.ref a), some (.ref M), some (.ref O), some (.ref L), some (.ref c), some (.ref R), some (.int (0 + (k : Int))), none]) rfl rfl (by rw [Int.zero_add]; rfl) rfl (SqL.of e5M) el' (SqL.of e5l) hc5 (by rw [hS.sq r hr', lc]) (hm r hr') bc (by have := hS.hi; omega) fun D H6 _ s6 e6 => ?_
          refine ⟨D, _, rfl, SqL.of e6, _, _, rfl, rfl, R, _, _, rfl, rfl, s6 _ _ eR, by rw [List.length_map, List.length_take, sizeLine_eq]; have := hS.hi; omega, _, rfl, fun b u nb e => ?_, ?_⟩
          · rw [upd_ne nb]
            exact s6 _ _ (kR b u nb e)
          · have ec : (chC m o cell)[k]? = some (y + dotL r cell) := by unfold chC; rw [List.getElem?_zipWith, er', ey]
            rw [upd_same, List.take_add_one, ec, List.map_append]
            rfl
        · obtain ⟨x7', rfl, kR, eR⟩ := hQ
          have sH5 : ∀ b u, H' b = some u → H5 b = some u := fun b u e => kR b u (ne_of_none e hR) (sR b u e)
          rw [List.take_of_length_le (by rw [lenC]; omega)] at eR
          refine ⟨_, rfl, .inl ⟨rfl, _, SqL.of (sH5 _ _ eL')⟩, _, rfl, R, _, rfl, .inl ⟨SqL.of eR, fun q hq => ?_⟩⟩
          have nLq : L ≠ q := ne_of_none (sH5 _ _ eL') hq
          have lenc : cs'.length = i := by
            have := Paired.length nw
            rw [this, List.length_take, List.length_map]
            omega
          refine ⟨L, _, _, rfl, rfl, by rw [upd_ne nLq]; exact sH5 _ _ eL', by rw [List.length_map, lenc, sizeLine_eq]; omega, some (.ref c), some (.ref R), x7', cs' ++ [q], rfl, fun b u nb e => ?_, ?_, by rw [upd_same, List.map_append]; rfl⟩
          · rw [upd_ne nb, upd_ne (ne_of_none (sH5 _ _ (kL b u nb e)) hq)]
            exact sH5 _ _ (kL b u nb e)
          · have et : (rows.map (chC m o)).take (i + 1) = (rows.map (chC m o)).take i ++ [chC m o cell] := by
              rw [List.take_add_one, List.getElem?_map, er]
              rfl
            rw [et]
            refine Ch.Paired.snoc (Paired.mapP nw fun x y h => ⟨?_, h.2⟩) ⟨by rw [upd_ne nLq.symm, upd_same], sH.free ?_⟩
            · have xL : x ≠ L := fun z => by rw [z, eL'] at h; cases h.1
              rw [upd_ne xL, upd_ne (ne_of_none (sH5 _ _ h.1) hq)]
              exact sH5 _ _ h.1
            · by_cases z : H' q = none
              · exact z
              · obtain ⟨u, hu⟩ := Option.ne_none_iff_exists'.mp z
                rw [sH5 _ _ hu] at hq
                cases hq
    · obtain ⟨x5, x6, x7, cs', rfl, kL, nw, eL'⟩ := hP
      have sH : Same H H' := fun b u e => kL b u (ne_of_none e nL) (s13 b u e)
      rw [List.length_map, Paired.length hcs, List.take_of_length_le (by rw [List.length_map]; exact Nat.le_refl _)] at nw
      refine ⟨_, rfl, p, C, dx, _, .bl t, rfl, sH _ _ hp1, T.cl, T.nT, rfl, t, rfl, ?_⟩
      cases t with
      | false => exact iteF ⟨_, rfl, q L cs' H' nL sH nw eL'⟩
      | true =>
        refine iteT ⟨_, rfl, L, _, rfl, SqL.of eL', fun l hl => ?_⟩
        have s5 := same_new (o := .lst (cs'.map V.ref).reverse) hl
        refine q l cs'.reverse _ (sH.free hl) (sH.trans s5) (NewT.mono (Paired.rev nw) s5) ?_
        rw [upd_same, List.map_reverse]
end
end L2.Lw

/-! # written things: what a display of constants, lists, tuples and empty dicts makes -/
namespace L2.Lt
open PySem PySem.Spec PyProof.Rows L2.Vf L2.Dw L2.Ch
mutual
def litD : Expr → Option PyData
  | .Constant .none _ _ => some .none
  | .Constant (.bool b) _ _ => some (.bool b)
  | .Constant (.int i) _ _ => some (.int i)
  | .Constant (.str x) _ _ => some (.str x)
  | .List es _ => (litsD es).map .list
  | .Tuple es _ _ => (litsD es).map .tuple
  | .Dict [] [] _ => some (.dict [])
  | _ => none
def litsD : List Expr → Option (List PyData)
  | [] => some []
  | e :: es => match litD e, litsD es with
    | some d, some ds => if ds.length < 1000 then some (d :: ds) else none
    | _, _ => none
end
mutual
/-- data stands where its own lists stand, and all that is no list -/
theorem sh_stay {K : PySem.W.Frag} {H H' : Hp} : ∀ {v : V} {d : PyData} {as : List Addr}, Sh K H v d as → (∀ b u, H b = some u → ((∃ xs, u = .lst xs) → b ∈ as) → H' b = some u) → Sh K H' v d as
  | _, _, _, .non, _ => .non
  | _, _, _, .bl b, _ => .bl b
  | _, _, _, .int i, _ => .int i
  | _, _, _, .str x, _ => .str x
  | _, _, _, .lst h t, k => .lst (by
      rcases h with (h | ⟨o, h⟩) | h
      · exact .inl (.inl (k _ _ h fun _ => List.mem_cons_self))
      · exact .inl (.inr ⟨o, k _ _ h fun ⟨_, z⟩ => by cases z⟩)
      · exact .inr h) (shs_stay t fun b u e m => k b u e fun z => List.mem_cons_of_mem _ (m z))
  | _, _, _, .tup h t, k => .tup (by
      rcases h with (h | ⟨o, h⟩) | h
      · exact .inl (.inl (k _ _ h fun ⟨_, z⟩ => by cases z))
      · exact .inl (.inr ⟨o, k _ _ h fun ⟨_, z⟩ => by cases z⟩)
      · exact .inr h) (shs_stay t k)
  | _, _, _, .dK h t, k => .dK (by
      rcases h with h | ⟨o, h⟩
      · exact .inl (k _ _ h fun ⟨_, z⟩ => by cases z)
      · exact .inr ⟨o, k _ _ h fun ⟨_, z⟩ => by cases z⟩) (shs_stay t k)
theorem shs_stay {K : PySem.W.Frag} {H H' : Hp} : ∀ {xs : List V} {ds : List PyData} {as : List Addr}, Shs K H xs ds as → (∀ b u, H b = some u → ((∃ xs, u = .lst xs) → b ∈ as) → H' b = some u) → Shs K H' xs ds as
  | _, _, _, .nil, _ => .nil
  | _, _, _, .cons h t, k => .cons (sh_stay h fun b u e m => k b u e fun z => List.mem_append_left _ (m z)) (shs_stay t fun b u e m => k b u e fun z => List.mem_append_right _ (m z))
end
theorem sh_mono {K : PySem.W.Frag} {H H' : Hp} {v : V} {d : PyData} {as : List Addr} (h : Sh K H v d as) (s : Same H H') : Sh K H' v d as := sh_stay h fun b u e _ => s b u e
/-- a thing, what it is, the lists in it -/
structure Itm where
  v : V
  d : PyData
  as : List Addr
/-- what stands: data, its lists such as can be lengthened -/
structure Ok (K : PySem.W.Frag) (H : Hp) (i : Itm) : Prop where
  sh : Sh K H i.v i.d i.as
  live : ∀ a ∈ i.as, ∃ xs, H a = some (.lst xs) ∧ xs.length ≤ 1000
  top : ∀ ds, i.d = .list ds → ∃ a, i.v = .ref a ∧ a ∈ i.as
def Fresh (H : Hp) (i : Itm) : Prop := ∀ a ∈ i.as, H a = none ∧ a ≠ sysModules
def Apart (i j : Itm) : Prop := ∀ a ∈ i.as, a ∉ j.as
theorem Ok.mono {K : PySem.W.Frag} {H H' : Hp} {i : Itm} (h : Ok K H i) (s : Same H H') : Ok K H' i := ⟨sh_mono h.sh s, fun a m => by
  obtain ⟨xs, e, l⟩ := h.live a m
  exact ⟨xs, s _ _ e, l⟩, h.top⟩
/-- another's list is changed -/
theorem Ok.keep {K : PySem.W.Frag} {H H' : Hp} {i : Itm} {g : Addr} (h : Ok K H i) (k : Keep g H H') (hg : ∃ xs, H g = some (.lst xs)) (n : g ∉ i.as) : Ok K H' i := by
  obtain ⟨ys, hg⟩ := hg
  refine ⟨sh_stay h.sh fun b u e m => k b u (fun z => ?_) e, fun a m => ?_, h.top⟩
  · rw [z, hg] at e
    cases e
    exact n (z ▸ m ⟨ys, rfl⟩)
  · obtain ⟨xs, e, l⟩ := h.live a m
    exact ⟨xs, k _ _ (fun z => n (z ▸ m)) e, l⟩
/-- the things of ds, made new -/
structure Made (K : PySem.W.Frag) (H H' : Hp) (l : List Itm) (ds : List PyData) : Prop where
  same : Same H H'
  ok : ∀ i ∈ l, Ok K H' i
  new : ∀ i ∈ l, Fresh H i
  apart : l.Pairwise Apart
  ds : l.map (·.d) = ds
def tLit (K : PySem.W.Frag) (d : PyData) : TE := fun σ H Q => ∀ i H', Same H H' → Ok K H' i → Fresh H i → i.d = d → Q i.v H'
def tLits (K : PySem.W.Frag) (ds : List PyData) : TA := fun σ H Q => ∀ l H', Made K H H' l ds → Q (l.map (·.v)) H'
theorem Made.shs {K : PySem.W.Frag} {H : Hp} : ∀ {l : List Itm}, (∀ i ∈ l, Ok K H i) → Shs K H (l.map (·.v)) (l.map (·.d)) (l.flatMap (·.as))
  | [], _ => .nil
  | i :: l, h => by
    rw [List.flatMap_cons]
    exact .cons (h i List.mem_cons_self).sh (Made.shs fun j hj => h j (List.mem_cons_of_mem _ hj))
section
variable {X : Cx}
theorem lit_star {e : Expr} {d : PyData} {es : List Expr} (h : litD e = some d) : starEach (e :: es) X.env = (false, eval e X.env) :: starEach es X.env := by
  cases e <;> first | rfl | cases h
theorem one_lit {d : PyData} {v : V} {H : Hp} {Q : VK} {K : PySem.W.Frag} (q : ∀ i H', Same H H' → Ok K H' i → Fresh H i → i.d = d → Q i.v H') (hs : Sh K H v d []) (hd : ∀ ds, d ≠ .list ds) : Q v H :=
  q ⟨v, d, []⟩ H (Same.refl H) ⟨hs, fun a m => (by cases m), fun ds e => absurd e (hd ds)⟩ (fun a m => (by cases m)) rfl
mutual
theorem lit_pe : ∀ {e : Expr} {d : PyData}, litD e = some d → PE X e (tLit X.K d)
  | .Constant .none _ _, d, h => by cases h; exact ⟨fun pins s σ H Q I q => pe_non.run pins s σ H Q I (one_lit q .non fun ds z => by cases z)⟩
  | .Constant (.bool b) _ _, d, h => by cases h; exact ⟨fun pins s σ H Q I q => pe_bl.run pins s σ H Q I (one_lit q (.bl b) fun ds z => by cases z)⟩
  | .Constant (.int i) _ _, d, h => by cases h; exact ⟨fun pins s σ H Q I q => pe_int.run pins s σ H Q I (one_lit q (.int i) fun ds z => by cases z)⟩
  | .Constant (.str x) _ _, d, h => by cases h; exact ⟨fun pins s σ H Q I q => pe_str.run pins s σ H Q I (one_lit q (.str x) fun ds z => by cases z)⟩
  | .List es _, d, h => by
    simp only [litD, Option.map_eq_some_iff] at h
    obtain ⟨ds, hd, rfl⟩ := h
    refine ⟨fun pins s σ H Q I q => (pe_lstF (lits_pa hd)).run pins s σ H Q I fun l H' m => ?_⟩
    have hl := lits_len hd
    have ll : l.length = ds.length := by rw [← m.ds, List.length_map]
    refine ⟨by rw [List.length_map, sizeLine_eq]; omega, fun p hp np => ?_⟩
    have sp := same_new (o := .lst (l.map (·.v))) hp
    refine q ⟨.ref p, .list ds, p :: l.flatMap (·.as)⟩ _ (m.same.trans sp) ⟨.lst (SqL.of upd_same) ?_, fun a ha => ?_, fun ds' _ => ⟨p, rfl, List.mem_cons_self⟩⟩ (fun a ha => ?_) rfl
    · have := Made.shs (K := X.K) fun i hi => (m.ok i hi).mono sp
      rw [m.ds] at this
      exact this
    · rcases List.mem_cons.mp ha with rfl | ha
      · exact ⟨_, upd_same, by rw [List.length_map]; omega⟩
      · obtain ⟨i, hi, ha⟩ := List.mem_flatMap.mp ha
        obtain ⟨xs, e, le⟩ := (m.ok i hi).live a ha
        exact ⟨xs, sp _ _ e, le⟩
    · rcases List.mem_cons.mp ha with rfl | ha
      · exact ⟨m.same.free hp, np⟩
      · obtain ⟨i, hi, ha⟩ := List.mem_flatMap.mp ha
        exact m.new i hi a ha
  | .Tuple es _ _, d, h => by
    simp only [litD, Option.map_eq_some_iff] at h
    obtain ⟨ds, hd, rfl⟩ := h
    refine ⟨fun pins s σ H Q I q => (pe_tup (lits_pa hd)).run pins s σ H Q I fun l H' m => ?_⟩
    have hl := lits_len hd
    have ll : l.length = ds.length := by rw [← m.ds, List.length_map]
    refine ⟨by rw [List.length_map, sizeLine_eq]; omega, fun p hp => ?_⟩
    have sp := same_new (o := .tup (l.map (·.v))) hp
    refine q ⟨.ref p, .tuple ds, l.flatMap (·.as)⟩ _ (m.same.trans sp) ⟨.tup (SqT.of upd_same) ?_, fun a ha => ?_, fun ds' z => by cases z⟩ (fun a ha => ?_) rfl
    · have := Made.shs (K := X.K) fun i hi => (m.ok i hi).mono sp
      rw [m.ds] at this
      exact this
    · obtain ⟨i, hi, ha⟩ := List.mem_flatMap.mp ha
      obtain ⟨xs, e, le⟩ := (m.ok i hi).live a ha
      exact ⟨xs, sp _ _ e, le⟩
    · obtain ⟨i, hi, ha⟩ := List.mem_flatMap.mp ha
      exact m.new i hi a ha
  | .Dict [] [] _, d, h => by
    cases h
    refine ⟨fun pins s σ H Q I q => pe_dnewK.run pins s σ H Q I fun p hp => ?_⟩
    exact q ⟨.ref p, .dict [], []⟩ _ (same_new hp) ⟨.dK (kvs := []) (.inl upd_same) .nil, fun a m => (by cases m), fun ds z => (by cases z)⟩ (fun a m => (by cases m)) rfl
theorem lits_pa : ∀ {es : List Expr} {ds : List PyData}, litsD es = some ds → PA X es (tLits X.K ds)
  | [], ds, h => by
    cases h
    exact ⟨fun pos pins s σ H Q I q => pa_nil.run pos pins s σ H Q I (q [] H ⟨Same.refl H, fun i m => (by cases m), fun i m => (by cases m), .nil, rfl⟩)⟩
  | e :: es, ds, h => by
    simp only [litsD] at h
    split at h
    · rename_i d r he hes
      split at h
      · cases h
        refine ⟨fun pos pins s σ H Q I q => (pa_cons (lit_pe he) (lits_pa hes) (lit_star he)).run pos pins s σ H Q I fun i H1 s1 ok1 f1 e1 l H2 m => ?_⟩
        refine q (i :: l) H2 ⟨s1.trans m.same, fun j hj => ?_, fun j hj a ha => ?_, .cons (fun j hj a ha ha' => ?_) m.apart, by rw [List.map_cons, e1, m.ds]⟩
        · rcases List.mem_cons.mp hj with rfl | hj
          · exact ok1.mono m.same
          · exact m.ok j hj
        · rcases List.mem_cons.mp hj with rfl | hj
          · exact f1 a ha
          · exact ⟨s1.free (m.new j hj a ha).1, (m.new j hj a ha).2⟩
        · obtain ⟨xs, e, _⟩ := ok1.live a ha
          rw [(m.new j hj a ha').1] at e
          cases e
      · cases h
    · cases h
theorem lits_len : ∀ {es : List Expr} {ds : List PyData}, litsD es = some ds → ds.length ≤ 1000
  | [], ds, h => by cases h; exact Nat.zero_le _
  | e :: es, ds, h => by
    simp only [litsD] at h
    split at h
    · split at h
      · cases h
        simpa using (by omega : _ + 1 ≤ 1000)
      · cases h
    · cases h
end
end
end L2.Lt

/-! # law k15, b: a change that is refused, caught -/
namespace L2.Lw
open PySem PySem.Spec PyProof.Rows L2.Vf L2.Dw L2.Ch L2.Lt
abbrev sCa : Stmt := top 25
abbrev nCa : List Str := ["_law_matrix", "_law_offsets", "_law_about", "_law_caught_here", "e", "_law_kinds", "_law_thing"]
theorem scCa : FnScope nCa ["_law_matrix", "_law_offsets", "_law_about"] (defScope sCa) := ⟨rfl, rfl, rfl, by decide +kernel, rfl, by decide +kernel, by decide +kernel⟩
/-- which argument is refused, and by InvalidList or not -/
def Bad (i1 i2 i3 : Itm) (isL : Bool) (j : Itm) : Prop :=
  (isL = true ∧ j = i1 ∧ matD i1.d = false) ∨ (∃ m, i1.d = matL m ∧ matD i1.d = true ∧ ((isL = true ∧ j = i2 ∧ lineD m.length i2.d = false) ∨ (∃ o, i2.d = lineL o ∧ o.length = m.length ∧ isL = false ∧ j = i3 ∧ (tyD i3.d == "bool") = false)))
def spCa (K : PySem.W.Frag) : Sp := fun vs H Q _ => ∃ i1 i2 i3 : Itm, vs = [i1.v, i2.v, i3.v] ∧ Ok K H i1 ∧ Ok K H i2 ∧ Ok K H i3 ∧
  ((∃ m o t, i1.d = matL m ∧ matD i1.d = true ∧ i2.d = lineL o ∧ o.length = m.length ∧ i3.d = .bool t ∧ ∀ H', Same H H' → Q .non H') ∨
   (∃ (isL : Bool) (j : Itm), Bad i1 i2 i3 isL j ∧ Wr j.d j.as ∧ ∀ D H', H D = none → (∀ b u, H b = some u → b ∉ i1.as → b ∉ i2.as → b ∉ i3.as → H' b = some u) → H' D = some (.lst [.bl isL, .bl (!isL), .str j.d.shown]) → Q (.ref D) H'))
/-- the classes of errors among one another -/
structure KtT (K : PySem.W.Frag) (mg : Str → Option Value) (CL CN CS : Addr) : Prop where
  mS : mg "SumsError" = some (.ref CS)
  ll : PySem.W.kitOne K (.ref CL) (.ref CL) = some true
  ln : PySem.W.kitOne K (.ref CL) (.ref CN) = some false
  nl : PySem.W.kitOne K (.ref CN) (.ref CL) = some false
  nn : PySem.W.kitOne K (.ref CN) (.ref CN) = some true
  eL : PySem.W.exmOne K (.ref CL) (.ref CS) = some true
  eN : PySem.W.exmOne K (.ref CN) (.ref CS) = some true
/-- a value's kind stays where a list is changed -/
theorem ty_upd {K : PySem.W.Frag} {H : Hp} {v : V} {t : Value} {g : Addr} {xs ys : List V} (h : TyX K H v t) (hg : H g = some (.lst xs)) : TyX K (upd H g (.lst ys)) v t := by
  have ne : ∀ {b : Addr} {u : HO}, H b = some u → (∀ zs, u ≠ .lst zs) → upd H g (.lst ys) b = some u := fun {b u} e n => by
    rw [upd_ne (fun z => by rw [z, hg] at e; cases e; exact n _ rfl)]
    exact e
  cases h with
  | base b =>
    cases b with
    | non => exact .base .non
    | bl x => exact .base (.bl x)
    | int x => exact .base (.int x)
    | str x => exact .base (.str x)
    | flt x => exact .base (.flt x)
    | @lst a xs e =>
      by_cases z : a = g
      · subst z; exact .base (.lst upd_same)
      · exact .base (.lst (by rw [upd_ne z]; exact e))
    | frz e => exact .base (.frz (ne e (by intro _ z; cases z)))
    | tup e => exact .base (.tup (ne e (by intro _ z; cases z)))
    | dK e => exact .base (.dK (ne e (by intro _ z; cases z)))
    | dT e => exact .base (.dT (ne e (by intro _ z; cases z)))
    | ins e a b c d f => exact .base (.ins (ne e (by intro _ z; cases z)) a b c d f)
  | byt b => exact .byt b
  | set e => exact .set (ne e (by intro _ z; cases z))
  | kList e c => exact .kList e c
  | kTuple e c => exact .kTuple e c
  | kDict e c => exact .kDict e c
  | fTuple e => exact .fTuple (ne e (by intro _ z; cases z))
  | fDict e => exact .fDict (ne e (by intro _ z; cases z))
theorem inRest_bad {C CL CN p : Addr} {i1 i2 i3 j : Itm} {isL : Bool} {H : Hp} {Q : VK} {E : XK} (h : Bad i1 i2 i3 isL j) (q : ∀ d, H d = none → E (.ref (if isL = true then CL else CN)) (some d) (upd H d (.xd [("value", j.v)]))) :
    InRest C CL CN p i1.v i2.v i3.v i1.d i2.d i3.d H Q E := by
  rcases h with ⟨rfl, rfl, e⟩ | ⟨m, e1, e2, ⟨rfl, rfl, e⟩ | ⟨o, e3, l3, rfl, rfl, e⟩⟩
  · exact .inl ⟨e, q⟩
  · exact .inr ⟨m, e1, e2, .inl ⟨e, q⟩⟩
  · exact .inr ⟨m, e1, e2, .inr ⟨o, e3, l3, .inl ⟨e, q⟩⟩⟩
/-- what the law's last loop keeps of a thing -/
structure Thg (K : PySem.W.Frag) (H : Hp) (n : Nat) (i : Itm) : Prop where
  ty : TyX K H i.v (.type (tyD i.d))
  mu : ∀ ds, i.d = .list ds → ∃ g xs, i.v = .ref g ∧ g ∈ i.as ∧ H g = some (.lst xs) ∧ xs.length ≤ 1000 + n
theorem Thg.upd {K : PySem.W.Frag} {H : Hp} {n : Nat} {i : Itm} {g : Addr} {xs : List V} {y : V} (h : Thg K H n i) (hg : H g = some (.lst xs)) (hl : xs.length ≤ 1000 + n) : Thg K (L2.upd H g (.lst (xs ++ [y]))) (n + 1) i := by
  refine ⟨ty_upd h.ty hg, fun ds e => ?_⟩
  obtain ⟨b, zs, h1, h2, h3, h4⟩ := h.mu ds e
  by_cases z : b = g
  · subst z
    exact ⟨b, _, h1, h2, upd_same, by rw [List.length_append]; simp; omega⟩
  · exact ⟨b, zs, h1, h2, by rw [upd_ne z]; exact h3, by omega⟩
theorem Thg.le {K : PySem.W.Frag} {H : Hp} {n : Nat} {i : Itm} (h : Thg K H n i) : Thg K H (n + 1) i := ⟨h.ty, fun ds e => by
  obtain ⟨b, zs, h1, h2, h3, h4⟩ := h.mu ds e
  exact ⟨b, zs, h1, h2, h3, by omega⟩⟩
theorem Ok.thg {K : PySem.W.Frag} {H : Hp} {i : Itm} (h : Ok K H i) : Thg K H 0 i := ⟨sh_ty h.sh, fun ds e => by
  obtain ⟨a, e1, e2⟩ := h.top ds e
  obtain ⟨xs, e3, e4⟩ := h.live a e2
  exact ⟨a, xs, e1, e2, e3, by omega⟩⟩
theorem boot_repr : bootBuiltins "repr" = some (.builtin "repr") := by decide +kernel
section
variable {P : Program} {w : World} {K : PySem.W.Frag} {mg : Str → Option Value} {base : Heap}
theorem ok_ca {C CL CN CS iL iN f fI : Addr} {fd dIL dIN dI : FuncData} (F : Fun K "_law_caught" "_law_caught" sCa f fd) (N : Nm mg) (T : ChT K mg C) (EL : ErT P w K mg base "InvalidList" CL iL dIL) (EN : ErT P w K mg base "InvalidNumber" CN iN dIN) (Kt : KtT K mg CL CN CS) (M : Mk K C fI)
    (GI : FnOk P w K mg base (L2.CX P w) 5 fI dI ["self", "matrix", "offsets", "turns"] (spIn K C CL CN)) (bI : KBn K dI ["self", "matrix", "offsets", "turns"] 3 ["turns"] (fun us ws => us ++ ws) (fun vs zs => vs ++ zs)) : FnG P w K mg base CX0 7 f fd ["_law_matrix", "_law_offsets", "_law_about"] (spCa K) := by
  refine okG F scCa (fun vs H Q E h => ?_) fun cdv A outer s H vs Q E hg hr h => ?_
  · obtain ⟨i1, i2, i3, rfl, _⟩ := h
    rfl
  · obtain ⟨i1, i2, i3, rfl, o1, o2, o3, h⟩ := h
    refine ⟨_, pss_cons (ps_set (i := 3) scCa.nd rfl (.inl rfl) pe_non)
      (pss_cons (ps_hold (i := 4) (c := .ref CS) rfl rfl rfl scCa.nd rfl rfl ⟨rfl, by decide, .inl Kt.mS⟩ (fun W pn xe tk _ => pss_one (ps_expr (pe_makeKS M GI hr rfl T.mg_ bI (fun σ => passAt tk σ) (pa_cons (pv 0) (pa_cons (pv 1) pa_nil)) (pk_cons (pv 2) pk_nil)))) (fun a oe cls d pn hz hf => pss_one (ps_set (i := 3) scCa.nd rfl (.inl rfl) (pv 4))))
      (pss_cons (ps_if (pt_cmpR op_isN (pv 3) pe_non (nomark _)) (pss_one (ps_ret pe_non)) pss_nil)
      (pss_cons (ps_set (i := 5) scCa.nd rfl (.inl rfl) (pe_lst (pa_cons (pe_callB call_isiG (by rfl) N.isi boot_isi (pa_cons (pv 3) (pa_cons (pe_glob (v := V.ref CL) (by rfl) EL.mg_ (by rfl)) pa_nil))) (pa_cons (pe_callB call_isiG (by rfl) N.isi boot_isi (pa_cons (pv 3) (pa_cons (pe_glob (v := V.ref CN) (by rfl) EN.mg_ (by rfl)) pa_nil))) (pa_cons (pe_callB (call_reprD hg hr.units) (by rfl) N.rep boot_repr (pa_cons (pe_erG (pv 3)) pa_nil)) pa_nil)))))
      (pss_cons (ps_for PassesOwn.never rfl (pi_list (pe_lst (pa_cons (pv 0) (pa_cons (pv 1) (pa_cons (pv 2) pa_nil))))) (pg_name (i := 6) scCa.nd rfl (Or.inl rfl))
        (pss_one (ps_if (pt_val (pe_callB call_isi (by rfl) N.isi boot_isi (pa_cons (pv 6) (pa_cons (pe_bltn (v := V.ty "list") (by rfl) N.lst PyProof.Rows.boot_list (by rfl)) pa_nil)))) (pss_one (ps_expr (pe_bm PySem.F.plainAttrs_list PySem.F.slot_list_append PySem.F.type_list_append mt_append (pv 6) (pa_cons pe_str pa_nil)))) pss_nil)))
      (pss_one (ps_ret (pv 5))))))), ?_⟩
    refine ⟨_, rfl, _, rfl, _, rfl, rfl, rfl, fun x dx hx hdx ne => ?_⟩
    have sd : Same H (upd H dx (.own x)) := same_new hdx
    have sM : Same H (upd (upd H dx (.own x)) x (.ins C dx [])) := sd.trans (same_new (by rw [upd_ne ne.symm]; exact hx))
    refine ⟨x, dx, i1.v, i2.v, i3.v, i1.d, i2.d, i3.d, _, _, _, rfl, upd_same, sh_mono o1.sh sM, sh_mono o2.sh sM, sh_mono o3.sh sM, ?_⟩
    rcases h with ⟨m, o, t, e1, e2, e3, l3, e4, q⟩ | ⟨isL, j, hB, hW, q⟩
    · refine .inr ⟨m, e1, e2, .inr ⟨o, e3, l3, .inr ⟨t, e4, fun H' ps fr k ch => ⟨rfl, ?_⟩⟩⟩⟩
      have sH : Same H H' := fun b u e => k b u (ne_of_none e hx) (sM b u e)
      exact ⟨_, rfl, rfl, _, rfl, iteT (q H' sH)⟩
    · refine inRest_bad hB fun d hd => ?_
      have oj : Ok K H j := by
        rcases hB with ⟨_, rfl, _⟩ | ⟨_, _, _, ⟨_, rfl, _⟩ | ⟨_, _, _, _, rfl, _⟩⟩
        · exact o1
        · exact o2
        · exact o3
      have xc : ExcC K (if isL = true then CL else CN) := by cases isL; exact EN.cl.xc; exact EL.cl.xc
      have no : PySem.W.findIn K (.ref (if isL = true then CL else CN)) "value" = some none := by cases isL; exact EN.cl.no; exact EL.cl.no
      have kl : PySem.W.kitOne K (.ref (if isL = true then CL else CN)) (.ref CL) = some isL := by cases isL; exact Kt.nl; exact Kt.ll
      have kn : PySem.W.kitOne K (.ref (if isL = true then CL else CN)) (.ref CN) = some (!isL) := by cases isL; exact Kt.nn; exact Kt.ln
      have ex : PySem.W.exmOne K (.ref (if isL = true then CL else CN)) (.ref CS) = some true := by cases isL; exact Kt.eN; exact Kt.eL
      generalize (if isL = true then CL else CN) = CX at xc no kl kn ex
      refine ⟨ex, fun a ha => ⟨_, rfl, ?_⟩⟩
      have s1 := sM.trans (same_new (o := .xd [("value", j.v)]) hd)
      have s2 : Same H (upd (upd (upd (upd H dx (.own x)) x (.ins C dx [])) d (.xd [("value", j.v)])) a (exoG a (.ref CX) (some d))) := s1.trans (same_new ha)
      have ea : (upd (upd (upd (upd H dx (.own x)) x (.ins C dx [])) d (.xd [("value", j.v)])) a (exoG a (.ref CX) (some d))) a = some (exoG a (.ref CX) (some d)) := upd_same
      have ed : (upd (upd (upd (upd H dx (.own x)) x (.ins C dx [])) d (.xd [("value", j.v)])) a (exoG a (.ref CX) (some d))) d = some (.xd [("value", j.v)]) := by
        rw [upd_ne (ne_of_none upd_same ha), upd_same]
      -- it is no None
      refine ⟨_, rfl, rfl, _, rfl, iteF ?_⟩
      -- the kinds
      refine ⟨_, rfl, .inr ⟨a, CX, d, _, .ref CL, .ref CL, isL, rfl, ea, ed, xc, .own CL, kl, ?_⟩⟩
      refine ⟨_, rfl, .inr ⟨a, CX, d, _, .ref CN, .ref CN, !isL, rfl, ea, ed, xc, .own CN, kn, ?_⟩⟩
      refine ⟨_, rfl, a, CX, d, _, j.v, rfl, ea, ed, rfl, xc, no, j.v, j.d, j.as, rfl, sh_mono oj.sh s2, hW, (by show 3 ≤ sizeLine; decide), fun Dk hDk => ?_⟩
      have sk := same_new (o := .lst [.bl isL, .bl (!isL), .str j.d.shown]) hDk
      -- the lists are lengthened
      refine ⟨_, rfl, _, rfl, _, rfl, (by show 3 ≤ sizeLine; decide), fun G hG => ⟨G, rfl, ⟨_, SqL.of upd_same⟩, ?_⟩⟩
      have sG := same_new (o := .lst [i1.v, i2.v, i3.v]) hG
      have sAll : Same H _ := s2.trans (sk.trans sG)
      have nG : H G = none := s2.free (sk.free hG)
      have nD : H Dk = none := s2.free hDk
      have DG : Dk ≠ G := ne_of_none upd_same hG
      refine for_list (xs := [i1.v, i2.v, i3.v]) (fun n σ H' => (∃ x6, σ = [some i1.v, some i2.v, some i3.v, some (.ref a), none, some (.ref Dk), x6]) ∧ H' G = some (.lst [i1.v, i2.v, i3.v]) ∧ H' Dk = some (.lst [.bl isL, .bl (!isL), .str j.d.shown]) ∧
        (∀ b u, H b = some u → b ∉ i1.as → b ∉ i2.as → b ∉ i3.as → H' b = some u) ∧ Thg K H' n i1 ∧ Thg K H' n i2 ∧ Thg K H' n i3)
        ⟨⟨none, rfl⟩, upd_same, sG _ _ upd_same, fun b u e _ _ _ => sAll b u e, Lw.Ok.thg (o1.mono sAll), Lw.Ok.thg (o2.mono sAll), Lw.Ok.thg (o3.mono sAll)⟩ (fun n σ H' _ hP => SqL.of hP.2.1) (fun n y σ H' hy hP => ?_) fun σ H' hP => ?_
      · obtain ⟨⟨x6, rfl⟩, eG, eD, fr, t1, t2, t3⟩ := hP
        have hn : n < 3 := (List.getElem?_eq_some_iff.mp hy).1
        obtain ⟨it, rfl, ti, oi, inn⟩ : ∃ it : Itm, y = it.v ∧ Thg K H' n it ∧ Ok K H it ∧ ∀ b ∈ it.as, b ∈ i1.as ∨ b ∈ i2.as ∨ b ∈ i3.as := by
          match n, hn with
          | 0, _ => cases hy; exact ⟨i1, rfl, t1, o1, fun b h => .inl h⟩
          | 1, _ => cases hy; exact ⟨i2, rfl, t2, o2, fun b h => .inr (.inl h)⟩
          | 2, _ => cases hy; exact ⟨i3, rfl, t3, o3, fun b h => .inr (.inr h)⟩
        refine ⟨_, rfl, it.v, .ty "list", _, .type "list", (tyD it.d == "list"), rfl, .ty "list", ti.ty, kit_ty (kit_list it.d), _, rfl, ?_⟩
        cases hb : (tyD it.d == "list") with
        | false => exact iteF ⟨⟨some it.v, rfl⟩, eG, eD, fr, t1.le, t2.le, t3.le⟩
        | true =>
          obtain ⟨ds, hd'⟩ : ∃ ds, it.d = .list ds := by
            cases e : it.d <;> rw [e] at hb <;> first | exact ⟨_, rfl⟩ | (simp [tyD] at hb)
          obtain ⟨g, zs, ev, gm, hg, lz⟩ := ti.mu ds hd'
          obtain ⟨ws, hgH, _⟩ := oi.live g gm
          have gG : g ≠ G := ne_of_none hgH nG
          have gD : g ≠ Dk := ne_of_none hgH nD
          refine iteT ⟨_, rfl, ?_⟩
          rw [ev]
          refine ⟨.inl ⟨rfl, _, SqL.of hg⟩, g, zs, .str "more", rfl, rfl, hg, by rw [sizeLine_eq]; omega, ⟨some (.ref g), rfl⟩, by rw [upd_ne gG.symm]; exact eG, by rw [upd_ne gD.symm]; exact eD, fun b u e n1 n2 n3 => ?_, t1.upd hg lz, t2.upd hg lz, t3.upd hg lz⟩
          rw [upd_ne (fun z => by rcases inn g gm with h | h | h; exact n1 (z ▸ h); exact n2 (z ▸ h); exact n3 (z ▸ h))]
          exact fr b u e n1 n2 n3
      · obtain ⟨⟨x6, rfl⟩, eG, eD, fr, _⟩ := hP
        exact ⟨_, rfl, q Dk H' nD fr eD⟩
end
end L2.Lw

/-! # made things further: what an expression yields; flat lists put together -/
namespace L2.Lt
open PySem PySem.Spec PyProof.Rows L2.Vf L2.Dw L2.Ch
/-- te makes a new thing that is d -/
def Yl (K : PySem.W.Frag) (σ : St) (te : TE) (d : PyData) : Prop := ∀ (H : Hp) (Q : VK), (∀ i H', Same H H' → Ok K H' i → Fresh H i → i.d = d → Q i.v H') → te σ H Q
def YlA (K : PySem.W.Frag) (σ : St) (ta : TA) (ds : List PyData) : Prop := ∀ (H : Hp) (Q : List V → Hp → Prop), (∀ l H', Made K H H' l ds → Q (l.map (·.v)) H') → ta σ H Q
/-- scalars -/
inductive Sc : V → PyData → Prop
  | non : Sc .non .none
  | bl (b : Bool) : Sc (.bl b) (.bool b)
  | int (i : Int) : Sc (.int i) (.int i)
  | str (x : Str) : Sc (.str x) (.str x)
/-- te makes a new list of scalars -/
def YlF (σ : St) (te : TE) (vs : List V) : Prop := ∀ (H : Hp) (Q : VK), (∀ p H', H p = none → p ≠ sysModules → Same H H' → H' p = some (.lst vs) → Q (.ref p) H') → te σ H Q
/-- te tells a value -/
def Tl (σ : St) (te : TE) (v : V) : Prop := ∀ (H : Hp) (Q : VK), Q v H → te σ H Q
section
variable {K : PySem.W.Frag} {σ : St} {te t1 t2 : TE} {ta : TA} {d : PyData} {ds : List PyData} {vs ws : List V}
theorem Sc.sh {H : Hp} {v : V} (h : Sc v d) : Sh K H v d [] := by
  cases h with
  | non => exact .non
  | bl b => exact .bl b
  | int i => exact .int i
  | str x => exact .str x
theorem scs_sh {H : Hp} : ∀ {vs : List V} {ds : List PyData}, Paired Sc vs ds → Shs K H vs ds []
  | _, _, .nil => .nil
  | _, _, .cons h t => .cons (as := []) (bs := []) h.sh (scs_sh t)
theorem Yl.lit : Yl K σ (tLit K d) d := fun H Q h => h
theorem YlA.lits : YlA K σ (tLits K ds) ds := fun H Q h => h
theorem YlA.nil : YlA K σ tNil [] := fun H Q h => h [] H ⟨Same.refl H, fun i m => (by cases m), fun i m => (by cases m), .nil, rfl⟩
theorem YlA.cons (h : Yl K σ te d) (t : YlA K σ ta ds) : YlA K σ (tCons te ta) (d :: ds) := fun H Q q =>
  h H _ fun i H1 s1 ok1 f1 e1 => t H1 _ fun l H2 m => q (i :: l) H2 ⟨s1.trans m.same, fun j hj => by
      rcases List.mem_cons.mp hj with rfl | hj
      · exact ok1.mono m.same
      · exact m.ok j hj, fun j hj a ha => by
      rcases List.mem_cons.mp hj with rfl | hj
      · exact f1 a ha
      · exact ⟨s1.free (m.new j hj a ha).1, (m.new j hj a ha).2⟩, .cons (fun j hj a ha ha' => by
      obtain ⟨xs, e, _⟩ := ok1.live a ha
      rw [(m.new j hj a ha').1] at e
      cases e) m.apart, by rw [List.map_cons, e1, m.ds]⟩
/-- things, and more things made later -/
theorem Made.app {H H1 H2 H3 : Hp} {l1 l2 : List Itm} {d1 d2 : List PyData} (m1 : Made K H H1 l1 d1) (s : Same H1 H2) (m2 : Made K H2 H3 l2 d2) : Made K H H3 (l1 ++ l2) (d1 ++ d2) := by
  refine ⟨m1.same.trans (s.trans m2.same), fun i hi => ?_, fun i hi a ha => ?_, ?_, by rw [List.map_append, m1.ds, m2.ds]⟩
  · rcases List.mem_append.mp hi with hi | hi
    · exact (m1.ok i hi).mono (s.trans m2.same)
    · exact m2.ok i hi
  · rcases List.mem_append.mp hi with hi | hi
    · exact m1.new i hi a ha
    · exact ⟨(m1.same.trans s).free (m2.new i hi a ha).1, (m2.new i hi a ha).2⟩
  · rw [List.pairwise_append]
    refine ⟨m1.apart, m2.apart, fun i hi j hj a ha ha' => ?_⟩
    obtain ⟨xs, e, _⟩ := (m1.ok i hi).live a ha
    have := s _ _ e
    rw [(m2.new j hj a ha').1] at this
    cases this
theorem YlF.one {t : TE} {v : V} (h : Tl σ t v) : YlF σ (tLstF (tCons t tNil)) [v] := fun H Q q => h H _ ⟨by show 1 ≤ sizeLine; decide, fun p hp np => q p _ hp np (same_new hp) upd_same⟩
theorem YlF.rep {k : Nat} (h : YlF σ t1 vs) (hk : Tl σ t2 (.int (k : Nat))) (h1 : k ≤ 1000) (h2 : vs.length ≤ 1000) : YlF σ (tOp rRepF t1 t2) (List.replicate k vs).flatten := fun H Q q =>
  h H _ fun p H1 hp np s e => hk H1 _ ⟨p, k, vs, rfl, rfl, e, by omega, by omega, by
      rw [sizeLine_eq]
      have a1 : vs.length * k ≤ 1000 * 1000 := Nat.mul_le_mul h2 h1
      show vs.length * k ≤ _
      omega, fun p2 hp2 np2 => q p2 _ (s.free hp2) np2 (s.trans (same_new hp2)) upd_same⟩
theorem YlF.cat (h : YlF σ t1 vs) (t : YlF σ t2 ws) (h1 : vs.length ≤ 1000) (h2 : ws.length ≤ 1000) : YlF σ (tOp rCatF t1 t2) (vs ++ ws) := fun H Q q =>
  h H _ fun p H1 hp np s e => t H1 _ fun p2 H2 hp2 np2 s2 e2 => ⟨p, p2, vs, ws, rfl, rfl, s2 _ _ e, e2, by rw [sizeLine_eq]; omega, fun p3 hp3 np3 => q p3 _ ((s.trans s2).free hp3) np3 ((s.trans s2).trans (same_new hp3)) upd_same⟩
theorem YlF.yl (h : YlF σ te vs) (hv : Paired Sc vs ds) (h1 : vs.length ≤ 1000) : Yl K σ te (.list ds) := fun H Q q =>
  h H _ fun p H1 hp np s e => q ⟨.ref p, .list ds, [p]⟩ H1 s ⟨.lst (SqL.of e) (scs_sh hv), fun a ha => by
      rcases List.mem_singleton.mp ha with rfl
      exact ⟨vs, e, h1⟩, fun ds' _ => ⟨p, rfl, List.mem_singleton.mpr rfl⟩⟩ (fun a ha => by
      rcases List.mem_singleton.mp ha with rfl
      exact ⟨hp, np⟩) rfl
theorem rep_sc {v : V} (hv : Sc v d) : ∀ k : Nat, Paired Sc (List.replicate k v) (List.replicate k d)
  | 0 => .nil
  | k + 1 => by
    rw [List.replicate_succ, List.replicate_succ]
    exact .cons hv (rep_sc hv k)
theorem rep_one {α : Type} (x : α) : ∀ k : Nat, (List.replicate k [x]).flatten = List.replicate k x
  | 0 => rfl
  | k + 1 => by rw [List.replicate_succ, List.flatten_cons, rep_one x k]; rfl
/-- (x,) * k -/
theorem Yl.tup {t : TE} {v : V} {k : Nat} (h : Tl σ t v) (hv : Sc v d) (hk : Tl σ t2 (.int (k : Nat))) (h0 : 1 ≤ k) (h1 : k ≤ 1000) : Yl K σ (tOp (rRepTA K) (tTup (tCons t tNil)) t2) (.tuple (List.replicate k d)) := by
  intro H Q q
  refine h H _ ⟨by show 1 ≤ sizeLine; decide, fun p hp => hk _ _ ⟨p, k, [v], rfl, rfl, SqT.of upd_same, by simp, by omega, by omega, by simp, fun e => ?_, fun e p2 hp2 => ?_⟩⟩
  · have ek : k = 1 := by omega
    subst ek
    exact q ⟨.ref p, .tuple [d], []⟩ _ (same_new hp) ⟨.tup (SqT.of upd_same) (scs_sh (rep_sc hv 1)), fun a ha => (by cases ha), fun ds' z => (by cases z)⟩ (fun a ha => (by cases ha)) rfl
  · have sp := same_new (o := .tup [v]) hp
    refine q ⟨.ref p2, .tuple (List.replicate k d), []⟩ _ (sp.trans (same_new hp2)) ⟨.tup (SqT.of upd_same) ?_, fun a ha => (by cases ha), fun ds' z => (by cases z)⟩ (fun a ha => (by cases ha)) rfl
    rw [show ((k : Int)).toNat = k from rfl, rep_one]
    exact scs_sh (rep_sc hv k)
end
end L2.Lt

/-! # law k15, c: odd things one by one, each refused -/
namespace L2.Lw
open PySem PySem.Spec PyProof.Rows L2.Vf L2.Dw L2.Ch L2.Lt
/-- what caught tells of a refusal, as data -/
def kd (isL : Bool) (d : PyData) : PyData := .list [.bool isL, .bool (!isL), .str d.shown]
def okK (isL : Bool) (d : PyData) : Bool := SeqAt.shaped (kd isL d) && PyData.eqv (kd isL d) (kd isL d)
/-- all but the lists in the odd things stays -/
def Frm (L : List Itm) (He H' : Hp) : Prop := ∀ b u, He b = some u → (∀ it ∈ L, b ∉ it.as) → H' b = some u
theorem Frm.refl {L : List Itm} {He : Hp} : Frm L He He := fun _ _ e _ => e
/-- all but the lists of one thing stays -/
def Fr1 (it : Itm) (H H' : Hp) : Prop := ∀ b u, H b = some u → b ∉ it.as → H' b = some u
theorem Ok.fr1 {K : PySem.W.Frag} {H H' : Hp} {i j : Itm} (h : Ok K H j) (hi : Ok K H i) (f : Fr1 i H H') (ap : Apart i j) : Ok K H' j := by
  refine ⟨sh_stay h.sh fun b u e m => f b u e fun hb => ?_, fun a m => ?_, h.top⟩
  · obtain ⟨xs, q, _⟩ := hi.live b hb
    rw [q] at e
    cases e
    exact ap b hb (m ⟨xs, rfl⟩)
  · obtain ⟨xs, e, l⟩ := h.live a m
    exact ⟨xs, f _ _ e fun z => ap a z m, l⟩
/-- one turn: the thing shown, then caught, compared -/
def tCmpT (K : PySem.W.Frag) (tc : TE) (isL : Bool) : TS := tIfS (tTest (tOp (Vf.rEqD K true) tc (tLst (tCons (tC (.bl isL)) (tCons (tC (.bl (!isL))) (tCons (tVar 4) tNil)))))) (tRet (tC (.bl false))) tNext
def tAskT (K : PySem.W.Frag) (tc : TE) (isL : Bool) : TS := tSeq (tAsg (tCB (rRepr K) (tCons (tVar 3) tNil)) (gName 4)) (tCmpT K tc isL)
theorem odds_run {K : PySem.W.Frag} {L : List Itm} {He : Hp} {σ0 : St} {G : Addr} {tc : TE} {isL : Bool} {D : Ends} (hG : He G = some (.lst (L.map (·.v)))) (hGn : ∀ it ∈ L, G ∉ it.as) (hok : ∀ it ∈ L, Ok K He it) (hap : L.Pairwise Apart) (hw : ∀ it ∈ L, Wr it.d it.as ∧ okK isL it.d = true) (hσ : σ0.length = 7)
    (hc : ∀ it ∈ L, ∀ (o4 : V) (H1 : Hp) (Q : VK), Frm L He H1 → Ok K H1 it → (∀ D H2, H1 D = none → Fr1 it H1 H2 → H2 D = some (.lst [.bl isL, .bl (!isL), .str it.d.shown]) → Q (.ref D) H2) → tc ((σ0.set 3 (some it.v)).set 4 (some o4)) H1 Q)
    (hd : ∀ o3 o4 H', Frm L He H' → D.nx ((σ0.set 3 o3).set 4 o4) H') (o3 o4 : Option V) :
    ∃ W : Nat → Nat → St → Hp → Prop, (∃ m, W 0 m ((σ0.set 3 o3).set 4 o4) He) ∧ ∀ i m σ H, W i m σ H →
      ((Itl K G).stop i H ∧ D.nx σ H) ∨ ((Itl K G).go i H ∧ ∃ N : St → Hp → Prop, (∀ σ' H', N σ' H' → ∃ m', m' < m ∧ W (i + 1) m' σ' H') ∧ ∀ x H', (Itl K G).yld i H x H' → gName 3 x σ H' fun σ2 H2 => tAskT K tc isL { D with nx := N, ct := N, bk := D.nx } σ2 H2) := by
  refine for_list (xs := L.map (·.v)) (fun n σ H' => (∃ o3 o4, σ = (σ0.set 3 o3).set 4 o4) ∧ Frm L He H' ∧ ∀ k it, n ≤ k → L[k]? = some it → Ok K H' it)
    ⟨⟨o3, o4, rfl⟩, .refl, fun k it _ h => hok it (List.mem_of_getElem? h)⟩ (fun n σ H' _ hP => SqL.of (hP.2.1 _ _ hG hGn)) (fun n x σ H' hx hP => ?_) fun σ H' hP => ?_
  · obtain ⟨⟨o3, o4, rfl⟩, fr, ok⟩ := hP
    rw [List.getElem?_map] at hx
    cases e : L[n]? with
    | none => rw [e] at hx; cases hx
    | some it =>
      rw [e] at hx
      cases hx
      have hm := List.mem_of_getElem? e
      obtain ⟨wr, ek⟩ := hw it hm
      have oi := ok n it (Nat.le_refl _) e
      have es : ((σ0.set 3 o3).set 4 o4).set 3 (some it.v) = (σ0.set 3 (some it.v)).set 4 o4 := by
        rw [List.set_comm _ _ (by decide : (4 : Nat) ≠ 3), List.set_set]
      show tAskT K tc isL _ (((σ0.set 3 o3).set 4 o4).set 3 (some it.v)) H'
      rw [es]
      have g3 : ((σ0.set 3 (some it.v)).set 4 o4)[3]? = some (some it.v) := by
        rw [List.getElem?_set_ne (by decide), List.getElem?_set_self (by rw [hσ]; decide)]
      refine ⟨_, g3, it.v, it.d, it.as, rfl, oi.sh, wr, ?_⟩
      show tCmpT K tc isL _ (((σ0.set 3 (some it.v)).set 4 o4).set 4 (some (.str it.d.shown))) H'
      rw [List.set_set]
      refine hc it hm _ H' _ fr oi fun D2 H2 hD f1 eD => ?_
      have g4 : ((σ0.set 3 (some it.v)).set 4 (some (.str it.d.shown)))[4]? = some (some (.str it.d.shown)) := List.getElem?_set_self (by rw [List.length_set, hσ]; decide)
      refine ⟨_, g4, (by show 3 ≤ sizeLine; decide), fun L2 hL2 => ?_⟩
      have s2 := same_new (o := .lst [.bl isL, .bl (!isL), .str it.d.shown]) hL2
      have sh : ∀ {a : Addr} {H : Hp}, H a = some (.lst [.bl isL, .bl (!isL), .str it.d.shown]) → Sh K H (.ref a) (kd isL it.d) [a] := fun h => .lst (as := []) (SqL.of h) (.cons (as := []) (bs := []) (.bl _) (.cons (as := []) (bs := []) (.bl _) (.cons (as := []) (bs := []) (.str _) .nil)))
      obtain ⟨k1, k2⟩ := Bool.and_eq_true_iff.mp ek
      refine ⟨kd isL it.d, kd isL it.d, _, _, sh (s2 _ _ eD), sh upd_same, k1, k1, _, rfl, ?_⟩
      rw [(if_pos rfl).trans (congrArg not k2)]
      refine iteF ⟨⟨some it.v, some (.str it.d.shown), rfl⟩, fun b u q nb => s2 _ _ (f1 _ _ (fr b u q nb) (nb it hm)), fun k it' hk hk' => ?_⟩
      refine Ok.mono (Ok.fr1 (ok k it' (by omega) hk') oi f1 ?_) s2
      rw [List.pairwise_iff_getElem] at hap
      obtain ⟨h1, e1⟩ := List.getElem?_eq_some_iff.mp e
      obtain ⟨h2, e2⟩ := List.getElem?_eq_some_iff.mp hk'
      have := hap n k h1 h2 (by omega)
      rw [e1, e2] at this
      exact this
  · obtain ⟨⟨o3, o4, rfl⟩, fr, _⟩ := hP
    exact hd o3 o4 H' fr
end L2.Lw

/-! # law k15, d: what does not fit is refused -/
namespace L2.Lw
open PySem PySem.Spec PyProof.Rows L2.Vf L2.Dw L2.Ch L2.Lt
abbrev sRf : Stmt := top 26
abbrev nRf : List Str := ["_law_width", "_law_good", "_law_odds", "_law_odd", "_law_shown", "_law_turn", "_law_row_here"]
theorem scRf : FnScope nRf ["_law_width"] (defScope sRf) := ⟨rfl, rfl, rfl, by decide +kernel, rfl, by decide +kernel, by decide +kernel⟩
def oA : List PyData := [.none, .int 3, .list [], .tuple [], .list [.int 1], .list [.list [.int 1], .list [.int 1]], .list [.list [.int 1, .int 2]], .list [.list [.int 1, .int 0], .list [.int 0]], .list [.list [.int 1, .int 0], .tuple [.int 0, .int 1]], .list [.list [.str "1"]], .list [.list [.bool true]]]
def oB : List PyData := [.list [.list [.none]], .dict [], .list [.tuple []], .list [.list [.int 0], .list [.int 1, .int 0]], .list [.none, .list [.int 1, .int 0]], .list [.tuple [.int 1, .int 0], .list [.int 0, .int 1]], .list [.list [.none, .int 0], .list [.int 0, .int 1]]]
def oC : List PyData := [.list [.list [.int 1, .int 0, .int 0], .list [.int 0, .int 1, .int 0], .list [.int 0, .int 0, .int 1]], .list [.list [.int 1, .int 0], .list [.int 0, .none]], .list [.list [.int 1, .int 0], .none], .list [.dict []], .str "1", .tuple [.list [.int 1]]]
def oD (n : Nat) : List PyData := [.none, .int 3, .list [], .tuple (List.replicate n (.int 0)), .list (List.replicate (n + 1) (.int 0)), .list (List.replicate n (.bool true)), .list (List.replicate n (.str "0")), .list (List.replicate n .none), .dict [], .str "0"]
def oE (n : Nat) : List PyData := [.list [.list [.int 0]], .list (List.replicate (n - 1) (.int 0) ++ [.none]), .list ([.none] ++ List.replicate (n - 1) (.int 0)), .list (List.replicate (n - 1) (.int 0) ++ [.bool true])]
def oF : List PyData := [.none, .int 0, .int 1, .str "", .str "True", .list [], .list [.bool true], .tuple [], .dict []]
def tb (isL : Bool) (d : PyData) : Bool := d.showable && decide (d.depth ≤ 50) && decide (d.shown.length ≤ 1000) && okK isL d
theorem tbA : (oA ++ oB ++ oC).all (fun d => !matD d && tb true d) = true := by decide +kernel
theorem tbD1 : (oD 1 ++ oE 1).all (fun d => !lineD 1 d && tb true d) = true := by decide +kernel
theorem tbD2 : (oD 2 ++ oE 2).all (fun d => !lineD 2 d && tb true d) = true := by decide +kernel
theorem tbF : oF.all (fun d => !(tyD d == "bool") && tb false d) = true := by decide +kernel
theorem tb_wr {isL : Bool} {it : Itm} (h : tb isL it.d = true) (f : ∀ a ∈ it.as, a ≠ sysModules) : Wr it.d it.as ∧ okK isL it.d = true := by
  unfold tb at h
  simp only [Bool.and_eq_true, decide_eq_true_eq] at h
  obtain ⟨⟨⟨h1, h2⟩, h3⟩, h4⟩ := h
  exact ⟨⟨h1, h2, by rw [sizeLine_eq]; omega, fun _ m => f _ m rfl⟩, h4⟩
/-- the matrix of ones -/
def ones (n : Nat) : List (List Int) := List.replicate n (List.replicate n 1)
abbrev tOne : TE := tOp rRepF (tLstF (tCons (tC (.int 1)) tNil)) (tVar 0)
abbrev tLcG (K : PySem.W.Frag) : TE := tLc (iList K (tVar 1)) (gName 6) tYes (tLsO K 6) [6]
abbrev tR (v : V) : TE := tOp rRepF (tLstF (tCons (tC v) tNil)) (tVar 0)
abbrev tZ : TE := tOp rRepF (tLstF (tCons (tC (.int 0)) tNil)) (tOp (rI0 fun i j => .int (i - j)) (tVar 0) (tC (.int 1)))
abbrev taD (K : PySem.W.Frag) : TA := tCons (tLit K .none) (tCons (tLit K (.int 3)) (tCons (tLit K (.list [])) (tCons (tOp (rRepTA K) (tTup (tCons (tC (.int 0)) tNil)) (tVar 0)) (tCons (tOp rRepF (tLstF (tCons (tC (.int 0)) tNil)) (tOp (rI0 fun i j => .int (i + j)) (tVar 0) (tC (.int 1))))
  (tCons (tR (.bl true)) (tCons (tR (.str "0")) (tCons (tR .non) (tCons (tLit K (.dict [])) (tCons (tLit K (.str "0")) tNil)))))))))
abbrev taE (K : PySem.W.Frag) : TA := tCons (tLit K (.list [.list [.int 0]])) (tCons (tOp rCatF tZ (tLstF (tCons (tC .non) tNil))) (tCons (tOp rCatF (tLstF (tCons (tC .non) tNil)) tZ) (tCons (tOp rCatF tZ (tLstF (tCons (tC (.bl true)) tNil))) tNil)))
abbrev tC1 (K : PySem.W.Frag) : TE := tCall (spCa K) [] E0 (tCons (tVar 3) (tCons (tC .non) (tCons (tC .non) tNil)))
abbrev tC2 (K : PySem.W.Frag) : TE := tCall (spCa K) [] E0 (tCons (tLcG K) (tCons (tVar 3) (tCons (tC .non) tNil)))
abbrev tC3 (K : PySem.W.Frag) : TE := tCall (spCa K) [] E0 (tCons (tLcG K) (tCons (tR (.int 0)) (tCons (tVar 3) tNil)))
abbrev tG (K : PySem.W.Frag) (b : Bool) : TE := tOp (fun x y H Q => y = .non ∧ Q (.bl (decide (x = .non))) H) (tCall (spCa K) [] E0 (tCons (tVar 1) (tCons (tR (.int 0)) (tCons (tC (.bl b)) tNil)))) (tC .non)
def tRf4 (K : PySem.W.Frag) : TS := tSeq (tFor (iList K (tLstF (tLits K oF))) (gName 3) (tAskT K (tC3 K) false)) (tRet (tAndV (tG K true) (tG K false)))
def tRf3 (K : PySem.W.Frag) : TS := tSeq (tFor (iList K (tVar 2)) (gName 3) (tAskT K (tC2 K) true)) (tRf4 K)
def tRf2 (K : PySem.W.Frag) : TS := tSeq (tAsg (tLstF (taD K)) (gName 2)) (tSeq (tAsg (tOp rCatF (tVar 2) (tLstF (taE K))) (gName 2)) (tRf3 K))
def tRf (K : PySem.W.Frag) : TS :=
  tSeq (tAsg (tLc (iRng1 (tCons (tVar 0) tNil)) (gName 5) tYes tOne [5]) (gName 1)) (tSeq (tAsg (tLstF (tLits K oA)) (gName 2)) (tSeq (tAsg (tOp rCatF (tVar 2) (tLstF (tLits K oB))) (gName 2)) (tSeq (tFor (iList K (tOp rCatF (tVar 2) (tLstF (tLits K oC)))) (gName 3) (tAskT K (tC1 K) true)) (tRf2 K))))
def spRf : Sp := fun vs H Q _ => ∃ n : Nat, vs = [.int (n : Nat)] ∧ 1 ≤ n ∧ n ≤ 2 ∧ ∀ H', Same H H' → Q (.bl true) H'
section
variable {K : PySem.W.Frag} {H : Hp} {σ : St} {n : Nat} {Q : Addr → Hp → Prop}
theorem ones_run (hσ : σ.length = 7) (h0 : σ[0]? = some (some (.int (n : Nat)))) (hn : n ≤ 1000) (h : ∀ D ls H', H D = none → Same H H' → New2 H H' D ls (ones n) → H' D = some (.lst (ls.map .ref)) → Q D H') :
    ∀ D, H D = none → ∃ W : Nat → Nat → Hp → Prop, (∃ m, W 0 m (upd H D (.lst []))) ∧ ∀ i m H, W i m H → ((Itr 0 n).stop i H ∧ Q D H) ∨ ((Itr 0 n).go i H ∧ ∃ Nx : Hp → Prop, (∀ H', Nx H' → ∃ m', m' < m ∧ W (i + 1) m' H') ∧ ∀ x H', (Itr 0 n).yld i H x H' →
      gName 5 x (wipe σ [5]) H' fun σ2 H2 => wipe σ2 [5] = wipe σ [5] ∧ tYes σ2 H2 fun b H3 => if b = true then tOne σ2 H3 fun y H4 => ∃ acc, H4 D = some (.lst acc) ∧ acc.length < sizeLine ∧ Nx (upd H4 D (.lst (acc ++ [y]))) else Nx H3) := by
  intro D hD
  refine lc_range (lo := 0) (n := n) (fun j H' => ∃ ls, Same H H' ∧ New2 H H' D ls (List.replicate j (List.replicate n 1)) ∧ H' D = some (.lst (ls.map .ref))) ⟨[], same_new hD, .nil, upd_same⟩ (fun j H' hj hP => ?_) fun H' hP => ?_
  · obtain ⟨ls, s, nw, e⟩ := hP
    refine ⟨by show wipe ((wipe σ [5]).set 5 _) [5] = wipe σ [5]; simp [wipe, List.set_set], ?_⟩
    show tOne ((wipe σ [5]).set 5 (some (.int (0 + (j : Int))))) H' _
    have g0 : ((wipe σ [5]).set 5 (some (.int (0 + (j : Int)))))[0]? = some (some (.int (n : Nat))) := by
      rw [List.getElem?_set_ne (by decide)]
      show (σ.set 5 none)[0]? = _
      rw [List.getElem?_set_ne (by decide)]
      exact h0
    refine (YlF.one (v := .int 1) fun H Q q => q).rep (k := n) (fun H Q q => ⟨_, g0, q⟩) hn (by decide) H' _ fun p H1 hp np s1 e1 => ?_
    rw [rep_one] at e1
    have pD : p ≠ D := fun z => by rw [z, e] at hp; cases hp
    have lenl : ls.length = j := by rw [Paired.length nw, List.length_replicate]
    refine ⟨_, s1 _ _ e, by rw [List.length_map, lenl, sizeLine_eq]; omega, ls ++ [p], fun b u hb => ?_, ?_, by rw [upd_same, List.map_append]; rfl⟩
    · rw [upd_ne (ne_of_none hb hD)]; exact s1 _ _ (s _ _ hb)
    · rw [List.replicate_succ']
      refine Ch.Paired.snoc (Paired.mapP nw fun l r h => ⟨by rw [upd_ne h.2.2]; exact s1 _ _ h.1, h.2⟩) ⟨?_, s.free hp, pD⟩
      rw [upd_ne pD, List.map_replicate]
      exact e1
  · obtain ⟨ls, s, nw, e⟩ := hP
    exact h D ls H' hD s nw e
/-- a copy of the good matrix, as a thing -/
theorem good_ok {D : Addr} {ls : List Addr} {m : List (List Int)} {H' : Hp} (nw : New2 H H' D ls m) (e : H' D = some (.lst (ls.map .ref))) (h1 : m.length ≤ 1000) (h2 : ∀ r ∈ m, r.length ≤ 1000) : Ok K H' ⟨.ref D, matL m, D :: ls⟩ := by
  have hl : Lns K H' ls m := Paired.mapP nw fun l r h => SqL.of h.1
  refine ⟨mat_sh (SqL.of e) hl, fun a ha => ?_, fun ds _ => ⟨D, rfl, List.mem_cons_self⟩⟩
  rcases List.mem_cons.mp ha with rfl | ha
  · exact ⟨_, e, by rw [List.length_map, Paired.length nw]; exact h1⟩
  · obtain ⟨j, hj⟩ := List.getElem?_of_mem ha
    obtain ⟨r, hr, h, _⟩ := Paired.at nw hj
    exact ⟨_, h, by rw [List.length_map]; exact h2 r (List.mem_of_getElem? hr)⟩
theorem new2_none {D : Addr} {ls : List Addr} {m : List (List Int)} {H' : Hp} (hD : H D = none) (nw : New2 H H' D ls m) : ∀ a ∈ D :: ls, H a = none := fun a ha => by
  rcases List.mem_cons.mp ha with rfl | ha
  · exact hD
  · obtain ⟨j, hj⟩ := List.getElem?_of_mem ha
    obtain ⟨r, _, _, h, _⟩ := Paired.at nw hj
    exact h
theorem ones_mat (h1 : 1 ≤ n) (h2 : n ≤ 2) : matD (matL (ones n)) = true := mat_yes (by unfold ones; rw [List.length_replicate]; exact h1) (by unfold ones; rw [List.length_replicate]; exact h2) fun r hr => by
  unfold ones at hr ⊢
  rw [List.length_replicate, (List.mem_replicate.mp hr).2, List.length_replicate]
theorem ones_len : (ones n).length = n := List.length_replicate
theorem yR {K : PySem.W.Frag} {v : V} {d : PyData} (h0 : σ[0]? = some (some (.int (n : Nat)))) (hn : n ≤ 1000) (hv : Sc v d) : Yl K σ (tR v) (.list (List.replicate n d)) :=
  ((YlF.one (v := v) fun H Q q => q).rep (k := n) (fun H Q q => ⟨_, h0, q⟩) hn (show 1 ≤ 1000 by decide)).yl (by rw [rep_one]; exact rep_sc hv n) (by rw [rep_one, List.length_replicate]; exact hn)
theorem fZ (h0 : σ[0]? = some (some (.int (n : Nat)))) (h1 : 1 ≤ n) (hn : n ≤ 1000) : YlF σ tZ (List.replicate (n - 1) (.int 0)) := by
  have := (YlF.one (σ := σ) (v := .int 0) (t := tC (.int 0)) fun H Q q => q).rep (k := n - 1) (t2 := tOp (rI0 fun i j => .int (i - j)) (tVar 0) (tC (.int 1))) (fun H Q q => ⟨_, h0, _, _, rfl, rfl, by show Q (.int ((n : Int) - 1)) H; rw [show ((n : Int) - 1) = ((n - 1 : Nat) : Int) by omega]; exact q⟩) (by omega) (by decide)
  rw [rep_one] at this
  exact this
theorem Paired.app {α β : Type} {R : α → β → Prop} : ∀ {xs : List α} {ys : List β} {us : List α} {vs : List β}, Paired R xs ys → Paired R us vs → Paired R (xs ++ us) (ys ++ vs)
  | _, _, _, _, .nil, h => h
  | _, _, _, _, .cons a t, h => .cons a (Paired.app t h)
theorem yD (h0 : σ[0]? = some (some (.int (n : Nat)))) (h1 : 1 ≤ n) (hn : n ≤ 900) : YlA K σ (taD K) (oD n) := by
  have l1 : Yl K σ (tOp rRepF (tLstF (tCons (tC (.int 0)) tNil)) (tOp (rI0 fun i j => .int (i + j)) (tVar 0) (tC (.int 1)))) (.list (List.replicate (n + 1) (.int 0))) :=
    ((YlF.one (v := .int 0) fun H Q q => q).rep (k := n + 1) (fun H Q q => ⟨_, h0, _, _, rfl, rfl, q⟩) (by omega) (by decide)).yl (by rw [rep_one]; exact rep_sc (.int 0) _) (by rw [rep_one, List.length_replicate]; omega)
  exact .cons .lit (.cons .lit (.cons .lit (.cons (Yl.tup (v := .int 0) (fun H Q q => q) (.int 0) (fun H Q q => ⟨_, h0, q⟩) h1 (by omega)) (.cons l1 (.cons (yR h0 (by omega) (.bl true)) (.cons (yR h0 (by omega) (.str "0")) (.cons (yR h0 (by omega) .non) (.cons .lit (.cons .lit .nil)))))))))
theorem yE (h0 : σ[0]? = some (some (.int (n : Nat)))) (h1 : 1 ≤ n) (hn : n ≤ 900) : YlA K σ (taE K) (oE n) := by
  have z := fZ h0 h1 (by omega)
  have hz : (List.replicate (n - 1) (V.int 0)).length ≤ 900 := by rw [List.length_replicate]; omega
  have one : ∀ v : V, YlF σ (tLstF (tCons (tC v) tNil)) [v] := fun v => YlF.one fun H Q q => q
  refine .cons .lit (.cons ?_ (.cons ?_ (.cons ?_ .nil)))
  · exact (z.cat (one .non) (by omega) (by decide)).yl (Paired.app (rep_sc (.int 0) _) (.cons .non .nil)) (by rw [List.length_append]; simp; omega)
  · exact ((one .non).cat z (by decide) (by omega)).yl (Paired.app (.cons .non .nil) (rep_sc (.int 0) _)) (by rw [List.length_append]; simp; omega)
  · exact (z.cat (one (.bl true)) (by omega) (by decide)).yl (Paired.app (rep_sc (.int 0) _) (.cons (.bl true) .nil)) (by rw [List.length_append]; simp; omega)
/-- None, True as things -/
abbrev iN : Itm := ⟨.non, .none, []⟩
theorem ok_iN : Ok K H iN := ⟨.non, fun a h => (by cases h), fun ds e => (by cases e)⟩
theorem ok_bl (b : Bool) : Ok K H ⟨.bl b, .bool b, []⟩ := ⟨.bl b, fun a h => (by cases h), fun ds e => (by cases e)⟩
end
theorem tall {K : PySem.W.Frag} {isL : Bool} {p : PyData → Bool} {ds : List PyData} {H0 H1 : Hp} {L : List Itm} (h : ds.all (fun d => !p d && tb isL d) = true) (m : Made K H0 H1 L ds) (it : Itm) (hit : it ∈ L) : p it.d = false ∧ Wr it.d it.as ∧ okK isL it.d = true := by
  have hd : it.d ∈ L.map (·.d) := List.mem_map.mpr ⟨it, hit, rfl⟩
  rw [m.ds] at hd
  have := List.all_eq_true.mp h _ hd
  rw [Bool.and_eq_true] at this
  refine ⟨by simpa using this.1, tb_wr this.2 fun a ha => (m.new it hit a ha).2⟩
section
variable {K : PySem.W.Frag} {n : Nat} {x2 o3 o4 : Option V} {Gd : Addr} {gl : List Addr} {H : Hp} {D : Ends}
abbrev sg (n : Nat) (Gd : Addr) (x2 o3 o4 : Option V) : St := [some (.int (n : Nat)), some (.ref Gd), x2, o3, o4, none, none]
/-- what stays beside new things stays -/
theorem frm_same {L : List Itm} {ds : List PyData} {H He H' : Hp} {H1 : Hp} (m : Made K H H1 L ds) (s : Same H1 He) (f : Frm L He H') : Same H H' := fun b u e => f b u (s _ _ (m.same _ _ e)) fun it hit ha => by
  have := (m.new it hit b ha).1
  rw [e] at this
  cases this
theorem onl (n2 : n ≤ 2) : ∀ r ∈ ones n, r.length ≤ 1000 := fun r hr => by unfold ones at hr; rw [(List.mem_replicate.mp hr).2, List.length_replicate]; omega
theorem good_yes {σ : St} {b : Bool} {Q : VK} (n1 : 1 ≤ n) (n2 : n ≤ 2) (h0 : σ[0]? = some (some (.int (n : Nat)))) (h1 : σ[1]? = some (some (.ref Gd))) (eG : H Gd = some (.lst (gl.map .ref))) (nw : Paired (fun l r => H l = some (.lst (r.map V.int))) gl (ones n)) (q : ∀ H', Same H H' → Q (.bl true) H') : tG K b σ H Q := by
  refine ⟨_, h1, ?_⟩
  refine (YlF.one (v := .int 0) (t := tC (.int 0)) (σ := σ) fun H Q q => q).rep (k := n) (t2 := tVar 0) (fun H Q q => ⟨_, h0, q⟩) (by omega) (show 1 ≤ 1000 by decide) H _ fun z HZ hz nz sZ eZ => ?_
  rw [rep_one] at eZ
  have okz : Ok K HZ ⟨.ref z, lineL (List.replicate n 0), [z]⟩ := ⟨line_sh (SqL.of (by rw [eZ, List.map_replicate])), fun a ha => by
    rcases List.mem_singleton.mp ha with rfl
    exact ⟨_, eZ, by rw [List.length_replicate]; omega⟩, fun ds _ => ⟨z, rfl, List.mem_singleton.mpr rfl⟩⟩
  have okg : Ok K H ⟨.ref Gd, matL (ones n), Gd :: gl⟩ := by
    refine ⟨mat_sh (SqL.of eG) (Paired.mapP nw fun l r h => SqL.of h), fun a ha => ?_, fun ds _ => ⟨Gd, rfl, List.mem_cons_self⟩⟩
    rcases List.mem_cons.mp ha with rfl | ha
    · exact ⟨_, eG, by rw [List.length_map, Paired.length nw, ones_len]; omega⟩
    · obtain ⟨j, hj⟩ := List.getElem?_of_mem ha
      obtain ⟨r, hr, h⟩ := Paired.at nw hj
      exact ⟨_, h, by rw [List.length_map]; exact onl n2 r (List.mem_of_getElem? hr)⟩
  refine ⟨⟨.ref Gd, matL (ones n), Gd :: gl⟩, ⟨.ref z, lineL (List.replicate n 0), [z]⟩, ⟨.bl b, .bool b, []⟩, rfl, okg.mono sZ, okz, ok_bl b, .inl ⟨ones n, List.replicate n 0, b, rfl, ones_mat n1 n2, rfl, by rw [ones_len, List.length_replicate], rfl, fun H' s => ⟨rfl, q H' (sZ.trans s)⟩⟩⟩
theorem rf4 (n1 : 1 ≤ n) (n2 : n ≤ 2) (eG : H Gd = some (.lst (gl.map .ref))) (nw : Paired (fun l r => H l = some (.lst (r.map V.int))) gl (ones n)) (q : ∀ H', Same H H' → D.rt (.bl true) H') : tRf4 K D (sg n Gd x2 o3 o4) H := by
  intro l6 HB m6
  have ll6 : l6.length = 9 := by have := congrArg List.length m6.ds; rw [List.length_map] at this; exact this
  refine ⟨by rw [List.length_map, ll6, sizeLine_eq]; decide, fun p9 hp9 np9 => ⟨p9, rfl, ⟨_, SqL.of upd_same⟩, ?_⟩⟩
  have sHB := same_new (o := .lst (l6.map (·.v))) hp9
  refine odds_run (L := l6) (σ0 := sg n Gd x2 none none) upd_same (fun it hit ha => ?_) (fun it hit => (m6.ok it hit).mono sHB) m6.apart (fun it hit => (tall (p := fun d => tyD d == "bool") tbF m6 it hit).2) rfl (fun it hit o7 HC QC fr okC k => ?_) (fun o7 o8 HC fr => ?_) o3 o4
  · obtain ⟨xs, e, _⟩ := (m6.ok it hit).live _ ha
    rw [hp9] at e
    cases e
  · have sC := frm_same m6 sHB fr
    refine ⟨_, rfl, Gd, rfl, ⟨_, SqL.of (sC _ _ eG)⟩, ?_⟩
    refine copy_run (m := ones n) (σ := ([some (.int n), some (.ref Gd), x2, some it.v, some o7, none, none] : St)) (show 6 < 7 by decide) (SqL.of (sC _ _ eG)) (Paired.mapP nw fun l r h => SqL.of (sC _ _ h)) (by rw [ones_len]; omega) fun Dd ls HA hD sA nwA e => ?_
    refine (YlF.one (v := .int 0) (t := tC (.int 0)) (σ := ([some (.int n), some (.ref Gd), x2, some it.v, some o7, none, none] : St)) fun H Q q => q).rep (k := n) (t2 := tVar 0) (fun H Q q => ⟨_, rfl, q⟩) (by omega) (show 1 ≤ 1000 by decide) HA _ fun z HZ hz nz sZ eZ => ?_
    rw [rep_one] at eZ
    have okz : Ok K HZ ⟨.ref z, lineL (List.replicate n 0), [z]⟩ := ⟨line_sh (SqL.of (by rw [eZ, List.map_replicate])), fun a ha => by
      rcases List.mem_singleton.mp ha with rfl
      exact ⟨_, eZ, by rw [List.length_replicate]; omega⟩, fun ds _ => ⟨z, rfl, List.mem_singleton.mpr rfl⟩⟩
    refine ⟨_, rfl, ⟨.ref Dd, matL (ones n), Dd :: ls⟩, ⟨.ref z, lineL (List.replicate n 0), [z]⟩, it, rfl, (good_ok nwA e (by rw [ones_len]; omega) (onl n2)).mono sZ, okz, okC.mono (sA.trans sZ), .inr ⟨false, it, .inr ⟨ones n, rfl, ones_mat n1 n2, .inr ⟨List.replicate n 0, rfl, by rw [ones_len, List.length_replicate], rfl, rfl, (tall (p := fun d => tyD d == "bool") tbF m6 it hit).1⟩⟩, (tall (p := fun d => tyD d == "bool") tbF m6 it hit).2.1, fun D3 H3' hD3 f e3 => k D3 H3' (sA.free (sZ.free hD3)) (fun b u e nb => f b u (sZ _ _ (sA _ _ e)) (fun zz => ?_) (fun zz => ?_) nb) e3⟩⟩
    · rw [new2_none hD nwA b zz] at e
      cases e
    · rcases List.mem_singleton.mp zz with rfl
      have := sA _ _ e
      rw [hz] at this
      cases this
  · have sC := frm_same m6 sHB fr
    show tG K true (((sg n Gd x2 none none).set 3 o7).set 4 o8) HC fun x H1 => ∃ c, x = .bl c ∧ if c = true then tG K false (((sg n Gd x2 none none).set 3 o7).set 4 o8) H1 D.rt else D.rt (.bl false) H1
    refine good_yes (K := K) (gl := gl) (Gd := Gd) n1 n2 rfl rfl (sC _ _ eG) (Paired.mapP nw fun l r h => sC _ _ h) fun H2 s2 => ⟨true, rfl, iteT ?_⟩
    have sD := sC.trans s2
    exact good_yes (K := K) (gl := gl) (Gd := Gd) n1 n2 rfl rfl (sD _ _ eG) (Paired.mapP nw fun l r h => sD _ _ h) fun H3 s3 => q H3 (sD.trans s3)
/-- the second round -/
theorem rf3 {L : List Itm} {p8 : Addr} {H0 : Hp} (n1 : 1 ≤ n) (n2 : n ≤ 2) (m : Made K H H0 L (oD n ++ oE n)) {He : Hp} (s8e : Same H0 He) (hp8 : ∀ it ∈ L, p8 ∉ it.as) (e8 : He p8 = some (.lst (L.map (·.v)))) (eG : H Gd = some (.lst (gl.map .ref))) (nw : Paired (fun l r => H l = some (.lst (r.map V.int))) gl (ones n)) (q : ∀ H', Same H H' → D.rt (.bl true) H') :
    tRf3 K D (sg n Gd (some (.ref p8)) o3 o4) He := by
  have tbDE : (oD n ++ oE n).all (fun d => !lineD n d && tb true d) = true := by
    rcases (by omega : n = 1 ∨ n = 2) with rfl | rfl
    · exact tbD1
    · exact tbD2
  refine ⟨_, rfl, p8, rfl, ⟨_, SqL.of e8⟩, ?_⟩
  refine odds_run (L := L) (σ0 := sg n Gd (some (.ref p8)) none none) e8 hp8 (fun it hit => (m.ok it hit).mono s8e) m.apart (fun it hit => (tall (p := lineD n) tbDE m it hit).2) rfl (fun it hit o5 H9 Q9 fr ok9 k => ?_) (fun o5 o6 H9 fr => ?_) o3 o4
  · have sC := frm_same m s8e fr
    refine ⟨_, rfl, Gd, rfl, ⟨_, SqL.of (sC _ _ eG)⟩, ?_⟩
    refine copy_run (m := ones n) (σ := ([some (.int n), some (.ref Gd), some (.ref p8), some it.v, some o5, none, none] : St)) (show 6 < 7 by decide) (SqL.of (sC _ _ eG)) (Paired.mapP nw fun l r h => SqL.of (sC _ _ h)) (by rw [ones_len]; omega) fun Dd ls HA hD sA nwA e => ?_
    refine ⟨_, rfl, ⟨.ref Dd, matL (ones n), Dd :: ls⟩, it, iN, rfl, good_ok nwA e (by rw [ones_len]; omega) (onl n2), ok9.mono sA, ok_iN, .inr ⟨true, it, .inr ⟨ones n, rfl, ones_mat n1 n2, .inl ⟨rfl, rfl, by rw [ones_len]; exact (tall (p := lineD n) tbDE m it hit).1⟩⟩, (tall (p := lineD n) tbDE m it hit).2.1, fun D3 H3' hD3 f e3 => k D3 H3' (sA.free hD3) (fun b u e nb => f b u (sA _ _ e) (fun z => ?_) nb (by simp)) e3⟩⟩
    rw [new2_none hD nwA b z] at e
    cases e
  · have sC := frm_same m s8e fr
    show tRf4 K D (((sg n Gd (some (.ref p8)) none none).set 3 o5).set 4 o6) H9
    exact rf4 n1 n2 (sC _ _ eG) (Paired.mapP nw fun l r h => sC _ _ h) fun H' s => q H' (sC.trans s)
theorem lst_of {σ : St} {ta : TA} {ds : List PyData} {Q : VK} (h : YlA K σ ta ds) (k : ∀ l H1, Made K H H1 l ds → (l.map (·.v)).length ≤ sizeLine ∧ ∀ p, H1 p = none → p ≠ sysModules → Q (.ref p) (upd H1 p (.lst (l.map (·.v))))) : tLstF ta σ H Q := h H _ k
theorem rf2 (n1 : 1 ≤ n) (n2 : n ≤ 2) (eG : H Gd = some (.lst (gl.map .ref))) (nw : Paired (fun l r => H l = some (.lst (r.map V.int))) gl (ones n)) (q : ∀ H', Same H H' → D.rt (.bl true) H') : tRf2 K D (sg n Gd x2 o3 o4) H := by
  show tLstF (taD K) (sg n Gd x2 o3 o4) H fun v H1 => tSeq (tAsg (tOp rCatF (tVar 2) (tLstF (taE K))) (gName 2)) (tRf3 K) D ((sg n Gd x2 o3 o4).set 2 (some v)) H1
  refine lst_of (yD (n := n) rfl n1 (by omega)) fun l4 H7 m4 => ?_
  have ll4 : l4.length = 10 := by have := congrArg List.length m4.ds; rw [List.length_map] at this; exact this
  refine ⟨by rw [List.length_map, ll4, sizeLine_eq]; decide, fun p6 hp6 np6 => ?_⟩
  show tOp rCatF (tVar 2) (tLstF (taE K)) (sg n Gd (some (.ref p6)) o3 o4) (upd H7 p6 (.lst (l4.map (·.v)))) fun v H1 => tRf3 K D ((sg n Gd (some (.ref p6)) o3 o4).set 2 (some v)) H1
  refine ⟨_, rfl, ?_⟩
  refine lst_of (yE (n := n) rfl n1 (by omega)) fun l5 H8 m5 => ?_
  have ll5 : l5.length = 4 := by have := congrArg List.length m5.ds; rw [List.length_map] at this; exact this
  refine ⟨by rw [List.length_map, ll5, sizeLine_eq]; decide, fun p7 hp7 np7 => ⟨p6, p7, _, _, rfl, rfl, same_new hp7 _ _ (m5.same _ _ upd_same), upd_same, by rw [List.length_map, List.length_map, ll4, ll5, sizeLine_eq]; decide, fun p8 hp8 np8 => ?_⟩⟩
  have m45 := m4.app (same_new (o := .lst (l4.map (·.v))) hp6) m5
  have sH8 := same_new (o := .lst (l5.map (·.v))) hp7
  have s8e : Same H8 _ := sH8.trans (same_new (o := .lst (l4.map (·.v) ++ l5.map (·.v))) hp8)
  show tRf3 K D (sg n Gd (some (.ref p8)) o3 o4) _
  refine rf3 (L := l4 ++ l5) n1 n2 m45 s8e (fun it hit ha => ?_) (by rw [upd_same, List.map_append]) eG nw q
  obtain ⟨xs, e, _⟩ := (m45.ok it hit).live _ ha
  have := sH8 _ _ e
  rw [hp8] at this
  cases this
end
section
variable {P : Program} {w : World} {K : PySem.W.Frag} {mg : Str → Option Value} {base : Heap}
theorem ok_rf {f fC : Addr} {fd dC : FuncData} (F : Fun K "_law_refused" "_law_refused" sRf f fd) (N : Nm mg) (GC : FnG P w K mg base CX0 7 fC dC ["_law_matrix", "_law_offsets", "_law_about"] (spCa K)) (mC : mg "_law_caught" = some (.ref fC)) (kC : PySem.W.keepIn K (.ref fC) = true) (bC : Binds K dC ["_law_matrix", "_law_offsets", "_law_about"] []) :
    FnG P w K mg base CX0 8 f fd ["_law_width"] spRf := by
  refine okG F scRf (fun vs H Q E h => ?_) fun cdv A outer s H vs Q E hg hr h => ?_
  · obtain ⟨n, rfl, _⟩ := h
    rfl
  · obtain ⟨n, rfl, n1, n2, q⟩ := h
    have hu := hr.units
    refine ⟨tRf K, pss_cons (ps_setLc (i := 1) (own := [("_law_turn", 5)]) (g := gName 5) (tt := tYes) (te := tOne) rfl scRf.nd rfl rfl (sw_true rfl rfl rfl (by decide +kernel)) (pi_range1 (by rfl) N.rng (pa_cons (pv 0) pa_nil)) (blkOk_by (N := nRf) (sc := defScope sRf) (by decide +kernel)) (fun _ _ _ _ _ => pg_name (i := 5) scRf.nd rfl (Or.inl rfl)) (fun _ _ _ _ _ => pts_nil) (fun _ _ _ _ _ => pe_op op_repF (pe_lstF (pa_cons pe_int pa_nil)) (pv 0)))
      (pss_cons (ps_set (i := 2) scRf.nd rfl (.inl rfl) (pe_lstF (lits_pa rfl)))
      (pss_cons (ps_set (i := 2) scRf.nd rfl (.inl rfl) (pe_op op_catF (pv 2) (pe_lstF (lits_pa rfl))))
      (pss_cons (ps_for PassesOwn.never rfl (pi_list (pe_op op_catF (pv 2) (pe_lstF (lits_pa rfl)))) (pg_name (i := 3) scRf.nd rfl (Or.inl rfl))
        (pss_cons (ps_set (i := 4) scRf.nd rfl (.inl rfl) (pe_callB (call_reprD hg hu) (by rfl) N.rep boot_repr (pa_cons (pv 3) pa_nil)))
        (pss_one (ps_if (pt_cmpR (Vf.op_neD hu) (pe_callG GC hg hr rfl mC kC bC .nil pass0 (pa_cons (pv 3) (pa_cons pe_non (pa_cons pe_non pa_nil)))) (pe_lst (pa_cons pe_bl (pa_cons pe_bl (pa_cons (pv 4) pa_nil)))) (nomark _)) (pss_one (ps_ret pe_bl)) pss_nil))))
      (pss_cons (ps_set (i := 2) scRf.nd rfl (.inl rfl) (pe_lstF (pa_cons (lit_pe rfl) (pa_cons (lit_pe rfl) (pa_cons (lit_pe rfl) (pa_cons (pe_op op_repTA (pe_tup (pa_cons pe_int pa_nil)) (pv 0)) (pa_cons (pe_op op_repF (pe_lstF (pa_cons pe_int pa_nil)) (pe_op op_add (pv 0) pe_int)) (pa_cons (pe_op op_repF (pe_lstF (pa_cons pe_bl pa_nil)) (pv 0)) (pa_cons (pe_op op_repF (pe_lstF (pa_cons pe_str pa_nil)) (pv 0)) (pa_cons (pe_op op_repF (pe_lstF (pa_cons pe_non pa_nil)) (pv 0)) (pa_cons (lit_pe rfl) (pa_cons (lit_pe rfl) pa_nil))))))))))))
      (pss_cons (ps_set (i := 2) scRf.nd rfl (.inl rfl) (pe_op op_catF (pv 2) (pe_lstF (pa_cons (lit_pe rfl) (pa_cons (pe_op op_catF (pe_op op_repF (pe_lstF (pa_cons pe_int pa_nil)) (pe_op op_sub (pv 0) pe_int)) (pe_lstF (pa_cons pe_non pa_nil))) (pa_cons (pe_op op_catF (pe_lstF (pa_cons pe_non pa_nil)) (pe_op op_repF (pe_lstF (pa_cons pe_int pa_nil)) (pe_op op_sub (pv 0) pe_int))) (pa_cons (pe_op op_catF (pe_op op_repF (pe_lstF (pa_cons pe_int pa_nil)) (pe_op op_sub (pv 0) pe_int)) (pe_lstF (pa_cons pe_bl pa_nil))) pa_nil)))))))
      (pss_cons (ps_for PassesOwn.never rfl (pi_list (pv 2)) (pg_name (i := 3) scRf.nd rfl (Or.inl rfl))
        (pss_cons (ps_set (i := 4) scRf.nd rfl (.inl rfl) (pe_callB (call_reprD hg hu) (by rfl) N.rep boot_repr (pa_cons (pv 3) pa_nil)))
        (pss_one (ps_if (pt_cmpR (Vf.op_neD hu) (pe_callG GC hg hr rfl mC kC bC .nil pass0 (pa_cons (pe_lc (own := [("_law_row_here", 6)]) (g := gName 6) (tt := tYes) (te := tLsO K 6) rfl scRf.nd (pi_list (pv 1)) (blkOk_by (N := nRf) (sc := defScope sRf) (by decide +kernel)) (fun _ _ _ _ _ => pg_name (i := 6) scRf.nd rfl (Or.inl rfl)) (fun _ _ _ _ _ => pts_nil) (fun _ _ _ _ _ => pe_callTy call_list_of (by rfl) N.lst PyProof.Rows.boot_list (pa_cons (pv 6) pa_nil))) (pa_cons (pv 3) (pa_cons pe_non pa_nil)))) (pe_lst (pa_cons pe_bl (pa_cons pe_bl (pa_cons (pv 4) pa_nil)))) (nomark _)) (pss_one (ps_ret pe_bl)) pss_nil))))
      (pss_cons (ps_for PassesOwn.never rfl (pi_list (pe_lstF (lits_pa rfl))) (pg_name (i := 3) scRf.nd rfl (Or.inl rfl))
        (pss_cons (ps_set (i := 4) scRf.nd rfl (.inl rfl) (pe_callB (call_reprD hg hu) (by rfl) N.rep boot_repr (pa_cons (pv 3) pa_nil)))
        (pss_one (ps_if (pt_cmpR (Vf.op_neD hu) (pe_callG GC hg hr rfl mC kC bC .nil pass0 (pa_cons (pe_lc (own := [("_law_row_here", 6)]) (g := gName 6) (tt := tYes) (te := tLsO K 6) rfl scRf.nd (pi_list (pv 1)) (blkOk_by (N := nRf) (sc := defScope sRf) (by decide +kernel)) (fun _ _ _ _ _ => pg_name (i := 6) scRf.nd rfl (Or.inl rfl)) (fun _ _ _ _ _ => pts_nil) (fun _ _ _ _ _ => pe_callTy call_list_of (by rfl) N.lst PyProof.Rows.boot_list (pa_cons (pv 6) pa_nil))) (pa_cons (pe_op op_repF (pe_lstF (pa_cons pe_int pa_nil)) (pv 0)) (pa_cons (pv 3) pa_nil)))) (pe_lst (pa_cons pe_bl (pa_cons pe_bl (pa_cons (pv 4) pa_nil)))) (nomark _)) (pss_one (ps_ret pe_bl)) pss_nil))))
      (pss_one (ps_ret (pe_and (pe_cmpR op_isN (pe_callG GC hg hr rfl mC kC bC .nil pass0 (pa_cons (pv 1) (pa_cons (pe_op op_repF (pe_lstF (pa_cons pe_int pa_nil)) (pv 0)) (pa_cons pe_bl pa_nil)))) pe_non (nomark _))
        (pe_one (pe_cmpR op_isN (pe_callG GC hg hr rfl mC kC bC .nil pass0 (pa_cons (pv 1) (pa_cons (pe_op op_repF (pe_lstF (pa_cons pe_int pa_nil)) (pv 0)) (pa_cons pe_bl pa_nil)))) pe_non (nomark _))))))))))))), ?_⟩
    refine ⟨_, rfl, n, rfl, by omega, by omega, ?_⟩
    refine ones_run (σ := start nRf [.int n]) rfl rfl (by omega) fun Gd gl H1 hGd s1 nwG eG => ?_
    intro l1 H2 m1
    have ll1 : l1.length = 11 := by have := congrArg List.length m1.ds; rw [List.length_map] at this; exact this
    refine ⟨by rw [List.length_map, ll1, sizeLine_eq]; decide, fun p1 hp1 np1 => ⟨_, rfl, fun l2 H3 m2 => ?_⟩⟩
    have ll2 : l2.length = 7 := by have := congrArg List.length m2.ds; rw [List.length_map] at this; exact this
    refine ⟨by rw [List.length_map, ll2, sizeLine_eq]; decide, fun p2 hp2 np2 => ⟨p1, p2, _, _, rfl, rfl, same_new hp2 _ _ (m2.same _ _ upd_same), upd_same, by rw [List.length_map, List.length_map, ll1, ll2, sizeLine_eq]; decide, fun p3 hp3 np3 => ?_⟩⟩
    have m12 := m1.app (same_new (o := .lst (l1.map (·.v))) hp1) m2
    have s34 : Same H3 _ := (same_new (o := .lst (l2.map (·.v))) hp2).trans (same_new (o := .lst (l1.map (·.v) ++ l2.map (·.v))) hp3)
    refine ⟨_, rfl, fun l3 H5 m3 => ?_⟩
    have ll3 : l3.length = 6 := by have := congrArg List.length m3.ds; rw [List.length_map] at this; exact this
    refine ⟨by rw [List.length_map, ll3, sizeLine_eq]; decide, fun p4 hp4 np4 => ⟨p3, p4, _, _, rfl, rfl, same_new hp4 _ _ (m3.same _ _ upd_same), upd_same, by rw [List.length_append, List.length_map, List.length_map, List.length_map, ll1, ll2, ll3, sizeLine_eq]; decide, fun p5 hp5 np5 => ⟨p5, rfl, ⟨_, SqL.of upd_same⟩, ?_⟩⟩⟩
    have m123 := m12.app s34 m3
    have sH5 := same_new (o := .lst (l3.map (·.v))) hp4
    have s5e : Same H5 _ := sH5.trans (same_new (o := .lst (l1.map (·.v) ++ l2.map (·.v) ++ l3.map (·.v))) hp5)
    refine odds_run (L := l1 ++ l2 ++ l3) (σ0 := [some (.int n), some (.ref Gd), some (.ref p3), none, none, none, none]) (by rw [upd_same, List.map_append, List.map_append]) (fun it hit ha => ?_) (fun it hit => (m123.ok it hit).mono s5e) m123.apart (fun it hit => (tall tbA m123 it hit).2) rfl (fun it hit o4 H6 Q6 fr ok6 k => ?_) (fun o3 o4 H6 fr => ?_) none none
    · obtain ⟨xs, e, _⟩ := (m123.ok it hit).live _ ha
      have := sH5 _ _ e
      rw [hp5] at this
      cases this
    · exact ⟨_, rfl, it, iN, iN, rfl, ok6, ok_iN, ok_iN, .inr ⟨true, it, .inl ⟨rfl, rfl, (tall tbA m123 it hit).1⟩, (tall tbA m123 it hit).2.1, fun D H' hD f eD => k D H' hD (fun b u e nb => f b u e nb (by simp) (by simp)) eD⟩⟩
    have s16 := frm_same m123 s5e fr
    show tRf2 K { nx := fun _ H' => Q .non H', rt := Q } (((sg n Gd (some (.ref p3)) none none).set 3 o3).set 4 o4) H6
    exact rf2 n1 n2 (s16 _ _ eG) (Paired.mapP nwG fun l r h => s16 _ _ h.1) fun H' s => q H' (s1.trans (s16.trans s))
end
end L2.Lw

/-! # numbers, lines, matrices, rows: that they can be shown -/
namespace L2.Ch
open PySem PySem.Spec PyProof.Rows L2.Vf L2.Dw
/-- numbers of at most fifty digits -/
def Dg (ns : List Int) : Prop := ∀ x ∈ ns, x.natAbs < 10 ^ 50
/-- what can be shown, of so much bulk, so deep -/
structure Sw (d : PyData) (b k : Nat) : Prop where
  short : d.leavesShort 51 = true
  bulk : d.bulk ≤ b
  show_ : d.showable = true
  deep : d.depth ≤ k
  dct : d.hasDict = false
structure Sws (ds : List PyData) (b k : Nat) : Prop where
  short : PyData.leavesShortAll 51 ds = true
  bulk : PyData.bulkAll ds ≤ b
  show_ : PyData.showableAll ds = true
  deep : PyData.depthAll ds ≤ k
  dct : PyData.hasDictAll ds = false
theorem Sws.nil {k : Nat} : Sws [] 0 k := ⟨by simp [PyData.leavesShortAll], by simp [PyData.bulkAll], by simp [PyData.showableAll], by simp [PyData.depthAll], by simp [PyData.hasDictAll]⟩
theorem Sws.cons {d : PyData} {ds : List PyData} {a b k : Nat} (h : Sw d a k) (t : Sws ds b k) : Sws (d :: ds) (a + 1 + b) k := by
  refine ⟨?_, ?_, ?_, ?_, ?_⟩
  · simp [PyData.leavesShortAll, h.short, t.short]
  · have := h.bulk; have := t.bulk; simp only [PyData.bulkAll]; omega
  · simp [PyData.showableAll, h.show_, t.show_]
  · have := h.deep; have := t.deep; simp only [PyData.depthAll]; omega
  · simp [PyData.hasDictAll, h.dct, t.dct]
theorem Sw.lst {ds : List PyData} {b k : Nat} (t : Sws ds b k) : Sw (.list ds) b (k + 1) := by
  refine ⟨?_, ?_, ?_, ?_, ?_⟩
  · simp only [PyData.leavesShort]; exact t.short
  · simp only [PyData.bulk]; exact t.bulk
  · simp only [PyData.showable]; exact t.show_
  · have := t.deep; simp only [PyData.depth]; omega
  · simp only [PyData.hasDict]; exact t.dct
theorem Sw.tup {ds : List PyData} {b k : Nat} (t : Sws ds b k) : Sw (.tuple ds) b (k + 1) := by
  refine ⟨?_, ?_, ?_, ?_, ?_⟩
  · simp only [PyData.leavesShort]; exact t.short
  · simp only [PyData.bulk]; exact t.bulk
  · simp only [PyData.showable]; exact t.show_
  · have := t.deep; simp only [PyData.depth]; omega
  · simp only [PyData.hasDict]; exact t.dct
theorem Sw.int {x : Int} {k : Nat} (h : x.natAbs < 10 ^ 50) : Sw (.int x) 0 k := by
  refine ⟨?_, ?_, ?_, ?_, ?_⟩
  · refine decide_eq_true ?_
    have e := int_text_length_le10 (k := 50) (by decide) h
    show (Str.ofString (toString x)).length ≤ 51
    rw [PySem.ofString_length]; exact e
  · simp [PyData.bulk]
  · refine decide_eq_true ?_
    by_cases z : x.natAbs = 0
    · rw [z]; decide
    · exact (Nat.log2_lt z).mpr (Nat.lt_of_lt_of_le h (by decide +kernel))
  · simp [PyData.depth]
  · simp [PyData.hasDict]
theorem Sw.bool {b : Bool} {k : Nat} : Sw (.bool b) 0 k := ⟨by simp [PyData.leavesShort], by simp [PyData.bulk], by simp [PyData.showable], by simp [PyData.depth], by simp [PyData.hasDict]⟩
theorem Sws.of {α : Type} {f : α → PyData} {b k : Nat} : ∀ {xs : List α}, (∀ x ∈ xs, Sw (f x) b k) → Sws (xs.map f) ((b + 1) * xs.length) k
  | [], _ => by simpa using Sws.nil
  | x :: xs, h => by
    have t := Sws.of (xs := xs) fun y hy => h y (List.mem_cons_of_mem _ hy)
    have := Sws.cons (h x List.mem_cons_self) t
    rw [List.map_cons, List.length_cons, Nat.mul_succ, Nat.add_comm]
    exact this
theorem Sw.wr {d : PyData} {b k : Nat} {as : List Addr} (h : Sw d b k) (hb : b ≤ 100000) (hk : k ≤ 50) : Wr d as := by
  refine ⟨h.show_, Nat.le_trans h.deep hk, ?_, fun z => ?_⟩
  · have z := PyData.shown_le_bulk 51 (by decide) d h.short
    have : (51 + 2) * d.bulk ≤ 53 * 100000 := Nat.mul_le_mul_left 53 (Nat.le_trans h.bulk hb)
    rw [sizeLine_eq]
    omega
  · rw [h.dct] at z
    cases z
theorem Sw.ints {ns : List Int} (h : Dg ns) : Sws (ns.map .int) ns.length 0 := by
  have := Sws.of (f := PyData.int) (b := 0) (k := 0) (xs := ns) fun x hx => .int (h x hx)
  simpa using this
theorem sw_line {ns : List Int} (h : Dg ns) : Sw (lineL ns) ns.length 1 := .lst (Sw.ints h)
theorem sw_cell {ns : List Int} (h : Dg ns) : Sw (cellT ns) ns.length 1 := .tup (Sw.ints h)
theorem Sw.le {d : PyData} {b c k : Nat} (h : Sw d b k) (l : b ≤ c) : Sw d c k := ⟨h.short, Nat.le_trans h.bulk l, h.show_, h.deep, h.dct⟩
theorem sw_rows {rows : List (List Int)} {n : Nat} (h : ∀ c ∈ rows, Dg c ∧ c.length ≤ n) : Sw (rowL rows) ((n + 1) * rows.length) 2 := .lst (Sws.of fun c hc => (sw_cell (h c hc).1).le (h c hc).2)
theorem sw_mat {m : List (List Int)} {n : Nat} (h : ∀ c ∈ m, Dg c ∧ c.length ≤ n) : Sw (matL m) ((n + 1) * m.length) 2 := .lst (Sws.of fun c hc => (sw_line (h c hc).1).le (h c hc).2)
end L2.Ch

/-! # rows as data: compared; cells as drawn -/
namespace L2.Ch
open PySem PySem.Spec PyProof.Rows L2.Vf L2.Dw
theorem eqv_cell (a b : List Int) : PyData.eqv (cellT a) (cellT b) = decide (a = b) := by
  show PyData.eqv (.tuple _) (.tuple _) = _
  rw [PyData.eqv, eqv_ints]
theorem eqv_cells : ∀ (a b : List (List Int)), PyData.eqvAll (a.map cellT) (b.map cellT) = decide (a = b)
  | [], [] => by simp [PyData.eqvAll]
  | [], _ :: _ => by simp [PyData.eqvAll]
  | _ :: _, [] => by simp [PyData.eqvAll]
  | x :: a, y :: b => by
    simp only [List.map_cons, PyData.eqvAll, eqv_cell, eqv_cells a b]
    by_cases h : x = y
    · subst h; simp
    · simp [h]
theorem eqv_row (a b : List (List Int)) : PyData.eqv (rowL a) (rowL b) = decide (a = b) := by
  show PyData.eqv (.list _) (.list _) = _
  rw [PyData.eqv, eqv_cells]
theorem lay_cells : ∀ (m : List (List Int)), PyData.canLayAll0 (m.map cellT) = true
  | [] => by simp [PyData.canLayAll0]
  | x :: m => by
    have : PyData.canLay0 (cellT x) = true := by unfold cellT; simp [PyData.canLay0, lay_ints]
    simp only [List.map_cons, PyData.canLayAll0, this, lay_cells m, Bool.and_self]
theorem dep_cells : ∀ (m : List (List Int)), PyData.depthAll (m.map cellT) ≤ 1
  | [] => by simp [PyData.depthAll]
  | x :: m => by
    have : PyData.depth (cellT x) = 1 := by unfold cellT; simp [PyData.depth, dep_ints]
    have := dep_cells m
    simp only [List.map_cons, PyData.depthAll]
    omega
theorem shaped_row (m : List (List Int)) : SeqAt.shaped (rowL m) = true := by
  unfold SeqAt.shaped rowL
  have := dep_cells m
  simp [PyData.canLay0, PyData.depth, lay_cells]
  omega
/-- drawn cells as addresses and rows -/
theorem cells_of {n : Nat} {m : Int} {H H0 : Hp} {D g : Addr} : ∀ {xs : List V}, (∀ v ∈ xs, RCell n m v H ∧ New v H0 ∧ v ≠ .ref D ∧ v ≠ .ref g) → ∃ (cs : List Addr) (rows : List (List Int)), xs = cs.map .ref ∧ Paired (fun a c => H a = some (.tup (c.map V.int))) cs rows ∧ ∀ c ∈ rows, c.length = n ∧ In m c
  | [], _ => ⟨[], [], rfl, .nil, fun c h => absurd h (by simp)⟩
  | v :: xs, h => by
    obtain ⟨⟨a, c, rfl, l, b, e⟩, _⟩ := h v List.mem_cons_self
    obtain ⟨cs, rows, rfl, q, k⟩ := cells_of (n := n) (m := m) (H := H) (H0 := H0) (D := D) (g := g) fun u hu => h u (List.mem_cons_of_mem _ hu)
    refine ⟨a :: cs, c :: rows, rfl, .cons e q, fun c' hc => ?_⟩
    rcases List.mem_cons.mp hc with rfl | hc
    · exact ⟨l, b⟩
    · exact k c' hc
/-- bounds: what a change makes of small numbers -/
theorem In.nat {m : Int} {ns : List Int} {k : Nat} (h : In m ns) (hm : m.natAbs < k) (h0 : 0 ≤ m) : ∀ x ∈ ns, x.natAbs < k := fun x hx => by
  have := h x hx
  omega
theorem sum_le {B : Nat} : ∀ (l : List Int), (∀ x ∈ l, x.natAbs ≤ B) → l.sum.natAbs ≤ l.length * B
  | [], _ => by simp
  | x :: l, h => by
    have h1 := h x List.mem_cons_self
    have h2 := sum_le l fun y hy => h y (List.mem_cons_of_mem _ hy)
    rw [List.sum_cons, List.length_cons, Nat.succ_mul]
    omega
theorem zip_le {B : Nat} : ∀ (r c : List Int), (∀ x ∈ r, x.natAbs ≤ B) → (∀ x ∈ c, x.natAbs ≤ B) → ∀ x ∈ List.zipWith (· * ·) r c, x.natAbs ≤ B * B
  | [], _, _, _ => fun x h => by simp at h
  | _ :: _, [], _, _ => fun x h => by simp at h
  | a :: r, b :: c, h1, h2 => fun x h => by
    rw [List.zipWith_cons_cons] at h
    rcases List.mem_cons.mp h with rfl | h
    · rw [Int.natAbs_mul]
      exact Nat.mul_le_mul (h1 a List.mem_cons_self) (h2 b List.mem_cons_self)
    · exact zip_le r c (fun y hy => h1 y (List.mem_cons_of_mem _ hy)) (fun y hy => h2 y (List.mem_cons_of_mem _ hy)) x h
theorem chC_le {B : Nat} {c : List Int} (hc : ∀ x ∈ c, x.natAbs ≤ B) (hl : c.length ≤ 2) : ∀ (m : List (List Int)) (o : List Int), (∀ r ∈ m, ∀ x ∈ r, x.natAbs ≤ B) → (∀ x ∈ o, x.natAbs ≤ B) → ∀ x ∈ chC m o c, x.natAbs ≤ B + 2 * (B * B)
  | [], _, _, _ => fun x h => by simp [chC] at h
  | _ :: _, [], _, _ => fun x h => by simp [chC] at h
  | r :: m, y :: o, h1, h2 => fun x h => by
    unfold chC at h
    rw [List.zipWith_cons_cons] at h
    rcases List.mem_cons.mp h with rfl | h
    · have e1 := h2 y List.mem_cons_self
      have e2 := sum_le _ (zip_le r c (h1 r List.mem_cons_self) hc)
      have e3 : (List.zipWith (· * ·) r c).length ≤ 2 := by rw [List.length_zipWith]; omega
      have e4 : (List.zipWith (· * ·) r c).length * (B * B) ≤ 2 * (B * B) := Nat.mul_le_mul_right _ e3
      unfold dotL
      omega
    · exact chC_le hc hl m o (fun r' hr => h1 r' (List.mem_cons_of_mem _ hr)) (fun y' hy => h2 y' (List.mem_cons_of_mem _ hy)) x h
/-- a changed cell of numbers within 10 ^ 20 can be shown -/
theorem chC_dg {m : List (List Int)} {o c : List Int} (hc : ∀ x ∈ c, x.natAbs ≤ 10 ^ 20) (hl : c.length ≤ 2) (hm : ∀ r ∈ m, ∀ x ∈ r, x.natAbs ≤ 10 ^ 20) (ho : ∀ x ∈ o, x.natAbs ≤ 10 ^ 20) : Dg (chC m o c) := fun x hx =>
  Nat.lt_of_le_of_lt (chC_le hc hl m o hm ho x hx) (by decide +kernel)
end L2.Ch

/-! # law k15, e: rows -/
namespace L2.Lw
open PySem PySem.Spec PyProof.Rows L2.Vf L2.Dw L2.Ch L2.Lt
abbrev sRr : Stmt := top 27
abbrev nRr : List Str := ["_law_purse_here", "_law_change", "_law_width", "_law_row_here", "_law_before", "_law_told", "_law_good", "_law_odd", "_law_caught_here", "e"]
theorem scRr : FnScope nRr ["_law_purse_here", "_law_change", "_law_width"] (defScope sRr) := ⟨rfl, rfl, rfl, by decide +kernel, rfl, by decide +kernel, by decide +kernel⟩
abbrev WF : WX := fun _ _ _ _ => False
/-- change.row(slot i) where it fits -/
abbrev tRow (K : PySem.W.Frag) (C CR : Addr) (i : Nat) : TE := tMethSD C "row" (spRw K C CR) (WE WF) (tVar 1) (tCons (tVar i) tNil)
abbrev tRch (K : PySem.W.Frag) (C : Addr) : TE := tCall (spRc K C) [] E0 (tCons (tVar 1) (tCons (tVar 3) tNil))
abbrev tAs (K : PySem.W.Frag) (x : V) : TE := tOp (rRepTA K) (tTup (tCons (tC x) tNil)) (tVar 2)
abbrev tRpr (K : PySem.W.Frag) (t : TE) : TE := tCB (rRepr K) (tCons t tNil)
def spRr (K : PySem.W.Frag) (C : Addr) : Sp := fun vs H Q _ => ∃ (g p : Addr) (m : List (List Int)) (o : List Int) (t : Bool) (ps : List Addr) (c : Nat), vs = [.ref g, .ref p, .int (m.length : Nat)] ∧ Pu H g c ∧ c ≤ 90000 ∧ Chg C H p m o t ps ∧ g ∉ ps ∧ Shp m o ∧ (∀ r ∈ m, In (10 ^ 19 + 2) r) ∧ In (10 ^ 19 + 2) o ∧
  ∀ H', Keep g H H' → Pu H' g (c + 100) → Q (.bl true) H'
/-- the first walk's turn -/
def tRr1 (K : PySem.W.Frag) (C CR : Addr) : TS := tSeq (tAsg (tLsO K 3) (gName 4)) (tSeq (tAsg (tRow K C CR 3) (gName 5))
  (tSeq (tIfS (tOr (tTest (tOp rNe (tRpr K (tVar 5)) (tRpr K (tRch K C)))) (tTest (tOp (Vf.rEqD K true) (tVar 3) (tVar 4)))) (tRet (tC (.bl false))) tNext)
  (tSeq (tDrop (tBM K "list" rAppend (tVar 5) (tCons (tC .non) tNil)))
  (tSeq (tIfS (tTest (tOp (Vf.rEqD K true) (tRow K C CR 3) (tSl (rSlL K) (tVar 5) tNoPart (tPart (tUn (rU fun i => .int (-i)) (tC (.int 1))))))) (tRet (tC (.bl false))) tNext)
  (tSeq (tDrop (tBM K "list" rAppend (tVar 3) (tCons (tAs K (.int 1)) tNil)))
  (tSeq (tAsg (tAs K (.int 2)) (gSub (tVar 3) (tC (.int 0)) rSetL)) (tIfS (tTest (tOp (Vf.rEqD K true) (tRow K C CR 3) (tRch K C))) (tRet (tC (.bl false))) tNext)))))))
section
variable {K : PySem.W.Frag} {mg : Str → Option Value} {C CR : Addr} {g p D : Addr} {m : List (List Int)} {o : List Int} {t : Bool} {ps cs : List Addr} {r : List (List Int)} {H1 : Hp} {Dn : Ends} {x4 x5 x6 x7 x8 x9 : Option V}
/-- numbers that the law draws, or writes -/
def Sm (ns : List Int) : Prop := ∀ x ∈ ns, x.natAbs ≤ 10 ^ 20
theorem Sm.big {ns : List Int} (h : Sm ns) : Big ns := fun x hx => Nat.lt_of_le_of_lt (h x hx) (by decide +kernel)
theorem row_wr (hS : Shp m o) (hm : ∀ q ∈ m, Sm q) (ho : Sm o) (hr : ∀ c ∈ r, c.length = m.length ∧ Sm c) (hn : r.length ≤ 20) {as : List Addr} : Wr (rowL (rowC m o t r)) as := by
  have hi := hS.hi
  have all : ∀ c ∈ rowC m o t r, Dg c ∧ c.length ≤ 2 := fun c hc => by
    have hc' : c ∈ r.map (chC m o) := by
      unfold rowC at hc
      split at hc
      · exact List.mem_reverse.mp hc
      · exact hc
    obtain ⟨q, hq, rfl⟩ := List.mem_map.mp hc'
    obtain ⟨l, b⟩ := hr q hq
    refine ⟨chC_dg b (by omega) hm ho, by unfold chC; rw [List.length_zipWith]; omega⟩
  have len : (rowC m o t r).length = r.length := by unfold rowC; split <;> simp
  refine Sw.wr (sw_rows all) ?_ (by decide)
  rw [len]
  have := Nat.mul_le_mul_left (2 + 1) hn
  omega
theorem Chg.live {x : Addr} (h : Chg C H1 p m o t ps) (hx : x ∈ ps) : ∃ u, H1 x = some u := by
  obtain ⟨dx, a, b, ls, rfl, h1, h2, h3, h4⟩ := h
  rcases List.mem_cons.mp hx with rfl | hx
  · exact ⟨_, h1⟩
  · rcases List.mem_cons.mp hx with rfl | hx
    · exact ⟨_, h2⟩
    · rcases List.mem_cons.mp hx with rfl | hx
      · exact ⟨_, h4⟩
      · obtain ⟨j, hj⟩ := List.getElem?_of_mem hx
        obtain ⟨q, _, e⟩ := Paired.at h3 hj
        exact ⟨_, e⟩
/-- tuples stay where a list is changed -/
theorem SqT.keepL {H H' : Hp} {a q : Addr} {xs ys : List V} (h : SqT K H a xs) (hq : H q = some (.lst ys)) (k : Keep q H H') : SqT K H' a xs := by
  rcases h with (h | ⟨o, h⟩) | h
  · exact .inl (.inl (k _ _ (fun z => by rw [z, hq] at h; cases h) h))
  · exact .inl (.inr ⟨o, k _ _ (fun z => by rw [z, hq] at h; cases h) h⟩)
  · exact .inr h
theorem Paired.set0 {α β : Type} {R : α → β → Prop} : ∀ {xs : List α} {ys : List β} {x : α} {y : β}, Paired R xs ys → R x y → Paired R (xs.set 0 x) (ys.set 0 y)
  | _, _, _, _, .nil, _ => .nil
  | _, _, _, _, .cons _ t, h => .cons h t
theorem cut_last (xs : List V) (x : V) : cutV (xs ++ [x]) none (some (-1)) = xs := by
  unfold cutV
  have h1 : HT.sIx (xs ++ [x]).length 0 none = 0 := rfl
  have h2 : HT.sIx (xs ++ [x]).length (xs ++ [x]).length (some (-1)) = xs.length := by
    rw [List.length_append]
    simp [HT.sIx]
    omega
  rw [h1, h2]
  simp
/-- (x,) * width as a cell -/
theorem cell_run {σ : St} {i : Int} {n : Nat} {Q : VK} {H : Hp} (h2 : σ[2]? = some (some (.int (n : Nat)))) (h0 : 1 ≤ n) (hn : n ≤ 1000) (q : ∀ a H', Same H H' → SqT K H' a ((List.replicate n i).map V.int) → Q (.ref a) H') : tAs K (.int i) σ H Q := by
  refine Yl.tup (K := K) (v := .int i) (fun H Q q => q) (.int i) (fun H Q q => ⟨_, h2, q⟩) h0 hn H Q fun it H' s ok _ e => ?_
  have sh := ok.sh
  rw [e] at sh
  generalize it.v = v at sh
  cases sh with
  | tup h3 h4 =>
    rw [show (List.replicate n (PyData.int i)) = (List.replicate n i).map .int by rw [List.map_replicate]] at h4
    rw [shs_ints h4] at h3
    exact q _ H' s h3
theorem rr_turn (T : ChT K mg C) (hc : Chg C H1 p m o t ps) (hD : D ∉ ps) (hS : Shp m o) (hm : ∀ q ∈ m, Sm q) (ho : Sm o) (eD : H1 D = some (.lst (cs.map .ref))) (cl : Cls' K H1 cs r) (hb : ∀ c ∈ r, c.length = m.length ∧ Sm c) (hn : r.length ≤ 5)
    (h : ∀ B Tl H', Keep D H1 H' → Dn.nx [some (.ref g), some (.ref p), some (.int (m.length : Nat)), some (.ref D), some (.ref B), some (.ref Tl), x6, x7, x8, x9] H') :
    tRr1 K C CR Dn [some (.ref g), some (.ref p), some (.int (m.length : Nat)), some (.ref D), x4, x5, x6, x7, x8, x9] H1 := by
  have big : ∀ c ∈ r, c.length = m.length ∧ Big c := fun c hc => ⟨(hb c hc).1, (hb c hc).2.big⟩
  have bigm : ∀ q ∈ m, Big q := fun q hq => (hm q hq).big
  obtain ⟨dx, a1, b1, l1, hp1, _, _, _⟩ := hc.at (K := K)
  refine ⟨_, rfl, D, _, rfl, .inl (SqL.of eD), fun B hB => ?_⟩
  have s2 := same_new (o := .lst (cs.map V.ref)) hB
  have cl2 : Cls' K _ cs r := Paired.mapP cl fun _ _ e => SqT.mono e s2
  refine ⟨_, rfl, p, dx, _, rfl, s2 _ _ hp1, rfl, _, rfl, p, m, o, t, ps, .ref D, rowL r, _, rfl, hc.mono s2, hS, row_sh (SqL.of (s2 _ _ eD)) cl2, .inr ⟨r, rfl, big, bigm, by omega, fun Tl cs' H3 hT s3 nw3 e3 => ?_⟩⟩
  have s13 := s2.trans s3
  have cl3 : Cls' K H3 cs r := Paired.mapP cl fun _ _ e => SqT.mono e s13
  have cT : Cls' K H3 cs' (rowC m o t r) := Paired.mapP nw3 fun _ _ e => SqT.of e.1
  refine ⟨_, rfl, .ref Tl, rowL (rowC m o t r), _, rfl, row_sh (SqL.of e3) cT, row_wr hS hm ho hb (by omega), ?_⟩
  refine ⟨_, rfl, _, rfl, p, D, m, o, t, ps, cs, r, rfl, hc.mono s13, hS, SqL.of (s13 _ _ eD), cl3, big, bigm, by omega, fun T2 cs2 H4 hT2 s4 nw4 e4 => ?_⟩
  have s14 := s13.trans s4
  refine ⟨.ref T2, rowL (rowC m o t r), _, rfl, row_sh (SqL.of e4) (Paired.mapP nw4 fun _ _ e => SqT.of e.1), row_wr hS hm ho hb (by omega), rfl, _, rfl, ?_⟩
  rw [decide_eq_true rfl]
  refine iteF ⟨_, rfl, _, rfl, rowL r, rowL r, _, _, row_sh (SqL.of (s14 _ _ eD)) (Paired.mapP cl fun _ _ e => SqT.mono e s14), row_sh (SqL.of (s4 _ _ (s3 _ _ upd_same))) (Paired.mapP cl fun _ _ e => SqT.mono e s14), shaped_row r, shaped_row r, _, rfl, ?_⟩
  rw [(if_pos rfl).trans (congrArg not (eqv_row r r)), decide_eq_true rfl]
  refine iteF ?_
  -- the told row is changed
  have nT : H1 Tl = none := s2.free hT
  have nTp : Tl ∉ ps := fun z => by
    obtain ⟨u, e⟩ := Lw.Chg.live hc z
    rw [nT] at e
    cases e
  have DT : D ≠ Tl := ne_of_none eD nT
  have eT4 : H4 Tl = some (.lst (cs'.map .ref)) := s4 _ _ e3
  have lenC : cs'.length ≤ 5 := by
    have := Paired.length nw3
    rw [this]
    unfold rowC
    split <;> simp <;> omega
  refine ⟨_, rfl, .inl ⟨rfl, _, SqL.of eT4⟩, Tl, _, .non, rfl, rfl, eT4, by rw [List.length_map, sizeLine_eq]; omega, ?_⟩
  have k5 : Keep Tl H4 (upd H4 Tl (.lst (cs'.map V.ref ++ [.non]))) := keep_upd
  have eT5 : (upd H4 Tl (.lst (cs'.map V.ref ++ [.non]))) Tl = some (.lst (cs'.map V.ref ++ [.non])) := upd_same
  generalize upd H4 Tl (.lst (cs'.map V.ref ++ [.non])) = H5 at k5 eT5
  have hc5 : Chg C H5 p m o t ps := (hc.mono s14).keep k5 nTp
  have eD5 : H5 D = some (.lst (cs.map .ref)) := k5 _ _ DT (s14 _ _ eD)
  have cl5 : Cls' K H5 cs r := Paired.mapP cl fun _ _ e => SqT.keepL (SqT.mono e s14) eT4 k5
  have cT5 : Cls' K H5 cs' (rowC m o t r) := Paired.mapP cT fun _ _ e => SqT.keepL (SqT.mono e s4) eT4 k5
  obtain ⟨dx5, a5, b5, l5, hp5, _, _, _⟩ := hc5.at (K := K)
  refine ⟨_, rfl, p, dx5, _, rfl, hp5, rfl, _, rfl, p, m, o, t, ps, .ref D, rowL r, _, rfl, hc5, hS, row_sh (SqL.of eD5) cl5, .inr ⟨r, rfl, big, bigm, by omega, fun T3 cs3 H6 hT3 s6 nw6 e6 => ?_⟩⟩
  refine ⟨_, rfl, _, rfl, _, rfl, Tl, _, rfl, SqL.of (s6 _ _ eT5), fun S hS' => ?_⟩
  have s7 := same_new (o := .lst (cutV (cs'.map V.ref ++ [.non]) none (some (-1)))) hS'
  refine ⟨rowL (rowC m o t r), rowL (rowC m o t r), _, _, row_sh (SqL.of (s7 _ _ e6)) (Paired.mapP nw6 fun _ _ e => SqT.of (s7 _ _ e.1)), row_sh (cs := cs') (SqL.of (by rw [upd_same, cut_last])) (Paired.mapP cT5 fun _ _ e => SqT.mono e (s6.trans s7)), shaped_row _, shaped_row _, _, rfl, ?_⟩
  rw [(if_pos rfl).trans (congrArg not (eqv_row _ _)), decide_eq_true rfl]
  refine iteF ?_
  -- the row is changed
  have s57 := s6.trans s7
  have eD7 := s57 _ _ eD5
  have lenD : cs.length ≤ 5 := by rw [Paired.length cl]; exact hn
  refine ⟨_, rfl, .inl ⟨rfl, _, SqL.of eD7⟩, ?_⟩
  refine cell_run (K := K) (i := 1) rfl hS.lo (by have := hS.hi; omega) fun q H8 s8 hq => ?_
  refine ⟨D, _, .ref q, rfl, rfl, s8 _ _ eD7, by rw [List.length_map, sizeLine_eq]; omega, ?_⟩
  have nDp : D ∉ ps := hD
  have e58 := s57.trans s8
  have k9 : Keep D H8 (upd H8 D (.lst (cs.map V.ref ++ [.ref q]))) := keep_upd
  have eD9 : (upd H8 D (.lst (cs.map V.ref ++ [.ref q]))) D = some (.lst (cs.map V.ref ++ [.ref q])) := upd_same
  have cl9 : Cls' K (upd H8 D (.lst (cs.map V.ref ++ [.ref q]))) (cs ++ [q]) (r ++ [List.replicate m.length 1]) := Ch.Paired.snoc (Paired.mapP cl5 fun _ _ e => SqT.keepL (SqT.mono e e58) (s8 _ _ eD7) k9) (SqT.keepL hq (s8 _ _ eD7) k9)
  have hc9 : Chg C (upd H8 D (.lst (cs.map V.ref ++ [.ref q]))) p m o t ps := (hc5.mono e58).keep k9 nDp
  generalize upd H8 D (.lst (cs.map V.ref ++ [.ref q])) = H9 at k9 eD9 cl9 hc9
  refine cell_run (K := K) (i := 2) rfl hS.lo (by have := hS.hi; omega) fun q2 H10 s10 hq2 => ?_
  refine ⟨_, rfl, D, _, 0, 0, rfl, rfl, s10 _ _ eD9, by unfold ixN; rw [List.length_append]; simp, ?_⟩
  have el : (cs.map V.ref ++ [V.ref q]).set 0 (V.ref q2) = ((cs ++ [q]).set 0 q2).map V.ref := by
    rw [← List.map_singleton, ← List.map_append, List.map_set]
  rw [el]
  have k11 : Keep D H10 (upd H10 D (.lst (((cs ++ [q]).set 0 q2).map V.ref))) := keep_upd
  have eD11 : (upd H10 D (.lst (((cs ++ [q]).set 0 q2).map V.ref))) D = some (.lst (((cs ++ [q]).set 0 q2).map V.ref)) := upd_same
  have cl11 : Cls' K (upd H10 D (.lst (((cs ++ [q]).set 0 q2).map V.ref))) ((cs ++ [q]).set 0 q2) ((r ++ [List.replicate m.length 1]).set 0 (List.replicate m.length 2)) :=
    Paired.set0 (Paired.mapP cl9 fun _ _ e => SqT.keepL (SqT.mono e s10) (s10 _ _ eD9) k11) (SqT.keepL hq2 (s10 _ _ eD9) k11)
  have hc11 : Chg C (upd H10 D (.lst (((cs ++ [q]).set 0 q2).map V.ref))) p m o t ps := (hc9.mono s10).keep k11 nDp
  generalize upd H10 D (.lst (((cs ++ [q]).set 0 q2).map V.ref)) = H11 at k11 eD11 cl11 hc11
  have rep : ∀ i : Int, i.natAbs ≤ 10 ^ 20 → (List.replicate m.length i).length = m.length ∧ Sm (List.replicate m.length i) := fun i hi => ⟨List.length_replicate, fun x hx => by rw [(List.mem_replicate.mp hx).2]; exact hi⟩
  have hb' : ∀ c ∈ (r ++ [List.replicate m.length 1]).set 0 (List.replicate m.length 2), c.length = m.length ∧ Sm c := fun c hc => by
    rcases List.mem_or_eq_of_mem_set hc with hc | rfl
    · rcases List.mem_append.mp hc with hc | hc
      · exact hb c hc
      · rw [List.mem_singleton.mp hc]; exact rep 1 (by decide)
    · exact rep 2 (by decide)
  have big' : ∀ c ∈ (r ++ [List.replicate m.length 1]).set 0 (List.replicate m.length 2), c.length = m.length ∧ Big c := fun c hc => ⟨(hb' c hc).1, (hb' c hc).2.big⟩
  have len' : ((r ++ [List.replicate m.length 1]).set 0 (List.replicate m.length 2)).length ≤ 1000 := by rw [List.length_set, List.length_append]; simp; omega
  generalize (r ++ [List.replicate m.length (1 : Int)]).set 0 (List.replicate m.length 2) = r' at cl11 hb' big' len'
  generalize (cs ++ [q]).set 0 q2 = cs' at eD11 cl11
  obtain ⟨dx7, a7, b7, l7, hp7, _, _, _⟩ := hc11.at (K := K)
  refine ⟨_, rfl, p, dx7, _, rfl, hp7, rfl, _, rfl, p, m, o, t, ps, .ref D, rowL r', _, rfl, hc11, hS, row_sh (SqL.of eD11) cl11, .inr ⟨r', rfl, big', bigm, len', fun T4 cs4 H12 hT4 s12 nw12 e12 => ?_⟩⟩
  refine ⟨_, rfl, _, rfl, p, D, m, o, t, ps, cs', r', rfl, hc11.mono s12, hS, SqL.of (s12 _ _ eD11), Paired.mapP cl11 fun _ _ e => SqT.mono e s12, big', bigm, len', fun T5 cs5 H13 hT5 s13' nw13 e13 => ?_⟩
  refine ⟨rowL (rowC m o t r'), rowL (rowC m o t r'), _, _, row_sh (SqL.of (s13' _ _ e12)) (Paired.mapP nw12 fun _ _ e => SqT.of (s13' _ _ e.1)), row_sh (SqL.of e13) (Paired.mapP nw13 fun _ _ e => SqT.of e.1), shaped_row _, shaped_row _, _, rfl, ?_⟩
  rw [(if_pos rfl).trans (congrArg not (eqv_row _ _)), decide_eq_true rfl]
  refine iteF (h B Tl H13 fun b u nb e => ?_)
  have hbT : b ≠ Tl := ne_of_none e nT
  exact s13' _ _ (s12 _ _ (k11 _ _ nb (s10 _ _ (k9 _ _ nb (e58 _ _ (k5 _ _ hbT (s14 _ _ e)))))))
end
end L2.Lw

/-! # law k15, f: rows, walked; odd rows -/
namespace L2.Lw
open PySem PySem.Spec PyProof.Rows L2.Vf L2.Dw L2.Ch L2.Lt
/-- a row that the law walks: its list, its cells -/
structure RowI where
  D : Addr
  cs : List Addr
  r : List (List Int)
structure RowAt (K : PySem.W.Frag) (H : Hp) (t : RowI) : Prop where
  lst : H t.D = some (.lst (t.cs.map .ref))
  cells : Cls' K H t.cs t.r
section
variable {K : PySem.W.Frag} {mg : Str → Option Value} {C CR g p G : Addr} {m : List (List Int)} {o : List Int} {t : Bool} {ps : List Addr} {L : List RowI} {HG : Hp} {Dn : Ends}
theorem rr_walk (T : ChT K mg C) (hc : Chg C HG p m o t ps) (hS : Shp m o) (hm : ∀ q ∈ m, Sm q) (ho : Sm o) (hG : HG G = some (.lst (L.map fun t => V.ref t.D))) (hrow : ∀ x ∈ L, RowAt K HG x) (hd : L.Pairwise fun a b => a.D ≠ b.D)
    (hx : ∀ x ∈ L, x.D ∉ ps ∧ x.D ≠ G ∧ (∀ c ∈ x.r, c.length = m.length ∧ Sm c) ∧ x.r.length ≤ 5)
    (h : ∀ x3 x4 x5 H', (∀ b u, HG b = some u → (∀ x ∈ L, b ≠ x.D) → H' b = some u) → Dn.nx [some (.ref g), some (.ref p), some (.int (m.length : Nat)), x3, x4, x5, none, none, none, none] H') :
    ∃ W : Nat → Nat → St → Hp → Prop, (∃ k, W 0 k [some (.ref g), some (.ref p), some (.int (m.length : Nat)), none, none, none, none, none, none, none] HG) ∧ ∀ i k σ H, W i k σ H →
      ((Itl K G).stop i H ∧ Dn.nx σ H) ∨ ((Itl K G).go i H ∧ ∃ N : St → Hp → Prop, (∀ σ' H', N σ' H' → ∃ m', m' < k ∧ W (i + 1) m' σ' H') ∧ ∀ x H', (Itl K G).yld i H x H' → gName 3 x σ H' fun σ2 H2 => tRr1 K C CR { Dn with nx := N, ct := N, bk := Dn.nx } σ2 H2) := by
  refine for_list (xs := L.map fun t => V.ref t.D) (fun i σ H' => (∃ x3 x4 x5, σ = [some (.ref g), some (.ref p), some (.int (m.length : Nat)), x3, x4, x5, none, none, none, none]) ∧ (∀ b u, HG b = some u → (∀ x ∈ L, b ≠ x.D) → H' b = some u) ∧ ∀ k x, i ≤ k → L[k]? = some x → RowAt K H' x)
    ⟨⟨none, none, none, rfl⟩, fun b u e _ => e, fun k x _ hk => hrow x (List.mem_of_getElem? hk)⟩ (fun i σ H' _ hP => SqL.of (hP.2.1 G _ hG fun x hx' => (hx x hx').2.1.symm)) (fun i x σ H' hx' hP => ?_) fun σ H' hP => ?_
  · obtain ⟨⟨x3, x4, x5, rfl⟩, fr, rw_⟩ := hP
    rw [List.getElem?_map] at hx'
    cases e : L[i]? with
    | none => rw [e] at hx'; cases hx'
    | some y =>
      rw [e] at hx'
      cases hx'
      have hy := List.mem_of_getElem? e
      have ra := rw_ i y (Nat.le_refl _) e
      obtain ⟨h1, h2, h3, h4⟩ := hx y hy
      have hc' : Chg C H' p m o t ps := hc.stay fun z hz u ez => fr z u ez fun x hx' q => (hx x hx').1 (q ▸ hz)
      show tRr1 K C CR _ [some (.ref g), some (.ref p), some (.int (m.length : Nat)), some (.ref y.D), x4, x5, none, none, none, none] H'
      refine rr_turn T hc' h1 hS hm ho ra.lst ra.cells h3 h4 fun B Tl H2 k => ⟨⟨_, _, _, rfl⟩, fun b u eb nb => k b u (nb y hy) (fr b u eb nb), fun k' z hk hz => ?_⟩
      have hz' := rw_ k' z (by omega) hz
      have ne : y.D ≠ z.D := by
        rw [List.pairwise_iff_getElem] at hd
        obtain ⟨i1, e1⟩ := List.getElem?_eq_some_iff.mp e
        obtain ⟨i2, e2⟩ := List.getElem?_eq_some_iff.mp hz
        have := hd i k' i1 i2 (by omega)
        rw [e1, e2] at this
        exact this
      exact ⟨k _ _ ne.symm hz'.lst, Paired.mapP hz'.cells fun _ _ q => SqT.keepL q ra.lst k⟩
  · obtain ⟨⟨x3, x4, x5, rfl⟩, fr, _⟩ := hP
    exact h x3 x4 x5 H' fr
end
/-! ### things made where others stand -/
theorem shs_mono {K : PySem.W.Frag} {H H' : Hp} {xs : List V} {ds : List PyData} {as : List Addr} (h : Shs K H xs ds as) (s : Same H H') : Shs K H' xs ds as := shs_stay h fun b u e _ => s b u e
theorem shs_app {K : PySem.W.Frag} {H : Hp} {ys : List V} {es : List PyData} (t : Shs K H ys es []) : ∀ {xs : List V} {ds : List PyData} {as : List Addr}, Shs K H xs ds as → as = [] → Shs K H (xs ++ ys) (ds ++ es) []
  | _, _, _, .nil, _ => t
  | _, _, _, .cons h r, e => by
    obtain ⟨e1, e2⟩ := List.append_eq_nil_iff.mp e
    subst e1
    exact .cons (as := []) (bs := []) h (shs_app t r e2)
theorem shs_int0 {K : PySem.W.Frag} {H : Hp} : ∀ {ns : List Int} {xs : List V} {as : List Addr}, Shs K H xs (ns.map .int) as → as = []
  | [], _, _, h => by cases h; rfl
  | n :: ns, _, _, h => by
    cases h with
    | cons h1 h2 =>
      cases h1
      rw [shs_int0 h2]; rfl
theorem sh_cell0 {K : PySem.W.Frag} {H : Hp} {ns : List Int} {v : V} {as : List Addr} (h : Sh K H v (.tuple (ns.map .int)) as) : as = [] := by
  cases h with
  | tup h1 h2 => exact shs_int0 h2
def YlS (K : PySem.W.Frag) (H0 : Hp) (σ : St) (te : TE) (d : PyData) : Prop := ∀ (H : Hp) (Q : VK), Same H0 H → (∀ i H', Same H H' → Ok K H' i → Fresh H i → i.d = d → Q i.v H') → te σ H Q
def YlSA (K : PySem.W.Frag) (H0 : Hp) (σ : St) (ta : TA) (ds : List PyData) : Prop := ∀ (H : Hp) (Q : List V → Hp → Prop), Same H0 H → (∀ l H', Made K H H' l ds → Q (l.map (·.v)) H') → ta σ H Q
section
variable {K : PySem.W.Frag} {H0 : Hp} {σ : St} {te t1 t2 : TE} {ta : TA} {d : PyData} {ds es : List PyData}
theorem YlS.of (h : Yl K σ te d) : YlS K H0 σ te d := fun H Q _ q => h H Q q
theorem YlSA.nil : YlSA K H0 σ tNil [] := fun H Q _ q => YlA.nil H Q q
theorem YlSA.cons (h : YlS K H0 σ te d) (t : YlSA K H0 σ ta ds) : YlSA K H0 σ (tCons te ta) (d :: ds) := fun H Q s0 q =>
  h H _ s0 fun i H1 s1 ok1 f1 e1 => t H1 _ (s0.trans s1) fun l H2 m => q (i :: l) H2 ⟨s1.trans m.same, fun j hj => by
      rcases List.mem_cons.mp hj with rfl | hj
      · exact ok1.mono m.same
      · exact m.ok j hj, fun j hj a ha => by
      rcases List.mem_cons.mp hj with rfl | hj
      · exact f1 a ha
      · exact ⟨s1.free (m.new j hj a ha).1, (m.new j hj a ha).2⟩, .cons (fun j hj a ha ha' => by
      obtain ⟨xs, e, _⟩ := ok1.live a ha
      rw [(m.new j hj a ha').1] at e
      cases e) m.apart, by rw [List.map_cons, e1, m.ds]⟩
theorem YlSA.lst (h : YlSA K H0 σ ta ds) (hl : ds.length ≤ 1000) : YlS K H0 σ (tLstF ta) (.list ds) := fun H Q s0 q => h H _ s0 fun l H' m => by
  have ll : l.length = ds.length := by rw [← m.ds, List.length_map]
  refine ⟨by rw [List.length_map, sizeLine_eq]; omega, fun p hp np => ?_⟩
  have sp := same_new (o := .lst (l.map (·.v))) hp
  refine q ⟨.ref p, .list ds, p :: l.flatMap (·.as)⟩ _ (m.same.trans sp) ⟨.lst (SqL.of upd_same) ?_, fun a ha => ?_, fun ds' _ => ⟨p, rfl, List.mem_cons_self⟩⟩ (fun a ha => ?_) rfl
  · have := Made.shs (K := K) fun i hi => (m.ok i hi).mono sp
    rw [m.ds] at this
    exact this
  · rcases List.mem_cons.mp ha with rfl | ha
    · exact ⟨_, upd_same, by rw [List.length_map]; omega⟩
    · obtain ⟨i, hi, ha⟩ := List.mem_flatMap.mp ha
      obtain ⟨xs, e, le⟩ := (m.ok i hi).live a ha
      exact ⟨xs, sp _ _ e, le⟩
  · rcases List.mem_cons.mp ha with rfl | ha
    · exact ⟨m.same.free hp, np⟩
    · obtain ⟨i, hi, ha⟩ := List.mem_flatMap.mp ha
      exact m.new i hi a ha
theorem YlSA.tup (h : YlSA K H0 σ ta ds) (hl : ds.length ≤ 1000) : YlS K H0 σ (tTup ta) (.tuple ds) := fun H Q s0 q => h H _ s0 fun l H' m => by
  have ll : l.length = ds.length := by rw [← m.ds, List.length_map]
  refine ⟨by rw [List.length_map, sizeLine_eq]; omega, fun p hp => ?_⟩
  have sp := same_new (o := .tup (l.map (·.v))) hp
  refine q ⟨.ref p, .tuple ds, l.flatMap (·.as)⟩ _ (m.same.trans sp) ⟨.tup (SqT.of upd_same) ?_, fun a ha => ?_, fun ds' z => by cases z⟩ (fun a ha => ?_) rfl
  · have := Made.shs (K := K) fun i hi => (m.ok i hi).mono sp
    rw [m.ds] at this
    exact this
  · obtain ⟨i, hi, ha⟩ := List.mem_flatMap.mp ha
    obtain ⟨xs, e, le⟩ := (m.ok i hi).live a ha
    exact ⟨xs, sp _ _ e, le⟩
  · obtain ⟨i, hi, ha⟩ := List.mem_flatMap.mp ha
    exact m.new i hi a ha
/-- a value in a slot in which no list is -/
theorem YlS.var {i : Nat} {v : V} (h : σ[i]? = some (some v)) (hs : Sh K H0 v d []) (hd : ∀ ds, d ≠ .list ds) : YlS K H0 σ (tVar i) d := fun H Q s0 q => ⟨v, h, one_lit q (sh_mono hs s0) hd⟩
theorem YlS.con {v : V} (h : Sc v d) (hd : ∀ ds, d ≠ .list ds) : YlS K H0 σ (tC v) d := fun H Q s0 q => one_lit q h.sh hd
/-- two tuples of scalars put together -/
theorem YlS.cat (h1 : YlS K H0 σ t1 (.tuple ds)) (h2 : YlS K H0 σ t2 (.tuple es)) (n1 : ds ≠ []) (n2 : es ≠ []) (hl : ds.length + es.length ≤ 1000) (f1 : ∀ H v as, Sh K H v (.tuple ds) as → as = []) (f2 : ∀ H v as, Sh K H v (.tuple es) as → as = []) : YlS K H0 σ (tOp (rCatT K) t1 t2) (.tuple (ds ++ es)) := fun H Q s0 q =>
  h1 H _ s0 fun i H1 s1 ok1 _ e1 => h2 H1 _ (s0.trans s1) fun j H2 s2 ok2 _ e2 => by
    have a1 := (ok1.mono s2).sh
    have a2 := ok2.sh
    rw [e1] at a1
    rw [e2] at a2
    have b1 := f1 _ _ _ a1
    have b2 := f2 _ _ _ a2
    generalize i.as = as1 at a1 b1
    generalize j.as = as2 at a2 b2
    generalize i.v = v at a1
    generalize j.v = w at a2
    cases a1 with
    | @tup a xs _ _ c1 d1 =>
      cases a2 with
      | @tup b ys _ _ c2 d2 =>
        have l1 := Shs.length d1
        have l2 := Shs.length d2
        refine ⟨a, b, xs, ys, rfl, rfl, c1, c2, fun z => n1 (by rw [z] at l1; exact List.eq_nil_of_length_eq_zero l1.symm), by rw [sizeLine_eq]; omega, fun z => absurd (by rw [z] at l2; exact List.eq_nil_of_length_eq_zero l2.symm) n2, fun _ p hp => ?_⟩
        have sp := same_new (o := .tup (xs ++ ys)) hp
        subst b1 b2
        refine q ⟨.ref p, .tuple (ds ++ es), []⟩ _ (s1.trans (s2.trans sp)) ⟨.tup (SqT.of upd_same) ?_, fun a m => (by cases m), fun ds z => (by cases z)⟩ (fun a m => (by cases m)) rfl
        exact shs_app (shs_mono d2 sp) (shs_mono d1 sp) rfl
end
end L2.Lw

/-! # law k15, g: rows, the whole -/
namespace L2.Lw
open PySem PySem.Spec PyProof.Rows L2.Vf L2.Dw L2.Ch L2.Lt
def oG (n : Nat) : List PyData := [.none, .int 3, .tuple [.tuple (List.replicate n (.int 1))], .list [.none], .list [.tuple (List.replicate n (.int 1) ++ [.int 0])], .list [.tuple (List.replicate n (.bool true))], .str "", .dict [], .list [.tuple (List.replicate n (.int 1)), .list (List.replicate n (.int 1))]]
def tbr (d : PyData) : Bool := d.showable && decide (d.depth ≤ 50) && decide (d.shown.length ≤ 1000)
theorem tbG1 : (oG 1).all (fun d => !rowD 1 d && tbr d) = true := by decide +kernel
theorem tbG2 : (oG 2).all (fun d => !rowD 2 d && tbr d) = true := by decide +kernel
theorem tbr_wr {it : Itm} (h : tbr it.d = true) (f : ∀ a ∈ it.as, a ≠ sysModules) : Wr it.d it.as := by
  unfold tbr at h
  simp only [Bool.and_eq_true, decide_eq_true_eq] at h
  obtain ⟨⟨h1, h2⟩, h3⟩ := h
  exact ⟨h1, h2, by rw [sizeLine_eq]; omega, fun _ m => f _ m rfl⟩
theorem tallG {K : PySem.W.Frag} {n : Nat} {H0 H1 : Hp} {L : List Itm} (n1 : 1 ≤ n) (n2 : n ≤ 2) (m : Made K H0 H1 L (oG n)) (it : Itm) (hit : it ∈ L) : rowD n it.d = false ∧ Wr it.d it.as := by
  have hd : it.d ∈ L.map (·.d) := List.mem_map.mpr ⟨it, hit, rfl⟩
  rw [m.ds] at hd
  have key : (oG n).all (fun d => !rowD n d && tbr d) = true := by
    have : n = 1 ∨ n = 2 := by omega
    rcases this with rfl | rfl
    · exact tbG1
    · exact tbG2
  have := List.all_eq_true.mp key _ hd
  rw [Bool.and_eq_true] at this
  exact ⟨by simpa using this.1, tbr_wr this.2 fun a ha => (m.new it hit a ha).2⟩
abbrev tLG : TE := tOp rRepF (tLstF (tCons (tC (.int 1)) tNil)) (tVar 2)
abbrev taG (K : PySem.W.Frag) : TA := tCons (tC .non) (tCons (tC (.int 3)) (tCons (tTup (tCons (tVar 6) tNil)) (tCons (tLstF (tCons (tC .non) tNil)) (tCons (tLstF (tCons (tOp (rCatT K) (tVar 6) (tTup (tCons (tC (.int 0)) tNil))) tNil)) (tCons (tLstF (tCons (tAs K (.bl true)) tNil)) (tCons (tC (.str "")) (tCons (tLit K (.dict [])) (tCons (tLstF (tCons (tVar 6) (tCons tLG tNil))) tNil))))))))
theorem yG {K : PySem.W.Frag} {H0 : Hp} {σ : St} {n : Nat} {a : Addr} (h2 : σ[2]? = some (some (.int (n : Nat)))) (h6 : σ[6]? = some (some (.ref a))) (ha : SqT K H0 a ((List.replicate n (1 : Int)).map V.int)) (n1 : 1 ≤ n) (n2 : n ≤ 2) : YlSA K H0 σ (taG K) (oG n) := by
  have e1 : List.replicate n (PyData.int 1) = (List.replicate n (1 : Int)).map .int := by rw [List.map_replicate]
  have s6 : Sh K H0 (.ref a) (.tuple (List.replicate n (.int 1))) [] := by rw [e1]; exact .tup ha (int_shs _)
  have v6 : YlS K H0 σ (tVar 6) (.tuple (List.replicate n (.int 1))) := .var h6 s6 fun ds z => by cases z
  have c0 : YlS K H0 σ (tTup (tCons (tC (.int 0)) tNil)) (.tuple [.int 0]) := (YlSA.cons (.con (.int 0) fun ds z => by cases z) .nil).tup (by decide)
  have ct : YlS K H0 σ (tOp (rCatT K) (tVar 6) (tTup (tCons (tC (.int 0)) tNil))) (.tuple (List.replicate n (.int 1) ++ [.int 0])) :=
    v6.cat c0 (by simp; omega) (by simp) (by simp; omega) (fun H v as h => by rw [e1] at h; exact sh_cell0 h) (fun H v as h => sh_cell0 (ns := [0]) h)
  have tw : YlS K H0 σ (tAs K (.bl true)) (.tuple (List.replicate n (.bool true))) := .of (Yl.tup (v := .bl true) (fun H Q q => q) (.bl true) (fun H Q q => ⟨_, h2, q⟩) n1 (by omega))
  have ln : YlS K H0 σ tLG (.list (List.replicate n (.int 1))) := .of (((YlF.one (v := .int 1) fun H Q q => q).rep (k := n) (fun H Q q => ⟨_, h2, q⟩) (by omega) (show 1 ≤ 1000 by decide)).yl (by rw [rep_one]; exact rep_sc (.int 1) n) (by rw [rep_one, List.length_replicate]; omega))
  exact .cons (.con .non fun ds z => by cases z) (.cons (.con (.int 3) fun ds z => by cases z) (.cons ((YlSA.cons v6 .nil).tup (by simp)) (.cons ((YlSA.cons (.con .non fun ds z => by cases z) .nil).lst (by simp)) (.cons ((YlSA.cons ct .nil).lst (by simp)) (.cons ((YlSA.cons tw .nil).lst (by simp))
    (.cons (.con (.str "") fun ds z => by cases z) (.cons (.of .lit) (.cons ((YlSA.cons v6 (.cons ln .nil)).lst (by simp)) .nil))))))))
end L2.Lw

/-! # law k15, g: rows, the whole -/
namespace L2.Lw
open PySem PySem.Spec PyProof.Rows L2.Vf L2.Dw L2.Ch L2.Lt
/-- one turn of the second walk -/
def tRr2 (K : PySem.W.Frag) (C CR : Addr) : TS := tSeq (tAsg (tC .non) (gName 8)) (tSeq (fun D σ H => tDrop (tMethSD C "row" (spRw K C CR) (WE (wHold K (.ref CR) 9 (fun _ _ _ => tAsg (tVar 9) (gName 8)) D)) (tVar 1) (tCons (tVar 7) tNil)) D σ H)
  (tIfS (tOr (tTest (tOp (fun x y H Q => y = .non ∧ Q (.bl (decide (x = .non))) H) (tVar 8) (tC .non))) (tTest (tOp rNe (tRpr K (tErG K "value" (tVar 8))) (tRpr K (tVar 7))))) (tRet (tC (.bl false))) tNext))
section
variable {P : Program} {w : World} {K : PySem.W.Frag} {mg : Str → Option Value} {base : Heap} {C CR iR g p G : Addr} {dIR : FuncData} {m : List (List Int)} {o : List Int} {t : Bool} {ps : List Addr} {L : List Itm} {H0 HG : Hp} {Dn : Ends} {s0 s1 s2 s3 s4 s5 s6 s9 : Option V}
theorem rr_odds (ER : ErT P w K mg base "InvalidRow" CR iR dIR) (eR : PySem.W.exmOne K (.ref CR) (.ref CR) = some true) (hc : Chg C HG p m o t ps) (hS : Shp m o) (hG : HG G = some (.lst (L.map (·.v)))) (hL : ∀ it ∈ L, Sh K HG it.v it.d it.as ∧ rowD m.length it.d = false ∧ Wr it.d it.as)
    (h : ∀ x7 x8 H', Same HG H' → Dn.nx [s0, some (.ref p), s2, s3, s4, s5, s6, x7, x8, none] H') (x7 x8 : Option V) :
    ∃ W : Nat → Nat → St → Hp → Prop, (∃ k, W 0 k [s0, some (.ref p), s2, s3, s4, s5, s6, x7, x8, none] HG) ∧ ∀ i k σ H, W i k σ H →
      ((Itl K G).stop i H ∧ Dn.nx σ H) ∨ ((Itl K G).go i H ∧ ∃ N : St → Hp → Prop, (∀ σ' H', N σ' H' → ∃ m', m' < k ∧ W (i + 1) m' σ' H') ∧ ∀ x H', (Itl K G).yld i H x H' → gName 7 x σ H' fun σ2 H2 => tRr2 K C CR { Dn with nx := N, ct := N, bk := Dn.nx } σ2 H2) := by
  refine for_list (xs := L.map (·.v)) (fun i σ H' => (∃ x7 x8, σ = [s0, some (.ref p), s2, s3, s4, s5, s6, x7, x8, none]) ∧ Same HG H') ⟨⟨x7, x8, rfl⟩, .refl _⟩ (fun i σ H' _ hP => SqL.of (hP.2 _ _ hG)) (fun i x σ H' hx hP => ?_) fun σ H' hP => ?_
  · obtain ⟨⟨y7, y8, rfl⟩, sm⟩ := hP
    rw [List.getElem?_map] at hx
    cases e : L[i]? with
    | none => rw [e] at hx; cases hx
    | some it =>
      rw [e] at hx
      cases hx
      obtain ⟨sh, rw_, wr⟩ := hL it (List.mem_of_getElem? e)
      have hc' := hc.mono sm
      obtain ⟨dx, a1, b1, l1, hp1, _, _, _⟩ := hc'.at (K := K)
      refine ⟨_, rfl, p, dx, _, rfl, hp1, rfl, _, rfl, p, m, o, t, ps, it.v, it.d, it.as, rfl, hc', hS, sh_mono sh sm, .inl ⟨rw_, fun d hd => ⟨eR, fun a ha => ⟨_, rfl, ?_⟩⟩⟩⟩
      have sd := same_new (o := .xd [("value", it.v)]) hd
      have s2 : Same H' (upd (upd H' d (.xd [("value", it.v)])) a (exoG a (.ref CR) (some d))) := sd.trans (same_new ha)
      have ea : (upd (upd H' d (.xd [("value", it.v)])) a (exoG a (.ref CR) (some d))) a = some (exoG a (.ref CR) (some d)) := upd_same
      have ed : (upd (upd H' d (.xd [("value", it.v)])) a (exoG a (.ref CR) (some d))) d = some (.xd [("value", it.v)]) := by
        rw [upd_ne (ne_of_none upd_same ha), upd_same]
      have sh2 := sh_mono (sh_mono sh sm) s2
      refine ⟨_, rfl, rfl, _, rfl, iteF ⟨_, rfl, a, CR, d, _, it.v, rfl, ea, ed, rfl, ER.cl.xc, ER.cl.no, it.v, it.d, it.as, rfl, sh2, wr, _, rfl, it.v, it.d, it.as, rfl, sh2, wr, rfl, _, rfl, ?_⟩⟩
      rw [decide_eq_true rfl]
      exact iteF ⟨⟨_, _, rfl⟩, sm.trans s2⟩
  · obtain ⟨⟨y7, y8, rfl⟩, sm⟩ := hP
    exact h y7 y8 H' sm
end
end L2.Lw

/-! # law k15, g: rows, the whole -/
namespace L2.Lw
open PySem PySem.Spec PyProof.Rows L2.Vf L2.Dw L2.Ch L2.Lt
section
variable {P : Program} {w : World} {K : PySem.W.Frag} {mg : Str → Option Value} {base : Heap}
theorem in_sm {k : Int} {ns : List Int} (h : In k ns) (hk : k ≤ 10 ^ 20) : Sm ns := fun x hx => by
  have := h x hx
  omega
def tRr3 (K : PySem.W.Frag) (C CR : Addr) : TS := tSeq (tFor (iList K (tLstF (taG K))) (gName 7) (tRr2 K C CR)) (tRet (tC (.bl true)))
theorem rr3 {C CR iR p g a : Addr} {dIR : FuncData} {m : List (List Int)} {o : List Int} {t : Bool} {ps : List Addr} {H4 : Hp} {D : Ends} {x3 x4 x5 : Option V} (ER : ErT P w K mg base "InvalidRow" CR iR dIR) (eR : PySem.W.exmOne K (.ref CR) (.ref CR) = some true) (hc : Chg C H4 p m o t ps) (hS : Shp m o)
    (ha : SqT K H4 a ((List.replicate m.length (1 : Int)).map V.int)) (q : ∀ H6, Same H4 H6 → D.rt (.bl true) H6) : tRr3 K C CR D [some (.ref g), some (.ref p), some (.int (m.length : Nat)), x3, x4, x5, some (.ref a), none, none, none] H4 := by
  have hi := hS.hi
  have y := yG (K := K) (H0 := H4) (n := m.length) (σ := [some (.ref g), some (.ref p), some (.int (m.length : Nat)), x3, x4, x5, some (.ref a), none, none, none]) rfl rfl ha hS.lo hi H4
  unfold tRr3 tSeq tFor iList tLstF
  refine y _ (.refl _) fun L H5 mk => ?_
  have lL : L.length = 9 := by have := congrArg List.length mk.ds; rw [List.length_map] at this; exact this
  refine ⟨by rw [List.length_map, lL, sizeLine_eq]; decide, fun G2 hG2 nG2 => ⟨G2, rfl, ⟨_, SqL.of upd_same⟩, ?_⟩⟩
  have s35 : Same H4 (upd H5 G2 (.lst (L.map (·.v)))) := mk.same.trans (same_new hG2)
  exact rr_odds ER eR (hc.mono s35) hS upd_same (fun it hit => ⟨sh_mono (mk.ok it hit).sh (same_new hG2), tallG hS.lo hi mk it hit⟩) (fun x7 x8 H6 s6 => q H6 (s35.trans s6)) none none
theorem ok_rr {C CR iR f fR fRo fRc : Addr} {fd dR dRo dRc dIR : FuncData} (F : Fun K "_law_rows_right" "_law_rows_right" sRr f fd) (N : Nm mg) (T : ChT K mg C) (ER : ErT P w K mg base "InvalidRow" CR iR dIR) (eR : PySem.W.exmOne K (.ref CR) (.ref CR) = some true)
    (mR : Meth K C "row" fR) (GR : FnOk P w K mg base (L2.CX P w) 5 fR dR ["self", "row"] (spRw K C CR)) (bR : Binds K dR ["self", "row"] [])
    (GRo : FnOk P w K mg base CX0 5 fRo dRo ["_law_purse_here", "_law_width", "_law_cells_to", "_law_most"] spRo) (mRo : mg "_law_row" = some (.ref fRo)) (kRo : PySem.W.keepIn K (.ref fRo) = true) (bRo : Binds K dRo ["_law_purse_here", "_law_width", "_law_cells_to", "_law_most"] [])
    (GRc : FnOk P w K mg base CX0 2 fRc dRc ["_law_change", "_law_row_here"] (spRc K C)) (mRc : mg "_law_row_changed" = some (.ref fRc)) (kRc : PySem.W.keepIn K (.ref fRc) = true) (bRc : Binds K dRc ["_law_change", "_law_row_here"] []) :
    FnG P w K mg base CX0 6 f fd ["_law_purse_here", "_law_change", "_law_width"] (spRr K C) := by
  refine okG F scRr (fun vs H Q E h => ?_) fun cdv A outer s H vs Q E hg hr h => ?_
  · obtain ⟨g, p, m, o, t, ps, c, rfl, _⟩ := h
    rfl
  · obtain ⟨g, p, m, o, t, ps, c, rfl, hp, hc, hch, hgp, hS, bm, bo, q⟩ := h
    have hu := hr.units
    refine ⟨_, pss_cons (ps_for PassesOwn.never rfl (pi_list (pe_lst (pa_cons (pe_lst pa_nil) (pa_cons (pe_call GRo hr rfl mRo kRo bRo .nil pass0 (pa_cons (pv 0) (pa_cons (pv 2) (pa_cons pe_int (pa_cons pe_int pa_nil))))) (pa_cons (pe_call GRo hr rfl mRo kRo bRo .nil pass0 (pa_cons (pv 0) (pa_cons (pv 2) (pa_cons pe_int (pa_cons (pe_op op_powW pe_int pe_int) pa_nil))))) pa_nil))))) (pg_name (i := 3) scRr.nd rfl (Or.inl rfl))
        (pss_cons (ps_set (i := 4) scRr.nd rfl (.inl rfl) (pe_callTy call_list_of (by rfl) N.lst PyProof.Rows.boot_list (pa_cons (pv 3) pa_nil)))
        (pss_cons (ps_set (i := 5) scRr.nd rfl (.inl rfl) (pe_methSD (pv 1) T.cl mR GR hr bR (fun σ => passAt takes0 σ) (pa_cons (pv 3) pa_nil)))
        (pss_cons (ps_if (PW.pt (pw_or (pt_cmpR op_ne (pe_callB (call_reprD hg hu) (by rfl) N.rep boot_repr (pa_cons (pv 5) pa_nil)) (pe_callB (call_reprD hg hu) (by rfl) N.rep boot_repr (pa_cons (pe_call GRc (hr.mono (by decide)) rfl mRc kRc bRc .nil pass0 (pa_cons (pv 1) (pa_cons (pv 3) pa_nil))) pa_nil)) (nomark _)) (pw_or1 (pt_cmpR (Vf.op_neD hu) (pv 3) (pv 4) (nomark _))))) (pss_one (ps_ret pe_bl)) pss_nil)
        (pss_cons (ps_expr (pe_bm PySem.F.plainAttrs_list PySem.F.slot_list_append PySem.F.type_list_append mt_append (pv 5) (pa_cons pe_non pa_nil)))
        (pss_cons (ps_if (pt_cmpR (Vf.op_neD hu) (pe_methSD (pv 1) T.cl mR GR hr bR (fun σ => passAt takes0 σ) (pa_cons (pv 3) pa_nil)) (pe_slice sl_list (pv 5) po_none (po_some (pe_un un_neg pe_int))) (nomark _)) (pss_one (ps_ret pe_bl)) pss_nil)
        (pss_cons (ps_expr (pe_bm PySem.F.plainAttrs_list PySem.F.slot_list_append PySem.F.type_list_append mt_append (pv 3) (pa_cons (pe_op op_repTA (pe_tup (pa_cons pe_int pa_nil)) (pv 2)) pa_nil)))
        (pss_cons (ps_asg (pe_op op_repTA (pe_tup (pa_cons pe_int pa_nil)) (pv 2)) (pg_sub (pv 3) pe_int set_list))
        (pss_one (ps_if (pt_cmpR (Vf.op_neD hu) (pe_methSD (pv 1) T.cl mR GR hr bR (fun σ => passAt takes0 σ) (pa_cons (pv 3) pa_nil)) (pe_call GRc (hr.mono (by decide)) rfl mRc kRc bRc .nil pass0 (pa_cons (pv 1) (pa_cons (pv 3) pa_nil))) (nomark _)) (pss_one (ps_ret pe_bl)) pss_nil))))))))))
      (pss_cons (ps_set (i := 6) scRr.nd rfl (.inl rfl) (pe_op op_repTA (pe_tup (pa_cons pe_int pa_nil)) (pv 2)))
      (pss_cons (ps_for PassesOwn.never rfl (pi_list (pe_lstF (pa_cons pe_non (pa_cons pe_int (pa_cons (pe_tup (pa_cons (pv 6) pa_nil)) (pa_cons (pe_lstF (pa_cons pe_non pa_nil)) (pa_cons (pe_lstF (pa_cons (pe_op op_catT (pv 6) (pe_tup (pa_cons pe_int pa_nil))) pa_nil)) (pa_cons (pe_lstF (pa_cons (pe_op op_repTA (pe_tup (pa_cons pe_bl pa_nil)) (pv 2)) pa_nil)) (pa_cons pe_str (pa_cons (lit_pe rfl) (pa_cons (pe_lstF (pa_cons (pv 6) (pa_cons (pe_op op_repF (pe_lstF (pa_cons pe_int pa_nil)) (pv 2)) pa_nil))) pa_nil))))))))))) (pg_name (i := 7) scRr.nd rfl (Or.inl rfl))
        (pss_cons (ps_set (i := 8) scRr.nd rfl (.inl rfl) pe_non)
        (pss_cons (ps_hold (i := 9) (c := .ref CR) rfl rfl rfl scRr.nd rfl rfl ⟨rfl, by decide, .inl ER.mg_⟩ (fun W pn xe tk _ => pss_one (ps_expr (pe_methSD (pv 1) T.cl mR GR hr bR (fun σ => passAt tk σ) (pa_cons (pv 7) pa_nil)))) (fun a oe cls d pn hz hf => pss_one (ps_set (i := 8) scRr.nd rfl (.inl rfl) (pv 9))))
        (pss_one (ps_if (PW.pt (pw_or (pt_cmpR op_isN (pv 8) pe_non (nomark _)) (pw_or1 (pt_cmpR op_ne (pe_callB (call_reprD hg hu) (by rfl) N.rep boot_repr (pa_cons (pe_erG (pv 8)) pa_nil)) (pe_callB (call_reprD hg hu) (by rfl) N.rep boot_repr (pa_cons (pv 7) pa_nil)) (nomark _))))) (pss_one (ps_ret pe_bl)) pss_nil)))))
      (pss_one (ps_ret pe_bl)))), ?_⟩
    have hi := hS.hi
    have hm : ∀ r ∈ m, Sm r := fun r hr => in_sm (bm r hr) (by decide)
    have ho : Sm o := in_sm bo (by decide)
    -- the three rows
    refine ⟨Nat.zero_le _, fun E0 hE0 => ?_⟩
    have sE := same_new (o := .lst []) hE0
    refine ⟨_, rfl, _, rfl, g, m.length, 5, 9, c, rfl, hS.lo, hi, by decide, by decide, by decide, hp.mono sE, by omega, fun D1 xs1 H1 hD1 k1 p1 l1 r1 e1 => ?_⟩
    refine ⟨_, rfl, _, rfl, _, _, rfl, rfl, ⟨by decide, by decide +kernel⟩, g, m.length, 5, 10 ^ 19, c + 33, rfl, hS.lo, hi, by decide, by decide, by decide +kernel, p1.le (by omega), by omega, fun D2 xs2 H2 hD2 k2 p2 l2 r2 e2 => ?_⟩
    obtain ⟨cs1, r1', rfl, q1, b1⟩ := cells_of r1
    obtain ⟨cs2, r2', rfl, q2, b2⟩ := cells_of r2
    rw [List.length_map] at l1 l2
    refine ⟨by show 3 ≤ sizeLine; decide, fun G hG => ⟨G, rfl, ⟨_, SqL.of upd_same⟩, ?_⟩⟩
    have sG := same_new (o := .lst [.ref E0, .ref D1, .ref D2]) hG
    have gE : E0 ≠ g := (hp.ne hE0).symm
    have gD1 : D1 ≠ g := ((hp.mono sE).ne hD1).symm
    have gD2 : D2 ≠ g := (p1.ne hD2).symm
    have up2 : ∀ b u, b ≠ g → H b = some u → H2 b = some u := fun b u n e => k2 b u n (k1 b u n (sE b u e))
    have eE2 : H2 E0 = some (.lst []) := k2 _ _ gE (k1 _ _ gE upd_same)
    have eD1 := k2 _ _ gD1 e1
    have n1 : H D1 = none := sE.free hD1
    have n2 : H D2 = none := by
      by_cases z : H D2 = none
      · exact z
      · obtain ⟨u, hu⟩ := Option.ne_none_iff_exists'.mp z
        rw [k1 _ _ gD2 (sE _ _ hu)] at hD2
        cases hD2
    have nps : ∀ {d : Addr}, H d = none → d ∉ ps := fun {d} hd z => by
      obtain ⟨u, e⟩ := Lw.Chg.live hch z
      rw [hd] at e
      cases e
    have hcG : Chg C (upd H2 G (.lst [.ref E0, .ref D1, .ref D2])) p m o t ps := hch.stay fun z hz u e => sG z u (up2 z u (fun y => hgp (y ▸ hz)) e)
    obtain ⟨gx, gy, gz, eg1, hgr⟩ := id p1
    obtain ⟨gx2, gy2, gz2, eg2, hgr2⟩ := id p2
    have hx : ∀ x ∈ ([⟨E0, [], []⟩, ⟨D1, cs1, r1'⟩, ⟨D2, cs2, r2'⟩] : List RowI), H x.D = none ∧ x.D ≠ G ∧ x.D ≠ g ∧ (∀ c ∈ x.r, c.length = m.length ∧ Sm c) ∧ x.r.length ≤ 5 ∧ RowAt K (upd H2 G (.lst [.ref E0, .ref D1, .ref D2])) x := fun x hx => by
      rcases List.mem_cons.mp hx with rfl | hx
      · exact ⟨hE0, ne_of_none eE2 hG, gE, fun c h => absurd h (by simp), Nat.zero_le _, sG _ _ eE2, .nil⟩
      · rcases List.mem_cons.mp hx with rfl | hx
        · exact ⟨n1, ne_of_none eD1 hG, gD1, fun c h => ⟨(b1 c h).1, in_sm (b1 c h).2 (by decide)⟩, by have := Paired.length q1; show r1'.length ≤ 5; omega, sG _ _ eD1, Paired.mapP q1 fun a c e => SqT.of (sG _ _ (k2 _ _ (fun z => by rw [z, eg1] at e; cases e) e))⟩
        · rcases List.mem_cons.mp hx with rfl | hx
          · exact ⟨n2, ne_of_none e2 hG, gD2, fun c h => ⟨(b2 c h).1, in_sm (b2 c h).2 (by decide)⟩, by have := Paired.length q2; show r2'.length ≤ 5; omega, sG _ _ e2, Paired.mapP q2 fun a c e => SqT.of (sG _ _ e)⟩
          · cases hx
    refine rr_walk (L := [⟨E0, [], []⟩, ⟨D1, cs1, r1'⟩, ⟨D2, cs2, r2'⟩]) T hcG hS hm ho upd_same (fun x h => (hx x h).2.2.2.2.2) ?_ (fun x h => ⟨nps (hx x h).1, (hx x h).2.1, (hx x h).2.2.2.1, (hx x h).2.2.2.2.1⟩) fun x3 x4 x5 H3 fr => ?_
    · refine .cons (fun y hy => ?_) (.cons (fun y hy => ?_) (.cons (fun y hy => by cases hy) .nil))
      · rcases List.mem_cons.mp hy with rfl | hy
        · exact ne_of_none upd_same hD1
        · rcases List.mem_cons.mp hy with rfl | hy
          · exact ne_of_none (k1 _ _ gE upd_same) hD2
          · cases hy
      · rcases List.mem_cons.mp hy with rfl | hy
        · exact ne_of_none e1 hD2
        · cases hy
    -- odd rows
    refine cell_run (K := K) (i := 1) rfl hS.lo (by omega) fun a H4 s4 ha => ?_
    show tRr3 K C CR _ [some (.ref g), some (.ref p), some (.int (m.length : Nat)), x3, x4, x5, some (.ref a), none, none, none] H4
    refine rr3 ER eR (hcG.stay fun z hz u e => s4 _ _ (fr z u e fun x h q => nps (hx x h).1 (q ▸ hz))) hS ha fun H6 s6 => ?_
    have s35 : Same H3 H6 := s4.trans s6
    refine q H6 (fun b u nb e => s35 _ _ (fr b u (sG _ _ (up2 b u nb e)) fun x h z => ?_)) ⟨gx2, gy2, gz2, s35 _ _ (fr g _ (sG _ _ eg2) fun x h => (hx x h).2.2.1.symm), ?_⟩
    · rw [z, (hx x h).1] at e
      cases e
    · obtain ⟨h1, h2, h3, h4⟩ := hgr2
      exact ⟨h1, h2, h3, by omega⟩
end
end L2.Lw

/-! # law k15, h: changes that are unlike -/
namespace L2.Lw
open PySem PySem.Spec PyProof.Rows L2.Vf L2.Dw L2.Ch L2.Lt
abbrev sUn : Stmt := top 28
abbrev nUn : List Str := ["_law_change", "_law_matrix", "_law_offsets", "_law_about", "_law_width", "_law_more", "_law_bent", "_law_wide", "_law_thing", "_law_turn"]
theorem scUn : FnScope nUn ["_law_change", "_law_matrix", "_law_offsets", "_law_about"] (defScope sUn) := ⟨rfl, rfl, rfl, by decide +kernel, rfl, by decide +kernel, by decide +kernel⟩
theorem op_both {X : Cx} {f : Value → Value → Sem Value} {r1 r2 : R2} (h1 : OpR X f r1) (h2 : OpR X f r2) : OpR X f (fun x y H Q => r1 x y H Q ∨ r2 x y H Q) := by
  intro pins s σ H x y v u Q I rx ry h
  rcases h with h | h
  · exact h1 pins s σ H x y v u Q I rx ry h
  · exact h2 pins s σ H x y v u Q I rx ry h
theorem oth_ty {K : PySem.W.Frag} {H : Hp} {v : V} {T : String} (h : Oth K H v T) : TyX K H v (.type T) := by
  cases h with
  | non => exact .base .non
  | int i => exact .base (.int i)
  | lst h =>
    rcases h with (h | ⟨o, h⟩) | ⟨o, its, n, hk, hc, _⟩
    · exact .base (.lst h)
    · exact .base (.frz h)
    · exact .kList hk hc
  | tup h =>
    rcases h with (h | ⟨o, h⟩) | ⟨o, its, n, hk, hc, _⟩
    · exact .base (.tup h)
    · exact .fTuple h
    · exact .kTuple hk hc
  | dct h => exact .base (.dK h)
def kNames : List String := ["NoneType", "int", "list", "tuple", "dict"]
/-- the class among the built-in types -/
def otTab (K : PySem.W.Frag) (C : Addr) : Bool := kNames.all (fun T => (PySem.W.kitOne K (.type T) (.ref C) == some false) && PySem.W.notFirst K C (.type T) && (PySem.W.subIn K (.ref C) (.type T) == some false)) && PySem.W.notFirst K C (.ref C)
theorem otTab_at {K : PySem.W.Frag} {C : Addr} (h : otTab K C = true) : PySem.W.notFirst K C (.ref C) = true ∧ ∀ T ∈ kNames, PySem.W.kitOne K (.type T) (.ref C) = some false ∧ PySem.W.notFirst K C (.type T) = true ∧ PySem.W.subIn K (.ref C) (.type T) = some false := by
  unfold otTab at h
  obtain ⟨h1, h2⟩ := Bool.and_eq_true_iff.mp h
  refine ⟨h2, fun T hT => ?_⟩
  have := List.all_eq_true.mp h1 T hT
  simp only [Bool.and_eq_true, beq_iff_eq] at this
  exact ⟨this.1.1, this.1.2, this.2⟩
theorem oth_mem {K : PySem.W.Frag} {H : Hp} {v : V} {T : String} (h : Oth K H v T) : T ∈ kNames := by
  cases h <;> simp [kNames]
/-- things unlike the change -/
inductive Unl (K : PySem.W.Frag) (C : Addr) (m : List (List Int)) (o : List Int) (t : Bool) (H : Hp) : V → Prop
  | chg {p2 : Addr} {m2 : List (List Int)} {o2 : List Int} {t2 : Bool} {ps2 : List Addr} : Chg C H p2 m2 o2 t2 ps2 → ¬(m = m2 ∧ o = o2 ∧ t = t2) → Unl K C m o t H (.ref p2)
  | oth {v : V} {T : String} : Oth K H v T → Unl K C m o t H v
/-- the class's == -/
structure EqT (K : PySem.W.Frag) (C fE : Addr) : Prop where
  at_ : PySem.W.findIn K (.ref C) "__eq__" = some (some (.ref fE))
  ne : PySem.W.findIn K (.ref C) "__ne__" = some (some (.builtin "object.__ne__"))
  sub : PySem.W.subIn K (.ref C) (.type "object") = some true
  fn : PySem.W.isFn K (.ref fE) = true
  tab : otTab K C = true
section
variable {K : PySem.W.Frag} {mg : Str → Option Value} {C CL CN p : Addr} {m : List (List Int)} {o : List Int} {t : Bool} {ps : List Addr} {H : Hp}
theorem chg_ty (T : ChT K mg C) (I : IsT K C) {H : Hp} (h : Chg C H p m o t ps) : TyX K H (.ref p) (.ref C) := by
  obtain ⟨dx, a, b, ls, hp, _⟩ := h.at (K := K)
  exact .base (.ins hp T.cl I.ha I.hn I.ht I.hm)
/-- a change is made outside a try -/
theorem mk_run {vm vo vt : V} {as1 as2 : List Addr} {E : XK} {Q : VK} {gb : V → List V} (hg : ∀ x, gb x = [x, vm, vo, vt]) (h1 : Sh K H vm (matL m) as1) (h2 : Sh K H vo (lineL o) as2) (h3 : vt = .bl t) (hS : Shp m o)
    (q : ∀ x ps H', H x = none → Same H H' → (∀ y ∈ ps, H y = none) → Chg C H' x m o t ps → Q (.ref x) H') : KMake C (spIn K C CL CN) gb E Q H := by
  intro x dx hx hdx ne
  rw [hg]
  subst h3
  have sd : Same H (upd H dx (.own x)) := same_new hdx
  have sM : Same H (upd (upd H dx (.own x)) x (.ins C dx [])) := sd.trans (same_new (by rw [upd_ne ne.symm]; exact hx))
  refine ⟨x, dx, vm, vo, .bl t, matL m, lineL o, .bool t, as1, as2, [], rfl, upd_same, sh_mono h1 sM, sh_mono h2 sM, .bl t, .inr ⟨m, rfl, mat_yes hS.lo hS.hi hS.sq, .inr ⟨o, rfl, hS.of, .inr ⟨t, rfl, fun H' ps fr k ch => ⟨rfl, q x ps H' hx (fun b u e => k b u (ne_of_none e hx) (sM b u e)) (fun y hy => ?_) ch⟩⟩⟩⟩⟩
  by_cases e : y = x
  · rw [e]; exact hx
  · exact sM.free (fr y hy e)
theorem reps_run {H : Hp} {σ : St} {n iv ic : Nat} {v : Int} {Q : Addr → Hp → Prop} (hne : iv ≠ ic) (h0 : σ[iv]? = some (some (.int (n : Nat)))) (hn : n ≤ 1000) (h : ∀ D ls H', H D = none → Same H H' → New2 H H' D ls (List.replicate n (List.replicate n v)) → H' D = some (.lst (ls.map .ref)) → Q D H') :
    ∀ D, H D = none → ∃ W : Nat → Nat → Hp → Prop, (∃ m, W 0 m (upd H D (.lst []))) ∧ ∀ i m H, W i m H → ((Itr 0 n).stop i H ∧ Q D H) ∨ ((Itr 0 n).go i H ∧ ∃ Nx : Hp → Prop, (∀ H', Nx H' → ∃ m', m' < m ∧ W (i + 1) m' H') ∧ ∀ x H', (Itr 0 n).yld i H x H' →
      gName ic x (wipe σ [ic]) H' fun σ2 H2 => wipe σ2 [ic] = wipe σ [ic] ∧ tYes σ2 H2 fun b H3 => if b = true then tOp rRepF (tLstF (tCons (tC (.int v)) tNil)) (tVar iv) σ2 H3 fun y H4 => ∃ acc, H4 D = some (.lst acc) ∧ acc.length < sizeLine ∧ Nx (upd H4 D (.lst (acc ++ [y]))) else Nx H3) := by
  intro D hD
  refine lc_range (lo := 0) (n := n) (fun j H' => ∃ ls, Same H H' ∧ New2 H H' D ls (List.replicate j (List.replicate n v)) ∧ H' D = some (.lst (ls.map .ref))) ⟨[], same_new hD, .nil, upd_same⟩ (fun j H' hj hP => ?_) fun H' hP => ?_
  · obtain ⟨ls, s, nw, e⟩ := hP
    refine ⟨by show wipe ((wipe σ [ic]).set ic _) [ic] = wipe σ [ic]; simp [wipe, List.set_set], ?_⟩
    have g0 : ((wipe σ [ic]).set ic (some (.int (0 + (j : Int)))))[iv]? = some (some (.int (n : Nat))) := by
      rw [List.getElem?_set_ne hne.symm]
      show (σ.set ic none)[iv]? = _
      rw [List.getElem?_set_ne hne.symm]
      exact h0
    refine (YlF.one (σ := (wipe σ [ic]).set ic (some (.int (0 + (j : Int))))) (t := tC (.int v)) (v := .int v) fun H Q q => q).rep (k := n) (t2 := tVar iv) (fun H Q q => ⟨_, g0, q⟩) hn (show 1 ≤ 1000 by decide) H' _ fun p H1 hp np s1 e1 => ?_
    rw [rep_one] at e1
    have pD : p ≠ D := fun z => by rw [z, e] at hp; cases hp
    have lenl : ls.length = j := by rw [Paired.length nw, List.length_replicate]
    refine ⟨_, s1 _ _ e, by rw [List.length_map, lenl, sizeLine_eq]; omega, ls ++ [p], fun b u hb => ?_, ?_, by rw [upd_same, List.map_append]; rfl⟩
    · rw [upd_ne (ne_of_none hb hD)]; exact s1 _ _ (s _ _ hb)
    · rw [List.replicate_succ']
      refine Ch.Paired.snoc (Paired.mapP nw fun l r h => ⟨by rw [upd_ne h.2.2]; exact s1 _ _ h.1, h.2⟩) ⟨?_, s.free hp, pD⟩
      rw [upd_ne pD, List.map_replicate]
      exact e1
  · obtain ⟨ls, s, nw, e⟩ := hP
    exact h D ls H' hD s nw e
theorem cut_tail (x : V) (xs : List V) : cutV (x :: xs) (some 1) none = xs := by
  unfold cutV
  have h1 : HT.sIx (x :: xs).length 0 (some 1) = 1 := by simp [HT.sIx]
  have h2 : HT.sIx (x :: xs).length (x :: xs).length none = (x :: xs).length := rfl
  rw [h1, h2]
  simp
/-- one turn: change == thing, thing == change, change != thing -/
abbrev tEq1 (K : PySem.W.Frag) (C : Addr) : TE := tOp (rEqO K C (spEqC K C) V.bl) (tVar 0) (tVar 8)
abbrev tEq2 (K : PySem.W.Frag) (C : Addr) : TE := tOp (fun x y H Q => rEqO K C (spEqC K C) V.bl x y H Q ∨ rEqR K C (spEqC K C) x y H Q) (tVar 8) (tVar 0)
abbrev tEq3 (K : PySem.W.Frag) (C : Addr) : TE := tOp (rEqO K C (spEqC K C) fun b => .bl (!b)) (tVar 0) (tVar 8)
def tUn1 (K : PySem.W.Frag) (C : Addr) : TS := tIfS (tOr (tTest (tEq1 K C)) (tOr (tTest (tEq2 K C)) (tNot (tTest (tEq3 K C))))) (tRet (tC (.bl false))) tNext
theorem un_turn {fE : Addr} {D : Ends} {σ : St} {y : V} (T : ChT K mg C) (I : IsT K C) (Eq : EqT K C fE) (h0 : σ[0]? = some (some (.ref p))) (h8 : σ[8]? = some (some y)) (hc : Chg C H p m o t ps) (hu : Unl K C m o t H y) (q : D.nx σ H) : tUn1 K C D σ H := by
  obtain ⟨nC, tb⟩ := otTab_at Eq.tab
  obtain ⟨dx, a, b, ls, hp, _⟩ := hc.at (K := K)
  have tyP := chg_ty T I hc
  cases hu with
  | @chg p2 m2 o2 t2 ps2 hc2 hn =>
    obtain ⟨dx2, a2, b2, ls2, hp2, _⟩ := hc2.at (K := K)
    have e1 : decide (m = m2 ∧ o = o2 ∧ t = t2) = false := decide_eq_false hn
    have e2 : decide (m2 = m ∧ o2 = o ∧ t2 = t) = false := decide_eq_false fun ⟨h1, h2, h3⟩ => hn ⟨h1.symm, h2.symm, h3.symm⟩
    refine ⟨_, h0, _, h8, p, dx, _, .ref C, rfl, hp, chg_ty T I hc2, nC, p, m, o, t, ps, .ref p2, rfl, hc, .inr ⟨p2, m2, o2, t2, ps2, rfl, hc2, _, rfl, _, rfl, ?_⟩⟩
    rw [e1]
    refine iteF ⟨_, h8, _, h0, .inl ⟨p2, dx2, _, .ref C, rfl, hp2, tyP, nC, p2, m2, o2, t2, ps2, .ref p, rfl, hc2, .inr ⟨p, m, o, t, ps, rfl, hc, _, rfl, _, rfl, ?_⟩⟩⟩
    rw [e2]
    refine iteF ⟨_, h0, _, h8, p, dx, _, .ref C, rfl, hp, chg_ty T I hc2, nC, p, m, o, t, ps, .ref p2, rfl, hc, .inr ⟨p2, m2, o2, t2, ps2, rfl, hc2, _, rfl, _, rfl, ?_⟩⟩
    rw [e1]
    exact iteF q
  | @oth v T' ho =>
    obtain ⟨k1, k2, k3⟩ := tb T' (oth_mem ho)
    have ty := oth_ty ho
    refine ⟨_, h0, _, h8, p, dx, _, .type T', rfl, hp, ty, k2, p, m, o, t, ps, y, rfl, hc, .inl ⟨.type T', ty, k1, _, rfl, _, rfl, iteF ?_⟩⟩
    refine ⟨_, h8, _, h0, .inr ⟨p, dx, _, T', rfl, hp, ho, k3, p, m, o, t, ps, y, rfl, hc, .inl ⟨.type T', ty, k1, _, rfl, _, rfl, iteF ?_⟩⟩⟩
    exact ⟨_, h0, _, h8, p, dx, _, .type T', rfl, hp, ty, k2, p, m, o, t, ps, y, rfl, hc, .inl ⟨.type T', ty, k1, _, rfl, _, rfl, iteF q⟩⟩
end
end L2.Lw

/-! # law k15, i: changes that are unlike, the whole -/
namespace L2.Lw
open PySem PySem.Spec PyProof.Rows L2.Vf L2.Dw L2.Ch L2.Lt
def spUn (K : PySem.W.Frag) (C : Addr) : Sp := fun vs H Q _ => ∃ (p a b : Addr) (m : List (List Int)) (o : List Int) (t : Bool) (ps ls : List Addr), vs = [.ref p, .ref a, .ref b, .bl t] ∧ Chg C H p m o t ps ∧ Shp m o ∧ SqL K H a (ls.map .ref) ∧ Lns K H ls m ∧ SqL K H b (o.map V.int) ∧ ∀ H', Same H H' → Q (.bl true) H'
section
variable {P : Program} {w : World} {K : PySem.W.Frag} {mg : Str → Option Value} {base : Heap}
theorem cut_tailM {α : Type} (f : α → V) (x : α) (xs : List α) : cutV ((x :: xs).map f) (some 1) none = xs.map f := cut_tail _ _
theorem sub_run {σ : St} {H : Hp} {Q : VK} {i : Nat} {c n W : Int} (h : σ[i]? = some (some (.int n))) (e : c - n = W) (q : Q (.int W) H) : tOp (rI0 fun i j => .int (i - j)) (tC (.int c)) (tVar i) σ H Q := ⟨_, h, _, _, rfl, rfl, by show Q (.int (c - n)) H; rw [e]; exact q⟩
theorem lns_mono {K : PySem.W.Frag} {H H' : Hp} {ls : List Addr} {m : List (List Int)} (h : Lns K H ls m) (s : Same H H') : Lns K H' ls m := Paired.mapP h fun _ _ e => SqL.mono e s
theorem ok_un {C CL CN f fI fE : Addr} {fd dI dE : FuncData} {ds : List Value} (F : Fun K "_law_unlike_right" "_law_unlike_right" sUn f fd) (N : Nm mg) (T : ChT K mg C) (I : IsT K C) (Eq : EqT K C fE) (M : Mk K C fI)
    (GI : FnOk P w K mg base (L2.CX P w) 5 fI dI ["self", "matrix", "offsets", "turns"] (spIn K C CL CN)) (bI : KBn K dI ["self", "matrix", "offsets", "turns"] 3 ["turns"] (fun us ws => us ++ ws) (fun vs zs => vs ++ zs)) (b0 : Binds K dI ["self", "matrix", "offsets", "turns"] ds) (v0 : Vals [.bl false] ds)
    (GE : FnOk P w K mg base CX0 1 fE dE ["self", "other"] (spEqC K C)) (bE : Binds K dE ["self", "other"] []) : FnOk P w K mg base CX0 7 f fd ["_law_change", "_law_matrix", "_law_offsets", "_law_about"] (spUn K C) := by
  refine F.ok scUn (fun vs H Q E h => ?_) fun cdv A outer s H vs Q E hr h => ?_
  · obtain ⟨p, a, b, m, o, t, ps, ls, rfl, _⟩ := h
    rfl
  · obtain ⟨p, a, b, m, o, t, ps, ls, rfl, hch, hS, ha, hl, hb, q⟩ := h
    have hr1 := hr.mono (show 1 ≤ 6 by decide)
    have hr2 := hr.mono (show 2 ≤ 6 by decide)
    refine ⟨_, pss_cons (ps_set (i := 4) scUn.nd rfl (.inl rfl) (pe_callB call_len_seq (by rfl) N.len PySem.boot_len (pa_cons (pv 1) pa_nil)))
      (pss_cons (ps_if (PW.pt (pw_or (pt_cmpR op_notBl (pe_fld (pe_makeS M GI hr rfl T.mg_ b0 v0 (fun σ => passAt takes0 σ) (pa_cons (pv 1) (pa_cons (pv 2) pa_nil))) rfl) pe_bl (nomark _)) (pw_or1 (pt_cmpR op_ne (pe_cmpR (op_eqO GE hr1 bE Eq.at_ Eq.fn) (pv 0) (pe_makeS M GI hr rfl T.mg_ b0 v0 (fun σ => passAt takes0 σ) (pa_cons (pv 1) (pa_cons (pv 2) pa_nil))) (nomark _)) (pe_not (pv 3)) (nomark _))))) (pss_one (ps_ret pe_bl)) pss_nil)
      (pss_cons (ps_set (i := 5) scUn.nd rfl (.inl rfl) (pe_lst (pa_cons (pe_makeKS M GI hr rfl T.mg_ bI (fun σ => passAt takes0 σ) (pa_cons (pv 1) (pa_cons (pv 2) pa_nil)) (pk_cons (pe_not (pv 3)) pk_nil)) pa_nil)))
      (pss_cons (ps_set (i := 5) scUn.nd rfl (.inl rfl) (pe_op op_cat (pv 5) (pe_lst (pa_cons (pe_makeKS M GI hr rfl T.mg_ bI (fun σ => passAt takes0 σ) (pa_cons (pv 1) (pa_cons (pe_op op_cat (pe_lst (pa_cons (pe_op op_add (pe_ix ix_list (pv 2) pe_int (fun _ _ => rfl)) pe_int) pa_nil)) (pe_slice sl_list (pv 2) (po_some pe_int) po_none)) pa_nil)) (pk_cons (pv 3) pk_nil)) pa_nil))))
      (pss_cons (ps_set (i := 6) scUn.nd rfl (.inl rfl) (pe_op op_cat (pe_lst (pa_cons (pe_op op_cat (pe_lst (pa_cons (pe_op op_add (pe_ix ix_list (pe_ix ix_list (pv 1) pe_int (fun _ _ => rfl)) pe_int (fun _ _ => rfl)) pe_int) pa_nil)) (pe_slice sl_list (pe_ix ix_list (pv 1) pe_int (fun _ _ => rfl)) (po_some pe_int) po_none)) pa_nil)) (pe_slice sl_list (pv 1) (po_some pe_int) po_none)))
      (pss_cons (ps_set (i := 7) scUn.nd rfl (.inr rfl) (pe_op op_sub pe_int (pv 4)))
      (pss_cons (ps_set (i := 5) scUn.nd rfl (.inl rfl) (pe_op op_cat (pv 5) (pe_lst (pa_cons (pe_makeKS M GI hr rfl T.mg_ bI (fun σ => passAt takes0 σ) (pa_cons (pe_lc (own := [("_law_turn", 9)]) (g := gName 9) (tt := tYes) (te := tOp rRepF (tLstF (tCons (tC (.int 0)) tNil)) (tVar 7)) rfl scUn.nd (pi_range1 (by rfl) N.rng (pa_cons (pv 7) pa_nil)) (blkOk_by (N := nUn) (sc := defScope sUn) (by decide +kernel)) (fun _ _ _ _ _ => pg_name (i := 9) scUn.nd rfl (Or.inl rfl)) (fun _ _ _ _ _ => pts_nil) (fun _ _ _ _ _ => pe_op op_repF (pe_lstF (pa_cons pe_int pa_nil)) (pv 7))) (pa_cons (pe_op op_repF (pe_lstF (pa_cons pe_int pa_nil)) (pv 7)) pa_nil)) (pk_cons (pv 3) pk_nil)) pa_nil))))
      (pss_cons (ps_set (i := 5) scUn.nd rfl (.inl rfl) (pe_op op_cat (pv 5) (pe_lst (pa_cons (pe_makeKS M GI hr rfl T.mg_ bI (fun σ => passAt takes0 σ) (pa_cons (pv 6) (pa_cons (pv 2) pa_nil)) (pk_cons (pv 3) pk_nil)) (pa_cons pe_non (pa_cons pe_int (pa_cons (pv 1) (pa_cons pe_dnewK (pa_cons (pe_tup (pa_cons (pv 1) (pa_cons (pv 2) (pa_cons (pv 3) pa_nil)))) pa_nil)))))))))
      (pss_cons (ps_for PassesOwn.never rfl (pi_list (pv 5)) (pg_name (i := 8) scUn.nd rfl (Or.inl rfl)) (pss_one (ps_if (PW.pt (pw_or (pt_cmpR (op_eqO GE hr1 bE Eq.at_ Eq.fn) (pv 0) (pv 8) (nomark _)) (pw_or (pt_cmpR (op_both (op_eqO GE hr1 bE Eq.at_ Eq.fn) (op_eqR GE hr1 bE Eq.at_ Eq.fn)) (pv 8) (pv 0) (nomark _)) (pw_or1 (pt_not (pt_cmpR (op_neO GE hr2 bE Eq.at_ Eq.ne Eq.sub Eq.fn) (pv 0) (pv 8) (nomark _))))))) (pss_one (ps_ret pe_bl)) pss_nil)))
      (pss_one (ps_ret pe_bl)))))))))), ?_⟩
    obtain ⟨nC, tb⟩ := otTab_at Eq.tab
    have lm : (ls.map V.ref).length = m.length := by rw [List.length_map]; exact Paired.length hl
    have hi := hS.hi
    refine ⟨_, rfl, a, _, rfl, .inl ha, ?_⟩
    rw [lm]
    -- a change made by default
    refine ⟨_, rfl, _, rfl, rfl, mk_run (fun _ => rfl) (mat_sh ha hl) (line_sh hb) rfl hS fun x1 ps1 H1 n1 s1 f1 c1 => ?_⟩
    obtain ⟨dx1, _, _, _, hp1, _⟩ := c1.at (K := K)
    refine ⟨x1, C, dx1, _, .bl false, rfl, hp1, T.cl, T.nT, rfl, false, false, rfl, rfl, _, rfl, iteF ?_⟩
    refine ⟨_, rfl, _, rfl, _, rfl, rfl, mk_run (fun _ => rfl) (mat_sh (SqL.mono ha s1) (lns_mono hl s1)) (line_sh (SqL.mono hb s1)) rfl hS fun x2 ps2 H2 n2 s2 f2 c2 => ?_⟩
    have sA := s1.trans s2
    obtain ⟨dx2, _, _, _, hp2, _⟩ := (hch.mono sA).at (K := K)
    refine ⟨p, dx2, _, .ref C, rfl, hp2, chg_ty T I c2, nC, p, m, o, t, ps, .ref x2, rfl, hch.mono sA, .inr ⟨x2, m, o, false, ps2, rfl, c2, _, rfl, _, rfl, t, rfl, rfl, _, rfl, ?_⟩⟩
    have eB : decide (m = m ∧ o = o ∧ t = false) = !t := by cases t <;> simp
    rw [eB, decide_eq_true rfl]
    refine iteF ?_
    -- turned otherwise
    refine ⟨_, rfl, _, rfl, _, rfl, t, rfl, rfl, rfl, mk_run (t := !t) (fun _ => rfl) (mat_sh (SqL.mono ha sA) (lns_mono hl sA)) (line_sh (SqL.mono hb sA)) rfl hS fun x3 ps3 H3 n3 s3 f3 c3 => ⟨by show 1 ≤ sizeLine; decide, fun L1 hL1 => ?_⟩⟩
    have sB := sA.trans (s3.trans (same_new (o := .lst [.ref x3]) hL1))
    have c3' := c3.mono (same_new (o := .lst [.ref x3]) hL1)
    have eL1 : (upd H3 L1 (.lst [.ref x3])) L1 = some (.lst [.ref x3]) := upd_same
    generalize upd H3 L1 (.lst [.ref x3]) = H4 at sB c3' eL1
    -- another offset
    obtain ⟨y0, ot, rfl⟩ : ∃ y ys, o = y :: ys := by
      cases o with
      | nil => have := hS.of; have := hS.lo; simp at *; omega
      | cons y ys => exact ⟨y, ys, rfl⟩
    have hb4 := SqL.mono hb sB
    refine ⟨_, rfl, _, rfl, _, rfl, b, _, 0, .int y0, rfl, rfl, hb4, (show atI _ ((0 : Nat) : Int) = _ from atI_nat rfl), _, _, rfl, rfl, by show 1 ≤ sizeLine; decide, fun q1 hq1 => ?_⟩
    have t1 := same_new (o := .lst [.int (y0 + 1)]) hq1
    refine ⟨_, rfl, _, rfl, b, _, rfl, SqL.mono hb4 t1, fun q2 hq2 => ?_⟩
    rw [cut_tailM]
    have t2 := same_new (o := .lst (ot.map V.int)) hq2
    have lo1 : ot.length + 1 ≤ 2 := by have := hS.of; simp at this; omega
    refine ⟨q1, q2, _, _, rfl, rfl, (t2 _ _ upd_same), upd_same, by rw [List.length_map, sizeLine_eq]; simp only [List.length_cons, List.length_nil]; omega, fun q3 hq3 => ?_⟩
    have t3 := same_new (o := .lst ([V.int (y0 + 1)] ++ ot.map V.int)) hq3
    have t123 := t1.trans (t2.trans t3)
    have e3 : (upd (upd (upd H4 q1 (.lst [.int (y0 + 1)])) q2 (.lst (ot.map V.int))) q3 (.lst ([V.int (y0 + 1)] ++ ot.map V.int))) q3 = some (.lst (((y0 + 1) :: ot).map V.int)) := upd_same
    generalize upd (upd (upd H4 q1 (.lst [.int (y0 + 1)])) q2 (.lst (ot.map V.int))) q3 (.lst ([V.int (y0 + 1)] ++ ot.map V.int)) = H5 at t123 e3
    have sC := sB.trans t123
    have hS2 : Shp m ((y0 + 1) :: ot) := ⟨hS.lo, hS.hi, hS.sq, by have := hS.of; simpa using this⟩
    refine ⟨_, rfl, rfl, rfl, mk_run (t := t) (fun _ => rfl) (mat_sh (SqL.mono ha sC) (lns_mono hl sC)) (line_sh (SqL.of e3)) rfl hS2 fun x4 ps4 H6 n4 s4 f4 c4 => ⟨by show 1 ≤ sizeLine; decide, fun L2 hL2 => ?_⟩⟩
    have u1 := same_new (o := .lst [.ref x4]) hL2
    have d1 := t123.trans (s4.trans u1)
    refine ⟨L1, L2, _, _, rfl, rfl, (d1 _ _ eL1), upd_same, by show 2 ≤ sizeLine; decide, fun L3 hL3 => ?_⟩
    have u2 := same_new (o := .lst ([V.ref x3] ++ [.ref x4])) hL3
    have sD := sC.trans (s4.trans (u1.trans u2))
    have c3D := c3'.mono (d1.trans u2)
    have c4D := c4.mono (u1.trans u2)
    have eL3 : (upd (upd H6 L2 (.lst [.ref x4])) L3 (.lst ([V.ref x3] ++ [.ref x4]))) L3 = some (.lst [.ref x3, .ref x4]) := upd_same
    generalize upd (upd H6 L2 (.lst [.ref x4])) L3 (.lst ([V.ref x3] ++ [.ref x4])) = H7 at sD c3D c4D eL3
    -- another number in the matrix
    obtain ⟨r0, mt, rfl⟩ : ∃ y ys, m = y :: ys := by
      cases m with
      | nil => have := hS.lo; simp at this
      | cons y ys => exact ⟨y, ys, rfl⟩
    obtain ⟨z0, rt, rfl⟩ : ∃ y ys, r0 = y :: ys := by
      cases r0 with
      | nil => have := hS.sq [] List.mem_cons_self; simp at this
      | cons y ys => exact ⟨y, ys, rfl⟩
    cases hl with
    | @cons l0 _ lt _ hl0 hlt =>
    have ha7 := SqL.mono ha sD
    have hl7 := SqL.mono hl0 sD
    refine ⟨_, rfl, a, _, 0, .ref l0, rfl, rfl, ha7, (show atI _ ((0 : Nat) : Int) = _ from atI_nat rfl), l0, _, 0, .int z0, rfl, rfl, hl7, (show atI _ ((0 : Nat) : Int) = _ from atI_nat rfl), _, _, rfl, rfl, by show 1 ≤ sizeLine; decide, fun q1 hq1 => ?_⟩
    have v1 := same_new (o := .lst [.int (z0 + 1)]) hq1
    refine ⟨_, rfl, a, _, 0, .ref l0, rfl, rfl, SqL.mono ha7 v1, (show atI _ ((0 : Nat) : Int) = _ from atI_nat rfl), _, rfl, l0, _, rfl, SqL.mono hl7 v1, fun q2 hq2 => ?_⟩
    rw [cut_tailM]
    have v2 := same_new (o := .lst (rt.map V.int)) hq2
    have lr : rt.length + 1 ≤ 2 := by have := hS.sq _ List.mem_cons_self; simp at this hi; omega
    refine ⟨q1, q2, _, _, rfl, rfl, (v2 _ _ upd_same), upd_same, by rw [List.length_map, sizeLine_eq]; simp only [List.length_cons, List.length_nil]; omega, fun q3 hq3 => ?_⟩
    have v3 := same_new (o := .lst ([V.int (z0 + 1)] ++ rt.map V.int)) hq3
    have v123 := v1.trans (v2.trans v3)
    have e8 : (upd (upd (upd H7 q1 (.lst [.int (z0 + 1)])) q2 (.lst (rt.map V.int))) q3 (.lst ([V.int (z0 + 1)] ++ rt.map V.int))) q3 = some (.lst (((z0 + 1) :: rt).map V.int)) := upd_same
    generalize upd (upd (upd H7 q1 (.lst [.int (z0 + 1)])) q2 (.lst (rt.map V.int))) q3 (.lst ([V.int (z0 + 1)] ++ rt.map V.int)) = H8 at v123 e8
    refine ⟨by show 1 ≤ sizeLine; decide, fun q4 hq4 => ⟨_, rfl, _, rfl, a, _, rfl, SqL.mono ha7 (v123.trans (same_new hq4)), fun q5 hq5 => ?_⟩⟩
    rw [cut_tailM]
    have v4 := same_new (o := .lst [.ref q3]) hq4
    have v5 := same_new (o := .lst (lt.map V.ref)) hq5
    have llt : lt.length + 1 ≤ 2 := by have := Paired.length hlt; simp at hi; omega
    refine ⟨q4, q5, _, _, rfl, rfl, (v5 _ _ upd_same), upd_same, by rw [List.length_map, sizeLine_eq]; simp only [List.length_cons, List.length_nil]; omega, fun q6 hq6 => ?_⟩
    have v6 := same_new (o := .lst ([V.ref q3] ++ lt.map V.ref)) hq6
    have v456 := v4.trans (v5.trans v6)
    have e9 : (upd (upd (upd H8 q4 (.lst [.ref q3])) q5 (.lst (lt.map V.ref))) q6 (.lst ([V.ref q3] ++ lt.map V.ref))) q6 = some (.lst ((q3 :: lt).map V.ref)) := upd_same
    generalize upd (upd (upd H8 q4 (.lst [.ref q3])) q5 (.lst (lt.map V.ref))) q6 (.lst ([V.ref q3] ++ lt.map V.ref)) = H9 at v456 e9
    have v19 := v123.trans v456
    have sE := sD.trans v19
    have hl9 : Lns K H9 (q3 :: lt) (((z0 + 1) :: rt) :: mt) := .cons (SqL.of (v456 _ _ e8)) (Paired.mapP hlt fun _ _ e => SqL.mono e sE)
    -- the other width
    have ew : (3 : Int) - ((((z0 :: rt) :: mt).length : Nat) : Int) = ((3 - ((z0 :: rt) :: mt).length : Nat) : Int) := by simp at hi ⊢; omega
    refine ⟨_, rfl, _, _, rfl, rfl, ?_⟩
    have w1 : 1 ≤ 3 - ((z0 :: rt) :: mt).length := by omega
    have w2 : 3 - ((z0 :: rt) :: mt).length ≤ 2 := by have := hS.lo; omega
    have w3 : 3 - ((z0 :: rt) :: mt).length ≠ ((z0 :: rt) :: mt).length := by omega
    obtain ⟨W, hW⟩ : ∃ W, W = 3 - ((z0 :: rt) :: mt).length := ⟨_, rfl⟩
    rw [← hW] at ew w1 w2 w3
    have eV := congrArg (fun x : Int => some (some (V.int x))) ew
    refine ⟨_, rfl, _, rfl, W, congrArg (fun x : Int => [V.int x]) ew, by omega, by omega, ?_⟩
    refine reps_run (iv := 7) (ic := 9) (n := W) (v := 0) (by decide) eV (by omega) fun Dz lz H10 hDz sz nz ez => ?_
    refine (YlF.one (t := tC (.int 0)) (v := .int 0) (σ := _) fun H Q q => q).rep (k := W) (t2 := tVar 7) (fun H Q q => ⟨_, eV, q⟩) (by omega) (show 1 ≤ 1000 by decide) H10 _ fun z HZ hz nz2 sZ eZ => ?_
    rw [rep_one] at eZ
    have hS3 : Shp (List.replicate W (List.replicate W (0 : Int))) (List.replicate W 0) := ⟨by rw [List.length_replicate]; exact w1, by rw [List.length_replicate]; exact w2, fun r hr => by rw [(List.mem_replicate.mp hr).2, List.length_replicate, List.length_replicate], by rw [List.length_replicate, List.length_replicate]⟩
    have hlz : Lns K HZ lz (List.replicate W (List.replicate W (0 : Int))) := Paired.mapP nz fun _ _ e => SqL.of (sZ _ _ e.1)
    refine ⟨_, rfl, rfl, rfl, mk_run (t := t) (fun _ => rfl) (mat_sh (SqL.of (sZ _ _ ez)) hlz) (line_sh (ns := List.replicate W 0) (SqL.of (by rw [eZ, List.map_replicate]))) rfl hS3 fun x5 ps5 H11 n5 s5 f5 c5 => ⟨by show 1 ≤ sizeLine; decide, fun L4 hL4 => ?_⟩⟩
    have u4 := same_new (o := .lst [.ref x5]) hL4
    have d4 := sz.trans (sZ.trans (s5.trans u4))
    refine ⟨L3, L4, _, _, rfl, rfl, (d4 _ _ (v19 _ _ eL3)), upd_same, by show 3 ≤ sizeLine; decide, fun L5 hL5 => ?_⟩
    have u5 := same_new (o := .lst ([V.ref x3, .ref x4] ++ [.ref x5])) hL5
    have d5 := d4.trans u5
    have c5F := c5.mono (u4.trans u5)
    have eL5 : (upd (upd H11 L4 (.lst [.ref x5])) L5 (.lst ([V.ref x3, .ref x4] ++ [.ref x5]))) L5 = some (.lst [.ref x3, .ref x4, .ref x5]) := upd_same
    generalize upd (upd H11 L4 (.lst [.ref x5])) L5 (.lst ([V.ref x3, .ref x4] ++ [.ref x5])) = H12 at d5 c5F eL5
    have sF := sE.trans d5
    have c3F := c3D.mono (v19.trans d5)
    have c4F := c4D.mono (v19.trans d5)
    -- the bent one, and other things
    have hS4 : Shp (((z0 + 1) :: rt) :: mt) (y0 :: ot) := ⟨by simp, by simpa using hi, fun r hr => by
      rcases List.mem_cons.mp hr with rfl | hr
      · have := hS.sq (z0 :: rt) List.mem_cons_self
        simpa using this
      · have := hS.sq r (List.mem_cons_of_mem _ hr)
        simpa using this, by have := hS.of; simpa using this⟩
    refine ⟨_, rfl, _, rfl, _, rfl, _, rfl, rfl, rfl, mk_run (t := t) (fun _ => rfl) (mat_sh (SqL.of (d5 _ _ e9)) (lns_mono hl9 d5)) (line_sh (SqL.mono hb sF)) rfl hS4 fun x6 ps6 H13 n6 s6 f6 c6 => ?_⟩
    refine ⟨_, rfl, fun dd hdd => ⟨_, rfl, _, rfl, _, rfl, by show 3 ≤ sizeLine; decide, fun tu htu => ⟨by show 6 ≤ sizeLine; decide, fun L6 hL6 => ?_⟩⟩⟩
    have k1 := same_new (o := .dK []) hdd
    have k2 := same_new (o := .tup [.ref a, .ref b, .bl t]) htu
    have k3 := same_new (o := .lst [.ref x6, .non, .int 0, .ref a, .ref dd, .ref tu]) hL6
    have k123 := k1.trans (k2.trans k3)
    refine ⟨L5, L6, _, _, rfl, rfl, (k123 _ _ (s6 _ _ eL5)), upd_same, by show 9 ≤ sizeLine; decide, fun L7 hL7 => ?_⟩
    have k4 := same_new (o := .lst ([V.ref x3, .ref x4, .ref x5] ++ [.ref x6, .non, .int 0, .ref a, .ref dd, .ref tu])) hL7
    have sG := sF.trans (s6.trans (k123.trans k4))
    have c3G := c3F.mono (s6.trans (k123.trans k4))
    have c4G := c4F.mono (s6.trans (k123.trans k4))
    have c5G := c5F.mono (s6.trans (k123.trans k4))
    have c6G := c6.mono (k123.trans k4)
    have edd := (k2.trans (k3.trans k4)) _ _ (upd_same (H := H13) (a := dd) (o := .dK []))
    have etu := (k3.trans k4) _ _ (upd_same (H := upd H13 dd (.dK [])) (a := tu) (o := .tup [.ref a, .ref b, .bl t]))
    have eL7 : (upd (upd (upd (upd H13 dd (.dK [])) tu (.tup [.ref a, .ref b, .bl t])) L6 (.lst [.ref x6, .non, .int 0, .ref a, .ref dd, .ref tu])) L7 (.lst ([V.ref x3, .ref x4, .ref x5] ++ [.ref x6, .non, .int 0, .ref a, .ref dd, .ref tu]))) L7 = some (.lst [.ref x3, .ref x4, .ref x5, .ref x6, .non, .int 0, .ref a, .ref dd, .ref tu]) := upd_same
    generalize upd (upd (upd (upd H13 dd (.dK [])) tu (.tup [.ref a, .ref b, .bl t])) L6 (.lst [.ref x6, .non, .int 0, .ref a, .ref dd, .ref tu])) L7 (.lst ([V.ref x3, .ref x4, .ref x5] ++ [.ref x6, .non, .int 0, .ref a, .ref dd, .ref tu])) = He at sG c3G c4G c5G c6G edd etu eL7
    have hcG := hch.mono sG
    have un : ∀ y ∈ ([.ref x3, .ref x4, .ref x5, .ref x6, .non, .int 0, .ref a, .ref dd, .ref tu] : List V), Unl K C ((z0 :: rt) :: mt) (y0 :: ot) t He y := fun y hy => by
      simp only [List.mem_cons, List.not_mem_nil, or_false] at hy
      rcases hy with rfl | rfl | rfl | rfl | rfl | rfl | rfl | rfl | rfl
      · exact .chg c3G fun h => by have := h.2.2; cases t <;> simp at this
      · refine .chg c4G fun h => ?_
        have := h.2.1
        simp at this
        omega
      · refine .chg c5G fun h => ?_
        have := congrArg List.length h.1
        rw [List.length_replicate] at this
        exact w3 this.symm
      · refine .chg c6G fun h => ?_
        have := h.1
        simp at this
        omega
      · exact .oth .non
      · exact .oth (.int 0)
      · exact .oth (.lst (SqL.mono ha sG))
      · exact .oth (.dct edd)
      · exact .oth (.tup (SqT.of etu))
    refine ⟨_, rfl, L7, rfl, ⟨_, SqL.of eL7⟩, ?_⟩
    refine for_list (xs := [.ref x3, .ref x4, .ref x5, .ref x6, .non, .int 0, .ref a, .ref dd, .ref tu]) (fun i σ H' => H' = He ∧ ∃ x8, σ = [some (.ref p), some (.ref a), some (.ref b), some (.bl t), some (.int (((z0 :: rt) :: mt).length : Nat)), some (.ref L7), some (.ref q6), some (.int ((3 : Int) - ((((z0 :: rt) :: mt).length : Nat) : Int))), x8, none]) ⟨rfl, none, rfl⟩ (fun i σ H' _ hP => by rw [hP.1]; exact SqL.of eL7) (fun i y σ H' hy hP => ?_) fun σ H' hP => ?_
    · obtain ⟨rfl, x8, rfl⟩ := hP
      show tUn1 K C _ [some (.ref p), some (.ref a), some (.ref b), some (.bl t), some (.int (((z0 :: rt) :: mt).length : Nat)), some (.ref L7), some (.ref q6), some (.int ((3 : Int) - ((((z0 :: rt) :: mt).length : Nat) : Int))), some y, none] _
      exact un_turn T I Eq rfl rfl hcG (un y (List.mem_of_getElem? hy)) ⟨rfl, some y, rfl⟩
    · obtain ⟨rfl, x8, rfl⟩ := hP
      exact q _ sG
end
end L2.Lw

/-! # law k15, j: the law -/
namespace L2.Lw
open PySem PySem.Spec PyProof.Rows L2.Vf L2.Dw L2.Ch L2.Lt
abbrev sLa : Stmt := top 29
abbrev nLa : List Str := ["_law_script", "_law_cell_here", "_law_purse_here", "_law_width", "_law_most", "_law_turn", "_law_matrix", "_law_offsets", "_law_about", "_law_given", "_law_change", "_law_told", "_law_part", "_law_row_here"]
theorem scLa : FnScope nLa ["_law_script"] (defScope sLa) := ⟨rfl, rfl, rfl, by decide +kernel, rfl, by decide +kernel, by decide +kernel⟩
/-- the scope of the outer comprehension -/
abbrev scT : Scope := { kind := .function, names := [(".0", .local), ("_law_turn", .local), ("range", .globalImplicit), ("_law_most", .cell), ("_law_purse_here", .cell), ("_law_width", .cell)], isGenerator := false, isCoroutine := false }
/-- drawn lines as addresses and rows -/
theorem lines_of' {n : Nat} {m : Int} {H H0 : Hp} {D g : Addr} : ∀ {xs : List V}, (∀ v ∈ xs, RLine n m v H ∧ New v H0 ∧ v ≠ .ref D ∧ v ≠ .ref g) → ∃ (ls : List Addr) (rows : List (List Int)), xs = ls.map .ref ∧ Paired (fun l c => H l = some (.lst (c.map V.int)) ∧ l ≠ g) ls rows ∧ ∀ c ∈ rows, c.length = n ∧ In m c
  | [], _ => ⟨[], [], rfl, .nil, fun c h => absurd h (by simp)⟩
  | v :: xs, h => by
    obtain ⟨⟨a, c, rfl, l, b, e⟩, _, _, ng⟩ := h v List.mem_cons_self
    obtain ⟨cs, rows, rfl, q, k⟩ := lines_of' (n := n) (m := m) (H := H) (H0 := H0) (D := D) (g := g) fun u hu => h u (List.mem_cons_of_mem _ hu)
    refine ⟨a :: cs, c :: rows, rfl, .cons ⟨e, fun z => ng (by rw [z])⟩ q, fun c' hc => ?_⟩
    rcases List.mem_cons.mp hc with rfl | hc
    · exact ⟨l, b⟩
    · exact k c' hc
def pairD (m : List (List Int)) (o : List Int) : PyData := .list [matL m, lineL o]
def trioD (m : List (List Int)) (o : List Int) (t : Bool) : PyData := .list [pairD m o, .int (m.length : Nat), .bool t]
theorem pair_sh {K : PySem.W.Frag} {H : Hp} {a : Addr} {v w : V} {m : List (List Int)} {o : List Int} {as bs : List Addr} (h : SqL K H a [v, w]) (h1 : Sh K H v (matL m) as) (h2 : Sh K H w (lineL o) bs) : Sh K H (.ref a) (pairD m o) (a :: (as ++ (bs ++ []))) := .lst h (.cons h1 (.cons h2 .nil))
theorem trio_sh {K : PySem.W.Frag} {H : Hp} {a : Addr} {v : V} {m : List (List Int)} {o : List Int} {t : Bool} {as : List Addr} (h : SqL K H a [v, .int (m.length : Nat), .bl t]) (h1 : Sh K H v (pairD m o) as) : Sh K H (.ref a) (trioD m o t) (a :: (as ++ ([] ++ ([] ++ [])))) := .lst h (.cons h1 (.cons (.int _) (.cons (.bl t) .nil)))
theorem shaped_pair (m : List (List Int)) (o : List Int) : SeqAt.shaped (pairD m o) = true := by
  have h1 := dep_lines m
  have c1 : PyData.canLay0 (lineL o) = true := by unfold lineL; simp [PyData.canLay0, lay_ints]
  have c2 : PyData.depth (lineL o) = 1 := by unfold lineL; simp [PyData.depth, dep_ints]
  unfold SeqAt.shaped pairD matL
  simp [PyData.canLay0, PyData.canLayAll0, PyData.depth, PyData.depthAll, lay_lines, c1, c2]
  omega
theorem eqv_pair (m : List (List Int)) (o : List Int) : PyData.eqv (pairD m o) (pairD m o) = true := by
  unfold pairD
  simp [PyData.eqv, PyData.eqvAll, eqv_mat, eqv_line]
theorem Sw.deeper {d : PyData} {b k k' : Nat} (h : Sw d b k) (l : k ≤ k') : Sw d b k' := ⟨h.short, h.bulk, h.show_, Nat.le_trans h.deep l, h.dct⟩
theorem trio_wr {m : List (List Int)} {o : List Int} {t : Bool} {as : List Addr} (hm : ∀ r ∈ m, Dg r ∧ r.length ≤ 2) (ho : Dg o) (hS : Shp m o) : Wr (trioD m o t) as := by
  have hi := hS.hi
  have hf := hS.of
  have h1 : Sw (matL m) 6 2 := (sw_mat hm).le (by have := Nat.mul_le_mul_left (2 + 1) hi; omega)
  have h2 : Sw (lineL o) 2 2 := Sw.deeper ((sw_line ho).le (by omega)) (by decide)
  have h3 : Sw (pairD m o) 20 3 := (Sw.lst (Sws.cons h1 (Sws.cons h2 Sws.nil))).le (by decide)
  have h4 : Sw (.int (m.length : Nat)) 0 3 := Sw.int (by have : (10 : Nat) ^ 50 > 2 := by decide +kernel
                                                         omega)
  have h5 : Sw (.bool t) 0 3 := Sw.bool
  exact Sw.wr (Sw.lst (Sws.cons h3 (Sws.cons h4 (Sws.cons h5 Sws.nil)))) (by decide) (by decide)
theorem atI_last {α : Type} {xs : List α} {y : α} (h : xs[xs.length - 1]? = some y) : atI xs (-1) = some y := by
  have hl : 1 ≤ xs.length := by have := (List.getElem?_eq_some_iff.mp h).1; omega
  have e : ixN xs.length (-1) = some (xs.length - 1) := by
    unfold ixN
    rw [if_neg (by decide), if_pos (by omega)]
    congr 1
    omega
  unfold atI
  rw [e]
  exact h
theorem ix0 (x : V) (xs : List V) : ixN (x :: xs).length 0 = some 0 := by
  unfold ixN
  rw [if_pos (by decide), if_pos (by simp)]
  rfl
def spLa (K : PySem.W.Frag) : Sp := fun vs H Q _ => ∃ (a : Addr) (ns : List Int), vs = [.ref a] ∧ SqL K H a (ns.map V.int) ∧ ∀ H', Q (.bl true) H'
section
variable {P : Program} {w : World} {K : PySem.W.Frag} {mg : Str → Option Value} {base : Heap}
theorem ok_la {C CL CN f fP fD fS fI fE fMx fOf fU fRf fRr : Addr} {fd dP dD dS dI dE dMx dOf dU dRf dRr : FuncData} {ds : List Value} (F : Fun K "law" "law" sLa f fd) (N : Nm mg) (T : ChT K mg C) (I : IsT K C) (Eq : EqT K C fE) (M : Mk K C fI) (Me : MeT P w K mg base C fMx fOf dMx dOf)
    (GP : FnOk P w K mg base CX0 1 fP dP ["_law_script", "_law_at"] (spPu K)) (mP : mg "_law_purse" = some (.ref fP)) (kP : PySem.W.keepIn K (.ref fP) = true) (bP : Binds K dP ["_law_script", "_law_at"] [])
    (GD : FnOk P w K mg base CX0 2 fD dD ["_law_purse_here", "_law_out_of"] spDr) (mD : mg "_law_draw" = some (.ref fD)) (kD : PySem.W.keepIn K (.ref fD) = true) (bD : Binds K dD ["_law_purse_here", "_law_out_of"] [])
    (GS : FnOk P w K mg base CX0 3 fS dS ["_law_purse_here", "_law_most"] spSi) (mS : mg "_law_signed" = some (.ref fS)) (kS : PySem.W.keepIn K (.ref fS) = true) (bS : Binds K dS ["_law_purse_here", "_law_most"] [])
    (GI : FnOk P w K mg base (L2.CX P w) 5 fI dI ["self", "matrix", "offsets", "turns"] (spIn K C CL CN)) (bI : KBn K dI ["self", "matrix", "offsets", "turns"] 3 ["turns"] (fun us ws => us ++ ws) (fun vs zs => vs ++ zs))
    (GE : FnOk P w K mg base CX0 1 fE dE ["self", "other"] (spEqC K C)) (bE : Binds K dE ["self", "other"] [])
    (GU : FnOk P w K mg base CX0 7 fU dU ["_law_change", "_law_matrix", "_law_offsets", "_law_about"] (spUn K C)) (mU : mg "_law_unlike_right" = some (.ref fU)) (kU : PySem.W.keepIn K (.ref fU) = true) (bU : Binds K dU ["_law_change", "_law_matrix", "_law_offsets", "_law_about"] [])
    (GRf : FnG P w K mg base CX0 8 fRf dRf ["_law_width"] spRf) (mRf : mg "_law_refused" = some (.ref fRf)) (kRf : PySem.W.keepIn K (.ref fRf) = true) (bRf : Binds K dRf ["_law_width"] [])
    (GRr : FnG P w K mg base CX0 6 fRr dRr ["_law_purse_here", "_law_change", "_law_width"] (spRr K C)) (mRr : mg "_law_rows_right" = some (.ref fRr)) (kRr : PySem.W.keepIn K (.ref fRr) = true) (bRr : Binds K dRr ["_law_purse_here", "_law_change", "_law_width"] []) :
    FnG P w K mg base CX0 9 f fd ["_law_script"] (spLa K) := by
  refine okG F scLa (fun vs H Q E h => ?_) fun cdv A outer s H vs Q E hg hr h => ?_
  · obtain ⟨a, ns, rfl, _⟩ := h
    rfl
  · obtain ⟨a, ns, rfl, ha, q⟩ := h
    have hu := hr.units
    have hr1 := hr.mono (show 1 ≤ 8 by decide)
    have hr2 := hr.mono (show 2 ≤ 8 by decide)
    have hr3 := hr.mono (show 3 ≤ 8 by decide)
    have hr6 := hr.mono (show 6 ≤ 8 by decide)
    have hr7 := hr.mono (show 7 ≤ 8 by decide)
    refine ⟨_, pss_cons (ps_for PassesOwn.never rfl (pi_range1 (by rfl) N.rng (pa_cons pe_int pa_nil)) (pg_name (i := 1) scLa.nd rfl (Or.inl rfl))
      (pss_cons (ps_set (i := 2) scLa.nd rfl (.inr rfl) (pe_call GP hr1 rfl mP kP bP .nil pass0 (pa_cons (pv 0) (pa_cons (pv 1) pa_nil))))
      (pss_cons (ps_asg (pe_tup (pa_cons (pe_op op_add pe_int (pe_call GD hr2 rfl mD kD bD .nil pass0 (pa_cons (pv 2) (pa_cons pe_int pa_nil)))) (pa_cons (pe_ix ix_list (pe_lst (pa_cons pe_int (pa_cons (pe_op op_powW pe_int pe_int) pa_nil))) (pe_call GD hr2 rfl mD kD bD .nil pass0 (pa_cons (pv 2) (pa_cons pe_int pa_nil))) (fun _ _ => rfl)) pa_nil))) (pg_tup (by rfl) (pgs_cons (pg_name (i := 3) scLa.nd rfl (Or.inr rfl)) (pgs_cons (pg_name (i := 4) scLa.nd rfl (Or.inr rfl)) pgs_nil))))
      (pss_cons (ps_setLc (i := 6) (own := [("_law_turn", 5)]) (g := gName 5) (tt := tYes) (te := tLc (iRng1 (tCons (tVar 3) tNil)) (gName 12) tYes (tCall spSi [] E0 (tCons (tVar 2) (tCons (tVar 4) tNil))) [12]) rfl scLa.nd rfl rfl (sw_true rfl rfl rfl (by decide +kernel)) (pi_range1 (by rfl) N.rng (pa_cons (pv 3) pa_nil)) (blkOk_by (N := nLa) (sc := defScope sLa) (by decide +kernel)) (fun _ _ _ _ _ => pg_name (i := 5) scLa.nd rfl (Or.inl rfl)) (fun _ _ _ _ _ => pts_nil)
        (fun _ _ _ _ _ => pe_lc (own := [("_law_part", 12)]) (g := gName 12) (tt := tYes) (te := tCall spSi [] E0 (tCons (tVar 2) (tCons (tVar 4) tNil))) rfl scLa.nd (pi_range1 (by rfl) N.rng (pa_cons (pv 3) pa_nil)) (blkOk_by (N := nLa) (sc := scT) (by decide +kernel)) (fun _ _ _ _ _ => pg_name (i := 12) scLa.nd rfl (Or.inl rfl)) (fun _ _ _ _ _ => pts_nil) (fun _ _ _ _ _ => pe_call GS hr3 rfl mS kS bS .nil pass0 (pa_cons (pv 2) (pa_cons (pv 4) pa_nil)))))
      (pss_cons (ps_par (i := 7) (j := 8) rfl scLa.nd rfl rfl (by decide) rfl rfl (pa_cons (pe_lc (own := [("_law_part", 12)]) (g := gName 12) (tt := tYes) (te := tCall spSi [] E0 (tCons (tVar 2) (tCons (tVar 4) tNil))) rfl scLa.nd (pi_range1 (by rfl) N.rng (pa_cons (pv 3) pa_nil)) (blkOk_by (N := nLa) (sc := defScope sLa) (by decide +kernel)) (fun _ _ _ _ _ => pg_name (i := 12) scLa.nd rfl (Or.inl rfl)) (fun _ _ _ _ _ => pts_nil) (fun _ _ _ _ _ => pe_call GS hr3 rfl mS kS bS .nil pass0 (pa_cons (pv 2) (pa_cons (pv 4) pa_nil)))) (pa_cons (pe_cmpR op_eq (pe_call GD hr2 rfl mD kD bD .nil pass0 (pa_cons (pv 2) (pa_cons pe_int pa_nil))) pe_int (nomark _)) pa_nil)) rfl)
      (pss_cons (ps_set (i := 9) scLa.nd rfl (.inl rfl) (pe_lst (pa_cons (pe_lc (own := [("_law_row_here", 13)]) (g := gName 13) (tt := tYes) (te := tLsO K 13) rfl scLa.nd (pi_list (pv 6)) (blkOk_by (N := nLa) (sc := defScope sLa) (by decide +kernel)) (fun _ _ _ _ _ => pg_name (i := 13) scLa.nd rfl (Or.inl rfl)) (fun _ _ _ _ _ => pts_nil) (fun _ _ _ _ _ => pe_callTy call_list_of (by rfl) N.lst PyProof.Rows.boot_list (pa_cons (pv 13) pa_nil))) (pa_cons (pe_callTy call_list_of (by rfl) N.lst PyProof.Rows.boot_list (pa_cons (pv 7) pa_nil)) pa_nil))))
      (pss_cons (ps_set (i := 10) scLa.nd rfl (.inl rfl) (pe_makeKS M GI hr6 rfl T.mg_ bI (fun σ => passAt takes0 σ) (pa_cons (pe_ix ix_list (pv 9) pe_int (fun _ _ => rfl)) (pa_cons (pe_ix ix_list (pv 9) pe_int (fun _ _ => rfl)) pa_nil)) (pk_cons (pv 8) pk_nil)))
      (pss_cons (ps_if (pt_cmpR (Vf.op_neD hu) (pv 9) (pe_lst (pa_cons (pv 6) (pa_cons (pv 7) pa_nil))) (nomark _)) (pss_one (ps_ret pe_bl)) pss_nil)
      (pss_cons (ps_asg (pe_op op_add (pe_ix ix_list (pe_ix ix_list (pe_ix ix_list (pv 9) pe_int (fun _ _ => rfl)) (pe_un un_neg pe_int) (fun _ _ => rfl)) pe_int (fun _ _ => rfl)) pe_int) (pg_sub (pe_ix ix_list (pe_ix ix_list (pv 9) pe_int (fun _ _ => rfl)) (pe_un un_neg pe_int) (fun _ _ => rfl)) pe_int set_list))
      (pss_cons (ps_asg (pe_op op_sub (pe_ix ix_list (pe_ix ix_list (pv 9) pe_int (fun _ _ => rfl)) pe_int (fun _ _ => rfl)) pe_int) (pg_sub (pe_ix ix_list (pv 9) pe_int (fun _ _ => rfl)) pe_int set_list))
      (pss_cons (ps_expr (pe_bm PySem.F.plainAttrs_list PySem.F.slot_list_append PySem.F.type_list_append mt_append (pe_ix ix_list (pe_ix ix_list (pv 9) pe_int (fun _ _ => rfl)) pe_int (fun _ _ => rfl)) (pa_cons pe_int pa_nil)))
      (pss_cons (ps_expr (pe_bm0 PySem.F.plainAttrs_list PySem.F.slot_list_reverse PySem.F.type_list_reverse mt_reverse (pe_ix ix_list (pv 9) pe_int (fun _ _ => rfl))))
      (pss_cons (ps_expr (pe_bm PySem.F.plainAttrs_list PySem.F.slot_list_append PySem.F.type_list_append mt_append (pe_ix ix_list (pv 9) pe_int (fun _ _ => rfl)) (pa_cons pe_int pa_nil)))
      (pss_cons (ps_for PassesOwn.never rfl (pi_range1 (by rfl) N.rng (pa_cons pe_int pa_nil)) (pg_name (i := 5) scLa.nd rfl (Or.inl rfl))
        (pss_cons (ps_set (i := 11) scLa.nd rfl (.inl rfl) (pe_lst (pa_cons (pe_meth0 (pv 10) T.cl Me.mM Me.gM hr1 Me.bM .nil pass0) (pa_cons (pe_meth0 (pv 10) T.cl Me.mO Me.gO hr1 Me.bO .nil pass0) pa_nil))))
        (pss_cons (ps_if (pt_cmpR op_ne (pe_callB (call_reprD hg hu) (by rfl) N.rep boot_repr (pa_cons (pe_lst (pa_cons (pv 11) (pa_cons (pe_fld (pv 10) rfl) (pa_cons (pe_fld (pv 10) rfl) pa_nil)))) pa_nil)) (pe_callB (call_reprD hg hu) (by rfl) N.rep boot_repr (pa_cons (pe_lst (pa_cons (pe_lst (pa_cons (pv 6) (pa_cons (pv 7) pa_nil))) (pa_cons (pv 3) (pa_cons (pv 8) pa_nil)))) pa_nil)) (nomark _)) (pss_one (ps_ret pe_bl)) pss_nil)
        (pss_cons (ps_expr (pe_bm PySem.F.plainAttrs_list PySem.F.slot_list_append PySem.F.type_list_append mt_append (pe_ix ix_list (pe_ix ix_list (pv 11) pe_int (fun _ _ => rfl)) pe_int (fun _ _ => rfl)) (pa_cons pe_non pa_nil)))
        (pss_cons (ps_expr (pe_bm PySem.F.plainAttrs_list PySem.F.slot_list_append PySem.F.type_list_append mt_append (pe_ix ix_list (pv 11) pe_int (fun _ _ => rfl)) (pa_cons pe_non pa_nil)))
        (pss_one (ps_expr (pe_bm PySem.F.plainAttrs_list PySem.F.slot_list_append PySem.F.type_list_append mt_append (pe_ix ix_list (pv 11) pe_int (fun _ _ => rfl)) (pa_cons pe_non pa_nil)))))))))
      (pss_cons (ps_if (pt_not (pt_val (pe_call GU hr7 rfl mU kU bU .nil pass0 (pa_cons (pv 10) (pa_cons (pv 6) (pa_cons (pv 7) (pa_cons (pv 8) pa_nil))))))) (pss_one (ps_ret pe_bl)) pss_nil)
      (pss_cons (ps_if (PW.pt (pw_or (pt_cmpR (op_neO GE hr2 bE Eq.at_ Eq.ne Eq.sub Eq.fn) (pv 10) (pe_makeKS M GI hr6 rfl T.mg_ bI (fun σ => passAt takes0 σ) (pa_cons (pv 6) (pa_cons (pv 7) pa_nil)) (pk_cons (pv 8) pk_nil)) (nomark _)) (pw_or1 (pt_not (pt_val (pe_callG GRf hg hr rfl mRf kRf bRf .nil pass0 (pa_cons (pv 3) pa_nil))))))) (pss_one (ps_ret pe_bl)) pss_nil)
      (pss_one (ps_if (pt_not (pt_val (pe_callG GRr hg hr6 rfl mRr kRr bRr .nil pass0 (pa_cons (pv 2) (pa_cons (pv 10) (pa_cons (pv 3) pa_nil)))))) (pss_one (ps_ret pe_bl)) pss_nil))))))))))))))))))
      (pss_one (ps_ret pe_bl)), ?_⟩
    obtain ⟨nC, tb⟩ := otTab_at Eq.tab
    refine ⟨4, rfl, by decide, by decide, ?_⟩
    refine for_range (lo := 0) (n := 4) (fun i σ H' => (∃ x1 x2 x3 x4 x5 x6 x7 x8 x9 x10 x11, σ = [some (.ref a), x1, x2, x3, x4, x5, x6, x7, x8, x9, x10, x11, none, none]) ∧ Same H H') ⟨⟨none, none, none, none, none, none, none, none, none, none, none, rfl⟩, .refl _⟩ (fun i σ Ht hi hP => ?_) fun σ H' hP => q H'
    obtain ⟨⟨x1, x2, x3, x4, x5, x6, x7, x8, x9, x10, x11, rfl⟩, sm⟩ := hP
    refine ⟨_, rfl, _, rfl, a, ns, i, congrArg (fun x : Int => [V.ref a, V.int x]) (Int.zero_add _), SqL.mono ha sm, by omega, fun g H1 hg s1 p1 => ?_⟩
    refine ⟨_, rfl, g, 2, _, rfl, by decide, by decide, p1, by omega, fun r H2 r0 r1 k2 p2 => ⟨_, _, rfl, rfl, ?_⟩⟩
    refine ⟨_, _, rfl, rfl, ⟨by decide, by decide +kernel⟩, by show 2 ≤ sizeLine; decide, fun L hL => ⟨_, rfl, g, 2, _, rfl, by decide, by decide, p2.mono (same_new hL), by omega, fun r' H3 r0' r1' k3 p3 => ?_⟩⟩
    have gL : L ≠ g := (p2.ne hL).symm
    obtain ⟨mst, hm, hm0, hm1⟩ : ∃ mst : Int, atI [V.int 3, V.int (10 ^ Int.toNat 19)] r' = some (.int mst) ∧ 0 ≤ mst ∧ mst ≤ 10 ^ 19 := by
      have : r' = 0 ∨ r' = 1 := by omega
      rcases this with rfl | rfl
      · exact ⟨3, rfl, by decide, by decide⟩
      · exact ⟨10 ^ Int.toNat 19, rfl, by decide +kernel, by decide +kernel⟩
    refine ⟨L, _, r', .int mst, rfl, rfl, SqL.of (k3 _ _ gL upd_same), hm, by show 2 ≤ sizeLine; decide, fun tp htp => ?_⟩
    have k4 : Keep g H3 (upd H3 tp (.tup [.int (1 + r), .int mst])) := .of (same_new htp)
    have p4 : Pu (upd H3 tp (.tup [.int (1 + r), .int mst])) g _ := p3.mono (same_new htp)
    refine ⟨tp, _, rfl, .inl (.inl upd_same), rfl, _, _, rfl, _, _, rfl, rfl, ?_⟩
    have kt4 : Keep g Ht (upd H3 tp (.tup [.int (1 + r), .int mst])) := ((Keep.of s1).trans (k2.new hL)).trans (k3.trans k4)
    generalize upd H3 tp (.tup [.int (1 + r), .int mst]) = H4 at p4 kt4
    obtain ⟨W, ew, w1, w2⟩ : ∃ W : Nat, (1 + r) = ((W : Nat) : Int) ∧ 1 ≤ W ∧ W ≤ 2 := ⟨(1 + r).toNat, by omega, by omega, by omega⟩
    have p4 : Pu H4 g (1000 * i + 6) := p4.le (by omega)
    refine ⟨_, rfl, W, congrArg (fun x : Int => [V.int x]) ew, by omega, by omega, ?_⟩
    refine drawn_run (n := W) (R := RLine W mst) (σ := [some (.ref a), some (.int (0 + (i : Int))), some (.ref g), some (.int (1 + r)), some (.int mst), x5, x6, x7, x8, x9, x10, x11, none, none]) (vs := [5]) (i0 := 5) (g := g) (c := 1000 * i + 6) (k := 6) flat_line (by omega) p4 (fun x j H5 Qe hj k5 p5 qe => ?_) (fun x => rfl) fun Dm xs H6 hDm k6 p6 l6 r6 e6 => ?_
    · refine ⟨_, rfl, W, congrArg (fun x : Int => [V.int x]) ew, by omega, by omega, ?_⟩
      refine drawn_run (n := W) (R := RInt mst) (σ := [some (.ref a), some (.int (0 + (i : Int))), some (.ref g), some (.int (1 + r)), some (.int mst), some x, x6, x7, x8, x9, x10, x11, none, none]) (vs := [12]) (i0 := 12) (g := g) (c := 1000 * i + 6 + 6 * j) (k := 3) flat_int (by omega) p5 (fun y j2 H7 Qe2 hj2 k7 p7 qe2 => ?_) (fun x => rfl) fun Dl ys H8 hDl k8 p8 l8 r8 e8 => ?_
      · exact ⟨_, rfl, _, rfl, g, mst, _, rfl, hm0, by omega, p7, by omega, fun z H9 b1 b2 k9 p9 => qe2 _ _ (fun a e => nomatch e) k9 p9 ⟨z, rfl, b1, b2⟩⟩
      · obtain ⟨cs, rfl, hcs⟩ := ints_of r8
        rw [List.length_map] at l8
        exact qe _ _ (fun a e => by cases e; exact hDl) k8 (p8.le (by omega)) ⟨Dl, cs, rfl, l8, hcs, e8⟩
    obtain ⟨ls, m, rfl, q6, b6⟩ := lines_of' r6
    rw [List.length_map] at l6
    have lm : m.length = W := by rw [← Paired.length q6]; exact l6
    have g6 : Dm ≠ g := (p4.ne hDm).symm
    refine ⟨_, rfl, W, congrArg (fun x : Int => [V.int x]) ew, by omega, by omega, ?_⟩
    refine drawn_run (n := W) (R := RInt mst) (σ := [some (.ref a), some (.int (0 + (i : Int))), some (.ref g), some (.int (1 + r)), some (.int mst), x5, some (.ref Dm), x7, x8, x9, x10, x11, none, none]) (vs := [12]) (i0 := 12) (g := g) (c := 1000 * i + 6 + 6 * W) (k := 3) flat_int (by omega) p6 (fun y j2 H7 Qe2 hj2 k7 p7 qe2 => ?_) (fun x => rfl) fun Do ys H8 hDo k8 p8 l8 r8 e8 => ?_
    · exact ⟨_, rfl, _, rfl, g, mst, _, rfl, hm0, by omega, p7, by omega, fun z H9 b1 b2 k9 p9 => qe2 _ _ (fun a e => nomatch e) k9 p9 ⟨z, rfl, b1, b2⟩⟩
    obtain ⟨o, rfl, ho⟩ := ints_of r8
    rw [List.length_map] at l8
    refine ⟨_, rfl, g, 2, _, rfl, by decide, by decide, p8, by omega, fun r2 H9 r20 r21 k9 p9 => ⟨rfl, _, _, rfl, ?_⟩⟩
    obtain ⟨t, ht⟩ : ∃ t, t = decide (V.int r2 = V.int 0) := ⟨_, rfl⟩
    rw [← ht]
    have gDo : Do ≠ g := (p6.ne hDo).symm
    have eDo : H9 Do = some (.lst (o.map V.int)) := k9 _ _ gDo e8
    have eDm : H9 Dm = some (.lst (ls.map V.ref)) := k9 _ _ g6 (k8 _ _ g6 e6)
    have q9 : Paired (fun l r => H9 l = some (.lst (r.map V.int))) ls m := Paired.mapP q6 fun l r h => k9 _ _ h.2 (k8 _ _ h.2 h.1)
    have hS : Shp m o := ⟨by omega, by omega, fun r hr => by rw [(b6 r hr).1, lm], by omega⟩
    have bm : ∀ r ∈ m, In (10 ^ 19 + 2) r := fun r hr c hc => by have := (b6 r hr).2 c hc; omega
    have bo : In (10 ^ 19 + 2) o := fun c hc => by have := ho c hc; omega
    have kt9 : Keep g Ht H9 := kt4.trans (k6.trans (k8.trans k9))
    have st9 : Same Ht H9 := fun b u e => kt9 b u (ne_of_none e hg) e
    refine ⟨_, rfl, Dm, rfl, ⟨_, SqL.of eDm⟩, ?_⟩
    refine copy_run (m := m) (σ := [some (.ref a), some (.int (0 + (i : Int))), some (.ref g), some (.int (1 + r)), some (.int mst), x5, some (.ref Dm), some (.ref Do), some (.bl t), x9, x10, x11, none, none]) (i0 := 13) (show 13 < 14 by decide) (SqL.of eDm) (Paired.mapP q9 fun _ _ e => SqL.of e) (by rw [lm]; omega) fun D1 ls1 H10 hD1 s10 nw10 e10 => ?_
    refine ⟨_, rfl, Do, _, rfl, .inl (SqL.of (s10 _ _ eDo)), fun D2 hD2 => ⟨by show 2 ≤ sizeLine; decide, fun Gv hGv => ?_⟩⟩
    have sD2 := same_new (o := .lst (o.map V.int)) hD2
    have sGv := same_new (o := .lst [.ref D1, .ref D2]) hGv
    have eD1 := sGv _ _ (sD2 _ _ e10)
    have eD2 : (upd (upd H10 D2 (.lst (o.map V.int))) Gv (.lst [.ref D1, .ref D2])) D2 = some (.lst (o.map V.int)) := sGv _ _ upd_same
    have eGv : (upd (upd H10 D2 (.lst (o.map V.int))) Gv (.lst [.ref D1, .ref D2])) Gv = some (.lst [.ref D1, .ref D2]) := upd_same
    have nw : Paired (fun l r => (upd (upd H10 D2 (.lst (o.map V.int))) Gv (.lst [.ref D1, .ref D2])) l = some (.lst (r.map V.int)) ∧ H9 l = none ∧ l ≠ D1 ∧ l ≠ D2 ∧ l ≠ Gv) ls1 m := Paired.mapP nw10 fun l r h => ⟨sGv _ _ (sD2 _ _ h.1), h.2.1, h.2.2, ne_of_none h.1 hD2, ne_of_none (sD2 _ _ h.1) hGv⟩
    have n12 : D1 ≠ D2 := ne_of_none e10 hD2
    have n1G : D1 ≠ Gv := ne_of_none (sD2 _ _ e10) hGv
    have n2G : D2 ≠ Gv := ne_of_none upd_same hGv
    have n2 : H9 D2 = none := s10.free hD2
    have s911 := s10.trans (sD2.trans sGv)
    generalize upd (upd H10 D2 (.lst (o.map V.int))) Gv (.lst [.ref D1, .ref D2]) = H11 at eD1 eD2 eGv nw s911
    refine ⟨_, rfl, Gv, _, 0, .ref D1, rfl, rfl, SqL.of eGv, rfl, _, rfl, Gv, _, 1, .ref D2, rfl, rfl, SqL.of eGv, rfl, _, rfl, rfl, rfl, mk_run (t := t) (fun _ => rfl) (mat_sh (SqL.of eD1) (Paired.mapP nw fun _ _ e => SqL.of e.1)) (line_sh (SqL.of eD2)) rfl hS fun p ps H12 np s12 f12 c12 => ?_⟩
    have nps : ∀ {b : Addr} {u : HO}, H11 b = some u → b ∉ ps := fun {b u} e hb => by rw [f12 b hb] at e; cases e
    have s912 := s911.trans s12
    refine ⟨_, rfl, _, rfl, _, rfl, by show 2 ≤ sizeLine; decide, fun L2 hL2 => ?_⟩
    have sL2 := same_new (o := .lst [.ref Dm, .ref Do]) hL2
    have s913 := s912.trans sL2
    have e13 : (upd H12 L2 (.lst [.ref Dm, .ref Do])) L2 = some (.lst [.ref Dm, .ref Do]) := upd_same
    have c13 := c12.mono sL2
    have s1113 := s12.trans sL2
    generalize upd H12 L2 (.lst [.ref Dm, .ref Do]) = H13 at s913 e13 c13 s1113
    refine ⟨pairD m o, pairD m o, _, _, pair_sh (SqL.of (s1113 _ _ eGv)) (mat_sh (SqL.of (s1113 _ _ eD1)) (Paired.mapP nw fun _ _ e => SqL.of (s1113 _ _ e.1))) (line_sh (SqL.of (s1113 _ _ eD2))), pair_sh (SqL.of e13) (mat_sh (SqL.of (s913 _ _ eDm)) (Paired.mapP q9 fun _ _ e => SqL.of (s913 _ _ e))) (line_sh (SqL.of (s913 _ _ eDo))), shaped_pair m o, shaped_pair m o, _, rfl, ?_⟩
    rw [(if_pos rfl).trans (congrArg not (eqv_pair m o))]
    refine iteF ?_
    have nD1 := nps eD1
    have nD2 := nps eD2
    have nw := Paired.mapP nw fun l r h => (⟨s1113 _ _ h.1, h.2, nps h.1⟩ : H13 l = some (.lst (r.map V.int)) ∧ (H9 l = none ∧ l ≠ D1 ∧ l ≠ D2 ∧ l ≠ Gv) ∧ l ∉ ps)
    have eGv := s1113 _ _ eGv
    have eD1 := s1113 _ _ eD1
    have eD2 := s1113 _ _ eD2
    have lls : ls1.length = W := by rw [Paired.length nw]; exact lm
    have hl13 : ∀ l ∈ ls1, (H9 l = none ∧ l ≠ D1 ∧ l ≠ D2 ∧ l ≠ Gv) ∧ l ∉ ps ∧ ∃ x xs, H13 l = some (.lst (x :: xs)) ∧ xs.length ≤ 1 ∧ ∃ z, x = .int z := fun l hl => by
      obtain ⟨j, hj⟩ := List.getElem?_of_mem hl
      obtain ⟨r, hr, h1, h2, h3⟩ := Paired.at nw hj
      have hlr := hS.sq r (List.mem_of_getElem? hr)
      cases r with
      | nil => simp at hlr; omega
      | cons z zs => exact ⟨h2, h3, .int z, zs.map V.int, h1, by rw [List.length_map]; simp at hlr; omega, z, rfl⟩
    obtain ⟨lZ, mZ, hZ⟩ : ∃ lZ, lZ ∈ ls1 ∧ atI (ls1.map V.ref) (-1) = some (.ref lZ) := by
      refine ⟨ls1[ls1.length - 1]'(by omega), List.getElem_mem _, atI_last ?_⟩
      rw [List.length_map, List.getElem?_map, List.getElem?_eq_getElem (by omega)]
      rfl
    obtain ⟨l1, m1, h1⟩ : ∃ l1, l1 ∈ ls1 ∧ atI (ls1.map V.ref) 0 = some (.ref l1) := by
      refine ⟨ls1[0]'(by omega), List.getElem_mem _, (show atI _ ((0 : Nat) : Int) = _ from atI_nat ?_)⟩
      rw [List.getElem?_map, List.getElem?_eq_getElem (by omega)]
      rfl
    obtain ⟨y0, ot, eo⟩ : ∃ y ys, o = y :: ys := by
      cases o with
      | nil => simp at l8; omega
      | cons y ys => exact ⟨y, ys, rfl⟩
    have lot : ot.length ≤ 1 := by rw [eo] at l8; simp at l8; omega
    obtain ⟨⟨nZ, z1, z2, z3⟩, z4, xZ, xsZ, eZ, lZ', vZ, rfl⟩ := hl13 lZ mZ
    refine ⟨_, rfl, Gv, _, 0, .ref D1, rfl, rfl, SqL.of eGv, rfl, _, rfl, D1, _, -1, .ref lZ, rfl, rfl, SqL.of eD1, hZ, lZ, _, 0, .int vZ, rfl, rfl, SqL.of eZ, (show atI _ ((0 : Nat) : Int) = _ from atI_nat rfl), _, _, rfl, rfl, _, rfl, Gv, _, 0, .ref D1, rfl, rfl, SqL.of eGv, rfl, _, rfl, D1, _, -1, .ref lZ, rfl, rfl, SqL.of eD1, hZ, lZ, _, 0, 0, rfl, rfl, eZ, ix0 _ _, ?_⟩
    have hl14 : ∀ l ∈ ls1, ∃ xs, (upd H13 lZ (.lst ((V.int vZ :: xsZ).set 0 (.int (vZ + 1))))) l = some (.lst xs) ∧ xs.length ≤ 2 := fun l hl => by
      by_cases e : l = lZ
      · rw [e]; exact ⟨_, upd_same, by simp; omega⟩
      · obtain ⟨_, _, x, xs, q, ql, _⟩ := hl13 l hl
        exact ⟨x :: xs, by rw [upd_ne e]; exact q, by simp; omega⟩
    have s914 : Same H9 (upd H13 lZ (.lst ((V.int vZ :: xsZ).set 0 (.int (vZ + 1))))) := fun b u e => by rw [upd_ne (ne_of_none e nZ)]; exact s913 _ _ e
    have c14 : Chg C (upd H13 lZ (.lst ((V.int vZ :: xsZ).set 0 (.int (vZ + 1))))) p m o t ps := c13.keep keep_upd z4
    have eGv : (upd H13 lZ (.lst ((V.int vZ :: xsZ).set 0 (.int (vZ + 1))))) Gv = some (.lst [.ref D1, .ref D2]) := by rw [upd_ne z3.symm]; exact eGv
    have eD1 : (upd H13 lZ (.lst ((V.int vZ :: xsZ).set 0 (.int (vZ + 1))))) D1 = some (.lst (ls1.map V.ref)) := by rw [upd_ne z1.symm]; exact eD1
    have eD2 : (upd H13 lZ (.lst ((V.int vZ :: xsZ).set 0 (.int (vZ + 1))))) D2 = some (.lst (.int y0 :: ot.map V.int)) := by rw [upd_ne z2.symm, eD2, eo]; rfl
    generalize upd H13 lZ (.lst ((V.int vZ :: xsZ).set 0 (.int (vZ + 1)))) = H14 at hl14 s914 c14 eGv eD1 eD2
    refine ⟨_, rfl, Gv, _, 1, .ref D2, rfl, rfl, SqL.of eGv, rfl, D2, _, 0, .int y0, rfl, rfl, SqL.of eD2, (show atI _ ((0 : Nat) : Int) = _ from atI_nat rfl), _, _, rfl, rfl, _, rfl, Gv, _, 1, .ref D2, rfl, rfl, SqL.of eGv, rfl, D2, _, 0, 0, rfl, rfl, eD2, ix0 _ _, ?_⟩
    have s915 : Same H9 (upd H14 D2 (.lst ((V.int y0 :: ot.map V.int).set 0 (.int (y0 - 1))))) := fun b u e => by rw [upd_ne (ne_of_none e n2)]; exact s914 _ _ e
    have c15 : Chg C (upd H14 D2 (.lst ((V.int y0 :: ot.map V.int).set 0 (.int (y0 - 1))))) p m o t ps := c14.keep keep_upd nD2
    have eGv : (upd H14 D2 (.lst ((V.int y0 :: ot.map V.int).set 0 (.int (y0 - 1))))) Gv = some (.lst [.ref D1, .ref D2]) := by rw [upd_ne n2G.symm]; exact eGv
    have eD1 : (upd H14 D2 (.lst ((V.int y0 :: ot.map V.int).set 0 (.int (y0 - 1))))) D1 = some (.lst (ls1.map V.ref)) := by rw [upd_ne n12]; exact eD1
    have eD2 : ∃ xs, (upd H14 D2 (.lst ((V.int y0 :: ot.map V.int).set 0 (.int (y0 - 1))))) D2 = some (.lst xs) ∧ xs.length ≤ 2 := ⟨_, upd_same, by simp; omega⟩
    have hl15 : ∀ l ∈ ls1, ∃ xs, (upd H14 D2 (.lst ((V.int y0 :: ot.map V.int).set 0 (.int (y0 - 1))))) l = some (.lst xs) ∧ xs.length ≤ 2 := fun l hl => by
      obtain ⟨xs, q, ql⟩ := hl14 l hl
      exact ⟨xs, by rw [upd_ne (hl13 l hl).1.2.2.1]; exact q, ql⟩
    generalize upd H14 D2 (.lst ((V.int y0 :: ot.map V.int).set 0 (.int (y0 - 1)))) = H15 at hl15 s915 c15 eGv eD1 eD2
    obtain ⟨x1', e1', l1'⟩ := hl15 l1 m1
    obtain ⟨xD2, eD2, lD2⟩ := eD2
    obtain ⟨⟨nl1, u1, u2, u3⟩, u4, _⟩ := hl13 l1 m1
    refine ⟨_, rfl, Gv, _, 0, .ref D1, rfl, rfl, SqL.of eGv, rfl, D1, _, 0, .ref l1, rfl, rfl, SqL.of eD1, h1, .inl ⟨rfl, _, SqL.of e1'⟩, l1, _, .int 0, rfl, rfl, e1', by rw [sizeLine_eq]; omega, ?_⟩
    have s916 : Same H9 (upd H15 l1 (.lst (x1' ++ [.int 0]))) := fun b u e => by rw [upd_ne (ne_of_none e nl1)]; exact s915 _ _ e
    have c16 : Chg C (upd H15 l1 (.lst (x1' ++ [.int 0]))) p m o t ps := c15.keep keep_upd u4
    have eGv : (upd H15 l1 (.lst (x1' ++ [.int 0]))) Gv = some (.lst [.ref D1, .ref D2]) := by rw [upd_ne u3.symm]; exact eGv
    have eD1 : (upd H15 l1 (.lst (x1' ++ [.int 0]))) D1 = some (.lst (ls1.map V.ref)) := by rw [upd_ne u1.symm]; exact eD1
    have eD2 : (upd H15 l1 (.lst (x1' ++ [.int 0]))) D2 = some (.lst xD2) := by rw [upd_ne u2.symm]; exact eD2
    generalize upd H15 l1 (.lst (x1' ++ [.int 0])) = H16 at s916 c16 eGv eD1 eD2
    refine ⟨_, rfl, Gv, _, 0, .ref D1, rfl, rfl, SqL.of eGv, rfl, .inl ⟨rfl, _, SqL.of eD1⟩, D1, _, rfl, rfl, eD1, ?_⟩
    have s917 : Same H9 (upd H16 D1 (.lst (ls1.map V.ref).reverse)) := fun b u e => by rw [upd_ne (ne_of_none e hD1)]; exact s916 _ _ e
    have c17 : Chg C (upd H16 D1 (.lst (ls1.map V.ref).reverse)) p m o t ps := c16.keep keep_upd nD1
    have eGv : (upd H16 D1 (.lst (ls1.map V.ref).reverse)) Gv = some (.lst [.ref D1, .ref D2]) := by rw [upd_ne n1G.symm]; exact eGv
    have eD2 : (upd H16 D1 (.lst (ls1.map V.ref).reverse)) D2 = some (.lst xD2) := by rw [upd_ne n12.symm]; exact eD2
    generalize upd H16 D1 (.lst (ls1.map V.ref).reverse) = H17 at s917 c17 eGv eD2
    refine ⟨_, rfl, Gv, _, 1, .ref D2, rfl, rfl, SqL.of eGv, rfl, .inl ⟨rfl, _, SqL.of eD2⟩, D2, _, .int 0, rfl, rfl, eD2, by rw [sizeLine_eq]; omega, ?_⟩
    have s918 : Same H9 (upd H17 D2 (.lst (xD2 ++ [.int 0]))) := fun b u e => by rw [upd_ne (ne_of_none e n2)]; exact s917 _ _ e
    have c18 : Chg C (upd H17 D2 (.lst (xD2 ++ [.int 0]))) p m o t ps := c17.keep keep_upd nD2
    generalize upd H17 D2 (.lst (xD2 ++ [.int 0])) = Hb at s918 c18
    have sm_m : ∀ r ∈ m, Dg r ∧ r.length ≤ 2 := fun r hr => ⟨fun x hx => by have := bm r hr x hx; omega, by have := hS.sq r hr; omega⟩
    have sm_o : Dg o := fun x hx => by have := bo x hx; omega
    refine ⟨2, rfl, by decide, by decide, ?_⟩
    refine for_range (lo := 0) (n := 2) (fun k σ H' => (∃ x5 x11, σ = [some (.ref a), some (.int (0 + (i : Int))), some (.ref g), some (.int (1 + r)), some (.int mst), x5, some (.ref Dm), some (.ref Do), some (.bl t), some (.ref Gv), some (.ref p), x11, none, none]) ∧ Same Hb H') ⟨⟨x5, x11, rfl⟩, .refl _⟩ (fun k σ Hk hk hP => ?_) fun σ Hc hP => ?_
    · obtain ⟨⟨x5, x11, rfl⟩, sk⟩ := hP
      have ck := c18.mono sk
      obtain ⟨dx, _, _, _, hpk, _⟩ := ck.at (K := K)
      refine ⟨_, rfl, p, dx, _, rfl, hpk, rfl, p, m, o, t, ps, rfl, ck, hS, fun M1 lM Ha hM1 sa nwa ea => ?_⟩
      refine ⟨_, rfl, p, dx, _, rfl, sa _ _ hpk, rfl, p, m, o, t, ps, rfl, ck.mono sa, fun O1 Hd hO1 sd ed => ⟨by show 2 ≤ sizeLine; decide, fun Tl hTl => ?_⟩⟩
      have sT := same_new (o := .lst [.ref M1, .ref O1]) hTl
      have eT : (upd Hd Tl (.lst [.ref M1, .ref O1])) Tl = some (.lst [.ref M1, .ref O1]) := upd_same
      have eM : (upd Hd Tl (.lst [.ref M1, .ref O1])) M1 = some (.lst (lM.map V.ref)) := sT _ _ (sd _ _ ea)
      have eO : (upd Hd Tl (.lst [.ref M1, .ref O1])) O1 = some (.lst (o.map V.int)) := sT _ _ ed
      have nwM : Paired (fun l r => (upd Hd Tl (.lst [.ref M1, .ref O1])) l = some (.lst (r.map V.int)) ∧ Hk l = none ∧ l ≠ M1 ∧ l ≠ O1 ∧ l ≠ Tl) lM m := Paired.mapP nwa fun l r h => ⟨sT _ _ (sd _ _ h.1), h.2.1, h.2.2, ne_of_none h.1 hO1, ne_of_none (sd _ _ h.1) hTl⟩
      have nMO : M1 ≠ O1 := ne_of_none ea hO1
      have nMT : M1 ≠ Tl := ne_of_none (sd _ _ ea) hTl
      have nOT : O1 ≠ Tl := ne_of_none ed hTl
      have nO : Hk O1 = none := sa.free hO1
      have skT := sa.trans (sd.trans sT)
      generalize upd Hd Tl (.lst [.ref M1, .ref O1]) = He at eT eM eO nwM skT
      have she : Sh K He (.ref Tl) (pairD m o) _ := pair_sh (SqL.of eT) (mat_sh (SqL.of eM) (Paired.mapP nwM fun _ _ e => SqL.of e.1)) (line_sh (SqL.of eO))
      have hpe := skT _ _ hpk
      refine ⟨_, rfl, _, rfl, p, C, dx, _, .int (m.length : Nat), rfl, hpe, T.cl, T.nW, rfl, _, rfl, p, C, dx, _, .bl t, rfl, hpe, T.cl, T.nT, rfl, by show 3 ≤ sizeLine; decide, fun L1 hL1 => ?_⟩
      have sL1 := same_new (o := .lst [.ref Tl, .int (m.length : Nat), .bl t]) hL1
      refine ⟨.ref L1, trioD m o t, _, rfl, trio_sh (SqL.of upd_same) (sh_mono she sL1), trio_wr sm_m sm_o hS, ?_⟩
      refine ⟨_, rfl, _, rfl, by show 2 ≤ sizeLine; decide, fun L2' hL2' => ⟨_, rfl, _, rfl, by show 3 ≤ sizeLine; decide, fun L3 hL3 => ?_⟩⟩
      have sL2' := same_new (o := .lst [.ref Dm, .ref Do]) hL2'
      have sL3 := same_new (o := .lst [.ref L2', .int (1 + r), .bl t]) hL3
      have s9e := s918.trans (sk.trans (skT.trans (sL1.trans sL2')))
      have eI : (1 + r) = ((m.length : Nat) : Int) := by rw [ew, lm]
      refine ⟨.ref L3, trioD m o t, _, rfl, trio_sh (by have := SqL.of (K := K) (upd_same (H := upd (upd He L1 (.lst [.ref Tl, .int (m.length : Nat), .bl t])) L2' (.lst [.ref Dm, .ref Do])) (a := L3) (o := .lst [.ref L2', .int (1 + r), .bl t])); rw [eI] at this ⊢; exact this) (sh_mono (pair_sh (SqL.of upd_same) (mat_sh (SqL.of (s9e _ _ eDm)) (Paired.mapP q9 fun _ _ e => SqL.of (s9e _ _ e))) (line_sh (SqL.of (s9e _ _ eDo)))) sL3), trio_wr sm_m sm_o hS, rfl, _, rfl, ?_⟩
      rw [decide_eq_true rfl]
      refine iteF ?_
      have sLL := sL1.trans (sL2'.trans sL3)
      have eT := sLL _ _ eT
      have eM := sLL _ _ eM
      have eO := sLL _ _ eO
      have nwM := Paired.mapP nwM fun l rr h => (⟨sLL _ _ h.1, h.2⟩ : (upd (upd (upd He L1 (.lst [.ref Tl, .int (m.length : Nat), .bl t])) L2' (.lst [.ref Dm, .ref Do])) L3 (.lst [.ref L2', .int (1 + r), .bl t])) l = some (.lst (rr.map V.int)) ∧ Hk l = none ∧ l ≠ M1 ∧ l ≠ O1 ∧ l ≠ Tl)
      have skF := skT.trans sLL
      generalize upd (upd (upd He L1 (.lst [.ref Tl, .int (m.length : Nat), .bl t])) L2' (.lst [.ref Dm, .ref Do])) L3 (.lst [.ref L2', .int (1 + r), .bl t]) = Hf at eT eM eO nwM skF
      obtain ⟨l0, r0, h0, e0, lr0, n0, d1, d2, d3⟩ : ∃ (l0 : Addr) (r0 : List V), atI (lM.map V.ref) 0 = some (.ref l0) ∧ Hf l0 = some (.lst r0) ∧ r0.length ≤ 1000 ∧ Hk l0 = none ∧ l0 ≠ M1 ∧ l0 ≠ O1 ∧ l0 ≠ Tl := by
        have ll : lM.length = m.length := Paired.length nwM
        have := hS.lo
        have hj : lM[0]? = some (lM[0]'(by omega)) := List.getElem?_eq_getElem (by omega)
        obtain ⟨r0, hr0, h⟩ := Paired.at nwM hj
        exact ⟨_, _, (show atI _ ((0 : Nat) : Int) = _ from atI_nat (by rw [List.getElem?_map, hj]; rfl)), h.1, by rw [List.length_map]; have := hS.sq r0 (List.mem_of_getElem? hr0); omega, h.2⟩
      refine ⟨_, rfl, Tl, _, 0, .ref M1, rfl, rfl, SqL.of eT, rfl, M1, _, 0, .ref l0, rfl, rfl, SqL.of eM, h0, .inl ⟨rfl, _, SqL.of e0⟩, l0, _, .non, rfl, rfl, e0, by rw [sizeLine_eq]; omega, ?_⟩
      refine ⟨_, rfl, Tl, _, 0, .ref M1, rfl, rfl, SqL.of (by rw [upd_ne d3.symm]; exact eT), rfl, .inl ⟨rfl, _, SqL.of (by rw [upd_ne d1.symm]; exact eM)⟩, M1, _, .non, rfl, rfl, by rw [upd_ne d1.symm]; exact eM, by rw [List.length_map, Paired.length nwM, sizeLine_eq]; omega, ?_⟩
      refine ⟨_, rfl, Tl, _, 1, .ref O1, rfl, rfl, SqL.of (by rw [upd_ne nMT.symm, upd_ne d3.symm]; exact eT), rfl, .inl ⟨rfl, _, SqL.of (by rw [upd_ne nMO.symm, upd_ne d2.symm]; exact eO)⟩, O1, _, .non, rfl, rfl, by rw [upd_ne nMO.symm, upd_ne d2.symm]; exact eO, by rw [List.length_map, l8, sizeLine_eq]; omega, ⟨_, _, rfl⟩, fun b u e => ?_⟩
      have ek := sk _ _ e
      rw [upd_ne (ne_of_none ek nO), upd_ne (ne_of_none ek hM1), upd_ne (ne_of_none ek n0)]
      exact skF _ _ ek
    obtain ⟨⟨x5, x11, rfl⟩, sc⟩ := hP
    have s9c := s918.trans sc
    have cc := c18.mono sc
    refine ⟨_, rfl, _, rfl, _, rfl, _, rfl, p, Dm, Do, m, o, t, ps, ls, rfl, cc, hS, SqL.of (s9c _ _ eDm), Paired.mapP q9 fun _ _ e => SqL.of (s9c _ _ e), SqL.of (s9c _ _ eDo), fun Hu su => ⟨_, rfl, iteF ?_⟩⟩
    have s9u := s9c.trans su
    have cu := cc.mono su
    refine ⟨_, rfl, _, rfl, _, rfl, _, rfl, rfl, rfl, mk_run (t := t) (fun _ => rfl) (mat_sh (SqL.of (s9u _ _ eDm)) (Paired.mapP q9 fun _ _ e => SqL.of (s9u _ _ e))) (line_sh (SqL.of (s9u _ _ eDo))) rfl hS fun p2' ps2 Hv nv sv fv cv => ?_⟩
    have s9v := s9u.trans sv
    have cp := cu.mono sv
    obtain ⟨dx, _, _, _, hpv, _⟩ := cp.at (K := K)
    refine ⟨p, dx, _, .ref C, rfl, hpv, chg_ty T I cv, nC, p, m, o, t, ps, .ref p2', rfl, cp, .inr ⟨p2', m, o, t, ps2, rfl, cv, _, rfl, _, rfl, ?_⟩⟩
    rw [decide_eq_true (show m = m ∧ o = o ∧ t = t from ⟨rfl, rfl, rfl⟩)]
    refine iteF ⟨_, rfl, W, congrArg (fun x : Int => [V.int x]) ew, w1, w2, fun Hw sw => ⟨_, rfl, iteF ?_⟩⟩
    have s9w := s9v.trans sw
    have eI' : (1 + r) = ((m.length : Nat) : Int) := by rw [ew, lm]
    have gps : g ∉ ps := by
      obtain ⟨gx, gy, gz, eg, _⟩ := p9
      exact nps (s911 _ _ eg)
    refine ⟨_, rfl, _, rfl, _, rfl, g, p, m, o, t, ps, _, congrArg (fun x : Int => [V.ref g, V.ref p, V.int x]) eI', p9.mono s9w, by omega, cp.mono sw, gps, hS, bm, bo, fun Hx kx px => ⟨_, rfl, iteF ⟨⟨_, _, _, _, _, _, _, _, _, _, _, rfl⟩, fun b u e => ?_⟩⟩⟩
    have et := sm _ _ e
    exact kx _ _ (ne_of_none et hg) (s9w _ _ (st9 _ _ et))
end
end L2.Lw

/-! # law k15, y: what the top has written -/
namespace L2.Lw
open PySem PySem.Spec PyProof.Rows L2.Vf L2.Dw L2.Ch L2.Lt
theorem er_mk {P : Program} {w : World} {K : PySem.W.Frag} {mg : Str → Option Value} {x : Str} {c f T : Addr} {nm q qual : Str} {N : Addr} {bs bm : List Value} {sn : List Str} {sub : List Value} {ab : Bool} {col : Option Bool} {dd : Option Addr} {m0 m1 m2 m3 m5 : Option Value} {od an : Option Addr} {sl : Array (Option Value)} {oc kV dc pm cd ct : Value} {p1 p2 p3 p4 p5 p6 p7 : Pos} {to : Obj} {tn : Nat}
    (xC : K.lookup c = some (excClassObj nm q c N bs bm true sn sub ab col dd m0 m1 m2 m3 m5 "ValueError.__new__")) (rC : PySem.HandSPX.refsVE bm = true) (sa : PySem.W.findIn K (.ref c) "__setattr__" = some (some (.builtin "object.__setattr__")))
    (ga : PySem.W.findIn K (.ref c) "__getattribute__" = some (some (.builtin "BaseException.__getattribute__"))) (gg : PySem.W.findIn K (.ref c) "__getattr__" = some none) (nb : PySem.W.findIn K (.ref c) "value" = some none) (ii : PySem.W.findIn K (.ref c) "__init__" = some (some (.ref f))) (ti : PySem.W.typeIn K (.ref f) = some (.type "function"))
    (li : K.lookup f = some ⟨oc, od, .func (PySem.W.fnOf "__init__" qual (iArgs "value" p1 p2 p3) (iBody "value" p4 p5 p6 p7) (iScope "value") (.ref T) kV dc pm an cd ct), sl⟩) (ci : PySem.W.codeIn K cd qual = true) (lt : K.lookup T = some to) (dt : to.data = .seq #[.none] tn) (kf : PySem.W.keepIn K (.ref f) = true) (kc : PySem.W.keepIn K (.ref c) = true)
    (ex : PySem.W.subIn K (.ref c) (.type "BaseException") = some true) (ty : PySem.W.typeIn K (.ref c) = some (.type "type")) (hd : PySem.W.hasDictIn K c = true) (cl : PySem.W.findIn K (.ref c) "__class__" = some (some (.builtin "object.__class__"))) (mo : PySem.W.mroIn K c (.type "object") = some true)
    (hn : PySem.W.specialIn K (.builtin "object.__class__") "__get__" = some (some (.builtin "getset_descriptor.__get__"))) (ht : PySem.W.takesIn K (.builtin "object.__class__") = some true) :
    mg x = some (.ref c) → ∀ base : Heap, ErT P w K mg base x c f (PySem.W.fnOf "__init__" qual (iArgs "value" p1 p2 p3) (iBody "value" p4 p5 p6 p7) (iScope "value") (.ref T) kV dc pm an cd ct) := by
  intro hm base
  have F : FunD K "__init__" qual (iArgs "value" p1 p2 p3) (iBody "value" p4 p5 p6 p7) (iScope "value") [.non] [] f (PySem.W.fnOf "__init__" qual (iArgs "value" p1 p2 p3) (iBody "value" p4 p5 p6 p7) (iScope "value") (.ref T) kV dc pm an cd ct) :=
    ⟨⟨oc, od, _, kV, dc, pm, an, cd, ct, sl, rfl, li, ci, .inr ⟨by simp, T, to, [.none], tn, rfl, lt, dt, .cons rfl .nil⟩, .inl rfl⟩, kf⟩
  have ox : OexC K c := ⟨⟨nm, q, N, bs, bm, sn, sub, ab, col, dd, m0, m1, m2, m3, m5, xC, rC⟩, sa, ex, ty, kc⟩
  exact ⟨⟨ox, ii, ti, nb, ⟨ga, gg, ex, hd, cl, hn, ht, mo⟩⟩, ok_initV F, init_b1 F (.inl rfl), hm⟩
/-- the errors among one another, the class among the types -/
def tabK (K : PySem.W.Frag) (CL CN CR CS C : Addr) : Bool := (PySem.W.kitOne K (.ref CL) (.ref CL) == some true) && (PySem.W.kitOne K (.ref CL) (.ref CN) == some false) && (PySem.W.kitOne K (.ref CN) (.ref CL) == some false) && (PySem.W.kitOne K (.ref CN) (.ref CN) == some true) &&
  (PySem.W.exmOne K (.ref CL) (.ref CS) == some true) && (PySem.W.exmOne K (.ref CN) (.ref CS) == some true) && (PySem.W.exmOne K (.ref CR) (.ref CR) == some true) && (PySem.W.kitOne K (.ref C) (.ref C) == some true) && otTab K C
/-- the class Change as it stands -/
structure ClsF (K : PySem.W.Frag) (C fI fMx fOf fRw fEq : Addr) : Prop where
  pg : PySem.W.plainGet K C Str.empty = true
  hd : PySem.W.hasDictIn K C = true
  po : PySem.W.plainOver K C = true
  sa : PySem.W.findIn K (.ref C) "__setattr__" = some (some (.builtin "object.__setattr__"))
  nW : PySem.W.findIn K (.ref C) "width" = some none
  nT : PySem.W.findIn K (.ref C) "turns" = some none
  nM : PySem.W.findIn K (.ref C) "_matrix" = some none
  nO : PySem.W.findIn K (.ref C) "_offsets" = some none
  mks : PySem.W.makesIn K C = true
  ini : PySem.W.findIn K (.ref C) "__init__" = some (some (.ref fI))
  fnI : PySem.W.isFn K (.ref fI) = true
  kC : PySem.W.keepIn K (.ref C) = true
  aMx : PySem.W.findIn K (.ref C) "matrix" = some (some (.ref fMx))
  fMx : PySem.W.isFn K (.ref fMx) = true
  aOf : PySem.W.findIn K (.ref C) "offsets" = some (some (.ref fOf))
  fOf : PySem.W.isFn K (.ref fOf) = true
  aRw : PySem.W.findIn K (.ref C) "row" = some (some (.ref fRw))
  fRw : PySem.W.isFn K (.ref fRw) = true
  aEq : PySem.W.findIn K (.ref C) "__eq__" = some (some (.ref fEq))
  fEq : PySem.W.isFn K (.ref fEq) = true
  ne : PySem.W.findIn K (.ref C) "__ne__" = some (some (.builtin "object.__ne__"))
  sub : PySem.W.subIn K (.ref C) (.type "object") = some true
  ha : PySem.W.findIn K (.ref C) "__class__" = some (some (.builtin "object.__class__"))
  hn : PySem.W.specialIn K (.builtin "object.__class__") "__get__" = some (some (.builtin "getset_descriptor.__get__"))
  ht : PySem.W.takesIn K (.builtin "object.__class__") = some true
  hm : PySem.W.mroIn K C (.type "object") = some true
theorem all_mk {P : Program} {w : World} {K : PySem.W.Frag} {h : Heap} {mg : Str → Option Value} {fa cS C fI D15 : Addr} {cL iL cN iN cR iR : Addr} {dL dN dR : FuncData}
    {gWh gAr gFc gFr gLi gMa gDo gCp gMi gPu gDr gSi gCe gRo gRc gCa gRf gRr gUn gLa gMx gOf gRw gEq : Addr} {odI anI odWh anWh odAr anAr odFc anFc odFr anFr odLi anLi odMa anMa odDo anDo odCp anCp odMi anMi odPu anPu odDr anDr odSi anSi odCe anCe odRo anRo odRc anRc odCa anCa odRf anRf odRr anRr odUn anUn odLa anLa odMx anMx odOf anOf odRw anRw odEq anEq : Option Addr} {slI slWh slAr slFc slFr slLi slMa slDo slCp slMi slPu slDr slSi slCe slRo slRc slCa slRf slRr slUn slLa slMx slOf slRw slEq : Array (Option Value)} {ocI dcI pmI cdI ctI ocWh kVWh dcWh pmWh cdWh ctWh ocAr kVAr dcAr pmAr cdAr ctAr ocFc kVFc dcFc pmFc cdFc ctFc ocFr kVFr dcFr pmFr cdFr ctFr ocLi kVLi dcLi pmLi cdLi ctLi ocMa kVMa dcMa pmMa cdMa ctMa ocDo kVDo dcDo pmDo cdDo ctDo ocCp kVCp dcCp pmCp cdCp ctCp ocMi kVMi dcMi pmMi cdMi ctMi ocPu kVPu dcPu pmPu cdPu ctPu ocDr kVDr dcDr pmDr cdDr ctDr ocSi kVSi dcSi pmSi cdSi ctSi ocCe kVCe dcCe pmCe cdCe ctCe ocRo kVRo dcRo pmRo cdRo ctRo ocRc kVRc dcRc pmRc cdRc ctRc ocCa kVCa dcCa pmCa cdCa ctCa ocRf kVRf dcRf pmRf cdRf ctRf ocRr kVRr dcRr pmRr cdRr ctRr ocUn kVUn dcUn pmUn cdUn ctUn ocLa kVLa dcLa pmLa cdLa ctLa ocMx kVMx dcMx pmMx cdMx ctMx ocOf kVOf dcOf pmOf cdOf ctOf ocRw kVRw dcRw pmRw cdRw ctRw ocEq kVEq dcEq pmEq cdEq ctEq : Value}
    (X : K.In h) (G : h.Ns mainGlobals mg) (hfa : mg "law" = some (.ref fa))
    (aL : PySem.W.nsIn K mainGlobals "InvalidList" = some (some (.ref cL))) (hL : mg "InvalidList" = some (.ref cL) → ∀ base : Heap, ErT P w K mg base "InvalidList" cL iL dL)
    (aN : PySem.W.nsIn K mainGlobals "InvalidNumber" = some (some (.ref cN))) (hN : mg "InvalidNumber" = some (.ref cN) → ∀ base : Heap, ErT P w K mg base "InvalidNumber" cN iN dN)
    (aR : PySem.W.nsIn K mainGlobals "InvalidRow" = some (some (.ref cR))) (hR : mg "InvalidRow" = some (.ref cR) → ∀ base : Heap, ErT P w K mg base "InvalidRow" cR iR dR)
    (aS : PySem.W.nsIn K mainGlobals "SumsError" = some (some (.ref cS))) (aC : PySem.W.nsIn K mainGlobals "Change" = some (some (.ref C))) (cf : ClsF K C fI gMx gOf gRw gEq) (tab : tabK K cL cN cR cS C = true)
    (lI : K.lookup fI = some ⟨ocI, odI, .func (PySem.W.fnOf "__init__" "Change.__init__" (defArgs sIn) (defBody sIn) (defScope sIn) .none (.ref D15) dcI pmI anI cdI ctI), slI⟩) (cI : PySem.W.codeIn K cdI "Change.__init__" = true) (kI : PySem.W.keepIn K (.ref fI) = true) (tI : PySem.W.nsIn K D15 "turns" = some (some (.bool false)))
    (lMx : K.lookup gMx = some ⟨ocMx, odMx, .func (PySem.W.fnOf "matrix" "Change.matrix" (defArgs sMx) (defBody sMx) (defScope sMx) .none kVMx dcMx pmMx anMx cdMx ctMx), slMx⟩) (cMx : PySem.W.codeIn K cdMx "Change.matrix" = true) (kMx : PySem.W.keepIn K (.ref gMx) = true)
    (lOf : K.lookup gOf = some ⟨ocOf, odOf, .func (PySem.W.fnOf "offsets" "Change.offsets" (defArgs sOf) (defBody sOf) (defScope sOf) .none kVOf dcOf pmOf anOf cdOf ctOf), slOf⟩) (cOf : PySem.W.codeIn K cdOf "Change.offsets" = true) (kOf : PySem.W.keepIn K (.ref gOf) = true)
    (lRw : K.lookup gRw = some ⟨ocRw, odRw, .func (PySem.W.fnOf "row" "Change.row" (defArgs sRw) (defBody sRw) (defScope sRw) .none kVRw dcRw pmRw anRw cdRw ctRw), slRw⟩) (cRw : PySem.W.codeIn K cdRw "Change.row" = true) (kRw : PySem.W.keepIn K (.ref gRw) = true)
    (lEq : K.lookup gEq = some ⟨ocEq, odEq, .func (PySem.W.fnOf "__eq__" "Change.__eq__" (defArgs sEq) (defBody sEq) (defScope sEq) .none kVEq dcEq pmEq anEq cdEq ctEq), slEq⟩) (cEq : PySem.W.codeIn K cdEq "Change.__eq__" = true) (kEq : PySem.W.keepIn K (.ref gEq) = true)
    (aWh : PySem.W.nsIn K mainGlobals "is_whole" = some (some (.ref gWh))) (lWh : K.lookup gWh = some ⟨ocWh, odWh, .func (PySem.W.fnOf "is_whole" "is_whole" (defArgs sWh) (defBody sWh) (defScope sWh) .none kVWh dcWh pmWh anWh cdWh ctWh), slWh⟩) (cWh : PySem.W.codeIn K cdWh "is_whole" = true) (kWh : PySem.W.keepIn K (.ref gWh) = true)
    (aAr : PySem.W.nsIn K mainGlobals "are_whole" = some (some (.ref gAr))) (lAr : K.lookup gAr = some ⟨ocAr, odAr, .func (PySem.W.fnOf "are_whole" "are_whole" (defArgs sAr) (defBody sAr) (defScope sAr) .none kVAr dcAr pmAr anAr cdAr ctAr), slAr⟩) (cAr : PySem.W.codeIn K cdAr "are_whole" = true) (kAr : PySem.W.keepIn K (.ref gAr) = true)
    (aFc : PySem.W.nsIn K mainGlobals "fits_cell" = some (some (.ref gFc))) (lFc : K.lookup gFc = some ⟨ocFc, odFc, .func (PySem.W.fnOf "fits_cell" "fits_cell" (defArgs sFc) (defBody sFc) (defScope sFc) .none kVFc dcFc pmFc anFc cdFc ctFc), slFc⟩) (cFc : PySem.W.codeIn K cdFc "fits_cell" = true) (kFc : PySem.W.keepIn K (.ref gFc) = true)
    (aFr : PySem.W.nsIn K mainGlobals "fits_row" = some (some (.ref gFr))) (lFr : K.lookup gFr = some ⟨ocFr, odFr, .func (PySem.W.fnOf "fits_row" "fits_row" (defArgs sFr) (defBody sFr) (defScope sFr) .none kVFr dcFr pmFr anFr cdFr ctFr), slFr⟩) (cFr : PySem.W.codeIn K cdFr "fits_row" = true) (kFr : PySem.W.keepIn K (.ref gFr) = true)
    (aLi : PySem.W.nsIn K mainGlobals "is_line" = some (some (.ref gLi))) (lLi : K.lookup gLi = some ⟨ocLi, odLi, .func (PySem.W.fnOf "is_line" "is_line" (defArgs sLi) (defBody sLi) (defScope sLi) .none kVLi dcLi pmLi anLi cdLi ctLi), slLi⟩) (cLi : PySem.W.codeIn K cdLi "is_line" = true) (kLi : PySem.W.keepIn K (.ref gLi) = true)
    (aMa : PySem.W.nsIn K mainGlobals "is_matrix" = some (some (.ref gMa))) (lMa : K.lookup gMa = some ⟨ocMa, odMa, .func (PySem.W.fnOf "is_matrix" "is_matrix" (defArgs sMa) (defBody sMa) (defScope sMa) .none kVMa dcMa pmMa anMa cdMa ctMa), slMa⟩) (cMa : PySem.W.codeIn K cdMa "is_matrix" = true) (kMa : PySem.W.keepIn K (.ref gMa) = true)
    (aDo : PySem.W.nsIn K mainGlobals "dot" = some (some (.ref gDo))) (lDo : K.lookup gDo = some ⟨ocDo, odDo, .func (PySem.W.fnOf "dot" "dot" (defArgs sDo) (defBody sDo) (defScope sDo) .none kVDo dcDo pmDo anDo cdDo ctDo), slDo⟩) (cDo : PySem.W.codeIn K cdDo "dot" = true) (kDo : PySem.W.keepIn K (.ref gDo) = true)
    (aCp : PySem.W.nsIn K mainGlobals "changed_parts" = some (some (.ref gCp))) (lCp : K.lookup gCp = some ⟨ocCp, odCp, .func (PySem.W.fnOf "changed_parts" "changed_parts" (defArgs sCp) (defBody sCp) (defScope sCp) .none kVCp dcCp pmCp anCp cdCp ctCp), slCp⟩) (cCp : PySem.W.codeIn K cdCp "changed_parts" = true) (kCp : PySem.W.keepIn K (.ref gCp) = true)
    (aMi : PySem.W.nsIn K mainGlobals "_law_mixed" = some (some (.ref gMi))) (lMi : K.lookup gMi = some ⟨ocMi, odMi, .func (PySem.W.fnOf "_law_mixed" "_law_mixed" (defArgs sMi) (defBody sMi) (defScope sMi) .none kVMi dcMi pmMi anMi cdMi ctMi), slMi⟩) (cMi : PySem.W.codeIn K cdMi "_law_mixed" = true) (kMi : PySem.W.keepIn K (.ref gMi) = true)
    (aPu : PySem.W.nsIn K mainGlobals "_law_purse" = some (some (.ref gPu))) (lPu : K.lookup gPu = some ⟨ocPu, odPu, .func (PySem.W.fnOf "_law_purse" "_law_purse" (defArgs sPu) (defBody sPu) (defScope sPu) .none kVPu dcPu pmPu anPu cdPu ctPu), slPu⟩) (cPu : PySem.W.codeIn K cdPu "_law_purse" = true) (kPu : PySem.W.keepIn K (.ref gPu) = true)
    (aDr : PySem.W.nsIn K mainGlobals "_law_draw" = some (some (.ref gDr))) (lDr : K.lookup gDr = some ⟨ocDr, odDr, .func (PySem.W.fnOf "_law_draw" "_law_draw" (defArgs sDr) (defBody sDr) (defScope sDr) .none kVDr dcDr pmDr anDr cdDr ctDr), slDr⟩) (cDr : PySem.W.codeIn K cdDr "_law_draw" = true) (kDr : PySem.W.keepIn K (.ref gDr) = true)
    (aSi : PySem.W.nsIn K mainGlobals "_law_signed" = some (some (.ref gSi))) (lSi : K.lookup gSi = some ⟨ocSi, odSi, .func (PySem.W.fnOf "_law_signed" "_law_signed" (defArgs sSi) (defBody sSi) (defScope sSi) .none kVSi dcSi pmSi anSi cdSi ctSi), slSi⟩) (cSi : PySem.W.codeIn K cdSi "_law_signed" = true) (kSi : PySem.W.keepIn K (.ref gSi) = true)
    (aCe : PySem.W.nsIn K mainGlobals "_law_cell" = some (some (.ref gCe))) (lCe : K.lookup gCe = some ⟨ocCe, odCe, .func (PySem.W.fnOf "_law_cell" "_law_cell" (defArgs sCe) (defBody sCe) (defScope sCe) .none kVCe dcCe pmCe anCe cdCe ctCe), slCe⟩) (cCe : PySem.W.codeIn K cdCe "_law_cell" = true) (kCe : PySem.W.keepIn K (.ref gCe) = true)
    (aRo : PySem.W.nsIn K mainGlobals "_law_row" = some (some (.ref gRo))) (lRo : K.lookup gRo = some ⟨ocRo, odRo, .func (PySem.W.fnOf "_law_row" "_law_row" (defArgs sRo) (defBody sRo) (defScope sRo) .none kVRo dcRo pmRo anRo cdRo ctRo), slRo⟩) (cRo : PySem.W.codeIn K cdRo "_law_row" = true) (kRo : PySem.W.keepIn K (.ref gRo) = true)
    (aRc : PySem.W.nsIn K mainGlobals "_law_row_changed" = some (some (.ref gRc))) (lRc : K.lookup gRc = some ⟨ocRc, odRc, .func (PySem.W.fnOf "_law_row_changed" "_law_row_changed" (defArgs sRc) (defBody sRc) (defScope sRc) .none kVRc dcRc pmRc anRc cdRc ctRc), slRc⟩) (cRc : PySem.W.codeIn K cdRc "_law_row_changed" = true) (kRc : PySem.W.keepIn K (.ref gRc) = true)
    (aCa : PySem.W.nsIn K mainGlobals "_law_caught" = some (some (.ref gCa))) (lCa : K.lookup gCa = some ⟨ocCa, odCa, .func (PySem.W.fnOf "_law_caught" "_law_caught" (defArgs sCa) (defBody sCa) (defScope sCa) .none kVCa dcCa pmCa anCa cdCa ctCa), slCa⟩) (cCa : PySem.W.codeIn K cdCa "_law_caught" = true) (kCa : PySem.W.keepIn K (.ref gCa) = true)
    (aRf : PySem.W.nsIn K mainGlobals "_law_refused" = some (some (.ref gRf))) (lRf : K.lookup gRf = some ⟨ocRf, odRf, .func (PySem.W.fnOf "_law_refused" "_law_refused" (defArgs sRf) (defBody sRf) (defScope sRf) .none kVRf dcRf pmRf anRf cdRf ctRf), slRf⟩) (cRf : PySem.W.codeIn K cdRf "_law_refused" = true) (kRf : PySem.W.keepIn K (.ref gRf) = true)
    (aRr : PySem.W.nsIn K mainGlobals "_law_rows_right" = some (some (.ref gRr))) (lRr : K.lookup gRr = some ⟨ocRr, odRr, .func (PySem.W.fnOf "_law_rows_right" "_law_rows_right" (defArgs sRr) (defBody sRr) (defScope sRr) .none kVRr dcRr pmRr anRr cdRr ctRr), slRr⟩) (cRr : PySem.W.codeIn K cdRr "_law_rows_right" = true) (kRr : PySem.W.keepIn K (.ref gRr) = true)
    (aUn : PySem.W.nsIn K mainGlobals "_law_unlike_right" = some (some (.ref gUn))) (lUn : K.lookup gUn = some ⟨ocUn, odUn, .func (PySem.W.fnOf "_law_unlike_right" "_law_unlike_right" (defArgs sUn) (defBody sUn) (defScope sUn) .none kVUn dcUn pmUn anUn cdUn ctUn), slUn⟩) (cUn : PySem.W.codeIn K cdUn "_law_unlike_right" = true) (kUn : PySem.W.keepIn K (.ref gUn) = true)
    (aLa : PySem.W.nsIn K mainGlobals "law" = some (some (.ref gLa))) (lLa : K.lookup gLa = some ⟨ocLa, odLa, .func (PySem.W.fnOf "law" "law" (defArgs sLa) (defBody sLa) (defScope sLa) .none kVLa dcLa pmLa anLa cdLa ctLa), slLa⟩) (cLa : PySem.W.codeIn K cdLa "law" = true) (kLa : PySem.W.keepIn K (.ref gLa) = true)
    (n_isi : PySem.W.nsIn K mainGlobals "isinstance" = some none)    (n_int : PySem.W.nsIn K mainGlobals "int" = some none)    (n_bool : PySem.W.nsIn K mainGlobals "bool" = some none)    (n_lst : PySem.W.nsIn K mainGlobals "list" = some none)    (n_tup : PySem.W.nsIn K mainGlobals "tuple" = some none)    (n_rng : PySem.W.nsIn K mainGlobals "range" = some none)    (n_len : PySem.W.nsIn K mainGlobals "len" = some none)    (n_sum : PySem.W.nsIn K mainGlobals "sum" = some none)    (n_max : PySem.W.nsIn K mainGlobals "max" = some none)    (n_zip : PySem.W.nsIn K mainGlobals "zip" = some none)    (n_rep : PySem.W.nsIn K mainGlobals "repr" = some none) :
    ∃ fd : FuncData, (∀ (s : Shared) (v : Value), BindsTo s fd ⟨[v], []⟩ [("_law_script", v)]) ∧ ∀ base : Heap, K.In base → base.Ns mainGlobals mg → FnG P w K mg base CX0 9 fa fd ["_law_script"] (spLa K) := by
  have e := hfa.symm.trans (PySem.W.mg_of X G aLa)
  cases e
  have FMx := fun_mk (st := sMx) lMx cMx kMx
  have FOf := fun_mk (st := sOf) lOf cOf kOf
  have FRw := fun_mk (st := sRw) lRw cRw kRw
  have FEq := fun_mk (st := sEq) lEq cEq kEq
  have FWh := fun_mk (st := sWh) lWh cWh kWh
  have FAr := fun_mk (st := sAr) lAr cAr kAr
  have FFc := fun_mk (st := sFc) lFc cFc kFc
  have FFr := fun_mk (st := sFr) lFr cFr kFr
  have FLi := fun_mk (st := sLi) lLi cLi kLi
  have FMa := fun_mk (st := sMa) lMa cMa kMa
  have FDo := fun_mk (st := sDo) lDo cDo kDo
  have FCp := fun_mk (st := sCp) lCp cCp kCp
  have FMi := fun_mk (st := sMi) lMi cMi kMi
  have FPu := fun_mk (st := sPu) lPu cPu kPu
  have FDr := fun_mk (st := sDr) lDr cDr kDr
  have FSi := fun_mk (st := sSi) lSi cSi kSi
  have FCe := fun_mk (st := sCe) lCe cCe kCe
  have FRo := fun_mk (st := sRo) lRo cRo kRo
  have FRc := fun_mk (st := sRc) lRc cRc kRc
  have FCa := fun_mk (st := sCa) lCa cCa kCa
  have FRf := fun_mk (st := sRf) lRf cRf kRf
  have FRr := fun_mk (st := sRr) lRr cRr kRr
  have FUn := fun_mk (st := sUn) lUn cUn kUn
  have FLa := fun_mk (st := sLa) lLa cLa kLa
  have bWh := FWh.binds (ps := ["value"]) fun _ _ _ _ _ _ us hl => match us, hl with | [_], _ => rfl
  have bAr := FAr.binds (ps := ["values"]) fun _ _ _ _ _ _ us hl => match us, hl with | [_], _ => rfl
  have bFc := FFc.binds (ps := ["value", "width"]) fun _ _ _ _ _ _ us hl => match us, hl with | [_, _], _ => rfl
  have bFr := FFr.binds (ps := ["value", "width"]) fun _ _ _ _ _ _ us hl => match us, hl with | [_, _], _ => rfl
  have bLi := FLi.binds (ps := ["value", "many"]) fun _ _ _ _ _ _ us hl => match us, hl with | [_, _], _ => rfl
  have bMa := FMa.binds (ps := ["value"]) fun _ _ _ _ _ _ us hl => match us, hl with | [_], _ => rfl
  have bDo := FDo.binds (ps := ["factors", "parts"]) fun _ _ _ _ _ _ us hl => match us, hl with | [_, _], _ => rfl
  have bCp := FCp.binds (ps := ["matrix", "offsets", "parts"]) fun _ _ _ _ _ _ us hl => match us, hl with | [_, _, _], _ => rfl
  have bMi := FMi.binds (ps := ["_law_cell_here", "_law_k"]) fun _ _ _ _ _ _ us hl => match us, hl with | [_, _], _ => rfl
  have bPu := FPu.binds (ps := ["_law_script", "_law_at"]) fun _ _ _ _ _ _ us hl => match us, hl with | [_, _], _ => rfl
  have bDr := FDr.binds (ps := ["_law_purse_here", "_law_out_of"]) fun _ _ _ _ _ _ us hl => match us, hl with | [_, _], _ => rfl
  have bSi := FSi.binds (ps := ["_law_purse_here", "_law_most"]) fun _ _ _ _ _ _ us hl => match us, hl with | [_, _], _ => rfl
  have bCe := FCe.binds (ps := ["_law_purse_here", "_law_width", "_law_most"]) fun _ _ _ _ _ _ us hl => match us, hl with | [_, _, _], _ => rfl
  have bRo := FRo.binds (ps := ["_law_purse_here", "_law_width", "_law_cells_to", "_law_most"]) fun _ _ _ _ _ _ us hl => match us, hl with | [_, _, _, _], _ => rfl
  have bRc := FRc.binds (ps := ["_law_change", "_law_row_here"]) fun _ _ _ _ _ _ us hl => match us, hl with | [_, _], _ => rfl
  have bCa := FCa.binds (ps := ["_law_matrix", "_law_offsets", "_law_about"]) fun _ _ _ _ _ _ us hl => match us, hl with | [_, _, _], _ => rfl
  have bRf := FRf.binds (ps := ["_law_width"]) fun _ _ _ _ _ _ us hl => match us, hl with | [_], _ => rfl
  have bRr := FRr.binds (ps := ["_law_purse_here", "_law_change", "_law_width"]) fun _ _ _ _ _ _ us hl => match us, hl with | [_, _, _], _ => rfl
  have bUn := FUn.binds (ps := ["_law_change", "_law_matrix", "_law_offsets", "_law_about"]) fun _ _ _ _ _ _ us hl => match us, hl with | [_, _, _, _], _ => rfl
  have bMx := FMx.binds (ps := ["self"]) fun _ _ _ _ _ _ us hl => match us, hl with | [_], _ => rfl
  have bOf := FOf.binds (ps := ["self"]) fun _ _ _ _ _ _ us hl => match us, hl with | [_], _ => rfl
  have bRw := FRw.binds (ps := ["self", "row"]) fun _ _ _ _ _ _ us hl => match us, hl with | [_, _], _ => rfl
  have bEq := FEq.binds (ps := ["self", "other"]) fun _ _ _ _ _ _ us hl => match us, hl with | [_, _], _ => rfl
  have FI : FunD K "__init__" "Change.__init__" (defArgs sIn) (defBody sIn) (defScope sIn) [] [("turns", .bl false)] fI (PySem.W.fnOf "__init__" "Change.__init__" (defArgs sIn) (defBody sIn) (defScope sIn) .none (.ref D15) dcI pmI anI cdI ctI) :=
    ⟨⟨ocI, odI, _, _, dcI, pmI, anI, cdI, ctI, slI, rfl, lI, cI, .inl ⟨rfl, rfl⟩, .inr ⟨D15, rfl, fun q hq => by rw [List.mem_singleton.mp hq]; exact ⟨_, tI, rfl⟩⟩⟩, kI⟩
  obtain ⟨mv, bI⟩ := FI.kbinds0 (ps := ["self", "matrix", "offsets", "turns"]) 3 ["turns"] [] (fun us _ ws => us ++ ws) (by simp) (fun q hq => by cases hq) (fun r1 _ r3 => r1.append r3) fun D doc pm an cdv ct us mv ws h1 h2 h3 => match us, mv, ws, h1, h2, h3 with | [_, _, _], [], [_], _, _, _ => rfl
  obtain ⟨ds, v0, b0⟩ := FI.binds0 (ps := ["self", "matrix", "offsets", "turns"]) 3 (by simp) rfl fun D doc pm an cdv ct us ks h1 h2 => match us, ks, h1, h2 with | [_, _, _], [_], _, _ => ⟨_, _, _, _, _, _, rfl, rfl, rfl⟩
  unfold tabK at tab
  simp only [Bool.and_eq_true, beq_iff_eq] at tab
  obtain ⟨⟨⟨⟨⟨⟨⟨⟨t1, t2⟩, t3⟩, t4⟩, t5⟩, t6⟩, t7⟩, t8⟩, t9⟩ := tab
  refine ⟨_, fun s v => BindsTo.of_eq (show bindArgs (PySem.W.fnOf "law" "law" (defArgs sLa) (defBody sLa) (defScope sLa) .none kVLa dcLa pmLa anLa cdLa ctLa) ⟨[v], []⟩ = _ from rfl), fun base _ _ => ?_⟩
  have m := fun (n : Str) (g : Addr) (e : PySem.W.nsIn K mainGlobals n = some (some (.ref g))) => PySem.W.mg_of X G e
  have N : Nm mg := ⟨PySem.W.mg_none_of X G n_isi, PySem.W.mg_none_of X G n_int, PySem.W.mg_none_of X G n_bool, PySem.W.mg_none_of X G n_lst, PySem.W.mg_none_of X G n_tup, PySem.W.mg_none_of X G n_rng, PySem.W.mg_none_of X G n_len, PySem.W.mg_none_of X G n_sum, PySem.W.mg_none_of X G n_max, PySem.W.mg_none_of X G n_zip, PySem.W.mg_none_of X G n_rep⟩
  have EL := hL (PySem.W.mg_of X G aL) base
  have EN := hN (PySem.W.mg_of X G aN) base
  have ER := hR (PySem.W.mg_of X G aR) base
  have T : ChT K mg C := ⟨⟨cf.pg, cf.hd, cf.po, cf.sa⟩, cf.nW, cf.nT, cf.nM, cf.nO, PySem.W.mg_of X G aC⟩
  have I : Ch.IsT K C := ⟨cf.ha, cf.hn, cf.ht, cf.hm, t8⟩
  have M : Mk K C fI := ⟨cf.mks, cf.ini, cf.fnI, cf.kC⟩
  have Kt : KtT K mg cL cN cS := ⟨PySem.W.mg_of X G aS, t1, t2, t3, t4, t5, t6⟩
  have Eq : EqT K C gEq := ⟨cf.aEq, cf.ne, cf.sub, cf.fEq, t9⟩
  have oWh := ok_wh (P := P) (w := w) (base := base) FWh N
  have oAr := ok_ar FAr oWh (PySem.W.mg_of X G aWh) kWh bWh
  have oFc := ok_fc FFc N oAr (PySem.W.mg_of X G aAr) kAr bAr
  have oFr := ok_fr FFr N oFc (PySem.W.mg_of X G aFc) kFc bFc
  have oLi := ok_li FLi N oAr (PySem.W.mg_of X G aAr) kAr bAr
  have oMa := ok_ma FMa N oLi (PySem.W.mg_of X G aLi) kLi bLi
  have oDo := ok_do (P := P) (w := w) (base := base) FDo N
  have oCp := ok_cp FCp N oDo (PySem.W.mg_of X G aDo) kDo bDo
  have oIn := ok_in FI N T EL EN oMa (PySem.W.mg_of X G aMa) kMa bMa oLi (PySem.W.mg_of X G aLi) kLi bLi
  have oMx := ok_mx (P := P) (w := w) (base := base) FMx N T
  have oOf := ok_of (P := P) (w := w) (base := base) FOf N T
  have oEq := ok_eq (P := P) (w := w) (base := base) FEq N T I
  have oRw := ok_rw FRw N T ER oFr (PySem.W.mg_of X G aFr) kFr bFr oCp (PySem.W.mg_of X G aCp) kCp bCp
  have Me : MeT P w K mg base C gMx gOf _ _ := ⟨⟨cf.aMx, cf.fMx, kMx⟩, ⟨cf.aOf, cf.fOf, kOf⟩, oMx, oOf, bMx, bOf⟩
  have oMi := ok_mi (P := P) (w := w) (mg := mg) (base := base) FMi
  have oPu := ok_pu (P := P) (w := w) (base := base) FPu N
  have oDr := ok_dr FDr N oMi (PySem.W.mg_of X G aMi) kMi bMi
  have oSi := ok_si FSi oDr (PySem.W.mg_of X G aDr) kDr bDr
  have oCe := ok_ce FCe N oSi (PySem.W.mg_of X G aSi) kSi bSi
  have oRo := ok_ro FRo N oCe (PySem.W.mg_of X G aCe) kCe bCe oDr (PySem.W.mg_of X G aDr) kDr bDr
  have oRc := ok_rc FRc N T Me
  have oCa := ok_ca FCa N T EL EN Kt M oIn bI
  have oRf := ok_rf FRf N oCa (PySem.W.mg_of X G aCa) kCa bCa
  have oRr := ok_rr FRr N T ER t7 ⟨cf.aRw, cf.fRw, kRw⟩ oRw bRw oRo (PySem.W.mg_of X G aRo) kRo bRo oRc (PySem.W.mg_of X G aRc) kRc bRc
  have oUn := ok_un FUn N T I Eq M oIn bI b0 v0 oEq bEq
  exact ok_la (ds := []) FLa N T I Eq M Me oPu (PySem.W.mg_of X G aPu) kPu bPu oDr (PySem.W.mg_of X G aDr) kDr bDr oSi (PySem.W.mg_of X G aSi) kSi bSi oIn bI oEq bEq oUn (PySem.W.mg_of X G aUn) kUn bUn oRf (PySem.W.mg_of X G aRf) kRf bRf oRr (PySem.W.mg_of X G aRr) kRr bRr
theorem walk {l : PySem.W.OpenLaw} {q : Program} {loose : List Str} {XP : (Str → Option Value) → Heap → Prop} {YP : World → Heap → Prop} {d : DefRec} {K : Params → PySem.W.Frag} (hn : l.most = some 63) (hdf : d.params.defaults = []) (hY : ∀ (w : World) (h : Heap), YP w h → (K w.params).In h)
    (F : ∀ (w : World) (mg : Str → Option Value) (fa : Addr) (h : Heap), (K w.params).In h → h.Ns mainGlobals mg → mg d.name = some (.ref fa) → ∃ fd : FuncData, (∀ (s : Shared) (u : Value), BindsTo s fd ⟨[u], []⟩ [("_law_script", u)]) ∧
      ∀ base : Heap, (K w.params).In base → base.Ns mainGlobals mg → FnG l.prog w (K w.params) mg base CX0 9 fa fd ["_law_script"] (spLa (K w.params))) : PySem.W.WalkO q loose XP YP l.row.toRowW d [] (fun f vs => PySem.call f vs) :=
  walkG (n := 63) (k := 9) (x := "_law_script") (sp := spLa) hn (by decide) hdf ⟨rfl, by decide, by decide⟩ hY F fun _ _ a ns _ _ hS => ⟨a, ns, rfl, hS, fun _ => rfl⟩
end L2.Lw

open PySem PySem.W PyProof.Rows
set_option maxRecDepth 100000 in
set_option maxHeartbeats 0 in
theorem PySem.Challenge.cw_latesums_k15_changes_made_holds : PySem.Challenge.rw_latesums_k15_changes_made.Holds := by
  w_on; o_law; k_head; (case hw => w_witness2)
  k_fill
  refine L2.Lw.walk (l := PySem.Challenge.rw_latesums_k15_changes_made) rfl rfl (fun w h Y => PySem.W.kIn_of Y) ?F
  case F =>
    intro w mg fa h KX G hmg
    refine' L2.Lw.all_mk KX G hmg ?aL ?hL ?aN ?hN ?aR ?hR ?aS ?aC ?cf ?tab ?lI ?cI ?kI ?tI ?lMx ?cMx ?kMx ?lOf ?cOf ?kOf ?lRw ?cRw ?kRw ?lEq ?cEq ?kEq ?aWh ?lWh ?cWh ?kWh ?aAr ?lAr ?cAr ?kAr ?aFc ?lFc ?cFc ?kFc ?aFr ?lFr ?cFr ?kFr ?aLi ?lLi ?cLi ?kLi ?aMa ?lMa ?cMa ?kMa ?aDo ?lDo ?cDo ?kDo ?aCp ?lCp ?cCp ?kCp ?aMi ?lMi ?cMi ?kMi ?aPu ?lPu ?cPu ?kPu ?aDr ?lDr ?cDr ?kDr ?aSi ?lSi ?cSi ?kSi ?aCe ?lCe ?cCe ?kCe ?aRo ?lRo ?cRo ?kRo ?aRc ?lRc ?cRc ?kRc ?aCa ?lCa ?cCa ?kCa ?aRf ?lRf ?cRf ?kRf ?aRr ?lRr ?cRr ?kRr ?aUn ?lUn ?cUn ?kUn ?aLa ?lLa ?cLa ?kLa ?n_isi ?n_int ?n_bool ?n_lst ?n_tup ?n_rng ?n_len ?n_sum ?n_max ?n_zip ?n_rep
    (case aL => k_is)
    (case aN => k_is)
    (case aR => k_is)
    (case aS => k_is)
    (case aC => k_is)
    (case hL => refine' L2.Lw.er_mk ?xC ?rC ?sa ?ga ?gg ?nb ?ii ?ti ?li ?ci ?lt ?dt ?kf ?kc ?ex ?ty ?hd ?cl ?mo ?hn ?ht; (case xC => k_is); (case rC => decide +kernel); (case sa => k_is); (case ga => k_is); (case gg => k_is); (case nb => k_is); (case ii => k_is); (case ti => k_is); (case li => k_is); (case ci => k_is); (case lt => k_is); (case dt => exact rfl); (case kf => k_is); (case kc => k_is); (case ex => k_is); (case ty => k_is); (case hd => k_is); (case cl => k_is); (case mo => k_is); (case hn => k_is); (case ht => k_is))
    (case hN => refine' L2.Lw.er_mk ?xC ?rC ?sa ?ga ?gg ?nb ?ii ?ti ?li ?ci ?lt ?dt ?kf ?kc ?ex ?ty ?hd ?cl ?mo ?hn ?ht; (case xC => k_is); (case rC => decide +kernel); (case sa => k_is); (case ga => k_is); (case gg => k_is); (case nb => k_is); (case ii => k_is); (case ti => k_is); (case li => k_is); (case ci => k_is); (case lt => k_is); (case dt => exact rfl); (case kf => k_is); (case kc => k_is); (case ex => k_is); (case ty => k_is); (case hd => k_is); (case cl => k_is); (case mo => k_is); (case hn => k_is); (case ht => k_is))
    (case hR => refine' L2.Lw.er_mk ?xC ?rC ?sa ?ga ?gg ?nb ?ii ?ti ?li ?ci ?lt ?dt ?kf ?kc ?ex ?ty ?hd ?cl ?mo ?hn ?ht; (case xC => k_is); (case rC => decide +kernel); (case sa => k_is); (case ga => k_is); (case gg => k_is); (case nb => k_is); (case ii => k_is); (case ti => k_is); (case li => k_is); (case ci => k_is); (case lt => k_is); (case dt => exact rfl); (case kf => k_is); (case kc => k_is); (case ex => k_is); (case ty => k_is); (case hd => k_is); (case cl => k_is); (case mo => k_is); (case hn => k_is); (case ht => k_is))
    (case cf => refine' ⟨?pg, ?hd, ?po, ?sa, ?nW, ?nT, ?nM, ?nO, ?mks, ?ini, ?fnI, ?kC, ?aMx, ?fMx, ?aOf, ?fOf, ?aRw, ?fRw, ?aEq, ?fEq, ?ne, ?sub, ?ha, ?hn, ?ht, ?hm⟩; (case pg => k_is); (case hd => k_is); (case po => k_is); (case sa => k_is); (case nW => k_is); (case nT => k_is); (case nM => k_is); (case nO => k_is); (case mks => k_is); (case ini => k_is); (case fnI => k_is); (case kC => k_is); (case aMx => k_is); (case fMx => k_is); (case aOf => k_is); (case fOf => k_is); (case aRw => k_is); (case fRw => k_is); (case aEq => k_is); (case fEq => k_is); (case ne => k_is); (case sub => k_is); (case ha => k_is); (case hn => k_is); (case ht => k_is); (case hm => k_is))
    (case lI => k_is); (case cI => k_is); (case kI => k_is); (case tI => k_is)
    (case lMx => k_is); (case cMx => k_is); (case kMx => k_is)
    (case lOf => k_is); (case cOf => k_is); (case kOf => k_is)
    (case lRw => k_is); (case cRw => k_is); (case kRw => k_is)
    (case lEq => k_is); (case cEq => k_is); (case kEq => k_is)
    (case aWh => k_is); (case lWh => k_is); (case cWh => k_is); (case kWh => k_is)
    (case aAr => k_is); (case lAr => k_is); (case cAr => k_is); (case kAr => k_is)
    (case aFc => k_is); (case lFc => k_is); (case cFc => k_is); (case kFc => k_is)
    (case aFr => k_is); (case lFr => k_is); (case cFr => k_is); (case kFr => k_is)
    (case aLi => k_is); (case lLi => k_is); (case cLi => k_is); (case kLi => k_is)
    (case aMa => k_is); (case lMa => k_is); (case cMa => k_is); (case kMa => k_is)
    (case aDo => k_is); (case lDo => k_is); (case cDo => k_is); (case kDo => k_is)
    (case aCp => k_is); (case lCp => k_is); (case cCp => k_is); (case kCp => k_is)
    (case aMi => k_is); (case lMi => k_is); (case cMi => k_is); (case kMi => k_is)
    (case aPu => k_is); (case lPu => k_is); (case cPu => k_is); (case kPu => k_is)
    (case aDr => k_is); (case lDr => k_is); (case cDr => k_is); (case kDr => k_is)
    (case aSi => k_is); (case lSi => k_is); (case cSi => k_is); (case kSi => k_is)
    (case aCe => k_is); (case lCe => k_is); (case cCe => k_is); (case kCe => k_is)
    (case aRo => k_is); (case lRo => k_is); (case cRo => k_is); (case kRo => k_is)
    (case aRc => k_is); (case lRc => k_is); (case cRc => k_is); (case kRc => k_is)
    (case aCa => k_is); (case lCa => k_is); (case cCa => k_is); (case kCa => k_is)
    (case aRf => k_is); (case lRf => k_is); (case cRf => k_is); (case kRf => k_is)
    (case aRr => k_is); (case lRr => k_is); (case cRr => k_is); (case kRr => k_is)
    (case aUn => k_is); (case lUn => k_is); (case cUn => k_is); (case kUn => k_is)
    (case aLa => k_is); (case lLa => k_is); (case cLa => k_is); (case kLa => k_is)
    (case n_isi => k_is); (case n_int => k_is); (case n_bool => k_is); (case n_lst => k_is); (case n_tup => k_is); (case n_rng => k_is); (case n_len => k_is); (case n_sum => k_is); (case n_max => k_is); (case n_zip => k_is); (case n_rep => k_is)
    (case tab => kernel_rfl)
