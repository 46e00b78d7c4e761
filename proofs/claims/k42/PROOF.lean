import PyProof.Rows.All
import Wide.All
import OpenK.AllK
import Wide.FinOn
import HandS.ForMost
import HandS.IsInst
import HandS.Walk
import HandS.Conv
import HandS.Style
import HandS.Flow
import PyProof.ListStr
import PyProof.ReprRoads
import HandS.Set
import HandS.SetTxt0
import PyProof.Rows.SetFrom
import PyProof.Rows.SortStr
import HandS.SetKeys
import PyProof.ReprLen
import HandS.Iter
import HandS.SortKw
import KE.GoesEnumKw
import HandS.TupMul
import HandS.TupAny
import HandS.Codes
import PySem.Challenge.RW_amidread_k42_rings_of_records
import HandS.Wide
import HandS.Dict
import HandS.Small
set_option Elab.async false
set_option linter.all false
set_option maxRecDepth 100000
set_option maxHeartbeats 2000000
namespace Ami
open PySem PySem.Spec PyProof.Rows L2

/-! ### texts -/
/-- a text of one sign -/
def one (c : Nat) : Str := ⟨#[c]⟩
/-- the signs of a text, each as a text -/
def letts (z : Str) : List Str := z.cps.toList.map one
theorem letts_length (z : Str) : (letts z).length = z.length := by
  unfold letts
  rw [List.length_map, Array.length_toList]
  rfl

section
variable {X : Cx}
/-- list(z) -/
theorem cr_listStr (hc : X.calm = true) : CallR X (.type "list") (fun vs H Q => ∃ z : Str, vs = [.str z] ∧ z.length ≤ sizeLine ∧ ∀ p, H p = none → Q (.ref p) (upd H p (.lst ((letts z).map V.str)))) := by
  intro pins s σ H vs us Q I r h
  obtain ⟨z, rfl, hz, q⟩ := h
  obtain ⟨u, rfl, t, rfl⟩ := vals1 r
  refine call_list_str (I.ok.hd hc) z t (fun h' tk acc c' k hS hacc => ?_) hz
  have hl : acc.size = z.cps.size := hacc.1
  have hv : Vals ((letts z).map V.str) acc.toList := by
    refine vals_of_at ?_ fun j x u hx hu => ?_
    · rw [List.length_map, letts_length, Array.length_toList, hl]; rfl
    · have hu' : acc[j]? = some u := by rw [← Array.getElem?_toList]; exact hu
      have hj : j < acc.size := (Array.getElem?_eq_some_iff.mp hu').1
      obtain ⟨c, t', e1, e2⟩ := hacc.2 j u hu'
      subst e2
      have e3 : (letts z)[j]? = some (one c) := by
        unfold letts
        rw [List.getElem?_map, Array.getElem?_toList, e1]; rfl
      rw [List.getElem?_map, e3] at hx
      cases hx
      exact ⟨t', rfl⟩
  refine ⟨.ref s.heap.objs.size, _, I.laid (t' := tk) k (Nat.le_refl _) (show ObjOk X.prog X.w _ h' _ (.lst ((letts z).map V.str)) from ⟨?_, acc.toList, c', hv, by simpa using hS⟩), rfl, q _ (I.hok.fresh (Nat.le_refl _))⟩
  rw [List.length_map, letts_length]; exact hz

/-- z * n, as a text -/
def repS (z : Str) (n : Nat) : Str := ⟨(List.replicate n z.cps.toList).flatten.toArray⟩
theorem flat_rep (l : List Nat) : ∀ (n : Nat) (acc : List Nat), (List.replicate n l.toArray).foldl (· ++ ·) acc.toArray = (acc ++ (List.replicate n l).flatten).toArray := by
  intro n
  induction n with
  | zero => intro acc; simp
  | succ n ih =>
    intro acc
    rw [List.replicate_succ, List.foldl_cons, List.append_toArray, ih, List.replicate_succ, List.flatten_cons, List.append_assoc]
theorem repS_length (z : Str) (n : Nat) : (repS z n).length = n * z.length := by
  show ((List.replicate n z.cps.toList).flatten.toArray).size = n * z.cps.size
  rw [List.size_toArray, List.length_flatten, List.map_replicate, List.sum_replicate_nat, Array.length_toList]
theorem repS_mem {z : Str} {n c : Nat} (h : c ∈ (repS z n).cps.toList) : c ∈ z.cps.toList := by
  have h' : c ∈ (List.replicate n z.cps.toList).flatten := h
  obtain ⟨l, h1, h2⟩ := List.mem_flatten.mp h'
  rw [(List.mem_replicate.mp h1).2] at h2
  exact h2
/-- text * int -/
theorem op_repS : OpR X (binaryOp .Mult) (fun x y H Q => ∃ (z : Str) (n : Nat), x = .str z ∧ y = .int n ∧ n * z.length ≤ sizeLine ∧ n < 2 ^ 62 ∧ Q (.str (repS z n)) H) := by
  intro pins s σ H x y v u Q I rx ry h
  obtain ⟨z, n, rfl, rfl, hz, hn, q⟩ := h
  obtain ⟨t, rfl⟩ := rx
  obtain ⟨t', rfl⟩ := ry
  have hline := sizeLine_eq
  have e0 : (List.replicate n z.cps).foldl (· ++ ·) #[] = (repS z n).cps := by
    have := flat_rep z.cps.toList n []
    simpa [repS] using this
  have fin : ∀ t' k, EP X pins σ Q (.str (repS z n) t') { s with toks := k } := fun t' k => ⟨.str (repS z n), H, I.tok _, ⟨t', rfl⟩, q⟩
  refine PySem.P.mul_str ?_ ?_ ?_ ?_
  · have h1 : ¬ ((n : Int) < -(2 ^ 63 : Int)) := by omega
    have h2 : ¬ ((n : Int) ≥ 2 ^ 63) := by omega
    rw [decide_eq_false h1, decide_eq_false h2]; rfl
  · intro h1 _
    have hn0 : 0 < n := by omega
    have hz' : z.length ≤ n * z.length := Nat.le_mul_of_pos_left _ hn0
    have hq : (2 ^ 63 - 1 : Int) / n ≥ z.length := by
      refine Int.le_ediv_of_mul_le (by omega) ?_
      have e : (z.length : Int) * (n : Int) = ((n * z.length : Nat) : Int) := by
        rw [Nat.mul_comm n z.length]; exact (Int.natCast_mul _ _).symm
      rw [e]
      omega
    omega
  · intro h1 _
    show decide (z.length * n > sizeLine) = false
    rw [Nat.mul_comm]
    exact decide_eq_false (by omega)
  · by_cases c1 : (n : Int) < 1
    · rw [if_pos c1]
      have hn0 : n = 0 := by omega
      subst hn0
      exact ⟨Nat.zero_le _, by have e : Str.empty = repS z 0 := by simp [repS, Str.empty]
                               rw [e]; exact fin _ _⟩
    · rw [if_neg c1]
      by_cases c2 : ((n : Int) == 1 || z.length == 0) = true
      · rw [if_pos c2]
        have e : z = repS z n := by
          rcases (Bool.or_eq_true _ _).mp c2 with k | k
          · have : n = 1 := by have := of_decide_eq_true k; omega
            subst this
            simp [repS]
          · have k' : z.length = 0 := by simpa using k
            have z0 : z.cps = #[] := Array.eq_empty_of_size_eq_zero k'
            obtain ⟨a⟩ := z
            simp only at z0
            subst z0
            simp [repS]
        show EP X pins σ Q (.str z t) s
        exact ⟨.str z, H, I, ⟨t, rfl⟩, by rw [e]; exact q⟩
      · rw [if_neg c2]
        refine ⟨?_, ?_⟩
        · show ((List.replicate ((n : Int)).toNat z.cps).foldl (· ++ ·) #[]).size ≤ sizeLine
          rw [Int.toNat_natCast, e0]
          have := repS_length z n
          unfold Str.length at this
          rw [this]
          exact hz
        · have e1 : (⟨(List.replicate ((n : Int)).toNat z.cps).foldl (· ++ ·) #[]⟩ : Str) = repS z n := by
            rw [Int.toNat_natCast, e0]
          rw [e1]
          exact fin _ _

/-- z[::-1], as a text -/
def revS (z : Str) : Str := ⟨z.cps.toList.reverse.toArray⟩
theorem revS_length (z : Str) : (revS z).length = z.length := by
  show z.cps.toList.reverse.toArray.size = z.cps.size
  rw [List.size_toArray, List.length_reverse, Array.length_toList]
def tRevS (te : TE) : TE := fun σ H Q => te σ H fun x H1 => ∃ z : Str, x = .str z ∧ z.length ≤ sizeLine ∧ Q (.str (revS z)) H1
theorem sliceMade_rev (z : Str) (t uk : Tok) : sliceMade z t none none (some (-1, uk)) = .str (revS z) := by
  unfold sliceMade
  rw [if_neg (by simp)]
  have e : slicePicked z none none (some (-1, uk)) = (List.range z.length).map fun k => z.length - 1 - k := by
    show sliceRange ((z.length : Int) - 1) (-1) (-1) = _
    exact PySem.W.krv_sliceRange z.length
  rw [e]
  have e2 := PySem.W.krv_range z.length
  rw [e2, List.filterMap_reverse]
  have e3 := PySem.W.krv_all z.cps
  unfold Str.length
  rw [e3]
  rfl
theorem pe_revS {e : Expr} {te : TE} {k : Nat} {p1 p2 p3 pos : Pos} (he : PE X e te) : PE X (.Subscript e (.Slice none none (some (.UnaryOp .USub (.Constant (.int 1) k p1) p2)) p3) pos) (tRevS te) := by
  refine ⟨fun pins s σ H Q I h => ?_⟩
  refine Subscript_ (thn (he.run pins s σ H _ I h) fun v s1 ⟨x, H1, I1, r1, z, ex, hz, q⟩ => ?_)
  subst ex
  obtain ⟨t, rfl⟩ := r1
  have hst : PO X (some (.UnaryOp .USub (.Constant (.int 1) k p1) p2)) (tPart (tUn (rU fun i => .int (-i)) (tC (.int 1)))) := po_some (pe_un un_neg pe_int)
  refine wpAny_Slice (thn (po_none.run pins s1 σ H1 (fun o H2 => o = none ∧ H2 = H1) I1 ⟨rfl, rfl⟩) fun vl s2 ⟨l, H2, I2, pl, el, e2⟩ => ?_)
  subst el e2
  refine thn (po_none.run pins s2 σ H2 (fun o H3 => o = none ∧ H3 = H2) I2 ⟨rfl, rfl⟩) fun vu s3 ⟨u, H3, I3, pu, eu, e3⟩ => ?_
  subst eu e3
  refine thn (hst.run pins s3 σ H3 (fun o H4 => o = some (-1) ∧ H4 = H3) I3 ⟨1, rfl, -1, rfl, rfl, rfl⟩) fun vs s4 ⟨o, H4, I4, ps, eo, e4⟩ => ?_
  subst eo e4
  have I5 : Inv X pins σ H4 { s4 with heap := s4.heap.push { cls := .type "slice", data := .fields #[vl, vu, vs] } } := I4.kept (t' := s4.toks) fun b ob q => Heap.get?_push_of_some _ q
  obtain ⟨l0, e1, e2⟩ := IsPart.raw pl
  obtain ⟨u0, e3, e4⟩ := IsPart.raw pu
  obtain ⟨k0, e5, e6⟩ := IsPart.raw ps
  have l00 : l0 = none := by cases l0 with | none => rfl | some p => cases e2
  have u00 : u0 = none := by cases u0 with | none => rfl | some p => cases e4
  obtain ⟨uk, k00⟩ : ∃ uk, k0 = some (-1, uk) := by
    cases k0 with
    | none => cases e6
    | some p =>
      obtain ⟨i, uk⟩ := p
      have : i = -1 := Option.some.inj e6
      subst this
      exact ⟨uk, rfl⟩
  subst l00 u00 k00 e1 e3 e5
  show wpAny (model X.prog X.w) X.A (subscriptTail e (.Slice none none (some (.UnaryOp .USub (.Constant (.int 1) k p1) p2)) p3) (.str z t) (.ref s4.heap.objs.size)) (EP X pins σ Q) X.xe { s4 with heap := s4.heap.push { cls := .type "slice", data := .fields #[partValue none, partValue none, partValue (some (-1, uk))] } }
  refine tail_any (ops := [.ref s4.heap.objs.size, .str z t]) (typeIs_str _ _ _) (PySem.F.slot_str_getitem.lookup) ?_ (by with_unfolding_all rfl)
  refine wpAny_getItem_str_slice (l := none) (u := none) (st := some (-1, uk)) ⟨_, Heap.get?_push_size _ rfl, rfl, rfl⟩ rfl ?_
  rw [sliceMade_rev]
  exact ⟨by rw [revS_length]; exact hz, .str (revS z), _, I5.tok _, ⟨_, rfl⟩, q⟩
end

/-! ### what repr shows -/
mutual
inductive Dq (K : PySem.W.Frag) (H : Hp) : V → PyData → Prop
  | non : Dq K H .non .none
  | bl (b : Bool) : Dq K H (.bl b) (.bool b)
  | int (i : Int) : Dq K H (.int i) (.int i)
  | str (x : Str) : Dq K H (.str x) (.str x)
  | lst {a : Addr} {xs : List V} {ds : List PyData} : SqL K H a xs → DqAll K H xs ds → Dq K H (.ref a) (.list ds)
  | tup {a : Addr} {xs : List V} {ds : List PyData} : SqT K H a xs → DqAll K H xs ds → Dq K H (.ref a) (.tuple ds)
  | dct {a : Addr} {kvs : List (Key × V)} {ds : List (PyData × PyData)} : H a = some (.dK kvs) → DqAll K H (kvs.map fun p => kV p.1) (ds.map (·.1)) → DqAll K H (kvs.map (·.2)) (ds.map (·.2)) → Dq K H (.ref a) (.dict ds)
inductive DqAll (K : PySem.W.Frag) (H : Hp) : List V → List PyData → Prop
  | nil : DqAll K H [] []
  | cons {v : V} {vs : List V} {d : PyData} {ds : List PyData} : Dq K H v d → DqAll K H vs ds → DqAll K H (v :: vs) (d :: ds)
end
mutual
theorem Dq.same {K : PySem.W.Frag} {H H' : Hp} (k : ∀ a, (∀ xs, SqL K H a xs → SqL K H' a xs) ∧ (∀ xs, SqT K H a xs → SqT K H' a xs) ∧ ∀ kvs, H a = some (.dK kvs) → H' a = some (.dK kvs)) : ∀ {v : V} {d : PyData}, Dq K H v d → Dq K H' v d
  | _, _, .non => .non
  | _, _, .bl b => .bl b
  | _, _, .int i => .int i
  | _, _, .str x => .str x
  | _, _, .lst h t => .lst ((k _).1 _ h) (DqAll.same k t)
  | _, _, .tup h t => .tup ((k _).2.1 _ h) (DqAll.same k t)
  | _, _, .dct h t u => .dct ((k _).2.2 _ h) (DqAll.same k t) (DqAll.same k u)
theorem DqAll.same {K : PySem.W.Frag} {H H' : Hp} (k : ∀ a, (∀ xs, SqL K H a xs → SqL K H' a xs) ∧ (∀ xs, SqT K H a xs → SqT K H' a xs) ∧ ∀ kvs, H a = some (.dK kvs) → H' a = some (.dK kvs)) : ∀ {vs : List V} {ds : List PyData}, DqAll K H vs ds → DqAll K H' vs ds
  | _, _, .nil => .nil
  | _, _, .cons h t => .cons (Dq.same k h) (DqAll.same k t)
end
theorem pairs_vals {P : Program} {w : World} : ∀ {es : List DictEntry} {vs : List (Key × Value)} {kvs : List (Key × V)}, Pairs (mixKind P w) es vs → KV kvs vs →
    Vals (kvs.map fun p => kV p.1) (es.map (·.key)) ∧ Vals (kvs.map (·.2)) (es.map (·.val))
  | _, _, _, .nil, .nil => ⟨.nil, .nil⟩
  | _, _, _, .cons h1 h2 h3, .cons q1 q2 => by
    obtain ⟨t1, t2⟩ := pairs_vals h3 q2
    refine ⟨.cons ?_ t1, .cons ?_ t2⟩
    · dsimp only; rw [q1.1]; exact keyIs_rel h1
    · dsimp only; rw [h2]; exact q1.2
section
variable {X : Cx} {pins : List (Addr × Obj)} {σ : L2.St} {H : Hp} {s : Shared}
mutual
theorem Dq.reads (I : Inv X pins σ H s) : ∀ {v : V} {d : PyData} (u : Value), Dq X.K H v d → RelV v u → ∃ as, Reads s.heap u d as
  | _, _, _, .non, r => by cases r; exact ⟨_, Reads.none⟩
  | _, _, _, .bl b, r => by cases r; exact ⟨_, Reads.bool b⟩
  | _, _, _, .int i, r => by obtain ⟨t, rfl⟩ := r; exact ⟨_, Reads.int i t⟩
  | _, _, _, .str x, r => by obtain ⟨t, rfl⟩ := r; exact ⟨_, Reads.str x t⟩
  | _, _, _, .lst hs ha, r => by
    cases r
    obtain ⟨its, rv, ⟨o, n, ho, hc, _, hd⟩, _⟩ := I.list hs
    obtain ⟨as, hr⟩ := DqAll.reads I its ha rv
    exact ⟨_, Reads.list ho hc hd hr⟩
  | _, _, _, .tup hs ha, r => by
    cases r
    obtain ⟨its, rv, ⟨o, ho, hc, n, hd⟩, _⟩ := I.tuple hs
    obtain ⟨as, hr⟩ := DqAll.reads I its ha rv
    exact ⟨_, Reads.tuple ho hc hd hr⟩
  | _, _, _, @Dq.dct _ _ a kvs ds ha h1 h2, r => by
    cases r
    obtain ⟨_, _, vs, kv, o, es, ep, ho, hx, hd, _, pr, _⟩ := dk_of I.hok ha
    obtain ⟨p1, p2⟩ := pairs_vals pr kv
    obtain ⟨as, q1⟩ := DqAll.reads I _ h1 p1
    obtain ⟨bs, q2⟩ := DqAll.reads I _ h2 p2
    exact ⟨_, Reads.dict ho hx.1 hd q1 q2⟩
theorem DqAll.reads (I : Inv X pins σ H s) : ∀ {vs : List V} {ds : List PyData} (us : List Value), DqAll X.K H vs ds → Vals vs us → ∃ as, ReadsAll s.heap us ds as
  | _, _, _, .nil, r => by cases r; exact ⟨_, ReadsAll.nil⟩
  | _, _, _, .cons h1 h2, r => by
    cases r with
    | cons r1 r2 =>
      obtain ⟨as, q1⟩ := Dq.reads I _ h1 r1
      obtain ⟨bs, q2⟩ := DqAll.reads I _ h2 r2
      exact ⟨_, ReadsAll.cons q1 q2⟩
end

/-- what has no object of its own -/
def flatD : PyData → Bool
  | .none | .bool _ | .int _ | .str _ => true
  | _ => false
theorem DqAll.flat (I : Inv X pins σ H s) : ∀ {vs : List V} {ds : List PyData} (us : List Value), DqAll X.K H vs ds → ds.all flatD = true → Vals vs us → ReadsAll s.heap us ds []
  | _, _, _, .nil, _, r => by cases r; exact ReadsAll.nil
  | _, _, _, .cons h1 h2, f, r => by
    cases r with
    | cons r1 r2 =>
      rw [List.all_cons, Bool.and_eq_true] at f
      have q2 := DqAll.flat I _ h2 f.2 r2
      cases h1 with
      | non => cases r1; exact ReadsAll.cons Reads.none q2
      | bl b => cases r1; exact ReadsAll.cons (Reads.bool b) q2
      | int i => obtain ⟨t, rfl⟩ := r1; exact ReadsAll.cons (Reads.int i t) q2
      | str x => obtain ⟨t, rfl⟩ := r1; exact ReadsAll.cons (Reads.str x t) q2
      | _ => cases f.1
/-- no dict within, or itself a dict of what has no object of its own -/
def dictFlat : PyData → Bool
  | .dict kvs => (kvs.map (·.1)).all flatD && (kvs.map (·.2)).all flatD
  | d => !d.hasDict
theorem Dq.readsF (I : Inv X pins σ H s) {v : V} {d : PyData} (u : Value) (h : Dq X.K H v d) (r : RelV v u) (f : dictFlat d = true) : ∃ as, Reads s.heap u d as ∧ (d.hasDict = true → sysModules ∉ as) := by
  cases h with
  | @dct a kvs ds ha h1 h2 =>
    cases r
    obtain ⟨_, hsy, vs, kv, o, es, ep, ho, hx, hd, _, pr, _⟩ := dk_of I.hok ha
    obtain ⟨p1, p2⟩ := pairs_vals pr kv
    have f' : ((ds.map (·.1)).all flatD && (ds.map (·.2)).all flatD) = true := f
    rw [Bool.and_eq_true] at f'
    refine ⟨_, Reads.dict ho hx.1 hd (DqAll.flat I _ h1 f'.1 p1) (DqAll.flat I _ h2 f'.2 p2), fun _ m => ?_⟩
    have m' : sysModules = a := by simpa using m
    rw [m'] at hsy
    simp at hsy
  | non => exact (Dq.reads I u .non r).imp fun as q => ⟨q, fun z => by cases z⟩
  | bl b => exact (Dq.reads I u (.bl b) r).imp fun as q => ⟨q, fun z => by cases z⟩
  | int i => exact (Dq.reads I u (.int i) r).imp fun as q => ⟨q, fun z => by cases z⟩
  | str x => exact (Dq.reads I u (.str x) r).imp fun as q => ⟨q, fun z => by cases z⟩
  | lst hs ha =>
    have f' : (!(PyData.list _).hasDict) = true := f
    exact (Dq.reads I u (.lst hs ha) r).imp fun as q => ⟨q, fun z => by rw [z] at f'; cases f'⟩
  | tup hs ha =>
    have f' : (!(PyData.tuple _).hasDict) = true := f
    exact (Dq.reads I u (.tup hs ha) r).imp fun as q => ⟨q, fun z => by rw [z] at f'; cases f'⟩
end
section
variable {X : Cx}
/-- repr(x) -/
def rRepr (K : PySem.W.Frag) : List V → Hp → VK → Prop := fun xs H Q => ∃ (x : V) (d : PyData), xs = [x] ∧ Dq K H x d ∧ dictFlat d = true ∧ d.showable = true ∧ d.shown.length ≤ sizeLine ∧ d.depth ≤ 50 ∧ Q (.str d.shown) H
theorem cr_repr (hg : X.A.guards = some []) (hu : X.A.units + 64 < cLine) : CallR X (.builtin "repr") (rRepr X.K) := by
  intro pins s σ H xs us Q I r h
  obtain ⟨x, d, rfl, hd, hf, hs, hl, hdep, q⟩ := h
  obtain ⟨u, rfl, rx⟩ := vals1 r
  obtain ⟨as, hr, hsm⟩ := Dq.readsF I u hd rx hf
  have hfin : ∀ (h' : Heap) (t : Tok) (tk : Nat), (∀ b o, s.heap.get? b = some o → h'.get? b = some o) → EP X pins σ Q (.str d.shown t) { s with heap := h', toks := tk } :=
    fun h' t tk k => ⟨.str d.shown, H, I.kept (t' := tk) k, ⟨t, rfl⟩, q⟩
  have hsame : EP X pins σ Q (.str d.shown s.toks) { s with toks := s.toks + 1 } := hfin s.heap s.toks (s.toks + 1) fun _ _ e => e
  cases hd with
  | non => cases rx; exact PySem.P.repr_of_none hsame
  | bl b => cases rx; exact PySem.P.repr_of_bool hsame
  | int i =>
    obtain ⟨t, rfl⟩ := rx
    exact PySem.P.repr_of_int (of_decide_eq_true hs) hsame
  | str y =>
    obtain ⟨t, rfl⟩ := rx
    exact PySem.P.repr_of_str hsame hl
  | lst => cases rx; exact repr_of_reads' hr hs hsm hg (by omega) (fun _ _ e => e) hfin hl
  | tup => cases rx; exact repr_of_reads' hr hs hsm hg (by omega) (fun _ _ e => e) hfin hl
  | dct => cases rx; exact repr_of_reads' hr hs hsm hg (by omega) (fun _ _ e => e) hfin hl
end
end Ami

set_option Elab.async false
set_option linter.all false
set_option maxRecDepth 100000
set_option maxHeartbeats 2000000
namespace Ami
open PySem PySem.Spec PyProof.Rows L2

/-- the key that a member of a set stands for -/
def kOf : Value → Key
  | .int i _ => .inl i
  | .str x _ => .inr x
  | _ => .inl 0
theorem kOf_is {k : Key} {v : Value} (h : keyIs k v = true) : kOf v = k := by
  rcases keyIs_shape h with ⟨i, t, rfl, rfl⟩ | ⟨x, t, rfl, rfl⟩ <;> rfl
def Mem (w : World) (e : Int × Value) : Prop := keyIs (kOf e.2) e.2 = true ∧ e.1 = keyH w (kOf e.2)
theorem scan_of {k : Key} {v : Value} (h : keyIs k v = true) : v.scannable = true := by
  rcases keyIs_shape h with ⟨i, t, rfl, rfl⟩ | ⟨x, t, rfl, rfl⟩ <;> rfl
abbrev keysIn (es : List (Int × Value)) : List Key := es.map fun e => kOf e.2

/-- at a stands a set; its members are the keys of l, each once there -/
def SetW (w : World) (h : Heap) (a : Addr) (l : List Key) : Prop :=
  ∃ o es ep t, h.get? a = some o ∧ o.ExactSet ∧ o.data = .set es ep t ∧ (∀ e ∈ es.toList, Mem w e) ∧ (keysIn es.toList).Nodup ∧ l.Perm (keysIn es.toList) ∧
    es.size < scanBound ∧ t.fits es.size = true ∧ Ris t.place.toList ∧ (w.params.followText "set-order" = true ∨ t.led = true)

section
variable {P : Program} {w : World} {h h' : Heap} {a : Addr} {l l' : List Key}
theorem SetW.at (R : SetW w h a l) (k : ∀ o, h.get? a = some o → h'.get? a = some o) : SetW w h' a l := by
  obtain ⟨o, es, ep, t, ho, r⟩ := R
  exact ⟨o, es, ep, t, k o ho, r⟩
theorem SetW.congr (R : SetW w h a l) (e : l'.Perm l) : SetW w h a l' := by
  obtain ⟨o, es, ep, t, ho, x, d, g, nd, m, r⟩ := R
  exact ⟨o, es, ep, t, ho, x, d, g, nd, e.trans m, r⟩
theorem SetW.nodup (R : SetW w h a l) : l.Nodup := by
  obtain ⟨o, es, ep, t, ho, x, d, g, nd, m, r⟩ := R
  exact m.nodup_iff.mpr nd
theorem elems_of {es : List (Int × Value)} (g : ∀ e ∈ es, Mem w e) : ElemsOf (mixKind P w) es := fun e he => ⟨⟨_, (g e he).1, (g e he).2⟩, scan_of (g e he).1⟩
theorem find_iff {es : List (Int × Value)} (g : ∀ e ∈ es, Mem w e) (k : Key) : k ∈ keysIn es ↔ ∃ e ∈ es, (mixKind P w).is k e.2 = true := by
  constructor
  · intro m
    obtain ⟨e, he, q⟩ := List.mem_map.mp m
    exact ⟨e, he, by rw [← q]; exact (g e he).1⟩
  · rintro ⟨e, he, q⟩
    exact List.mem_map.mpr ⟨e, he, kOf_is q⟩
theorem SetW.setOf (R : SetW w h a l) (S : Key → Bool) (hS : ∀ k, S k = true ↔ k ∈ l) : ∃ n, h.SetOf (mixKind P w) a S n := by
  obtain ⟨o, es, ep, t, ho, x, d, g, nd, m, b, f, r⟩ := R
  exact ⟨_, o, es, ep, t, ho, x, d, elems_of g, fun k => by rw [hS k, m.mem_iff]; exact find_iff g k, b, f, rfl⟩
theorem setW_fresh (w : World) (led : Bool) (hl : w.params.followText "set-order" = true ∨ led = true) :
    SetW w (h.push { cls := .type "set", dict := none, data := .set #[] 0 (.fresh 0 0 led) }) h.objs.size [] :=
  ⟨_, #[], 0, _, Heap.get?_push_size _ rfl, ⟨rfl, rfl, rfl⟩, rfl, (fun e he => by simp at he), List.nodup_nil, List.Perm.nil, (by decide), (by rfl), List.Pairwise.nil, hl⟩
end

section
variable {P : Program} {w : World} {A : Around} {E : Value → Shared → Prop} {s : Shared} {a : Addr} {l : List Key}

/-- the last part of an add: the entries are stored, and laid anew where the table is too full -/
theorem tail_w {g : Bool → Sem Unit} (hg : ∀ (b : Bool) (s₁ : Shared) (Q' : Unit → Shared → Prop), Q' () s₁ → wpAny (model P w) A (g b) Q' E s₁)
    {o : Obj} {es : Array (Int × Value)} {ep : Nat} {t : SetTable} (ho : s.heap.get? a = some o) (hx : o.ExactSet) (hd : o.data = .set es ep t)
    {es1 : Array (Int × Value)} {t1 : SetTable} {l1 : List Key} (g1 : ∀ e ∈ es1.toList, Mem w e) (nd1 : (keysIn es1.toList).Nodup) (m1 : l1.Perm (keysIn es1.toList))
    (hb : es1.size < scanBound) (hf : t1.fits es1.size = true) (hr : Ris t1.place.toList) (hl : w.params.followText "set-order" = true ∨ t1.led = true) {dummy : Bool} {R : Option Bool → Shared → Prop}
    (hR : ∀ h', Heap.SameBut a s.heap h' → SetW w h' a l1 → R (some true) { s with heap := h' }) :
    wpAny (model P w) A (do
        storeSet a es1 t1
        if (!dummy && t1.tooFull) = true then do
            g (relayAll t1 es1 (SetTable.grown es1.size)).2.2
            storeSet a (relayAll t1 es1 (SetTable.grown es1.size)).1 (relayAll t1 es1 (SetTable.grown es1.size)).2.1
            pure (some true)
          else pure (some true)) R E s := by
  have same1 := Heap.SameBut.update s.heap a (Obj.putSet es1 t1)
  have at1 := store_at (es' := es1) (t' := t1) ho hd
  refine wpAny_bind (wpAny_storeSet_of ho hd ?_ (fits_of_scanBound hb))
  by_cases c : (!dummy && t1.tooFull) = true
  · rw [if_pos c]
    obtain ⟨es2, t2, gave, eZ⟩ : ∃ es2 t2 gave, relayAll t1 es1 (SetTable.grown es1.size) = (es2, t2, gave) := ⟨_, _, _, rfl⟩
    have pm := relayAll_perm t1 es1 (SetTable.grown es1.size)
    have hf2 := relayAll_fits t1 es1 (SetTable.grown es1.size)
    have hr2 := relayAll_ris t1 es1 (SetTable.grown es1.size)
    have hl2 := relayAll_led t1 es1 (SetTable.grown es1.size)
    rw [eZ] at pm hf2 hr2 hl2 ⊢
    have hsz : es2.size = es1.size := by rw [← Array.length_toList, pm.length_eq, Array.length_toList]
    have pk : (keysIn es2.toList).Perm (keysIn es1.toList) := pm.map _
    refine wpAny_bind (hg _ _ _ ?_)
    refine wpAny_bind (wpAny_storeSet_of at1 rfl ?_ (fits_of_scanBound (by rw [hsz]; exact hb)))
    refine wpAny_pure (hR _ (same1.trans (Heap.SameBut.update _ a _)) ⟨_, es2, _, t2, store_at (es' := es2) (t' := t2) at1 rfl, hx, rfl, fun e he => g1 e (pm.mem_iff.mp he), pk.nodup_iff.mpr nd1,
      m1.trans pk.symm, by rw [hsz]; exact hb, hf2, hr2, hl.imp id fun z => hl2.trans z⟩)
  · rw [if_neg c]
    exact wpAny_pure (hR _ same1 ⟨_, es1, _, t1, at1, hx, rfl, g1, nd1, m1, hb, hf, hr, hl⟩)

/-- a key is added -/
theorem add_w {k : Key} {v : Value} {Q : Bool → Shared → Prop} (R : SetW w s.heap a l) (hk : keyIs k v = true) (room : l.length + 1 < scanBound)
    (hQ : ∀ (b : Bool) (h' : Heap) (l' : List Key), Heap.SameBut a s.heap h' → SetW w h' a l' → (k ∈ l → l' = l) → (k ∉ l → l' = k :: l) → Q b { s with heap := h' }) :
    wpAny (model P w) A (setAddHashed a v (keyH w k)) Q E s := by
  obtain ⟨o, es, ep, t, ho, hx, hd, g, ndE, m, hb, hf, hr, hl⟩ := R
  have el : ElemsOf (mixKind P w) es.toList := elems_of g
  have hsc := scan_of hk
  have hsize : es.size = l.length := by
    have := m.symm.length_eq
    rw [List.length_map, Array.length_toList] at this
    exact this
  unfold setAddHashed setAddHashedIn
  refine wpAny_holding (wpAny_bind (wpAny_setState_of ho hd hf ?_))
  dsimp only
  rw [byScan_of hsc hb el]
  simp only [↓reduceIte]
  unfold setAddByScan
  refine wpAny_bind ?_
  refine wpAny_bind (wpAny_rule ?_)
  refine wpAny_bind (wpAny_setScan_of (knd := mixKind P w) (k := k) hk ho hd hf el ?_)
  cases hfi : List.findIdx? (fun e => (mixKind P w).is k e.2) es.toList with
  | some j =>
    dsimp only
    obtain ⟨hj, pj, _⟩ := List.findIdx?_eq_some_iff_getElem.mp hfi
    have hkl : k ∈ l := m.mem_iff.mpr ((find_iff (P := P) g k).mpr ⟨_, List.getElem_mem hj, pj⟩)
    refine wpAny_pure (wpAny_pure ?_)
    exact hQ _ s.heap l (Heap.SameBut.refl a s.heap) ⟨o, es, ep, t, ho, hx, hd, g, ndE, m, hb, hf, hr, hl⟩ (fun _ => rfl) fun z => absurd hkl z
  | none =>
    dsimp only
    have hnk : k ∉ keysIn es.toList := fun z => by
      obtain ⟨e, he, q⟩ := (find_iff (P := P) g k).mp z
      have := List.findIdx?_eq_none_iff.mp hfi e he
      rw [q] at this
      cases this
    have hkl : k ∉ l := fun z => hnk (m.mem_iff.mp z)
    have gave : ∀ (b : Bool) {s₁ : Shared} {Q' : Unit → Shared → Prop}, Q' () s₁ → wpAny (model P w) A (match b with | true => rule "set.scan.the-table-gave-way" | false => pure ()) Q' E s₁ :=
      fun b s₁ Q' q => by cases b with | true => exact wpAny_rule q | false => exact wpAny_pure q
    obtain ⟨es1, t1, dummy, gv, eZ⟩ : ∃ es1 t1 dummy gv, layNew t es (keyH w k) v = (es1, t1, dummy, gv) := ⟨_, _, _, _, rfl⟩
    have pm := layNew_perm t es (keyH w k) v
    have hf1 := layNew_fits t es (keyH w k) v
    have hr1 := layNew_ris t es (keyH w k) v hr
    have hl1 := layNew_led t es (keyH w k) v
    have eZ' : layNew t es ((mixKind P w).hash k) v = (es1, t1, dummy, gv) := eZ
    rw [eZ] at pm hf1 hr1 hl1
    rw [eZ]
    dsimp only at pm hf1 hr1 hl1 ⊢
    rw [Array.toList_push] at pm
    have pc : es1.toList.Perm ((keyH w k, v) :: es.toList) := pm.trans (List.perm_append_singleton _ _)
    have pk : (keysIn es1.toList).Perm (k :: keysIn es.toList) := by
      have q := pc.map fun e : Int × Value => kOf e.2
      rw [List.map_cons, kOf_is hk] at q
      exact q
    have g1 : ∀ e ∈ es1.toList, Mem w e := fun e he => by
      rcases List.mem_cons.mp (pc.mem_iff.mp he) with z | z
      · rw [z]
        have e1 := kOf_is hk
        exact ⟨by show keyIs (kOf v) v = true; rw [e1]; exact hk, by show keyH w k = keyH w (kOf v); rw [e1]⟩
      · exact g e z
    have nd1 : (keysIn es1.toList).Nodup := pk.nodup_iff.mpr (List.nodup_cons.mpr ⟨hnk, ndE⟩)
    have m1 : (k :: l).Perm (keysIn es1.toList) := (m.cons k).trans pk.symm
    have hb1 : es1.size < scanBound := by
      have : es1.size = es.size + 1 := by rw [← Array.length_toList, pc.length_eq, List.length_cons, Array.length_toList]
      omega
    have led1 : w.params.followText "set-order" = true ∨ t1.led = true := hl.imp id fun z => hl1.trans z
    refine wpAny_bind (gave _ ?_)
    by_cases hpl : t1.plain = true
    · rw [if_pos hpl]
      refine wpAny_bind ?_
      rw [hashByValue_scannable 8 hsc]
      refine wpAny_pure ?_
      refine tail_w ?_ ho hx hd g1 nd1 m1 hb1 ?_ ?_ ?_ fun h' sb r => wpAny_pure (hQ _ h' (k :: l) sb r (fun z => absurd z hkl) fun _ => rfl)
      · intro b s₁ Q' q; exact gave b q
      · split
        · exact hf1
        · exact SetTable.fits_plain_off hf1
      · split <;> exact hr1
      · split <;> exact led1
    · rw [if_neg hpl]
      refine wpAny_bind (wpAny_pure ?_)
      simp only [↓reduceIte]
      refine tail_w ?_ ho hx hd g1 nd1 m1 hb1 hf1 hr1 led1 fun h' sb r => wpAny_pure (hQ _ h' (k :: l) sb r (fun z => absurd z hkl) fun _ => rfl)
      intro b s₁ Q' q; exact gave b q

/-- what is walked goes into the set -/
theorem loop_w {I : Addr} {fp : List Addr} {n : Nat} {Pv : Nat → Value → Prop} {St : Nat → Heap → Prop} (W : Walks P w A.in1 I fp [I] n Pv St) (haf : a ∉ fp) (hfI : I ∈ fp) {f : Nat → Key} (hf : ∀ i v, i < n → Pv i v → keyIs (f i) v = true) {R : Result → Shared → Prop} :
    ∀ (m i : Nat) (l : List Key) (s : Shared), n - i = m → i ≤ n → SetW w s.heap a l → St i s.heap → l.length + m < scanBound →
    (∀ (h' : Heap) (tk : Nat) (l' : List Key), (∀ b o, b ≠ a → b ≠ I → s.heap.get? b = some o → h'.get? b = some o) →
      SetW w h' a l' → (∀ k, k ∈ l' ↔ k ∈ l ∨ ∃ j, i ≤ j ∧ j < n ∧ k = f j) → R (.ok (.ret .none)) { s with heap := h', toks := tk }) →
    codeAny (model P w) A (.builtin "set.update.loop" ⟨[.ref a, .ref I], []⟩) R s := by
  have haI : a ≠ I := fun e => haf (e ▸ hfI)
  intro m
  induction m with
  | zero =>
    intro i l s hm hi ha hst hb h
    have hin : i = n := by omega
    subst hin
    refine codeAny_builtin PyProof.Rows.F.entry_set_update_loop ?_
    rw [Around.under_plainId PyProof.Rows.F.plain_set_update_loop _]
    show wpAny _ A.in1 (pyNext (.ref I) >>= _) _ _ s
    refine wpAny_bind (W.done s _ _ hst fun h' tk hk => ?_)
    show wpAny _ A.in1 (ret Value.none) _ _ _
    refine wpAny_pure (h h' tk l (fun b o _ hb e => hk b o (by simpa using hb) e) (ha.at fun o e => hk a o (by simpa using haI) e) fun k => ⟨.inl, fun z => z.elim id fun ⟨j, h1, h2, _⟩ => by omega⟩)
  | succ m ih =>
    intro i l s hm hi ha hst hb h
    have hlt : i < n := by omega
    refine codeAny_builtin PyProof.Rows.F.entry_set_update_loop ?_
    rw [Around.under_plainId PyProof.Rows.F.plain_set_update_loop _]
    show wpAny _ A.in1 (pyNext (.ref I) >>= _) _ _ s
    refine wpAny_bind (W.item i s _ _ hlt hst fun v h1 tk hP hst1 hk1 => ?_)
    have hkey : keyIs (f i) v = true := hf i v hlt hP
    show wpAny _ A.in1 (holding [v] (setAdd a v) >>= _) _ _ _
    refine wpAny_bind (wpAny_holding ?_)
    unfold setAdd
    refine wpAny_holding ?_
    refine wpAny_bind ((mixKind P w).pyHash (k := f i) hkey ?_)
    refine add_w (s := { s with heap := h1, toks := tk + 1 }) (ha.at fun o e => hk1 a o (by simpa using haI) e) hkey (by omega) fun b h2 l2 sb R2 q1 q2 => ?_
    have hl2 : l2.length ≤ l.length + 1 := by
      rcases Classical.em (f i ∈ l) with z | z
      · rw [q1 z]; omega
      · rw [q2 z, List.length_cons]; omega
    have hm2 : ∀ k, k ∈ l2 ↔ k ∈ l ∨ k = f i := fun k => by
      rcases Classical.em (f i ∈ l) with z | z
      · rw [q1 z]
        exact ⟨.inl, fun y => y.elim id fun e => e ▸ z⟩
      · rw [q2 z, List.mem_cons]
        exact Or.comm
    have hst2 : St (i + 1) h2 := W.frame _ _ _ hst1 fun c hc o e => (sb.2 c fun z => haf (z ▸ hc)).trans e
    refine wpAny_pure ⟨plainId_quiet PyProof.Rows.F.plain_set_update_loop _, ih (i + 1) l2 { s with heap := h2, toks := tk + 1 } (by omega) hlt R2 hst2 (by omega) fun h3 tk3 l3 k3 R3 m3 => ?_⟩
    refine h h3 tk3 l3 (fun c o hc1 hc2 e => k3 c o hc1 hc2 ((sb.2 c hc1).trans (hk1 c o (by simpa using hc2) e))) R3 fun k => ?_
    rw [m3 k, hm2 k]
    constructor
    · rintro ((q | q) | ⟨j, j1, j2, q⟩)
      · exact .inl q
      · exact .inr ⟨i, Nat.le_refl _, hlt, q⟩
      · exact .inr ⟨j, by omega, j2, q⟩
    · rintro (q | ⟨j, j1, j2, q⟩)
      · exact .inl (.inl q)
      · by_cases e : j = i
        · subst e; exact .inl (.inr q)
        · exact .inr ⟨j, by omega, j2, q⟩


theorem new_led (v : Value) {Q₁ : Value → Shared → Prop}
    (h : Q₁ (.ref s.heap.objs.size) { s with heap := s.heap.push { cls := .type "set", dict := none, data := .set #[] 0 (.fresh 0 0 (!w.params.followText "set-order")) } }) :
    codeAny (model P w) A (.call (.builtin "set.__new__") ⟨[.type "set", v], []⟩) (wants Q₁ E) s := by
  refine codeAny_of_tree ?_
  show wpAny _ A.in1 (do checkBuiltinCall "set.__new__" ⟨[.type "set", v], []⟩; again (.builtin "set.__new__" ⟨[.type "set", v], []⟩)) _ _ s
  refine wpAny_bind (wpAny_of_eq (PySem.F.newCall_set_1 v) (wpAny_pure ⟨plainId_quiet PySem.F.plain_set_new _, codeAny_builtin PySem.F.entry_set_new ?_⟩))
  rw [Around.under_plainId PySem.F.plain_set_new _]
  have hsub := PySem.sub_set_self
  unfold Builtin.«set.__new__» Builtin.Frozenset.newClass
  obtain ⟨hp, g, d, tk, os⟩ := s
  dsimp only
  wp_walk
  refine wpAny_askSetting (wpAny_pure ?_)
  dsimp only
  simp only [newObj]
  refine wpAny_bind (wpAny_alloc (wpAny_pure ?_))
  exact wpAny_pure h

/-- set(v): what is needed of v and its walk -/
structure Fills (P : Program) (w : World) (h : Heap) (v : Value) (T : String) (n : Nat) (f : Nat → Key) : Prop where
  ty : ∀ s' : Shared, (∀ b o, h.get? b = some o → s'.heap.get? b = some o) → s'.TypeIs v T
  s1 : isSubtype (.type T) (.type "set") = pure false
  s2 : isSubtype (.type T) (.type "frozenset") = pure false
  nd : (Value.type T == Value.type "dict") = false
  it : ∀ (A : Around) (E : Value → Shared → Prop) (s' : Shared) (Q : Value → Shared → Prop), (∀ b o, h.get? b = some o → s'.heap.get? b = some o) →
    (∀ (h' : Heap) (I : Addr) (fp : List Addr) (Pv : Nat → Value → Prop) (St : Nat → Heap → Prop), (∀ b o, s'.heap.get? b = some o → h'.get? b = some o) → s'.heap.objs.size ≤ I → I ∈ fp → (∀ b ∈ fp, b = I ∨ ∃ o, h.get? b = some o) →
      (∀ A2 : Around, A2.handled = none → Walks P w A2 I fp [I] n Pv St) → St 0 h' → (∀ i v, i < n → Pv i v → keyIs (f i) v = true) → Q (.ref I) { s' with heap := h' }) → wpAny (model P w) A (pyIter v) Q E s'

end
end Ami

set_option Elab.async false
set_option linter.all false
set_option maxRecDepth 100000
set_option maxHeartbeats 2000000
namespace Ami
open PySem PySem.Spec PyProof.Rows L2
section
variable {P : Program} {w : World} {A : Around} {E : Value → Shared → Prop} {s : Shared} {a : Addr} {l : List Key}
set_option maxHeartbeats 4000000 in
theorem call_set_w {v : Value} {T : String} {n : Nat} {f : Nat → Key} {Q : Value → Shared → Prop} (hh : A.handled = none) (hn : n < scanBound) (F : Fills P w s.heap v T n f)
    (h : ∀ (h' : Heap) (tk : Nat) (l : List Key), (∀ b o, s.heap.get? b = some o → h'.get? b = some o) → SetW w h' s.heap.objs.size l → (∀ k, k ∈ l ↔ ∃ j, j < n ∧ k = f j) → Q (.ref s.heap.objs.size) { s with heap := h', toks := tk }) :
    wpAny (model P w) A (call (.type "set") [v]) Q E s := by
  obtain ⟨c, tl, hmro⟩ := PySem.F.called_set.mro
  have hmade := PySem.F.called_set.made
  have hsub := PySem.F.called_set.sub
  have keep0 : ∀ b o, s.heap.get? b = some o → (s.heap.push { cls := .type "set", dict := none, data := .set #[] 0 (.fresh 0 0 (!w.params.followText "set-order")) }).get? b = some o := fun b o e => Heap.get?_push_of_some _ e
  refine wpAny_call (codeAny_of_tree ?_)
  show wpAny _ _ (callAny (.type "set") _) _ _ _
  refine wpAny_pure ⟨Code.quiet_builtin _ (by decide +kernel), codeAny_builtin PySem.F.entry_type_call ?_⟩
  rw [Around.under_plain (weight_type_call_type "set" [v] []) rfl]
  have h1 := PySem.F.called_set.notType
  have h2 := PySem.F.called_set.canCreate
  have hct := PySem.F.typeCall_set_1 v
  repeat (any_goals (first | assumption | wp_step))
  refine codeAny_mono (new_led v (E := E) (Q₁ := fun obj s₁ => obj = .ref s.heap.objs.size ∧ s₁ = { s with heap := s.heap.push { cls := .type "set", dict := none, data := .set #[] 0 (.fresh 0 0 (!w.params.followText "set-order")) } }) ⟨rfl, rfl⟩) fun r s₁ hr => ?_
  cases r with
  | error e => exact hr
  | ok fl =>
    cases fl with
    | ret obj =>
      obtain ⟨rfl, rfl⟩ := hr
      have hS : (s.heap.push { cls := .type "set", dict := none, data := .set #[] 0 (.fresh 0 0 (!w.params.followText "set-order")) }).get? s.heap.objs.size = some { cls := .type "set", dict := none, data := .set #[] 0 (.fresh 0 0 (!w.params.followText "set-order")) } := Heap.get?_push_size _ rfl
      have hT : Shared.TypeIs { s with heap := s.heap.push { cls := .type "set", dict := none, data := .set #[] 0 (.fresh 0 0 (!w.params.followText "set-order")) } } (.ref s.heap.objs.size) "set" := ⟨_, hS, rfl⟩
      have hli := PySem.F.called_set.init.lookup
      have hbi := PySem.F.called_set.init.bind (.ref s.heap.objs.size)
      repeat (any_goals (first | assumption | wp_step))
      refine codeAny_mono (codeAny_call_builtin (R := wants (fun r s₂ => r = .none ∧ ∃ h' tk l, s₂ = { s with heap := h', toks := tk } ∧ (∀ b o, s.heap.get? b = some o → h'.get? b = some o) ∧ SetW w h' s.heap.objs.size l ∧
          (∀ k, k ∈ l ↔ ∃ j, j < n ∧ k = f j)) E) PySem.F.called_set.init.plain PySem.F.entry_set_init (PySem.check_set_init_1 hT ?_)) fun r₂ s₂ hr₂ => ?_
      · have hTv := F.ty { s with heap := s.heap.push { cls := .type "set", dict := none, data := .set #[] 0 (.fresh 0 0 (!w.params.followText "set-order")) } } keep0
        have q1 := F.s1
        have q2 := F.s2
        have q3 := F.nd
        unfold Builtin.«set.__init__» noKeywords Builtin.Frozenset.updateFrom
        generalize hPI : pyIter = PI
        wp_walk
        subst hPI
        refine F.it _ _ _ _ keep0 fun h1' I fp Pv St k1 hI hfI hfp W st hkey => ?_
        have hI' : s.heap.objs.size + 1 ≤ I := by
          have z := hI
          simp only [Heap.size_push] at z
          exact z
        have haf : s.heap.objs.size ∉ fp := fun m => by
          rcases hfp _ m with z | ⟨o, z⟩
          · exact absurd hI' (by rw [← z]; exact Nat.not_succ_le_self _)
          · exact absurd (Heap.lt_size z) (Nat.lt_irrefl _)
        refine wpAny_bind (wpAny_runValue ?_)
        refine loop_w (A := A.in1.in1) (W _ (by simp [hh])) haf hfI hkey n 0 [] _ (Nat.sub_zero n) (Nat.zero_le _) ((setW_fresh w _ ?_).at fun o e => k1 _ o e) st (by simpa using hn) fun h2 tk l2 k2 R2 m2 => ?_
        · cases w.params.followText "set-order"
          · exact .inr rfl
          · exact .inl rfl
        · refine wpAny_pure ?_
          show wpAny _ _ (ret Value.none) _ _ _
          refine wpAny_pure ⟨rfl, h2, tk, l2, rfl, fun b o e => ?_, R2, fun k => ?_⟩
          · have hb := Heap.lt_size e
            exact k2 b o (Nat.ne_of_lt hb) (Nat.ne_of_lt (Nat.lt_of_lt_of_le hb (Nat.le_of_succ_le hI'))) (k1 b o (keep0 b o e))
          · rw [m2 k]
            constructor
            · rintro (z | ⟨j, _, h2, h3⟩)
              · cases z
              · exact ⟨j, h2, h3⟩
            · rintro ⟨j, h2, h3⟩
              exact .inr ⟨j, Nat.zero_le _, h2, h3⟩
      · cases r₂ with
        | error e => exact hr₂
        | ok fl₂ =>
          cases fl₂ with
          | ret r =>
            obtain ⟨rfl, h', tk, l, rfl, hk', hS', hm'⟩ := hr₂
            repeat (any_goals (first | assumption | wp_step))
            exact h _ _ l hk' hS' hm'
          | _ => exact hr₂.elim
    | _ => exact hr.elim

/-- a text's signs fill a set -/
theorem fills_text {x : Str} {t : Tok} {h : Heap} : Fills P w h (.str x t) "str" x.cps.size (fun i => .inr (one (x.cps.getD i 0))) where
  ty := fun s' _ => typeIs_str s' x t
  s1 := by rw [isSubtype_type]; kernel_rfl
  s2 := by rw [isSubtype_type]; kernel_rfl
  nd := by decide
  it := fun A E s' Q k hq => by
    refine wpAny_pyIter_str fun o St W hst => ?_
    refine hq _ s'.heap.objs.size [s'.heap.objs.size] (SignAt x) St (fun b o' e => Heap.get?_push_of_some _ e) (Nat.le_refl _) (List.mem_singleton.mpr rfl) (fun b hb => .inl (List.mem_singleton.mp hb)) (fun A2 h2 => W A2 h2) hst fun i v hi hv => ?_
    obtain ⟨c, u, e1, e2⟩ := hv
    subst e2
    have e3 : x.cps.getD i 0 = c := by
      rw [Array.getD_eq_getD_getElem?, e1]; rfl
    rw [e3]
    exact keyIs_str _ _
end
end Ami

set_option Elab.async false
set_option linter.all false
set_option maxRecDepth 100000
set_option maxHeartbeats 2000000
namespace Ami
open PySem PySem.Spec PyProof.Rows L2
section
variable {P : Program} {w : World} {A : Around} {E : Value → Shared → Prop} {s : Shared} {a : Addr} {l : List Key}
theorem strs_of_keys : ∀ {us : List Value} {ss : List Str}, us.map kOf = ss.map Sum.inr → (∀ v ∈ us, keyIs (kOf v) v = true) → StrsAre us ss
  | [], [], _, _ => .nil
  | [], _ :: _, e, _ => by cases e
  | _ :: _, [], e, _ => by cases e
  | v :: us, x :: ss, e, g => by
    rw [List.map_cons, List.map_cons] at e
    obtain ⟨e1, e2⟩ := List.cons.inj e
    have h1 := g v List.mem_cons_self
    rw [e1] at h1
    obtain ⟨t, rfl⟩ : ∃ t, v = .str x t := by
      rcases keyIs_shape h1 with ⟨i, t, h, _⟩ | ⟨y, t, h, h2⟩
      · cases h
      · cases h; exact ⟨t, h2⟩
    exact .cons x t (strs_of_keys e2 fun u hu => g u (List.mem_cons_of_mem _ hu))

/-- sorted of a set of texts -/
theorem sorted_w {ss : List Str} {Q : Value → Shared → Prop} (R : SetW w s.heap a (ss.map Sum.inr)) (hh : A.handled = none) (h64 : ss.length < 64)
    (hQ : ∀ s' p (out : Array Value) (c : Nat) (ys : List Str), (∀ b o, s.heap.get? b = some o → s'.heap.get? b = some o) → s'.gens = s.gens → s'.os = s.os → s.heap.objs.size ≤ p →
      s'.heap.get? p = some (seqObj "list" out c) → StrsAre out.toList ys → ys.Perm ss → sortedS ys = true → Q (.ref p) s') :
    wpAny (model P w) A (call (.builtin "sorted") [.ref a]) Q E s := by
  obtain ⟨o, es, ep, t, ho, hx, hd, g, nd, m, hb, hf, hr, hl⟩ := R
  refine Calls.call_function_entry kind_sorted plain_sorted entry_sorted (args_sorted1 _) ?_
  unfold Builtin.«sorted»
  refine wpAny_bind (m := checkCount "sorted" 1 1 _) (wpAny_pure ?_)
  refine wpAny_bind (collect_set (A := A.in1) hh ⟨o, ho, hx.1, hd⟩ hf hb hr hl fun s1 vs k1 hz g1 o1 pm => ?_)
  have pk : (vs.map kOf).Perm (ss.map Sum.inr) := by
    have q := pm.map kOf
    rw [List.map_map] at q
    exact q.trans m.symm
  obtain ⟨ts, et, pt⟩ : ∃ ts : List Str, vs.map kOf = ts.map Sum.inr ∧ ts.Perm ss := by
    refine ⟨(vs.map kOf).map fun k => (match k with | .inr x => x | .inl _ => Str.empty), ?_, ?_⟩
    · rw [List.map_map]
      have : ∀ k ∈ vs.map kOf, k = Sum.inr (match k with | .inr x => x | .inl _ => Str.empty) := fun k hk => by
        obtain ⟨x, _, e⟩ := List.mem_map.mp (pk.mem_iff.mp hk)
        rw [← e]
      conv => lhs; rw [← List.map_id (vs.map kOf)]
      exact List.map_congr_left this
    · have q := pk.map fun k : Key => (match k with | .inr x => x | .inl _ => Str.empty)
      rw [List.map_map (l := ss)] at q
      have e : (ss.map ((fun k : Key => (match k with | .inr x => x | .inl _ => Str.empty)) ∘ Sum.inr)) = ss := by
        conv => rhs; rw [← List.map_id ss]
        exact List.map_congr_left fun _ _ => rfl
      rw [e] at q
      exact q
  have hS : StrsAre vs ts := strs_of_keys et fun v hv => by
    obtain ⟨e, he, q⟩ := List.mem_map.mp (pm.mem_iff.mp hv)
    rw [← q]
    exact (g e he).1
  have hvl : vs.length = ss.length := by
    have := pk.length_eq
    rw [List.length_map, List.length_map] at this
    exact this
  refine wpAny_bind (wpAny_newList ?_ (by rw [hvl, sizeLine_eq]; omega))
  have hoL : (s1.heap.push (seqObj "list" vs.toArray 0)).get? s1.heap.objs.size = some (seqObj "list" vs.toArray 0) := Heap.get?_push_size _ rfl
  refine wpAny_bind (wpAny_holding (wpAny_call_entry slot_list_sort ⟨_, hoL, rfl⟩ entry_list_sort
    (list_sort_treeK strKind_oneLt hoL hS.keysOf (fun v₁ v₂ rest e => keyKind_strs (by rw [← e]; exact hS)) (by rw [hvl]; exact h64) fun st' hp hs => ⟨_, rfl, ?_⟩) (args_list_sort _)))
  obtain ⟨ys, g1', g2, g3⟩ := sorted_out_str hS hp hs
  obtain ⟨c, hc⟩ := sortedHeap_at (vs := vs) (out := (arrOf st').map (·.2)) hoL
  refine wpAny_pure ⟨_, rfl, hQ _ s1.heap.objs.size ((arrOf st').map (·.2)) c ys (fun b u e => ?_) g1 o1 hz hc g1' (g2.trans pt) g3⟩
  have q := k1 b u e
  have hlt := Heap.lt_size q
  show (sortedHeap (s1.heap.push (seqObj "list" vs.toArray 0)) s1.heap.objs.size vs ((arrOf st').map (·.2))).get? b = some u
  rw [sortedHeap_old (Nat.ne_of_lt hlt) (by rw [Heap.size_push]; exact Nat.lt_succ_of_lt hlt)]
  exact Heap.get?_push_of_some _ q
end

/-! ### the rules -/
/-- a set of keys, tracked -/
def SW (w : World) (a : Addr) (l : List Key) : HO := .ext fun h => SetW w h a l
section
variable {X : Cx}
theorem sw_new {H : Hp} {h : Heap} {a : Addr} {l : List Key} {P : Program} {w : World} (R : SetW w h a l) : ObjOk P w H h a (SW w a l) := by
  have ⟨o, _, _, _, ho, _⟩ := R
  exact ⟨R, ⟨o, ho⟩, fun h1 h2 p k => p.at k⟩
theorem sw_get {pins : List (Addr × Obj)} {σ : L2.St} {H : Hp} {s : Shared} {a : Addr} {l : List Key} (I : Inv X pins σ H s) (ha : H a = some (SW X.w a l)) : SetW X.w s.heap a l := (I.hok a _ ha).1
/-- set(z) -/
theorem cr_setStr (hc : X.calm = true) : CallR X (.type "set") (fun vs H Q => ∃ z : Str, vs = [.str z] ∧ z.length < scanBound ∧
    ∀ p l, H p = none → l.Nodup → (∀ x, Sum.inr x ∈ l ↔ x ∈ letts z) → (∀ k ∈ l, ∃ x, k = Sum.inr x) → Q (.ref p) (upd H p (SW X.w p l))) := by
  intro pins s σ H vs us Q I r h
  obtain ⟨z, rfl, hz, q⟩ := h
  obtain ⟨u, rfl, t, rfl⟩ := vals1 r
  refine call_set_w (I.ok.hd hc) (n := z.cps.size) hz fills_text fun h' tk l k R m => ?_
  have hm : ∀ k, k ∈ l ↔ ∃ x ∈ letts z, k = Sum.inr x := fun k => by
    rw [m k]
    constructor
    · rintro ⟨j, hj, e⟩
      refine ⟨one (z.cps.getD j 0), ?_, e⟩
      unfold letts
      refine List.mem_map.mpr ⟨_, ?_, rfl⟩
      rw [Array.getD_eq_getD_getElem?, Array.getElem?_eq_getElem hj]
      exact Array.mem_toList_iff.mpr (Array.getElem_mem hj)
    · rintro ⟨x, hx, e⟩
      obtain ⟨c, hc, e2⟩ := List.mem_map.mp hx
      obtain ⟨j, hj, e3⟩ := List.getElem_of_mem hc
      rw [Array.length_toList] at hj
      refine ⟨j, hj, ?_⟩
      rw [e, ← e2, Array.getD_eq_getD_getElem?, Array.getElem?_eq_getElem hj]
      rw [Array.getElem_toList] at e3
      rw [e3]; rfl
  refine ⟨.ref s.heap.objs.size, _, I.laid (t' := tk) k (Nat.le_refl _) (sw_new R), rfl, q _ l (I.hok.fresh (Nat.le_refl _)) R.nodup (fun x => ?_) fun k hk => ?_⟩
  · rw [hm]
    exact ⟨fun ⟨y, hy, e⟩ => by cases e; exact hy, fun hy => ⟨x, hy, rfl⟩⟩
  · obtain ⟨x, _, e⟩ := (hm k).mp hk
    exact ⟨x, e⟩
/-- sorted of such a set of texts -/
theorem cr_sortedW (hc : X.calm = true) : CallR X (.builtin "sorted") (fun vs H Q => ∃ (a : Addr) (ss : List Str), vs = [.ref a] ∧ H a = some (SW X.w a (ss.map Sum.inr)) ∧ ss.length < 64 ∧
    ∀ ys p, ys.Perm ss → sortedS ys = true → H p = none → Q (.ref p) (upd H p (.lst (ys.map V.str)))) := by
  intro pins s σ H vs us Q I r h
  obtain ⟨a, ss, rfl, ha, h64, q⟩ := h
  rw [Vals.ref1 r]
  refine sorted_w (sw_get I ha) (I.ok.hd hc) h64 fun s' p out c ys k g o hp hg hs hpm hso => ?_
  have hlen : (ys.map V.str).length ≤ sizeLine := by rw [List.length_map, hpm.length_eq, sizeLine_eq]; omega
  have hn : H p = none := I.hok.fresh hp
  have J : Inv X pins σ (upd H p (.lst (ys.map V.str))) { s with heap := s'.heap, gens := s'.gens, drawn := s'.drawn, toks := s'.toks } :=
    I.call (ch := []) (Un.laid k hp hn) (I.hok.laid k hp ⟨hlen, out.toList, c, vals_of_strs hs, hg⟩) (by rw [g]; exact I.bare) (fun _ z => nomatch z)
  have e : s' = { s with heap := s'.heap, gens := s'.gens, drawn := s'.drawn, toks := s'.toks } := by
    cases s'
    cases s
    cases o
    rfl
  rw [e]
  exact ⟨.ref p, _, J, rfl, q ys p hpm hso hn⟩
end
end Ami

set_option Elab.async false
set_option linter.all false
set_option maxRecDepth 100000
set_option maxHeartbeats 2000000
namespace Ami
open PySem PySem.Spec PyProof.Rows L2

/-- a def keeps a promise where nothing is being shown: no guard of repr stands below -/
structure FnG (P : Program) (w : World) (K : PySem.W.Frag) (mg : Str → Option Value) (base : Heap) (CX : CXT) (k : Nat) (f : Addr) (fd : FuncData) (ps : List Str) (sp : Sp) : Prop where
  len : ∀ vs H Q E, sp vs H Q E → vs.length = ps.length
  run : ∀ (A : Around) (outer : List Env) (s : Shared) (H : Hp) (args : Args) (us : List Value) (vs : List V) (Q : VK) (E : XK), A.guards = some [] → Room k A → Env0 P w K mg base A outer s H →
    BindsTo s fd args (ps.zip us) → Vals vs us → sp vs H Q E → codeAny (model P w) A (.call (.ref f) args) (CR CX outer P w H s Q E) s
theorem FnG.of {P : Program} {w : World} {K : PySem.W.Frag} {mg : Str → Option Value} {base : Heap} {CX : CXT} {k : Nat} {f : Addr} {fd : FuncData} {ps : List Str} {sp : Sp} (F : FnOk P w K mg base CX k f fd ps sp) : FnG P w K mg base CX k f fd ps sp :=
  ⟨F.len, fun A outer s H args us vs Q E _ => F.run A outer s H args us vs Q E⟩
theorem guards_deeper {A : Around} (env : Env) (h : A.guards = some []) : (A.deeper env).guards = some [] := by
  show (A.guards) = some []
  exact h

section
variable {P : Program} {w : World} {K : PySem.W.Frag} {mg : Str → Option Value} {base : Heap}
theorem Fun.okG {x qual : Str} {st : Stmt} {f : Addr} {fd : FuncData} {N ps : List Str} {k : Nat} {sp : Sp} (F : Fun K x qual st f fd) (S : FnScope N ps (defScope st)) (len : ∀ vs H Q E, sp vs H Q E → vs.length = ps.length)
    (hbody : ∀ (cdv : Value) (A : Around) (outer : List Env) (s : Shared) (H : Hp) (vs : List V) (Q : VK) (E : XK), A.guards = some [] → Room k (A.deeper (envOfC qual (defScope st) s.heap.objs.size f cdv)) → sp vs H Q E →
      ∃ t, PSs (cxOf CX0 P w K mg base N qual (defScope st) f cdv A outer s H E).nox (defBody st) t ∧ t { nx := fun _ H' => Q .non H', rt := Q } (start N vs) H) : FnG P w K mg base CX0 (k + 1) f fd ps sp := by
  obtain ⟨oc, od, kV, doc, pm, an, cdv, ct, osl, rfl, lk, hcd⟩ := F.ex
  refine ⟨len, fun A outer s H args us vs Q E hg hr e0 hb r hsp => ?_⟩
  have hl := len _ _ _ _ hsp
  have KX : K.In s.heap := e0.mod.kin.keeps fun b o e => (e0.bs b o e).1
  have lim : s.heap.NoLimit := e0.mod.nolimit.keeps fun b o e => (e0.bs b o e).1
  have par : ∀ y ∈ ps.zip us, (defScope st).names.lookup y.1 = some .local ∨ ((defScope st).names.lookup y.1 = some .cell ∧ ((cellsFrom (s.heap.objs.size + 1) (defScope st).names []).lookup y.1).isSome = true) := fun ⟨n, v⟩ hy => by
    rcases S.par n (List.of_mem_zip hy).1 with q | q
    · exact .inl q
    · exact .inr ⟨q, PySem.W.cellsFrom_some _ _ _ (.inl q)⟩
  refine codeAny_call_function hr.depth (KX _ _ lk) rfl S.co S.gen rfl (PySem.W.codeRec_of KX hcd) (hb _ _ _ _ ?_)
  refine wpAny_newFunctionEnv_cells S.kind par fun env he s1 x => ?_
  subst he
  refine ⟨lim.keeps x.toInCall.keep, codeAny_func ?_⟩
  obtain ⟨t, ht, hq⟩ := hbody cdv A outer s H vs Q E hg (hr.deeper _) hsp
  have I : Inv (cxOf CX0 P w K mg base N qual (defScope st) f cdv A outer s H E) [] (start N vs) H s1 := inv_start S hr.hd e0 hl r x
  refine wpAny_mono (ht.nox.run [] s1 (start N vs) H _ I hq) (fun fl s' hs => ?_) fun e s' hs => hs
  have fin : ∀ {σ' : L2.St} {H' : Hp} {v : V} {u : Value}, Inv (cxOf CX0 P w K mg base N qual (defScope st) f cdv A outer s H E) [] σ' H' s' → RelV v u → Q v H' → CE outer P w H s Q u s' :=
    fun {σ' H' v u} J rv q => ⟨v, H', J.os, J.bare, J.base, J.hok, rv, q⟩
  cases fl with
  | ret u => obtain ⟨v, σ', H', J, rv, q⟩ := hs; exact fin J rv q
  | next => obtain ⟨σ', H', J, q⟩ := hs; exact fin (v := V.non) (u := Value.none) J rfl q
  | brk => obtain ⟨_, _, _, q⟩ := hs; exact False.elim q
  | cont => obtain ⟨_, _, _, q⟩ := hs; exact False.elim q
end

section
variable {X : Cx} {CX : CXT} {k : Nat} {f C : Addr} {fd : FuncData} {ps : List Str} {sp : Sp} {dvs : List V} {ds : List Value} {E : XK} {x m : Str} {p pos apos : Pos} {e o : Expr} {es : List Expr} {ta : TE} {t : TA}
theorem run_fnG {pins : List (Addr × Obj)} {σ : L2.St} {H : Hp} {s : Shared} {Q : VK} {us : List Value} {vs : List V} (F : FnG X.prog X.w X.K X.mg X.base CX k f fd ps sp) (hg : X.A.guards = some []) (hr : Room k X.A) (hb : Binds X.K fd ps ds) (hd : Vals dvs ds) (hx : Passes CX X E)
    (I : Inv X pins σ H s) (r : Vals vs us) (h : sp (vs ++ dvs) H Q E) : wpAny (model X.prog X.w) X.A (call (.ref f) us) (EP X pins σ Q) X.xe s := by
  have r2 : Vals (vs ++ dvs) (us ++ ds) := r.append hd
  have hl : (us ++ ds).length = ps.length := by rw [← r2.length]; exact F.len _ _ _ _ h
  refine wpAny_call (codeAny_mono (F.run X.A X.stack s H ⟨us, []⟩ (us ++ ds) (vs ++ dvs) Q E hg hr I.env0 (hb s us I.kIn hl) r2 h) fun r s' hq => ?_)
  cases r with
  | error e => exact hx pins σ H s e s' I hq
  | ok fl =>
    cases fl with
    | ret u => exact I.after hq
    | next => exact False.elim hq
    | brk => exact False.elim hq
    | cont => exact False.elim hq
theorem pe_callG (F : FnG X.prog X.w X.K X.mg X.base CX k f fd ps sp) (hg : X.A.guards = some []) (hr : Room k X.A) (hgl : Gl X x) (hm : X.mg x = some (.ref f)) (hk : PySem.W.keepIn X.K (.ref f) = true) (hb : Binds X.K fd ps ds) (hd : Vals dvs ds) (hx : Passes CX X E)
    (ha : PA X (e :: es) t) (hdb : (x == ("__debug__" : Str)) = false := by decide) (he : starEach (e :: es) X.env = (false, eval e X.env) :: starEach es X.env := by rfl) (hpl : (backTo pos (starEach es X.env)).any (·.1) = false := by rfl) :
    PE X (.Call (.Name x p) (e :: es) [] pos) (tCall sp dvs E t) := by
  refine ⟨fun pins s σ H Q I h => ?_⟩
  refine wpAny_Call_Name_kw (ld_glob I hgl hm ?_ hdb)
  refine PySem.W.callWith_K (h₀ := X.base) I.ok.mod.kin hk (thn (ha.run pos pins s σ H _ I h) fun us s1 ⟨vs, H1, I1, r, q⟩ => ⟨I1.kIn, ?_⟩) he hpl
  exact run_fnG F hg hr hb hd hx I1 r q
end

/-- the law's call, at the heap behind the top -/
theorem law_callG {P : Program} {w : World} {K : PySem.W.Frag} {mg mb : Str → Option Value} {k : Nat} {fa a : Addr} {fd : FuncData} {x : Str} {sp : Sp} {s₁ : Shared} {vs : List Value} {ns : List Int}
    (KX : K.In s₁.heap) (hns : s₁.heap.Ns mainGlobals mg) (hb : s₁.heap.Ns builtinsNs mb) (hbb : ∀ x : Str, x ≠ "__name__" → mb x = bootBuiltins x) (hlim : s₁.heap.NoLimit) (hg : s₁.gens = #[])
    (ha : s₁.heap.get? a = some { cls := .type "list", data := .seq vs.toArray }) (hi : IntsAre vs ns) (hl : ns.length ≤ sizeLine) (hr : Room k callerA)
    (F : ∀ base : Heap, K.In base → base.Ns mainGlobals mg → FnG P w K mg base CX0 k fa fd [x] sp) (hbind : ∀ (s : Shared) (u : Value), BindsTo s fd ⟨[u], []⟩ [(x, u)])
    (hsp : ∀ H : Hp, Only H → SqL K H a (ns.map V.int) → sp [.ref a] H (fun v _ => v = .bl true) fun _ _ _ => False) :
    codeAny (model P w) callerA (.call (.ref fa) ⟨[.ref a], []⟩) (fun r s' => r = .ok (.ret (.bool true)) ∧ OldK s₁.heap s'.heap ∧ s'.os = s₁.os ∧ AllBare s'.gens) s₁ := by
  have hfake : ∀ (H0 : Hp), (∀ b, H0 b ≠ none → b = a) → Only H0 → SqL K H0 a (ns.map V.int) → HOk P w H0 s₁.heap → (H0 a ≠ none → K.lookup a = none) →
      codeAny (model P w) callerA (.call (.ref fa) ⟨[.ref a], []⟩) (fun r s' => r = .ok (.ret (.bool true)) ∧ OldK s₁.heap s'.heap ∧ s'.os = s₁.os ∧ AllBare s'.gens) s₁ := by
    intro H0 hA hO hS hok hK
    have isList : ∀ {b : Addr}, H0 b ≠ none → s₁.heap.get? b = some { cls := .type "list", data := .seq vs.toArray } := fun {b} h => by rw [hA b h]; exact ha
    have untr : ∀ {b : Addr} {o : Obj} {es : Array DictEntry} {ep : Nat}, s₁.heap.get? b = some o → o.data = .dict es ep → H0 b = none := fun {b o es ep} e d => by
      refine Classical.byContradiction fun c => ?_
      have e2 := isList c
      rw [e] at e2
      rw [Option.some.inj e2] at d
      exact nomatch d
    have hbase : ∀ {b : Addr} {o : Obj}, s₁.heap.get? b = some o → H0 b = none → (hidT s₁.heap H0).get? b = some o := fun e n => hidT_get e n
    have nsK : ∀ {b : Addr} {m : Str → Option Value}, s₁.heap.Ns b m → (hidT s₁.heap H0).Ns b m := fun {b m} ⟨o, es, ep, e, d, r⟩ => ⟨o, es, ep, hbase e (untr e d), d, r⟩
    have inK : K.In (hidT s₁.heap H0) := fun b o e => hbase (KX b o e) (Classical.byContradiction fun c => by
      have z := hA b c
      subst z
      rw [hK c] at e
      cases e)
    obtain ⟨mc, n1, n2⟩ := hlim
    have hM : Mod K mg (hidT s₁.heap H0) := ⟨inK, nsK hns, ⟨mb, nsK hb, hbb⟩, mc, nsK n1, n2⟩
    have e0 : Env0 P w K mg (hidT s₁.heap H0) callerA [] s₁ H0 := ⟨rfl, hM, fun b o e => of_hidT e, Nat.le_of_eq (hidT_size _ _), trivial, fun b hb => absurd (show b ∈ ([] : List Addr) from hb) (by simp), hok, .of_eq hg⟩
    refine codeAny_mono ((F _ inK (nsK hns)).run callerA [] s₁ H0 ⟨[.ref a], []⟩ [.ref a] [.ref a] _ _ rfl hr e0 (hbind s₁ (.ref a)) (.cons rfl .nil) (hsp H0 hO hS)) fun r s' h => ?_
    cases r with
    | error e => exact False.elim h
    | ok fl =>
      cases fl with
      | next => exact False.elim h
      | brk => exact False.elim h
      | cont => exact False.elim h
      | ret u =>
        obtain ⟨v, H', os, bare, un, hok', rv, q⟩ := h
        have q' : v = .bl true := q
        subst q'
        have hu : u = Value.bool true := rv
        subst hu
        refine ⟨rfl, OldK.of_keep fun b o e => ?_, os, bare⟩
        rcases hO b with z | ⟨ob, xs, z⟩
        · exact un.keep b o e z (fun m => absurd (show b ∈ ([] : List Addr) from m) (by simp)) (by simp)
        · have p1 := (hok b _ z).1
          have p2 := (hok' b _ (un.frzs b ob _ z)).1
          rw [e] at p1
          rw [Option.some.inj p1]
          exact p2
  cases hk : K.lookup a with
  | some o =>
    have e := KX a o hk
    rw [ha] at e
    cases e
    exact hfake (fun _ => none) (fun b z => absurd rfl z) (fun _ => .inl rfl) (.inr ⟨_, vs.toArray, _, hk, rfl, rfl, rfl, by rw [List.size_toArray, hi.length]; exact hl, by simpa using vals_ints hi⟩) (fun b u z => nomatch (show (none : Option HO) = some u from z)) fun z => absurd rfl z
  | none =>
    refine hfake (fun b => if b = a then some (.frz { cls := .type "list", data := .seq vs.toArray } (.lst (ns.map V.int))) else none) (fun b z => ?_) (fun b => ?_) (.inl (.inr ⟨{ cls := .type "list", data := .seq vs.toArray }, if_pos rfl⟩)) (fun b u z => ?_) fun _ => hk
    · exact Classical.byContradiction fun c => z (if_neg c)
    · by_cases c : b = a
      · exact .inr ⟨_, _, if_pos c⟩
      · exact .inl (if_neg c)
    · by_cases c : b = a
      · have z' := (if_pos c).symm.trans z
        cases z'
        subst c
        exact ⟨ha, by rw [List.length_map]; exact hl, vs, _, vals_ints hi, ha⟩
      · exact nomatch (if_neg c).symm.trans z

/-- the end: what k_head leaves, from the law's promise -/
theorem walk_ofG {l : PySem.W.OpenLaw} {n k : Nat} {q : Program} {loose : List Str} {XP : (Str → Option Value) → Heap → Prop} {YP : World → Heap → Prop} {d : DefRec} {K : Params → PySem.W.Frag} {sp : World → Sp} {x : Str}
    (hn : l.most = some n) (hn2 : n ≤ sizeLine) (hdf : d.params.defaults = []) (hr : Room k callerA) (hY : ∀ (w : World) (h : Heap), YP w h → (K w.params).In h)
    (F : ∀ (w : World) (mg : Str → Option Value) (fa : Addr) (h : Heap), (K w.params).In h → h.Ns mainGlobals mg → mg d.name = some (.ref fa) →
      ∃ fd : FuncData, (∀ (s : Shared) (u : Value), BindsTo s fd ⟨[u], []⟩ [(x, u)]) ∧
        ∀ base : Heap, (K w.params).In base → base.Ns mainGlobals mg → FnG l.prog w (K w.params) mg base CX0 k fa fd [x] (sp w))
    (hsp : ∀ (w : World) (H : Hp) (a : Addr) (ns : List Int), ns.length ≤ n → Only H → SqL (K w.params) H a (ns.map V.int) → sp w [.ref a] H (fun v _ => v = .bl true) fun _ _ _ => False) :
    PySem.W.WalkO q loose XP YP l.row.toRowW d [] (fun f vs => PySem.call f vs) := by
  refine Att.attach_call hn hdf fun w s₀ s₁ mg mb fa o pm cd doc a vs ns G Y ho hd hcd hmg hobj hints hlen hg => ?_
  obtain ⟨fd, hb, hF⟩ := F w mg fa _ (hY w _ Y) G.T.g hmg
  exact law_callG (hY w _ Y) G.T.g G.T.b G.T.builtins G.T.nolimit hg hobj hints (Nat.le_trans hlen hn2) hr hF hb fun H hO hS => hsp w H a ns hlen hO hS
end Ami

set_option Elab.async false
set_option linter.all false
set_option maxRecDepth 100000
set_option maxHeartbeats 2000000
namespace Ami
open PySem PySem.Spec PyProof.Rows L2

/-! ### calls by keywords alone -/
section
variable {X : Cx} {CX : CXT} {k : Nat} {f C : Addr} {fd : FuncData} {ps ks : List Str} {sp : Sp} {E : XK} {x : Str} {p pos : Pos} {kws : List Keyword} {tk : TA} {g : List Value → List Value → List Value} {gV : List V → List V → List V}
theorem pe_callK0 (F : FnOk X.prog X.w X.K X.mg X.base CX k f fd ps sp) (hr : Room k X.A) (hg : Gl X x) (hm : X.mg x = some (.ref f)) (hk : PySem.W.keepIn X.K (.ref f) = true) (hb : KBinds X.K fd ps ks g gV) (hx : Passes CX X E) (hkw : PK X kws tk)
    (hall : (backToKw pos (keywordEach kws X.env)).all (·.1.isSome) = true := by rfl) (hks : (backToKw pos (keywordEach kws X.env)).filterMap (·.1) = ks := by rfl) (hdb : (x == ("__debug__" : Str)) = false := by decide)
    (hpl : ((backTo pos (starEach [] X.env)).any (·.1) || (backToKw pos (keywordEach kws X.env)).any (·.1.isNone)) = false := by rfl) :
    PE X (.Call (.Name x p) [] kws pos) (tCallK sp gV E tNil tk) := by
  refine ⟨fun pins s σ H Q I h => ?_⟩
  refine wpAny_Call_Name_kw (ld_glob I hg hm ?_ hdb)
  refine PySem.W.callWith_KW0 (h₀ := X.base) I.ok.mod.kin hk hall ?_ hpl
  refine thn (hkw.run pos pins s σ H _ I h) fun ws s2 ⟨zs, H2, I2, rz, q2⟩ => ⟨I2.kIn, ?_⟩
  rw [hks]
  exact run_fnk F hr hb hx I2 .nil rz q2
end

/-! ### a def of the text, with all that a call of it wants -/
structure DefAt (K : PySem.W.Frag) (mg : Str → Option Value) (x : Str) (st : Stmt) (ps : List Str) (f : Addr) (fd : FuncData) : Prop where
  F : Fun K x x st f fd
  b : Binds K fd ps []
  g : mg x = some (.ref f)
section
variable {X : Cx} {k : Nat} {f : Addr} {fd : FuncData} {ps : List Str} {sp : Sp} {x : Str} {st : Stmt} {p pos : Pos} {e : Expr} {es : List Expr} {t : TA}
/-- f(e, ..), of a def that lets nothing out -/
theorem pc (D : DefAt X.K X.mg x st ps f fd) (G : FnOk X.prog X.w X.K X.mg X.base CX0 k f fd ps sp) (hr : Room k X.A) (ha : PA X (e :: es) t) (hg : Gl X x := by rfl) (hdb : (x == ("__debug__" : Str)) = false := by decide)
    (he : starEach (e :: es) X.env = (false, eval e X.env) :: starEach es X.env := by rfl) (hpl : (backTo pos (starEach es X.env)).any (·.1) = false := by rfl) : PE X (.Call (.Name x p) (e :: es) [] pos) (tCall sp [] E0 t) :=
  pe_call G hr hg D.g D.F.kp D.b .nil pass0 ha hdb he hpl
theorem pcG (D : DefAt X.K X.mg x st ps f fd) (G : FnG X.prog X.w X.K X.mg X.base CX0 k f fd ps sp) (hgu : X.A.guards = some []) (hr : Room k X.A) (ha : PA X (e :: es) t) (hg : Gl X x := by rfl) (hdb : (x == ("__debug__" : Str)) = false := by decide)
    (he : starEach (e :: es) X.env = (false, eval e X.env) :: starEach es X.env := by rfl) (hpl : (backTo pos (starEach es X.env)).any (·.1) = false := by rfl) : PE X (.Call (.Name x p) (e :: es) [] pos) (tCall sp [] E0 t) :=
  pe_callG G hgu hr hg D.g D.F.kp D.b .nil pass0 ha hdb he hpl
end

/-! ### the deck -/
/-- all but d and c stands as it stood -/
def But (d c : Addr) (H H' : Hp) : Prop := ∀ b o, b ≠ d → b ≠ c → H b = some o → H' b = some o
theorem But.refl (d c : Addr) (H : Hp) : But d c H H := fun _ _ _ _ e => e
theorem But.trans {d c : Addr} {H H1 H2 : Hp} (a : But d c H H1) (b : But d c H1 H2) : But d c H H2 := fun x o h1 h2 e => b x o h1 h2 (a x o h1 h2 e)
theorem But.same {d c : Addr} {H H' : Hp} (s : Same H H') : But d c H H' := fun b o _ _ e => s b o e
theorem Same.upd {H : Hp} {p : Addr} {o : HO} (hp : H p = none) : Same H (L2.upd H p o) := fun b u e => by
  rw [upd_ne (ne_of_none e hp)]; exact e
theorem But.new {d c : Addr} {H H' : Hp} (s : But d c H H') {p : Addr} {o : HO} (hp : H' p = none) : But d c H (L2.upd H' p o) := fun b u h1 h2 e => by
  have e' := s b u h1 h2 e
  rw [upd_ne (ne_of_none e' hp)]
  exact e'

/-- what stays whatever the deck does -/
def Stay (d c : Addr) (φ : Hp → Prop) (H : Hp) : Prop := ∀ H', But d c H H' → φ H'
theorem Stay.now {d c : Addr} {φ : Hp → Prop} {H : Hp} (h : Stay d c φ H) : φ H := h H (But.refl d c H)
theorem Stay.go {d c : Addr} {φ : Hp → Prop} {H H' : Hp} (h : Stay d c φ H) (k : But d c H H') : Stay d c φ H' := fun _ k' => h _ (k.trans k')
theorem Stay.all {d c : Addr} {φ : Hp → Prop} {H : Hp} (h : ∀ H', φ H') : Stay d c φ H := fun H' _ => h H'
theorem Stay.mono {d c : Addr} {φ ψ : Hp → Prop} {H : Hp} (h : Stay d c φ H) (i : ∀ H', φ H' → ψ H') : Stay d c ψ H := fun H' k => i _ (h H' k)

/-- the deck at d, its cells at c, behind n draws -/
def DeckAt (H : Hp) (d c : Addr) (n : Nat) : Prop := c ≠ d ∧ ∃ (b : Int) (cells : List Int), H d = some (.lst [.ref c, .int b, .int n]) ∧ H c = some (.lst (cells.map V.int)) ∧ cells.length ≤ 63
theorem DeckAt.same {H H' : Hp} {d c : Addr} {n : Nat} (D : DeckAt H d c n) (s : Same H H') : DeckAt H' d c n := by
  obtain ⟨h, b, cells, h1, h2, h3⟩ := D
  exact ⟨h, b, cells, s _ _ h1, s _ _ h2, h3⟩
theorem DeckAt.ned {H : Hp} {d c p : Addr} {n : Nat} (D : DeckAt H d c n) (hp : H p = none) : p ≠ d ∧ p ≠ c := by
  obtain ⟨h, b, cells, h1, h2, h3⟩ := D
  exact ⟨fun e => (by rw [e, h1] at hp; cases hp), fun e => (by rw [e, h2] at hp; cases hp)⟩
theorem DeckAt.new {H : Hp} {d c p : Addr} {n : Nat} {o : HO} (D : DeckAt H d c n) (hp : H p = none) : DeckAt (upd H p o) d c n := D.same (Same.upd hp)
theorem DeckAt.set {H : Hp} {d c p : Addr} {n : Nat} {o : HO} (D : DeckAt H d c n) (h1 : p ≠ d) (h2 : p ≠ c) : DeckAt (upd H p o) d c n := by
  obtain ⟨h, b, cells, e1, e2, e3⟩ := D
  exact ⟨h, b, cells, by rw [upd_ne (Ne.symm h1)]; exact e1, by rw [upd_ne (Ne.symm h2)]; exact e2, e3⟩

/-- a draw below bd: any number there is -/
def spDraw : Sp := fun vs H Q _ => ∃ (d c : Addr) (n : Nat) (bd : Int), vs = [.ref d, .int bd] ∧ 0 < bd ∧ bd < 1073741824 ∧ n < 1000000 ∧ DeckAt H d c n ∧
  ∀ (H' : Hp) (r : Int), 0 ≤ r → r < bd → DeckAt H' d c (n + 1) → But d c H H' → Q (.int r) H'

/-- an item of a list or a tuple, or a sign of a text -/
inductive Some1 (K : PySem.W.Frag) (H : Hp) : V → List V → Prop
  | lst {a : Addr} {xs : List V} (h : SqL K H a xs) : Some1 K H (.ref a) xs
  | txt (z : Str) (h : z.length ≤ sizeLine) : Some1 K H (.str z) ((letts z).map V.str)
def spPick (K : PySem.W.Frag) : Sp := fun vs H Q _ => ∃ (d c : Addr) (n : Nat) (x : V) (xs : List V), vs = [.ref d, x] ∧ xs ≠ [] ∧ xs.length < 1073741824 ∧ n < 1000000 ∧ DeckAt H d c n ∧ Stay d c (fun H' => Some1 K H' x xs) H ∧
  ∀ (H' : Hp) (y : V), y ∈ xs → DeckAt H' d c (n + 1) → But d c H H' → Q y H'
end Ami

set_option Elab.async false
set_option linter.all false
set_option maxRecDepth 100000
set_option maxHeartbeats 2000000
namespace Ami
open PySem PySem.Spec PyProof.Rows L2

/-! ### rows of flat values as data -/
def fD : V → PyData
  | .bl b => .bool b
  | .int i => .int i
  | .str x => .str x
  | _ => .none
/-- None, a bool, an int, a text that can be laid -/
def okF : V → Bool
  | .non => true
  | .bl _ => true
  | .int _ => true
  | .str x => PyData.strOk x
  | _ => false
theorem dp_flat {K : PySem.W.Frag} {H : Hp} : ∀ {v : V}, okF v = true → Dp K H v (fD v)
  | .non, _ => .non
  | .bl b, _ => .bl b
  | .int i, _ => .int i
  | .str x, _ => .str x
theorem dpAll_flat {K : PySem.W.Frag} {H : Hp} : ∀ {xs : List V}, xs.all okF = true → DpAll K H xs (xs.map fD)
  | [], _ => .nil
  | v :: xs, h => by
    rw [List.all_cons, Bool.and_eq_true] at h
    exact .cons (dp_flat h.1) (dpAll_flat h.2)
theorem dq_flat {K : PySem.W.Frag} {H : Hp} : ∀ {v : V}, okF v = true → Dq K H v (fD v)
  | .non, _ => .non
  | .bl b, _ => .bl b
  | .int i, _ => .int i
  | .str x, _ => .str x
theorem dqAll_flat {K : PySem.W.Frag} {H : Hp} : ∀ {xs : List V}, xs.all okF = true → DqAll K H xs (xs.map fD)
  | [], _ => .nil
  | v :: xs, h => by
    rw [List.all_cons, Bool.and_eq_true] at h
    exact .cons (dq_flat h.1) (dqAll_flat h.2)
theorem canLay_flat : ∀ {v : V}, okF v = true → (fD v).canLay0 = true
  | .non, _ => rfl
  | .bl _, _ => rfl
  | .int _, _ => rfl
  | .str x, h => h
theorem canLayAll_flat : ∀ {xs : List V}, xs.all okF = true → PyData.canLayAll0 (xs.map fD) = true
  | [], _ => rfl
  | v :: xs, h => by
    rw [List.all_cons, Bool.and_eq_true] at h
    show ((fD v).canLay0 && PyData.canLayAll0 (xs.map fD)) = true
    rw [canLay_flat h.1, canLayAll_flat h.2]; rfl
theorem depth_flat : ∀ v : V, (fD v).depth = 0
  | .non => rfl
  | .bl _ => rfl
  | .int _ => rfl
  | .str _ => rfl
  | .byt _ => rfl
  | .flt _ => rfl
  | .ref _ => rfl
  | .ty _ => rfl
theorem depthAll_flat : ∀ xs : List V, PyData.depthAll (xs.map fD) = 0
  | [] => rfl
  | v :: xs => by
    show max (fD v).depth (PyData.depthAll (xs.map fD)) = 0
    rw [depth_flat, depthAll_flat]; rfl
theorem shaped_list {xs : List V} (h : xs.all okF = true) : SeqAt.shaped (.list (xs.map fD)) = true := by
  show ((PyData.list (xs.map fD)).canLay0 && decide ((PyData.list (xs.map fD)).depth ≤ 64)) = true
  have e1 : (PyData.list (xs.map fD)).canLay0 = true := canLayAll_flat h
  have e2 : (PyData.list (xs.map fD)).depth = 1 := by
    show PyData.depthAll (xs.map fD) + 1 = 1
    rw [depthAll_flat]
  rw [e1, e2]; rfl
theorem shaped_tup {xs : List V} (h : xs.all okF = true) : SeqAt.shaped (.tuple (xs.map fD)) = true := by
  show ((PyData.tuple (xs.map fD)).canLay0 && decide ((PyData.tuple (xs.map fD)).depth ≤ 64)) = true
  have e1 : (PyData.tuple (xs.map fD)).canLay0 = true := canLayAll_flat h
  have e2 : (PyData.tuple (xs.map fD)).depth = 1 := by
    show PyData.depthAll (xs.map fD) + 1 = 1
    rw [depthAll_flat]
  rw [e1, e2]; rfl
theorem eqvAll_nil : ∀ xs : List V, PyData.eqvAll (xs.map fD) [] = xs.isEmpty
  | [] => rfl
  | _ :: _ => rfl
theorem all_ints (ns : List Int) : (ns.map V.int).all okF = true := by
  rw [List.all_eq_true]
  intro v hv
  obtain ⟨n, _, rfl⟩ := List.mem_map.mp hv
  rfl
theorem all_bls (bs : List Bool) : (bs.map V.bl).all okF = true := by
  rw [List.all_eq_true]
  intro v hv
  obtain ⟨n, _, rfl⟩ := List.mem_map.mp hv
  rfl

/-- xs != [], xs == [] over flat items: the answer -/
theorem ne_nil {K : PySem.W.Frag} {H : Hp} {a p : Addr} {xs : List V} {Q : VK} (ha : SqL K H a xs) (hp : SqL K H p []) (h : xs.all okF = true) (q : Q (.bl (!xs.isEmpty)) H) : rNeD K (.ref a) (.ref p) H Q :=
  ⟨_, _, .lst ha (dpAll_flat h), .lst hp .nil, shaped_list h, rfl, by
    have e : PyData.eqv (.list (xs.map fD)) (.list []) = xs.isEmpty := eqvAll_nil xs
    rw [e]; exact q⟩
theorem eq_nil {K : PySem.W.Frag} {H : Hp} {a p : Addr} {xs : List V} {Q : VK} (ha : SqL K H a xs) (hp : SqL K H p []) (h : xs.all okF = true) (q : Q (.bl xs.isEmpty) H) : rEqD K (.ref a) (.ref p) H Q :=
  ⟨_, _, .lst ha (dpAll_flat h), .lst hp .nil, shaped_list h, rfl, by
    have e : PyData.eqv (.list (xs.map fD)) (.list []) = xs.isEmpty := eqvAll_nil xs
    rw [e]; exact q⟩
theorem pow18 : CPow 10 18 := ⟨by decide, by decide, by decide⟩
theorem pow39 : CPow 10 39 := ⟨by decide, by decide, by decide⟩
theorem mod_range (a : Int) {m : Int} (h : 0 < m) : 0 ≤ a % m ∧ a % m < m := ⟨Int.emod_nonneg _ (by omega), Int.emod_lt_of_pos _ h⟩
end Ami

set_option Elab.async false
set_option linter.all false
set_option maxRecDepth 100000
set_option maxHeartbeats 2000000
namespace Ami
open PySem PySem.Spec PyProof.Rows L2

/-! ### texts of signs, sorted and joined -/
theorem joinOnes (cs : List Nat) : Txt.join ⟨#[]⟩ (cs.map one) = ⟨cs.toArray⟩ := by
  have h := join_nil_signs ⟨cs.toArray⟩
  have e : PyProof.Rows.signs ⟨cs.toArray⟩ = cs.map one := rfl
  rw [e] at h
  show Builtin.Str.glued ⟨#[]⟩ (cs.map one) = _
  rw [StrLaws.glued_eq_join]
  exact h
theorem eraseMap {α β : Type} (f : α → β) : ∀ (l : List α) (n : Nat), (l.map f).eraseIdx n = (l.eraseIdx n).map f
  | [], _ => rfl
  | _ :: _, 0 => rfl
  | a :: l, n + 1 => by
    show f a :: (l.map f).eraseIdx n = f a :: (l.eraseIdx n).map f
    rw [eraseMap f l n]
theorem one_inj {a b : Nat} (h : one a = one b) : a = b := by
  have e : [a] = [b] := congrArg (fun y : Str => y.cps.toList) h
  exact (List.cons.inj e).1
theorem unmap_ones {ys : List Str} {cs : List Nat} (h : ys.Perm (cs.map one)) : ∃ ds : List Nat, ys = ds.map one ∧ ds.Perm cs := by
  have e : ys = (ys.map fun y => y.cps.getD 0 0).map one := by
    rw [List.map_map]
    conv => lhs; rw [← List.map_id ys]
    refine List.map_congr_left fun y hy => ?_
    obtain ⟨c, _, rfl⟩ := List.mem_map.mp (h.mem_iff.mp hy)
    rfl
  refine ⟨ys.map fun y => y.cps.getD 0 0, e, ?_⟩
  have q := h.map fun y => y.cps.getD 0 0
  rw [List.map_map] at q
  have e2 : cs.map ((fun y : Str => y.cps.getD 0 0) ∘ one) = cs := by
    conv => rhs; rw [← List.map_id cs]
    exact List.map_congr_left fun _ _ => rfl
  rw [e2] at q
  exact q
theorem rising_ones : ∀ (p : Nat) (cs : List Nat), risingS (one p) (cs.map one) = true → (p :: cs).Pairwise (· ≤ ·)
  | p, [], _ => List.pairwise_singleton _ _
  | p, x :: r, h => by
    have h' : (!ltCps [x] [p] && risingS (one x) (r.map one)) = true := h
    rw [Bool.and_eq_true] at h'
    have ih := rising_ones x r h'.2
    have hx : p ≤ x := by
      have e : ltCps [x] [p] = false := by simpa using h'.1
      have e2 : (decide (x < p) || (x == p && false)) = false := e
      simp at e2
      omega
    refine List.pairwise_cons.mpr ⟨fun y hy => ?_, ih⟩
    rcases List.mem_cons.mp hy with rfl | hy
    · exact hx
    · exact Nat.le_trans hx ((List.pairwise_cons.mp ih).1 y hy)
theorem sorted_ones : ∀ {cs : List Nat}, sortedS (cs.map one) = true → cs.Pairwise (· ≤ ·)
  | [], _ => .nil
  | x :: r, h => rising_ones x r h
theorem lt_of_le {cs : List Nat} (h : cs.Pairwise (· ≤ ·)) (nd : cs.Nodup) : cs.Pairwise (· < ·) := by
  induction cs with
  | nil => exact .nil
  | cons x r ih =>
    obtain ⟨h1, h2⟩ := List.pairwise_cons.mp h
    obtain ⟨n1, n2⟩ := List.nodup_cons.mp nd
    refine List.pairwise_cons.mpr ⟨fun y hy => ?_, ih h2 n2⟩
    have := h1 y hy
    have : x ≠ y := fun e => n1 (e ▸ hy)
    omega
/-- two rising rows with the same members are one -/
theorem rows_eq {xs ys : List Nat} (hx : xs.Pairwise (· < ·)) (hy : ys.Pairwise (· < ·)) (h : ∀ c, c ∈ xs ↔ c ∈ ys) : xs = ys := by
  have nx : xs.Nodup := hx.imp fun a => Nat.ne_of_lt a
  have ny : ys.Nodup := hy.imp fun a => Nat.ne_of_lt a
  have p : xs.Perm ys := (List.perm_ext_iff_of_nodup nx ny).mpr h
  exact p.eq_of_pairwise (fun a b _ _ h1 h2 => absurd (Nat.lt_trans h1 h2) (Nat.lt_irrefl _)) hx hy

/-- all signs below 128 -/
def Asc (z : Str) : Prop := ∀ c ∈ z.cps.toList, c < 128
theorem Asc.mem {z y : Str} (h : Asc z) (k : ∀ c ∈ y.cps.toList, c ∈ z.cps.toList) : Asc y := fun c hc => h c (k c hc)
theorem Asc.append {z y : Str} (h : Asc z) (k : Asc y) : Asc (z ++ y) := fun c hc => by
  have e : (z ++ y).cps.toList = z.cps.toList ++ y.cps.toList := Array.toList_append
  rw [e] at hc
  exact (List.mem_append.mp hc).elim (h c) (k c)
theorem Asc.cut {z : Str} (h : Asc z) (lo hi : Option Int) : Asc (cutS z lo hi) := h.mem fun c hc => List.mem_of_mem_drop (List.mem_of_mem_take hc)
theorem Asc.rev {z : Str} (h : Asc z) : Asc (revS z) := h.mem fun c hc => List.mem_reverse.mp hc
theorem Asc.rep {z : Str} (h : Asc z) (n : Nat) : Asc (repS z n) := h.mem fun c hc => repS_mem hc
theorem Asc.ok {z : Str} (h : Asc z) : PyData.strOk z = true := by
  show (z.cps.all (· < 0x110000)) = true
  rw [← Array.all_toList, List.all_eq_true]
  intro c hc
  have := h c hc
  exact decide_eq_true (by omega)
theorem Asc.repr {z : Str} (h : Asc z) (hl : z.length ≤ 100000) : (reprText z).length ≤ sizeLine := by
  have := StrLaws.reprText_len z fun c hc => Nat.lt_of_lt_of_le (h c hc) (by decide)
  rw [sizeLine_eq]
  omega
theorem append_length (z y : Str) : (z ++ y).length = z.length + y.length := Str.length_append z y

/-- letters as the laws draw them: two to so many of ten letters, ascending -/
def pool : List Nat := [97, 98, 99, 100, 101, 104, 109, 120, 121, 122]
def Sgn (top : Nat) (z : Str) : Prop := ∃ cs : List Nat, z = ⟨cs.toArray⟩ ∧ cs.Pairwise (· < ·) ∧ 2 ≤ cs.length ∧ cs.length ≤ top ∧ ∀ c ∈ cs, c ∈ pool
theorem Sgn.len {top : Nat} {z : Str} (h : Sgn top z) : 2 ≤ z.length ∧ z.length ≤ top := by
  obtain ⟨cs, rfl, _, h1, h2, _⟩ := h
  have e : (⟨cs.toArray⟩ : Str).length = cs.length := by simp [Str.length]
  omega
theorem Sgn.asc {top : Nat} {z : Str} (h : Sgn top z) : Asc z := by
  obtain ⟨cs, rfl, _, _, _, h3⟩ := h
  intro c hc
  have := h3 c hc
  simp [pool] at this
  omega
/-- letters drawn, as a promise -/
def spSigns : Sp := fun vs H Q _ => ∃ (d c : Addr) (n top : Nat), vs = [.ref d, .int top] ∧ 2 ≤ top ∧ top ≤ 10 ∧ n + 20 < 1000000 ∧ DeckAt H d c n ∧
  ∀ (H' : Hp) (z : Str) (n' : Nat), Sgn top z → n' ≤ n + 11 → DeckAt H' d c n' → But d c H H' → Q (.str z) H'
end Ami

set_option Elab.async false
set_option linter.all false
set_option maxRecDepth 100000
set_option maxHeartbeats 2000000
namespace Ami
open PySem PySem.Spec PyProof.Rows L2
theorem Same.seqT {K : PySem.W.Frag} {H H' : Hp} {a : Addr} {xs : List V} (e : Same H H') (h : SqT K H a xs) : SqT K H' a xs := by
  rcases h with (h | ⟨o, h⟩) | h
  · exact .inl (.inl (e _ _ h))
  · exact .inl (.inr ⟨o, e _ _ h⟩)
  · exact .inr h
theorem TyOf.same {K : PySem.W.Frag} {H H' : Hp} (e : Same H H') {x : V} {t : Value} (h : TyOf K H x t) : TyOf K H' x t := by
  cases h with
  | non => exact .non
  | bl b => exact .bl b
  | int i => exact .int i
  | str z => exact .str z
  | flt z => exact .flt z
  | lst h => exact .lst (e _ _ h)
  | frz h => exact .frz (e _ _ h)
  | tup h => exact .tup (e _ _ h)
  | dK h => exact .dK (e _ _ h)
  | dT h => exact .dT (e _ _ h)
  | ins h cl ha hn htk hm => exact .ins (e _ _ h) cl ha hn htk hm
theorem TyX.same {K : PySem.W.Frag} {H H' : Hp} (e : Same H H') {x : V} {t : Value} (h : TyX K H x t) : TyX K H' x t := by
  cases h with
  | base h => exact .base (TyOf.same e h)
  | byt b => exact .byt b
  | set h => exact .set (e _ _ h)
  | kList h c => exact .kList h c
  | kTuple h c => exact .kTuple h c
  | kDict h c => exact .kDict h c
  | fTuple h => exact .fTuple (e _ _ h)
  | fDict h => exact .fDict (e _ _ h)
theorem Dq.up {K : PySem.W.Frag} {H H' : Hp} (e : Same H H') {v : V} {d : PyData} (h : Dq K H v d) : Dq K H' v d :=
  h.same fun a => ⟨fun _ q => e.seq q, fun _ q => Same.seqT e q, fun _ q => e _ _ q⟩
/-- a row of two answers, as data -/
def D2b (b : Bool) : PyData := .list [.bool b, .bool b]
theorem d2_len (b : Bool) : (D2b b).shown.length ≤ sizeLine := by cases b <;> decide +kernel
theorem d2_at {K : PySem.W.Frag} {H : Hp} {a : Addr} {b : Bool} (h : H a = some (.lst [.bl b, .bl b])) : Dq K H (.ref a) (D2b b) := .lst (SqL.of h) (.cons (.bl b) (.cons (.bl b) .nil))
/-- by keyword, one parameter -/
def g1 {α : Type} : List α → List α → List α
  | [], [t] => [t]
  | _, _ => []
/-- by keywords, two parameters, the second one first -/
def g2 {α : Type} : List α → List α → List α
  | [], [t, l] => [l, t]
  | _, _ => []
theorem g1_rel {vs : List V} {us : List Value} {zs : List V} {ws : List Value} (r : Vals vs us) (rz : Vals zs ws) : Vals (g1 vs zs) (g1 us ws) := by
  cases r with
  | cons a b => exact .nil
  | nil =>
    cases rz with
    | nil => exact .nil
    | cons a b =>
      cases b with
      | nil => exact .cons a .nil
      | cons _ _ => exact .nil
theorem g2_rel {vs : List V} {us : List Value} {zs : List V} {ws : List Value} (r : Vals vs us) (rz : Vals zs ws) : Vals (g2 vs zs) (g2 us ws) := by
  cases r with
  | cons a b => exact .nil
  | nil =>
    cases rz with
    | nil => exact .nil
    | cons a b =>
      cases b with
      | nil => exact .nil
      | cons a2 b2 =>
        cases b2 with
        | nil => exact .cons a2 (.cons a .nil)
        | cons _ _ => exact .nil
end Ami

set_option Elab.async false
set_option linter.all false
set_option maxRecDepth 100000
set_option maxHeartbeats 2000000
namespace Ami
open PySem PySem.Spec PyProof.Rows L2
theorem leaves_texts : ∀ {ss : List Str}, (∀ z ∈ ss, Asc z) → PyData.leavesShortAll 8 ((ss.map V.str).map fD) = true
  | [], _ => rfl
  | z :: ss, h => by
    show ((z.cps.toList.all fun c => decide (c < 16 ^ 8)) && PyData.leavesShortAll 8 ((ss.map V.str).map fD)) = true
    rw [Bool.and_eq_true]
    refine ⟨List.all_eq_true.mpr fun c hc => decide_eq_true (Nat.lt_of_lt_of_le (h z List.mem_cons_self c hc) (by decide)), leaves_texts fun y hy => h y (List.mem_cons_of_mem _ hy)⟩
theorem weight_texts : ∀ ss : List Str, PyData.weightAll ((ss.map V.str).map fD) = (ss.map (fun z => z.length)).sum + ss.length
  | [] => rfl
  | z :: ss => by
    show z.cps.size + 1 + PyData.weightAll ((ss.map V.str).map fD) = z.length + (ss.map (fun z => z.length)).sum + (ss.length + 1)
    rw [weight_texts ss]
    unfold Str.length
    omega
theorem okF_texts {ss : List Str} (h : ∀ z ∈ ss, Asc z) : (ss.map V.str).all okF = true := by
  rw [List.all_eq_true]
  intro v hv
  obtain ⟨z, hz, rfl⟩ := List.mem_map.mp hv
  exact (h z hz).ok
theorem noDict_texts : ∀ ss : List Str, PyData.hasDictAll ((ss.map V.str).map fD) = false
  | [] => rfl
  | z :: ss => by show (false || PyData.hasDictAll ((ss.map V.str).map fD)) = false; rw [noDict_texts ss]; rfl
theorem showable_texts : ∀ ss : List Str, PyData.showableAll ((ss.map V.str).map fD) = true
  | [] => rfl
  | z :: ss => by show (true && PyData.showableAll ((ss.map V.str).map fD)) = true; rw [showable_texts ss]; rfl
theorem shownL_texts {ss : List Str} (h : ∀ z ∈ ss, Asc z) (hl : (ss.map (fun z => z.length)).sum + ss.length ≤ 1000000) : (PyData.list ((ss.map V.str).map fD)).shown.length ≤ sizeLine := by
  have q := PyData.shown_le 8 (Nat.le_refl _) (.list ((ss.map V.str).map fD)) (leaves_texts h)
  have e : PyData.weight (.list ((ss.map V.str).map fD)) = (ss.map (fun z => z.length)).sum + ss.length := weight_texts ss
  rw [e] at q
  rw [sizeLine_eq]
  omega
theorem shownT_texts {ss : List Str} (h : ∀ z ∈ ss, Asc z) (hl : (ss.map (fun z => z.length)).sum + ss.length ≤ 1000000) : (PyData.tuple ((ss.map V.str).map fD)).shown.length ≤ sizeLine := by
  have q := PyData.shown_le 8 (Nat.le_refl _) (.tuple ((ss.map V.str).map fD)) (leaves_texts h)
  have e : PyData.weight (.tuple ((ss.map V.str).map fD)) = (ss.map (fun z => z.length)).sum + ss.length := weight_texts ss
  rw [e] at q
  rw [sizeLine_eq]
  omega
theorem ones_sum (z : Str) : ((letts z).map (fun y => y.length)).sum = z.length := by
  unfold letts
  rw [List.map_map]
  have e : (fun y : Str => y.length) ∘ one = fun _ => 1 := rfl
  rw [e, List.map_const', List.sum_replicate_nat]
  show z.cps.toList.length * 1 = z.cps.size
  rw [Array.length_toList]; omega
theorem letts_asc {z : Str} (h : Asc z) : ∀ y ∈ letts z, Asc y := by
  intro y hy
  obtain ⟨c, hc, rfl⟩ := List.mem_map.mp hy
  intro d hd
  have : d = c := by simpa [one] using hd
  rw [this]
  exact h c hc
end Ami

set_option Elab.async false
set_option linter.all false
set_option maxRecDepth 100000
set_option maxHeartbeats 1000000
/-! enumerate(xs, start=k), of a list and of a tuple. -/
namespace Ami
open PySem PySem.Spec PyProof.Rows L2
section
variable {M : Model} {A : Around} {E : Value → Shared → Prop} {s : Shared} {env : Env}
/-- a built-in class called with keywords -/
theorem callT_kw {pos : Pos} {T : String} {e : Expr} {rest : List Expr} {kws : List Keyword} {Q : Value → Shared → Prop}
    (h : wpAny M A (spliced (backTo pos (starEach (e :: rest) env))) (fun vs s₁ => wpAny M A (evalAll ((backToKw pos (keywordEach kws env)).map (·.2)))
      (fun ks s₂ => wpAny M A (call (.type T) vs (((backToKw pos (keywordEach kws env)).filterMap (·.1)).zip ks)) Q E s₂) E s₁) E s)
    (he : backTo pos (starEach (e :: rest) env) = (false, eval e env) :: backTo pos (starEach rest env))
    (hp : (backTo pos (starEach (e :: rest) env)).any (·.1) = false) (hall : (backToKw pos (keywordEach kws env)).all (·.1.isSome) = true) (hn : (backToKw pos (keywordEach kws env)).any (·.1.isNone) = false) :
    wpAny M A (callWith pos (.type T) [] (backTo pos (starEach (e :: rest) env)) (backToKw pos (keywordEach kws env))) Q E s := by
  unfold callWith
  have g : wpAny M A (evalArgs (.type T) true (backTo pos (starEach (e :: rest) env)) (backToKw pos (keywordEach kws env))) (fun a s₁ => wpAny M A (call (.type T) ([] ++ a.pos) a.kw) Q E s₁) E s := by
    rw [he] at h ⊢
    exact evalArgs_kwB hall h
  refine wpAny_bind (wpAny_holding (wpAny_mono g (fun a s₁ h₁ => wpAny_bind (wpAny_standAt ?_)) fun _ _ z => z))
  simp only [hp, hn, Bool.or_false]
  refine wpAny_bind (wpAny_pure ?_)
  exact wpAny_bind (wpAny_mono h₁ (fun r s₂ hr => wpAny_bind (wpAny_holding (wpAny_point (wpAny_pure hr)))) fun _ _ z => z)
end
/-- the list at a as it stands at each turn, each item with a count from k on in a new pair -/
def IteF (K : PySem.W.Frag) (a : Addr) (k : Int) : It :=
  ⟨fun i H => ∃ (xs : List V) (x : V), SqL K H a xs ∧ xs[i]? = some x, fun i H v H' => ∃ T x, v = .ref T ∧ H T = none ∧ H' = upd H T (.tup [.int (k + (i : Nat)), x]) ∧ ∀ xs, SqL K H a xs → xs[i]? = some x, fun i H => ∃ xs : List V, SqL K H a xs ∧ xs.length = i⟩
theorem apart_IteF {h : Heap} {e it a : Addr} {c : Int} {old : Value} {i : Nat} {items : Array Value} (he : IsEnum h e it c old) (hit : h.IsListIter it a i) (pl : h.IsList a items) :
    e < h.objs.size ∧ it < h.objs.size ∧ e ≠ a ∧ a ≠ it := by
  obtain ⟨o, ho, hc, hd⟩ := hit
  obtain ⟨o2, h2, c2, _⟩ := pl
  refine ⟨Heap.lt_size he, Heap.lt_size ho, fun z => ?_, fun z => ?_⟩
  · rw [z] at he
    rw [he] at h2
    cases h2
    exact absurd (Value.type.inj c2) (by decide)
  · rw [z] at h2
    rw [ho] at h2
    cases h2
    rw [hc] at c2
    exact absurd (Value.type.inj c2) (by decide)
theorem turn_IteF {P : Program} {w : World} {K : PySem.W.Frag} {elts : List Expr} {kk : Nat} {tpos : Pos} (a e it : Addr) (k : Int) :
    Turn P w K (.Tuple elts kk tpos) (IteF K a k) [e, it] e (fun i h => (∃ old, IsEnum h e it (k + (i : Nat)) old) ∧ h.IsListIter it a i ∧ e ≠ it) where
  mem := by simp
  obj := fun i h st b hb => by
    obtain ⟨⟨old, he⟩, ⟨o, ho, hc, hd⟩, _⟩ := st
    rcases (by simpa using hb : b = e ∨ b = it) with z | z
    · subst z
      exact ⟨_, he, fun v q => nomatch q⟩
    · exact ⟨o, z ▸ ho, fun v q => by rw [hd] at q; cases q⟩
  keep := fun i h h' st kp => by
    obtain ⟨⟨old, he⟩, hi, hne⟩ := st
    exact ⟨⟨old, kp e (by simp) _ he⟩, hi.at fun o q => kp it (by simp) o q, hne⟩
  item := by
    intro X hP hw hK hc i pins s σ H E I hf st hg
    subst hP hw hK
    obtain ⟨⟨old, he⟩, hit, hne⟩ := st
    obtain ⟨xs, x, hq, hx⟩ := hg
    obtain ⟨its, rv, p, hz⟩ := I.list hq
    obtain ⟨u, hu, ru⟩ := rv.get hx
    have pl : s.heap.IsList a its.toArray := p.isList
    obtain ⟨hel, hil, nea, nai⟩ := apart_IteF he hit pl
    have D := Draws.list (prog := X.prog) (w := X.w) (A := X.A.in1) (show X.A.in1.handled = none from I.ok.hd hc) it a nai its.toArray
    have hlt : i < its.toArray.size := by
      have := (List.getElem?_eq_some_iff.mp hu).1
      simpa using this
    refine wpAny_pyNext_enum_itemC D he ⟨hit, pl⟩ hlt hne (by simp [hne, nea]) fun y h' tk hy ho hst hT hsz hk => ?_
    have ey : y = u := by
      have hy' : its[i]? = some y := by simpa using hy
      rw [hu] at hy'
      exact (Option.some.inj hy').symm
    subst ey
    refine ⟨_, rfl, wpAny_letOwnedTupleGo_enum (s := { s with heap := h', toks := tk + 1 }) ho fun h'' he' sb => ?_⟩
    have hT2 : h''.get? s.heap.objs.size = some { cls := .type "tuple", data := .seq #[.int (k + (i : Nat)) tk, y] } := (sb.2 _ (Nat.ne_of_gt hel)).trans hT
    have new : ObjOk X.prog X.w (upd H s.heap.objs.size (.tup [.int (k + (i : Nat)), x])) h'' s.heap.objs.size (.tup [.int (k + (i : Nat)), x]) :=
      ⟨by show 2 ≤ sizeLine; decide, [.int (k + (i : Nat)) tk, y], .cons ⟨_, rfl⟩ (.cons ru .nil), ⟨_, hT2, rfl, _, rfl⟩⟩
    have I1 : Inv X pins σ (upd H s.heap.objs.size (.tup [.int (k + (i : Nat)), x])) { s with heap := h'', toks := tk + 1 } :=
      I.turnedNew (ch := [e, it]) (fun b ob hb q => (sb.2 b (fun z => hb (by simp [z]))).trans (hk b ob (fun z => hb (by simp [z])) (fun z => hb (by simp [z])) q)) hf (Nat.le_refl _) new
    refine ⟨.ref s.heap.objs.size, _, I1, rfl, ⟨_, x, rfl, I.hok.fresh (Nat.le_refl _), rfl, fun ys hy => by rw [I.list_inj hy hq]; exact hx⟩, ⟨⟨y, ?_⟩, hst.1.at fun o q => (sb.2 it (Ne.symm hne)).trans q, hne⟩, fun b hb => ?_⟩
    · have e1 : k + ((i + 1 : Nat) : Int) = k + (i : Nat) + 1 := by omega
      rw [e1]; exact he'
    · have hb' : b < s.heap.objs.size := by
        rcases (by simpa using hb : b = e ∨ b = it) with z | z
        · rw [z]; exact hel
        · rw [z]; exact hil
      rw [upd_ne (Nat.ne_of_lt hb')]
      exact (hf b hb).1
  done := by
    intro X hP hw hK hc i pins s σ H E I hf st hg
    subst hP hw hK
    obtain ⟨⟨old, he⟩, hit, hne⟩ := st
    obtain ⟨xs, hq, hx⟩ := hg
    obtain ⟨its, rv, p, hz⟩ := I.list hq
    have pl : s.heap.IsList a its.toArray := p.isList
    obtain ⟨hel, hil, nea, nai⟩ := apart_IteF he hit pl
    have D := Draws.list (prog := X.prog) (w := X.w) (A := X.A.in1) (show X.A.in1.handled = none from I.ok.hd hc) it a nai its.toArray
    have hl : its.toArray.size = i := by
      have := rv.length
      rw [List.size_toArray]; omega
    obtain ⟨f0, f1, f2, f3, f4, f5⟩ := hf it (by simp)
    rw [← hl] at hit
    exact wpAny_pyNext_enum_endD D he ⟨hit, pl⟩ fun h' eb => ⟨rfl, I.turned (t' := s.toks) (fun b o hb q => eb b o hb q) f0 f1 f3 f4 f5⟩
  self := fun A i s Q E st h => by
    obtain ⟨⟨_, he⟩, _⟩ := st
    exact wpAny_pyIter_enum he h
def iEnumF (K : PySem.W.Frag) (ta tk : TA) : TI := fun σ H R => ta σ H fun vs H1 => tk σ H1 fun zs H2 => ∃ (a : Addr) (xs : List V) (k : Int), vs = [.ref a] ∧ zs = [.int k] ∧ SqL K H2 a xs ∧ -1000 ≤ k ∧ k ≤ 1000 ∧ R (IteF K a k) H2
theorem pi_enumF {X : Cx} {e : Expr} {kws : List Keyword} {ta tk : TA} {p pos tpos : Pos} {elts : List Expr} {kk : Nat} (hg : Gl X "enumerate") (hm : X.mg "enumerate" = none) (ha : PA X [e] ta) (hk : PK X kws tk)
    (he : backTo pos (starEach [e] X.env) = (false, eval e X.env) :: backTo pos (starEach [] X.env) := by rfl) (hpl : (backTo pos (starEach [e] X.env)).any (·.1) = false := by rfl)
    (hall : (backToKw pos (keywordEach kws X.env)).all (·.1.isSome) = true := by rfl) (hnone : (backToKw pos (keywordEach kws X.env)).any (·.1.isNone) = false := by rfl) (hks : (backToKw pos (keywordEach kws X.env)).filterMap (·.1) = [Str.ofString "start"] := by rfl) :
    PI X (.Tuple elts kk tpos) (.Call (.Name "enumerate" p) [e] kws pos) (iEnumF X.K ta tk) := by
  refine ⟨fun pins s σ H R I h => ?_⟩
  refine wpAny_Call_Name_kw (ld_blt I hg hm boot_enumerate (callT_kw (thn (ha.run pos pins s σ H _ I h) fun us s1 ⟨vs, H1, I1, r1, q1⟩ => thn (hk.run pos pins s1 σ H1 _ I1 q1) fun ws s2 ⟨zs, H2, I2, r2, q2⟩ => ?_) he hpl hall hnone))
  rw [hks]
  obtain ⟨a, xs, k, rfl, rfl, hq, k0, k1, q⟩ := q2
  cases r1 with
  | cons r rr =>
    cases rr
    cases r
    cases r2 with
    | cons r rr =>
      cases rr
      obtain ⟨t, rfl⟩ := r
      obtain ⟨its, rv, p', hz⟩ := I2.list hq
      have pl : s2.heap.IsList a its.toArray := p'.isList
      refine enum_begins_start (t := t) (begins_list a its.toArray) pl (by omega) (by omega) fun h' he hit hsz hk => wpAny_pyIter_enum he ?_
      have I3 : Inv X pins σ H2 { s2 with heap := h' } := I2.kept (t' := s2.toks) hk
      refine ⟨s2.heap.objs.size + 1, [s2.heap.objs.size + 1, s2.heap.objs.size], _, _, H2, rfl, I3, turn_IteF a (s2.heap.objs.size + 1) s2.heap.objs.size k, ⟨⟨.none, ?_⟩, ⟨_, hit, rfl, rfl⟩, Nat.succ_ne_self _⟩, fun b hb => ?_, q⟩
      · rw [show k + ((0 : Nat) : Int) = k from Int.add_zero k]; exact he
      · have hle : s2.heap.objs.size ≤ b := by
          rcases (by simpa using hb : b = s2.heap.objs.size + 1 ∨ b = s2.heap.objs.size) with z | z
          · rw [z]; exact Nat.le_add_right _ _
          · rw [z]; exact Nat.le_refl _
        exact I2.fpOk hle (I2.hok.fresh hle)
theorem walk_enumF {K : PySem.W.Frag} {a : Addr} {k : Int} {xs : List V} : Walk (IteF K a k) xs.length (fun H => SqL K H a xs) (fun i H v H' => ∃ T x, v = .ref T ∧ H T = none ∧ H' = upd H T (.tup [.int (k + (i : Nat)), x]) ∧ xs[i]? = some x) :=
  ⟨fun i _ hi q => ⟨xs, xs[i], q, by simp [hi]⟩, fun _ q => ⟨xs, q, rfl⟩, fun _ _ _ _ _ q ⟨T, x, e1, e2, e3, e4⟩ => ⟨T, x, e1, e2, e3, e4 xs q⟩⟩
/-- the tuple at a as it stands at each turn, each item with a count from k on in a new pair -/
def IteT (K : PySem.W.Frag) (a : Addr) (k : Int) : It :=
  ⟨fun i H => ∃ (xs : List V) (x : V), SqT K H a xs ∧ xs[i]? = some x, fun i H v H' => ∃ T x, v = .ref T ∧ H T = none ∧ H' = upd H T (.tup [.int (k + (i : Nat)), x]) ∧ ∀ xs, SqT K H a xs → xs[i]? = some x, fun i H => ∃ xs : List V, SqT K H a xs ∧ xs.length = i⟩
theorem apart_IteT {h : Heap} {e it a : Addr} {c : Int} {old : Value} {i : Nat} {items : Array Value} (he : IsEnum h e it c old) (hit : h.IsTupleIter it a i) (pl : h.IsTuple a items) :
    e < h.objs.size ∧ it < h.objs.size ∧ e ≠ a ∧ a ≠ it := by
  obtain ⟨o, ho, hc, hd⟩ := hit
  obtain ⟨o2, h2, c2, _⟩ := pl
  refine ⟨Heap.lt_size he, Heap.lt_size ho, fun z => ?_, fun z => ?_⟩
  · rw [z] at he
    rw [he] at h2
    cases h2
    exact absurd (Value.type.inj c2) (by decide)
  · rw [z] at h2
    rw [ho] at h2
    cases h2
    rw [hc] at c2
    exact absurd (Value.type.inj c2) (by decide)
theorem turn_IteT {P : Program} {w : World} {K : PySem.W.Frag} {elts : List Expr} {kk : Nat} {tpos : Pos} (a e it : Addr) (k : Int) :
    Turn P w K (.Tuple elts kk tpos) (IteT K a k) [e, it] e (fun i h => (∃ old, IsEnum h e it (k + (i : Nat)) old) ∧ h.IsTupleIter it a i ∧ e ≠ it) where
  mem := by simp
  obj := fun i h st b hb => by
    obtain ⟨⟨old, he⟩, ⟨o, ho, hc, hd⟩, _⟩ := st
    rcases (by simpa using hb : b = e ∨ b = it) with z | z
    · subst z
      exact ⟨_, he, fun v q => nomatch q⟩
    · exact ⟨o, z ▸ ho, fun v q => by rw [hd] at q; cases q⟩
  keep := fun i h h' st kp => by
    obtain ⟨⟨old, he⟩, hi, hne⟩ := st
    exact ⟨⟨old, kp e (by simp) _ he⟩, hi.at fun o q => kp it (by simp) o q, hne⟩
  item := by
    intro X hP hw hK hc i pins s σ H E I hf st hg
    subst hP hw hK
    obtain ⟨⟨old, he⟩, hit, hne⟩ := st
    obtain ⟨xs, x, hq, hx⟩ := hg
    obtain ⟨its, rv, p, hz⟩ := I.tuple hq
    obtain ⟨u, hu, ru⟩ := rv.get hx
    have pl : s.heap.IsTuple a its.toArray := (show s.heap.IsTuple a its.toArray from p)
    obtain ⟨hel, hil, nea, nai⟩ := apart_IteT he hit pl
    have D := Draws.tuple (prog := X.prog) (w := X.w) (A := X.A.in1) (show X.A.in1.handled = none from I.ok.hd hc) it a nai its.toArray
    have hlt : i < its.toArray.size := by
      have := (List.getElem?_eq_some_iff.mp hu).1
      simpa using this
    refine wpAny_pyNext_enum_itemC D he ⟨hit, pl⟩ hlt hne (by simp [hne, nea]) fun y h' tk hy ho hst hT hsz hk => ?_
    have ey : y = u := by
      have hy' : its[i]? = some y := by simpa using hy
      rw [hu] at hy'
      exact (Option.some.inj hy').symm
    subst ey
    refine ⟨_, rfl, wpAny_letOwnedTupleGo_enum (s := { s with heap := h', toks := tk + 1 }) ho fun h'' he' sb => ?_⟩
    have hT2 : h''.get? s.heap.objs.size = some { cls := .type "tuple", data := .seq #[.int (k + (i : Nat)) tk, y] } := (sb.2 _ (Nat.ne_of_gt hel)).trans hT
    have new : ObjOk X.prog X.w (upd H s.heap.objs.size (.tup [.int (k + (i : Nat)), x])) h'' s.heap.objs.size (.tup [.int (k + (i : Nat)), x]) :=
      ⟨by show 2 ≤ sizeLine; decide, [.int (k + (i : Nat)) tk, y], .cons ⟨_, rfl⟩ (.cons ru .nil), ⟨_, hT2, rfl, _, rfl⟩⟩
    have I1 : Inv X pins σ (upd H s.heap.objs.size (.tup [.int (k + (i : Nat)), x])) { s with heap := h'', toks := tk + 1 } :=
      I.turnedNew (ch := [e, it]) (fun b ob hb q => (sb.2 b (fun z => hb (by simp [z]))).trans (hk b ob (fun z => hb (by simp [z])) (fun z => hb (by simp [z])) q)) hf (Nat.le_refl _) new
    refine ⟨.ref s.heap.objs.size, _, I1, rfl, ⟨_, x, rfl, I.hok.fresh (Nat.le_refl _), rfl, fun ys hy => by rw [I.tuple_inj hy hq]; exact hx⟩, ⟨⟨y, ?_⟩, hst.1.at fun o q => (sb.2 it (Ne.symm hne)).trans q, hne⟩, fun b hb => ?_⟩
    · have e1 : k + ((i + 1 : Nat) : Int) = k + (i : Nat) + 1 := by omega
      rw [e1]; exact he'
    · have hb' : b < s.heap.objs.size := by
        rcases (by simpa using hb : b = e ∨ b = it) with z | z
        · rw [z]; exact hel
        · rw [z]; exact hil
      rw [upd_ne (Nat.ne_of_lt hb')]
      exact (hf b hb).1
  done := by
    intro X hP hw hK hc i pins s σ H E I hf st hg
    subst hP hw hK
    obtain ⟨⟨old, he⟩, hit, hne⟩ := st
    obtain ⟨xs, hq, hx⟩ := hg
    obtain ⟨its, rv, p, hz⟩ := I.tuple hq
    have pl : s.heap.IsTuple a its.toArray := (show s.heap.IsTuple a its.toArray from p)
    obtain ⟨hel, hil, nea, nai⟩ := apart_IteT he hit pl
    have D := Draws.tuple (prog := X.prog) (w := X.w) (A := X.A.in1) (show X.A.in1.handled = none from I.ok.hd hc) it a nai its.toArray
    have hl : its.toArray.size = i := by
      have := rv.length
      rw [List.size_toArray]; omega
    obtain ⟨f0, f1, f2, f3, f4, f5⟩ := hf it (by simp)
    rw [← hl] at hit
    exact wpAny_pyNext_enum_endD D he ⟨hit, pl⟩ fun h' eb => ⟨rfl, I.turned (t' := s.toks) (fun b o hb q => eb b o hb q) f0 f1 f3 f4 f5⟩
  self := fun A i s Q E st h => by
    obtain ⟨⟨_, he⟩, _⟩ := st
    exact wpAny_pyIter_enum he h
def iEnumT (K : PySem.W.Frag) (ta tk : TA) : TI := fun σ H R => ta σ H fun vs H1 => tk σ H1 fun zs H2 => ∃ (a : Addr) (xs : List V) (k : Int), vs = [.ref a] ∧ zs = [.int k] ∧ SqT K H2 a xs ∧ -1000 ≤ k ∧ k ≤ 1000 ∧ R (IteT K a k) H2
theorem pi_enumT {X : Cx} {e : Expr} {kws : List Keyword} {ta tk : TA} {p pos tpos : Pos} {elts : List Expr} {kk : Nat} (hg : Gl X "enumerate") (hm : X.mg "enumerate" = none) (ha : PA X [e] ta) (hk : PK X kws tk)
    (he : backTo pos (starEach [e] X.env) = (false, eval e X.env) :: backTo pos (starEach [] X.env) := by rfl) (hpl : (backTo pos (starEach [e] X.env)).any (·.1) = false := by rfl)
    (hall : (backToKw pos (keywordEach kws X.env)).all (·.1.isSome) = true := by rfl) (hnone : (backToKw pos (keywordEach kws X.env)).any (·.1.isNone) = false := by rfl) (hks : (backToKw pos (keywordEach kws X.env)).filterMap (·.1) = [Str.ofString "start"] := by rfl) :
    PI X (.Tuple elts kk tpos) (.Call (.Name "enumerate" p) [e] kws pos) (iEnumT X.K ta tk) := by
  refine ⟨fun pins s σ H R I h => ?_⟩
  refine wpAny_Call_Name_kw (ld_blt I hg hm boot_enumerate (callT_kw (thn (ha.run pos pins s σ H _ I h) fun us s1 ⟨vs, H1, I1, r1, q1⟩ => thn (hk.run pos pins s1 σ H1 _ I1 q1) fun ws s2 ⟨zs, H2, I2, r2, q2⟩ => ?_) he hpl hall hnone))
  rw [hks]
  obtain ⟨a, xs, k, rfl, rfl, hq, k0, k1, q⟩ := q2
  cases r1 with
  | cons r rr =>
    cases rr
    cases r
    cases r2 with
    | cons r rr =>
      cases rr
      obtain ⟨t, rfl⟩ := r
      obtain ⟨its, rv, p', hz⟩ := I2.tuple hq
      have pl : s2.heap.IsTuple a its.toArray := (show s2.heap.IsTuple a its.toArray from p')
      refine enum_begins_start (t := t) (begins_tuple a its.toArray) pl (by omega) (by omega) fun h' he hit hsz hk => wpAny_pyIter_enum he ?_
      have I3 : Inv X pins σ H2 { s2 with heap := h' } := I2.kept (t' := s2.toks) hk
      refine ⟨s2.heap.objs.size + 1, [s2.heap.objs.size + 1, s2.heap.objs.size], _, _, H2, rfl, I3, turn_IteT a (s2.heap.objs.size + 1) s2.heap.objs.size k, ⟨⟨.none, ?_⟩, ⟨_, hit, rfl, rfl⟩, Nat.succ_ne_self _⟩, fun b hb => ?_, q⟩
      · rw [show k + ((0 : Nat) : Int) = k from Int.add_zero k]; exact he
      · have hle : s2.heap.objs.size ≤ b := by
          rcases (by simpa using hb : b = s2.heap.objs.size + 1 ∨ b = s2.heap.objs.size) with z | z
          · rw [z]; exact Nat.le_add_right _ _
          · rw [z]; exact Nat.le_refl _
        exact I2.fpOk hle (I2.hok.fresh hle)
theorem walk_enumT {K : PySem.W.Frag} {a : Addr} {k : Int} {xs : List V} : Walk (IteT K a k) xs.length (fun H => SqT K H a xs) (fun i H v H' => ∃ T x, v = .ref T ∧ H T = none ∧ H' = upd H T (.tup [.int (k + (i : Nat)), x]) ∧ xs[i]? = some x) :=
  ⟨fun i _ hi q => ⟨xs, xs[i], q, by simp [hi]⟩, fun _ q => ⟨xs, q, rfl⟩, fun _ _ _ _ _ q ⟨T, x, e1, e2, e3, e4⟩ => ⟨T, x, e1, e2, e3, e4 xs q⟩⟩
end Ami

set_option Elab.async false
set_option linter.all false
set_option maxRecDepth 100000
set_option maxHeartbeats 1000000
/-! enumerate(xs), of a list or a tuple, whichever comes. -/
namespace PySem
open Sem (wp)
theorem meets_enum0 {v : Value} {o : Obj} {H : Heap → Prop} (B : Begins v o H) :
    Meets (Builtin.«enumerate.__new__» ⟨[.type "enumerate", v], []⟩) (fun _ R s => H s.heap ∧
      R (.ok (.ret (.ref (s.heap.push o).objs.size))) { s with heap := (s.heap.push o).push { cls := .type "enumerate", data := .fields #[.none, .bool false, .ref s.heap.objs.size, rawInt 0, .none, .none] } }) :=
  .of_wp fun prog w A R s h => by
    obtain ⟨hp, g, d, tk, os⟩ := s; obtain ⟨h1, h⟩ := h
    have hsub := sub_enumerate
    have q1 : ∀ {A' : Around} {E : Value → Shared → Prop} {Q : Value → Shared → Prop}, Q (.ref hp.objs.size) ⟨hp.push o, g, d, tk, os⟩ → wpAny (model prog w) A' (pyIter v) Q E ⟨hp, g, d, tk, os⟩ :=
      fun q => B.iter prog w _ _ ⟨hp, g, d, tk, os⟩ _ h1 q
    wp_walk using q1
    refine wpAny_stack_any fun st => wpAny_pure ?_
    split
    · rename_i c _ _ _ _ _
      cases (c == Value.type "enumerate") <;> (wp_walk using q1; exact ⟨_, rfl, h⟩)
    · wp_walk using q1
      exact ⟨_, rfl, h⟩
theorem enum_begins0 {prog : Program} {w : World} {A : Around} {E : Value → Shared → Prop} {s : Shared} {v : Value} {o : Obj} {H : Heap → Prop} {Q : Value → Shared → Prop} (B : Begins v o H) (h1 : H s.heap)
    (h : ∀ h', IsEnum h' (s.heap.objs.size + 1) s.heap.objs.size 0 .none → h'.get? s.heap.objs.size = some o → (∀ b o, s.heap.get? b = some o → h'.get? b = some o) → Q (.ref (s.heap.objs.size + 1)) { s with heap := h' }) :
    wpAny (model prog w) A (call (.type "enumerate") [v]) Q E s := by
  refine callType_new F.called_enumerate (by decide) (F.typeCall_enumerate_1 _) (F.newCall_enumerate_1 _) (fun obj => F.args_object_init_2 obj _) F.entry_enumerate_new (meets_enum0 B) ⟨h1, ?_⟩
  have hz : (s.heap.push o).objs.size = s.heap.objs.size + 1 := Heap.size_push ..
  show _ ∧ _
  rw [hz]
  have he : IsEnum ((s.heap.push o).push { cls := .type "enumerate", data := .fields #[.none, .bool false, .ref s.heap.objs.size, rawInt 0, .none, .none] }) (s.heap.objs.size + 1) s.heap.objs.size 0 .none := by
    have := Heap.get?_push_size (s.heap.push o) (o := { cls := .type "enumerate", data := .fields #[.none, .bool false, .ref s.heap.objs.size, rawInt 0, .none, .none] }) rfl
    rw [hz] at this; exact this
  exact ⟨⟨_, he, rfl⟩, h _ he (Heap.get?_push_of_some _ (Heap.get?_push_size _ B.free)) fun b o x => Heap.get?_push_of_some _ (Heap.get?_push_of_some _ x)⟩
end PySem
namespace Ami
open PySem PySem.Spec PyProof.Rows L2
def iEnumA (K : PySem.W.Frag) (ta : TA) : TI := fun σ H R => ta σ H fun vs H1 => ∃ (a : Addr) (xs : List V), vs = [.ref a] ∧ ((SqL K H1 a xs ∧ R (IteF K a 0) H1) ∨ (SqT K H1 a xs ∧ R (IteT K a 0) H1))
theorem pi_enumA {X : Cx} {e : Expr} {ta : TA} {p pos tpos : Pos} {elts : List Expr} {kk : Nat} (hg : Gl X "enumerate") (hm : X.mg "enumerate" = none) (ha : PA X [e] ta) (hs : starEach [e] X.env = [(false, eval e X.env)] := by rfl) :
    PI X (.Tuple elts kk tpos) (.Call (.Name "enumerate" p) [e] [] pos) (iEnumA X.K ta) := by
  refine ⟨fun pins s σ H R I h => ?_⟩
  refine Call_ (ld_blt I hg hm boot_enumerate (PyProof.Rows.callWith_type1 (thn (ha.run pos pins s σ H _ I h) fun us s2 ⟨vs, H2, I2, r1, q1⟩ => ?_) hs rfl))
  obtain ⟨a, xs, rfl, q⟩ := q1
  cases r1 with
  | cons r rr =>
    cases rr
    cases r
    have young : ∀ b ∈ [s2.heap.objs.size + 1, s2.heap.objs.size], FpOk X pins H2 b := fun b hb => by
      have hle : s2.heap.objs.size ≤ b := by
        rcases (by simpa using hb : b = s2.heap.objs.size + 1 ∨ b = s2.heap.objs.size) with z | z
        · rw [z]; exact Nat.le_add_right _ _
        · rw [z]; exact Nat.le_refl _
      exact I2.fpOk hle (I2.hok.fresh hle)
    rcases q with ⟨hq, q⟩ | ⟨hq, q⟩
    · obtain ⟨its, rv, p', hz⟩ := I2.list hq
      refine enum_begins0 (begins_list a its.toArray) p'.isList fun h' he hit hk => wpAny_pyIter_enum he ?_
      have I3 : Inv X pins σ H2 { s2 with heap := h' } := I2.kept (t' := s2.toks) hk
      exact ⟨s2.heap.objs.size + 1, [s2.heap.objs.size + 1, s2.heap.objs.size], _, _, H2, rfl, I3, turn_IteF a (s2.heap.objs.size + 1) s2.heap.objs.size 0, ⟨⟨.none, he⟩, ⟨_, hit, rfl, rfl⟩, Nat.succ_ne_self _⟩, young, q⟩
    · obtain ⟨its, rv, p', hz⟩ := I2.tuple hq
      refine enum_begins0 (begins_tuple a its.toArray) (show s2.heap.IsTuple a its.toArray from p') fun h' he hit hk => wpAny_pyIter_enum he ?_
      have I3 : Inv X pins σ H2 { s2 with heap := h' } := I2.kept (t' := s2.toks) hk
      exact ⟨s2.heap.objs.size + 1, [s2.heap.objs.size + 1, s2.heap.objs.size], _, _, H2, rfl, I3, turn_IteT a (s2.heap.objs.size + 1) s2.heap.objs.size 0, ⟨⟨.none, he⟩, ⟨_, hit, rfl, rfl⟩, Nat.succ_ne_self _⟩, young, q⟩
end Ami

set_option Elab.async false
set_option linter.all false
set_option maxRecDepth 100000
set_option maxHeartbeats 2000000
/-! repr of data at any depth, dicts too: of a dict alone one must know that it is not the table of the modules, and a tracked one never is -/
namespace Ami
open PySem PySem.Spec PyProof.Rows L2
section
variable {X : Cx} {pins : List (Addr × Obj)} {σ : L2.St} {H : Hp} {s : Shared}
mutual
theorem Dq.shows (I : Inv X pins σ H s) : ∀ {v : V} {d : PyData} (u : Value), Dq X.K H v d → RelV v u → d.showable = true → d.shown.length ≤ sizeLine → ∃ bs, ReadAtMost s.heap d.depth bs ∧ ReprK X.prog X.w bs s.heap d.depth u d.shown
  | _, _, _, .non, r, _, _ => by cases r; exact ⟨[], (fun _ h => nomatch h), by simp only [PyData.shown]; exact .of_is ReprIs.none _ _ _⟩
  | _, _, _, .bl b, r, _, _ => by cases r; exact ⟨[], (fun _ h => nomatch h), by simp only [PyData.shown]; exact .of_is (ReprIs.bool b) _ _ _⟩
  | _, _, _, .int i, r, hs, _ => by
    obtain ⟨t, rfl⟩ := r
    exact ⟨[], (fun _ h => nomatch h), by simp only [PyData.shown]; exact .of_is (ReprIs.int t (by simpa [PyData.showable] using hs)) _ _ _⟩
  | _, _, _, .str x, r, _, hz => by
    obtain ⟨t, rfl⟩ := r
    exact ⟨[], (fun _ h => nomatch h), by simp only [PyData.shown]; exact .of_is (ReprIs.str x t (by simpa only [PyData.shown] using hz)) _ _ _⟩
  | _, _, _, @Dq.lst _ _ a xs ds hl ha, r, hs, hz => by
    cases r
    obtain ⟨its, rv, ⟨o, n, ho, hc, _, hd⟩, _⟩ := I.list hl
    have hzl : (listText (PyData.shownAll ds)).length ≤ sizeLine := by simpa only [PyData.shown] using hz
    obtain ⟨as, hr⟩ := DqAll.reads I its ha rv
    obtain ⟨bs, hb, hk⟩ := DqAll.shows I its ha rv (by simpa [PyData.showable] using hs) fun t ht => Nat.le_trans (listText_mem_le ht) hzl
    have rd : Reads s.heap (.ref a) (.list ds) _ := .list ho hc hd hr
    have deep : PyData.depthAll ds < (PyData.list ds).depth := by simp only [PyData.depth]; omega
    have out : a ∉ bs := not_mem_of_deeper rd deep hb
    refine ⟨a :: bs, ReadAtMost.cons rd (by simp only [PyData.depth]; omega) hb, ?_⟩
    simp only [PyData.depth, PyData.shown]
    cases its with
    | nil =>
      cases hr
      simp only [PyData.shownAll, listText_nil]
      exact ReprK.listEmpty ho hc hd
    | cons x l => exact ReprK.list ho hc hd out (by simpa using hk.length_eq) fun i y e => hk.item i y (by simpa using e)
  | _, _, _, @Dq.tup _ _ a xs ds hl ha, r, hs, hz => by
    cases r
    obtain ⟨its, rv, ⟨o, ho, hc, n, hd⟩, _⟩ := I.tuple hl
    have hzl : (tupleText (PyData.shownAll ds)).length ≤ sizeLine := by simpa only [PyData.shown] using hz
    obtain ⟨as, hr⟩ := DqAll.reads I its ha rv
    obtain ⟨bs, hb, hk⟩ := DqAll.shows I its ha rv (by simpa [PyData.showable] using hs) fun t ht => Nat.le_trans (tupleText_mem_le ht) hzl
    have rd : Reads s.heap (.ref a) (.tuple ds) _ := .tuple ho hc hd hr
    have deep : PyData.depthAll ds < (PyData.tuple ds).depth := by simp only [PyData.depth]; omega
    have out : a ∉ bs := not_mem_of_deeper rd deep hb
    refine ⟨a :: bs, ReadAtMost.cons rd (by simp only [PyData.depth]; omega) hb, ?_⟩
    simp only [PyData.depth, PyData.shown]
    exact ReprK.tuple ho hc hd out hk
  | _, _, _, @Dq.dct _ _ a kvs ds ha h1 h2, r, hs, hz => by
    cases r
    obtain ⟨_, sys, vs, kv, o, es, ep, ho, hx, hd, _, pr, _⟩ := dk_of I.hok ha
    obtain ⟨p1, p2⟩ := pairs_vals pr kv
    have hzl : (dictText (PyData.shownKv ds)).length ≤ sizeLine := by simpa only [PyData.shown] using hz
    obtain ⟨s1, s2⟩ := PyData.showableKv_split ds (by simpa [PyData.showable] using hs)
    obtain ⟨as, q1⟩ := DqAll.reads I _ h1 p1
    obtain ⟨cs, q2⟩ := DqAll.reads I _ h2 p2
    obtain ⟨b1, hb1, k1⟩ := DqAll.shows I _ h1 p1 s1 fun t ht => by
      obtain ⟨p, hp, hl⟩ := PyData.shownKv_key_le ds t ht
      exact Nat.le_trans hl (Nat.le_trans (dictText_mem_le hp) hzl)
    obtain ⟨b2, hb2, k2⟩ := DqAll.shows I _ h2 p2 s2 fun t ht => by
      obtain ⟨p, hp, hl⟩ := PyData.shownKv_val_le ds t ht
      exact Nat.le_trans hl (Nat.le_trans (dictText_mem_le hp) hzl)
    have rd : Reads s.heap (.ref a) (.dict ds) _ := .dict ho hx.1 hd q1 q2
    have both : ReadAtMost s.heap (PyData.depthKv ds) (b1 ++ b2) := (hb1.mono (PyData.depthAll_keys_le ds)).append (hb2.mono (PyData.depthAll_vals_le ds))
    have deep : PyData.depthKv ds < (PyData.dict ds).depth := by simp only [PyData.depth]; omega
    have out : a ∉ b1 ++ b2 := not_mem_of_deeper rd deep both
    refine ⟨a :: (b1 ++ b2), ReadAtMost.cons rd (by simp only [PyData.depth]; omega) both, ?_⟩
    simp only [PyData.depth, PyData.shown, PyData.shownKv_eq]
    refine ReprK.dict ho hx.1 hd sys out (ReprEntriesK.of_two es.toList _ _ ?_ ?_)
    · exact k1.more_le (fun b hb => List.mem_append_left _ hb) (PyData.depthAll_keys_le ds)
    · exact k2.more_le (fun b hb => List.mem_append_right _ hb) (PyData.depthAll_vals_le ds)
theorem DqAll.shows (I : Inv X pins σ H s) : ∀ {vs : List V} {ds : List PyData} (us : List Value), DqAll X.K H vs ds → Vals vs us → PyData.showableAll ds = true → (∀ t ∈ PyData.shownAll ds, t.length ≤ sizeLine) →
    ∃ bs, ReadAtMost s.heap (PyData.depthAll ds) bs ∧ ReprAllK X.prog X.w bs s.heap (PyData.depthAll ds) us (PyData.shownAll ds)
  | _, _, _, .nil, r, _, _ => by cases r; exact ⟨[], (fun _ h => nomatch h), by simp only [PyData.shownAll]; exact .nil⟩
  | _, _, _, @DqAll.cons _ _ v vs d ds h1 h2, r, hs, hz => by
    cases r with
    | cons r1 r2 =>
      have hs' : d.showable = true ∧ PyData.showableAll ds = true := by simpa [PyData.showableAll] using hs
      have z1 := hz _ (by simp only [PyData.shownAll]; exact List.mem_cons_self ..)
      obtain ⟨b1, hb1, k1⟩ := Dq.shows I _ h1 r1 hs'.1 z1
      obtain ⟨b2, hb2, k2⟩ := DqAll.shows I _ h2 r2 hs'.2 fun t ht => hz t (by simp only [PyData.shownAll]; exact List.mem_cons_of_mem _ ht)
      have l1 : d.depth ≤ PyData.depthAll (d :: ds) := by simp only [PyData.depthAll]; exact Nat.le_max_left _ _
      have l2 : PyData.depthAll ds ≤ PyData.depthAll (d :: ds) := by simp only [PyData.depthAll]; exact Nat.le_max_right _ _
      refine ⟨b1 ++ b2, (hb1.mono l1).append (hb2.mono l2), ?_⟩
      have e : PyData.shownAll (d :: ds) = d.shown :: PyData.shownAll ds := by simp only [PyData.shownAll]
      rw [e]
      exact .cons ((k1.more fun b hb => List.mem_append_left _ hb).level_le l1) (k2.more_le (fun b hb => List.mem_append_right _ hb) l2)
end
end
section
variable {X : Cx}
/-- repr(x), of data at any depth -/
def rReprA (K : PySem.W.Frag) : List V → Hp → VK → Prop := fun xs H Q => ∃ (x : V) (d : PyData), xs = [x] ∧ Dq K H x d ∧ d.showable = true ∧ d.shown.length ≤ sizeLine ∧ d.depth ≤ 50 ∧ Q (.str d.shown) H
theorem cr_reprA (hg : X.A.guards = some []) (hu : X.A.units + 64 < cLine) : CallR X (.builtin "repr") (rReprA X.K) := by
  intro pins s σ H xs us Q I r h
  obtain ⟨x, d, rfl, hd, hs, hz, hdep, q⟩ := h
  obtain ⟨u, rfl, rx⟩ := vals1 r
  have fin : ∀ (h' : Heap) (t : Tok) (tk : Nat), (∀ b o, s.heap.get? b = some o → h'.get? b = some o) → EP X pins σ Q (.str d.shown t) { s with heap := h', toks := tk } :=
    fun h' t tk k => ⟨.str d.shown, H, I.kept (t' := tk) k, ⟨t, rfl⟩, q⟩
  have same : EP X pins σ Q (.str d.shown s.toks) { s with toks := s.toks + 1 } := fin s.heap s.toks (s.toks + 1) fun _ _ e => e
  cases hd with
  | non => cases rx; exact PySem.P.repr_of_none same
  | bl b => cases rx; exact PySem.P.repr_of_bool same
  | int i =>
    obtain ⟨t, rfl⟩ := rx
    exact PySem.P.repr_of_int (of_decide_eq_true hs) same
  | str y =>
    obtain ⟨t, rfl⟩ := rx
    exact PySem.P.repr_of_str same hz
  | @lst a xs ds hl ha =>
    cases rx
    obtain ⟨its, rv, ⟨o, n, ho, hc, _, hd⟩, _⟩ := I.list hl
    have hzl : (listText (PyData.shownAll ds)).length ≤ sizeLine := by simpa only [PyData.shown] using hz
    obtain ⟨as, hr⟩ := DqAll.reads I its ha rv
    obtain ⟨bs, hb, hk⟩ := DqAll.shows I its ha rv (by simpa [PyData.showable] using hs) fun t ht => Nat.le_trans (listText_mem_le ht) hzl
    have out : a ∉ bs := not_mem_of_deeper (.list ho hc hd hr) (by simp only [PyData.depth]; omega) hb
    simp only [PyData.depth] at hdep
    simp only [PyData.shown] at fin
    refine call_repr_slot (by omega) ⟨o, ho, hc⟩ PySem.F.slot_list_repr.toG ?_
    cases its with
    | nil =>
      cases hr
      simp only [PyData.shownAll, listText_nil] at fin
      exact call_list_repr_empty ⟨o, ho, hc⟩ ho hd ⟨_, _, rfl, fin s.heap _ _ fun _ _ e => e⟩
    | cons y l =>
      exact call_list_reprK ho hc hd out (by simpa using hk.length_eq) (fun i y e => hk.item i y (by simpa using e)) hg (fun b _ => Clear.nil b) (by show X.A.units + 1 + _ < _; omega) (fun _ _ e => e) (fun h' t tk k => ⟨_, _, rfl, fin h' t tk k⟩) hzl
  | @tup a xs ds hl ha =>
    cases rx
    obtain ⟨its, rv, ⟨o, ho, hc, n, hd⟩, _⟩ := I.tuple hl
    have hzl : (tupleText (PyData.shownAll ds)).length ≤ sizeLine := by simpa only [PyData.shown] using hz
    obtain ⟨as, hr⟩ := DqAll.reads I its ha rv
    obtain ⟨bs, hb, hk⟩ := DqAll.shows I its ha rv (by simpa [PyData.showable] using hs) fun t ht => Nat.le_trans (tupleText_mem_le ht) hzl
    have out : a ∉ bs := not_mem_of_deeper (.tuple ho hc hd hr) (by simp only [PyData.depth]; omega) hb
    simp only [PyData.depth] at hdep
    simp only [PyData.shown] at fin
    refine call_repr_slot (by omega) ⟨o, ho, hc⟩ PySem.F.slot_tuple_repr ?_
    exact call_tuple_reprK ho hc hd out hk hg (fun b _ => Clear.nil b) (by show X.A.units + 1 + _ < _; omega) (fun _ _ e => e) (fun h' t tk k => ⟨_, _, rfl, fin h' t tk k⟩) hzl
  | @dct a kvs ds ha h1 h2 =>
    cases rx
    have full : Dq X.K H (.ref a) (.dict ds) := .dct ha h1 h2
    obtain ⟨_, sys, vs, kv, o, es, ep, ho, hx, hd, _, pr, _⟩ := dk_of I.hok ha
    obtain ⟨p1, p2⟩ := pairs_vals pr kv
    have hzl : (dictText (PyData.shownKv ds)).length ≤ sizeLine := by simpa only [PyData.shown] using hz
    obtain ⟨s1, s2⟩ := PyData.showableKv_split ds (by simpa [PyData.showable] using hs)
    obtain ⟨as, q1⟩ := DqAll.reads I _ h1 p1
    obtain ⟨cs, q2⟩ := DqAll.reads I _ h2 p2
    obtain ⟨b1, hb1, k1⟩ := DqAll.shows I _ h1 p1 s1 fun t ht => by
      obtain ⟨p, hp, hl⟩ := PyData.shownKv_key_le ds t ht
      exact Nat.le_trans hl (Nat.le_trans (dictText_mem_le hp) hzl)
    obtain ⟨b2, hb2, k2⟩ := DqAll.shows I _ h2 p2 s2 fun t ht => by
      obtain ⟨p, hp, hl⟩ := PyData.shownKv_val_le ds t ht
      exact Nat.le_trans hl (Nat.le_trans (dictText_mem_le hp) hzl)
    have both : ReadAtMost s.heap (PyData.depthKv ds) (b1 ++ b2) := (hb1.mono (PyData.depthAll_keys_le ds)).append (hb2.mono (PyData.depthAll_vals_le ds))
    have out : a ∉ b1 ++ b2 := not_mem_of_deeper (.dict ho hx.1 hd q1 q2) (by simp only [PyData.depth]; omega) both
    simp only [PyData.depth] at hdep
    simp only [PyData.shown, PyData.shownKv_eq] at fin
    refine call_repr_slot (by omega) ⟨o, ho, hx.1⟩ PySem.F.slot_dict_repr ?_
    have e1 := k1.more_le (fun b hb => List.mem_append_left b2 hb) (PyData.depthAll_keys_le ds)
    have e2 := k2.more_le (fun b hb => List.mem_append_right b1 hb) (PyData.depthAll_vals_le ds)
    exact call_dict_reprK ho hx.1 hd sys out (ReprEntriesK.of_two es.toList _ _ e1 e2) hg (fun b _ => Clear.nil b) (by show X.A.units + 1 + _ < _; omega) (fun _ _ e => e) (fun h' t tk k => ⟨_, _, rfl, fin h' t tk k⟩) (by rw [← PyData.shownKv_eq]; exact hzl)
end
end Ami

set_option linter.all false
/-! words that are powers, and words within their double: plain lists, for k02 -/
namespace K02m
/-- p is a period of f -/
def Per {α : Type} (f : Nat → α) (p : Nat) : Prop := ∀ i, f (i + p) = f i
theorem Per.mul {α : Type} {f : Nat → α} {p : Nat} (h : Per f p) : ∀ k, Per f (k * p)
  | 0 => fun i => by rw [Nat.zero_mul]; rfl
  | k + 1 => fun i => by
    rw [Nat.succ_mul, ← Nat.add_assoc, h, Per.mul h k]
theorem Per.mod {α : Type} {f : Nat → α} {p q : Nat} (hp : Per f p) (hq : Per f q) : Per f (q % p) := fun i => by
  have e : i + q % p + (q / p) * p = i + q := by
    have := Nat.mod_add_div q p
    rw [Nat.mul_comm] at this
    omega
  rw [← Per.mul hp (q / p) (i + q % p), e, hq]
theorem Per.gcd {α : Type} {f : Nat → α} : ∀ (p q : Nat), Per f p → Per f q → Per f (Nat.gcd p q) := by
  intro p q
  induction p, q using Nat.gcd.induction with
  | H0 q => intro _ h; rw [Nat.gcd_zero_left]; exact h
  | H1 p q hp ih =>
    intro h1 h2
    rw [Nat.gcd_rec]
    exact ih (Per.mod h1 h2) h1
/-- the letters of w, again and again -/
def ring {α : Type} [Inhabited α] (w : List α) (i : Nat) : α := w.getD (i % w.length) default
theorem ring_len {α : Type} [Inhabited α] (w : List α) : Per (ring w) w.length := fun i => by
  unfold ring
  rw [Nat.add_mod_right]
theorem ring_at {α : Type} [Inhabited α] {w : List α} {i : Nat} (h : i < w.length) : ring w i = w[i] := by
  unfold ring
  rw [Nat.mod_eq_of_lt h, List.getD_eq_getElem?_getD, List.getElem?_eq_getElem h]; rfl
/-- w turned by j is w: then j is a period of its ring -/
theorem per_of_turn {α : Type} [Inhabited α] {w : List α} {j : Nat} (hj : j ≤ w.length) (h : w.drop j ++ w.take j = w) : Per (ring w) j := by
  intro i
  by_cases h0 : w.length = 0
  · have : w = [] := List.length_eq_zero_iff.mp h0
    subst this
    unfold ring
    simp
  · have hn : 0 < w.length := Nat.pos_of_ne_zero h0
    have key : ∀ m, m < w.length → ring w (m + j) = ring w m := by
      intro m hm
      rw [ring_at hm]
      have e : w[m]? = (w.drop j ++ w.take j)[m]? := by rw [h]
      rw [List.getElem?_eq_getElem hm] at e
      by_cases c : m + j < w.length
      · rw [ring_at c]
        rw [List.getElem?_append_left (by rw [List.length_drop]; omega), List.getElem?_drop, List.getElem?_eq_getElem (by omega : j + m < w.length)] at e
        have e2 := Option.some.inj e
        rw [e2]
        congr 1
        omega
      · rw [List.getElem?_append_right (by rw [List.length_drop]; omega), List.length_drop, List.getElem?_take_of_lt (by omega), List.getElem?_eq_getElem (by omega : m - (w.length - j) < w.length)] at e
        have e2 := Option.some.inj e
        rw [e2]
        have e3 : (m + j) % w.length = m - (w.length - j) := by
          rw [Nat.mod_eq_sub_mod (by omega), Nat.mod_eq_of_lt (by omega)]
          omega
        unfold ring
        rw [e3, List.getD_eq_getElem?_getD, List.getElem?_eq_getElem (by omega : m - (w.length - j) < w.length)]
        rfl
    have e1 : ring w i = ring w (i % w.length) := by unfold ring; rw [Nat.mod_mod]
    have e2 : ring w (i + j) = ring w (i % w.length + j) := by
      unfold ring
      rw [Nat.mod_add_mod]
    rw [e1, e2]
    exact key _ (Nat.mod_lt _ hn)
/-- a period k of the ring, a divisor of the length: w is its first k letters, repeated -/
theorem power_of_per {α : Type} [Inhabited α] {w : List α} {k : Nat} (hk : 0 < k) (hd : k ∣ w.length) (h : Per (ring w) k) : (List.replicate (w.length / k) (w.take k)).flatten = w := by
  obtain ⟨c, hc⟩ := hd
  have hq : w.length / k = c := by rw [hc, Nat.mul_div_cancel_left _ hk]
  rw [hq]
  have all : ∀ m, m ≤ c → (List.replicate m (w.take k)).flatten = w.take (m * k) := by
    intro m
    induction m with
    | zero => intro _; simp
    | succ m ih =>
      intro hm
      rw [List.replicate_succ', List.flatten_append, ih (by omega), List.flatten_singleton, Nat.succ_mul, List.take_add]
      congr 1
      have hlen : (m + 1) * k ≤ w.length := by
        rw [hc, Nat.mul_comm k c]
        exact Nat.mul_le_mul_right k hm
      rw [Nat.succ_mul] at hlen
      refine List.ext_getElem ?_ fun i h1 h2 => ?_
      · rw [List.length_take, List.length_take, List.length_drop]
        omega
      · rw [List.getElem_take, List.getElem_take, List.getElem_drop]
        have hi : i < k := by
          rw [List.length_take] at h1
          omega
        rw [← ring_at (by omega : i < w.length), ← ring_at (by omega : m * k + i < w.length)]
        rw [Nat.add_comm (m * k) i]
        exact (Per.mul h m i).symm
  rw [all c (Nat.le_refl _), Nat.mul_comm, ← hc, List.take_length]
/-- w is its first k letters repeated: w turned by k is w -/
theorem turn_of_power {α : Type} {w : List α} {k : Nat} (hk : k ≤ w.length) (h : (List.replicate (w.length / k) (w.take k)).flatten = w) (hc : 0 < w.length / k) : w.drop k ++ w.take k = w := by
  obtain ⟨c, hc'⟩ : ∃ c, w.length / k = c + 1 := ⟨w.length / k - 1, by omega⟩
  rw [hc'] at h
  have e1 : w.take k ++ (List.replicate c (w.take k)).flatten = w := by
    rw [← List.flatten_cons, ← List.replicate_succ]; exact h
  have hl : (w.take k).length = k := by rw [List.length_take]; omega
  have e2 : w.drop k = (List.replicate c (w.take k)).flatten := by
    have := congrArg (List.drop k) e1
    rw [List.drop_append_of_le_length (by omega), List.drop_eq_nil_of_le (by omega), List.nil_append] at this
    exact this.symm
  rw [e2]
  have e3 : (List.replicate c (w.take k)).flatten ++ w.take k = (List.replicate (c + 1) (w.take k)).flatten := by
    rw [List.replicate_succ', List.flatten_append, List.flatten_singleton]
  rw [e3]; exact h
/-- a turn that gives w again, a true one: w is a smaller word, repeated; and the other way round -/
theorem turn_iff_power {α : Type} [Inhabited α] (w : List α) : (∃ j, 0 < j ∧ j < w.length ∧ w.drop j ++ w.take j = w) ↔ (∃ k, 0 < k ∧ k < w.length ∧ w.length % k = 0 ∧ (List.replicate (w.length / k) (w.take k)).flatten = w) := by
  constructor
  · rintro ⟨j, h0, h1, h⟩
    have p := per_of_turn (Nat.le_of_lt h1) h
    have g := Per.gcd j w.length p (ring_len w)
    have g0 : 0 < Nat.gcd j w.length := Nat.gcd_pos_of_pos_left _ h0
    have gl : Nat.gcd j w.length ≤ j := Nat.le_of_dvd h0 (Nat.gcd_dvd_left _ _)
    exact ⟨Nat.gcd j w.length, g0, by omega, Nat.mod_eq_zero_of_dvd (Nat.gcd_dvd_right _ _), power_of_per g0 (Nat.gcd_dvd_right _ _) g⟩
  · rintro ⟨k, h0, h1, hm, h⟩
    exact ⟨k, h0, h1, turn_of_power (Nat.le_of_lt h1) h (Nat.div_pos (Nat.le_of_lt h1) h0)⟩
end K02m

set_option linter.all false
/-! words that are turned and repeated: roots, and how many turns there are -/
namespace Rng
open K02m
section
variable {α : Type}
theorem perm_of [DecidableEq α] {a b : List α} (ha : a.Nodup) (hb : b.Nodup) (h : ∀ x, x ∈ a ↔ x ∈ b) : a.Perm b := by
  rw [List.perm_iff_count]
  intro x
  by_cases hx : x ∈ a
  · rw [List.Nodup.count ha, List.Nodup.count hb, if_pos hx, if_pos ((h x).mp hx)]
  · rw [List.count_eq_zero_of_not_mem hx, List.count_eq_zero_of_not_mem fun z => hx ((h x).mpr z)]
def sumBy (f : α → Nat) (l : List α) : Nat := (l.map f).sum
theorem sumBy_nil (f : α → Nat) : sumBy f [] = 0 := rfl
theorem sumBy_cons (f : α → Nat) (a : α) (l : List α) : sumBy f (a :: l) = f a + sumBy f l := rfl
theorem sumBy_append (f : α → Nat) (a b : List α) : sumBy f (a ++ b) = sumBy f a + sumBy f b := by
  unfold sumBy
  rw [List.map_append, List.sum_append_nat]
theorem sumBy_perm (f : α → Nat) {a b : List α} (h : a.Perm b) : sumBy f a = sumBy f b := by
  induction h with
  | nil => rfl
  | cons x _ ih => rw [sumBy_cons, sumBy_cons, ih]
  | swap x y l => rw [sumBy_cons, sumBy_cons, sumBy_cons, sumBy_cons]; omega
  | trans _ _ h1 h2 => exact h1.trans h2
theorem sumBy_congr {f g : α → Nat} {l : List α} (h : ∀ x ∈ l, f x = g x) : sumBy f l = sumBy g l := by
  induction l with
  | nil => rfl
  | cons a l ih =>
    rw [sumBy_cons, sumBy_cons, h a List.mem_cons_self, ih fun x hx => h x (List.mem_cons_of_mem _ hx)]
theorem sumBy_add (f g : α → Nat) (l : List α) : sumBy (fun x => f x + g x) l = sumBy f l + sumBy g l := by
  induction l with
  | nil => rfl
  | cons a l ih => rw [sumBy_cons, sumBy_cons, sumBy_cons, ih]; omega
theorem sumBy_mul (c : Nat) (f : α → Nat) (l : List α) : sumBy (fun x => c * f x) l = c * sumBy f l := by
  induction l with
  | nil => rfl
  | cons a l ih => rw [sumBy_cons, sumBy_cons, ih, Nat.mul_add]
theorem sumBy_const (c : Nat) (l : List α) : sumBy (fun _ => c) l = l.length * c := by
  induction l with
  | nil => simp [sumBy]
  | cons a l ih => rw [sumBy_cons, ih, List.length_cons, Nat.succ_mul]; omega
theorem sumBy_map {β : Type} (f : β → Nat) (g : α → β) (l : List α) : sumBy f (l.map g) = sumBy (fun x => f (g x)) l := by
  unfold sumBy
  rw [List.map_map]; rfl
theorem sumBy_flat {β : Type} (f : β → Nat) (g : α → List β) (l : List α) : sumBy f (l.flatMap g) = sumBy (fun x => sumBy f (g x)) l := by
  induction l with
  | nil => rfl
  | cons a l ih => rw [List.flatMap_cons, sumBy_append, ih, sumBy_cons]
theorem sumBy_swap {β : Type} (f : α → β → Nat) (l : List α) (m : List β) : sumBy (fun x => sumBy (f x) m) l = sumBy (fun y => sumBy (fun x => f x y) l) m := by
  induction l with
  | nil =>
    show 0 = _
    rw [show (fun y => sumBy (fun x => f x y) []) = fun _ : β => 0 from rfl, sumBy_const, Nat.mul_zero]
  | cons a l ih =>
    rw [sumBy_cons, ih, ← sumBy_add]; rfl
theorem sumBy_pick [DecidableEq α] (c : Nat) (a : α) : ∀ {D : List α}, D.Nodup → a ∈ D → sumBy (fun d => if a = d then c else 0) D = c
  | d :: D, hn, hm => by
    rw [List.nodup_cons] at hn
    rw [sumBy_cons]
    by_cases e : a = d
    · rw [if_pos e]
      have : sumBy (fun d => if a = d then c else 0) D = sumBy (fun _ => 0) D := sumBy_congr fun x hx => if_neg fun z => hn.1 (by rw [← e, z]; exact hx)
      rw [this, sumBy_const]; omega
    · rw [if_neg e, sumBy_pick c a hn.2 ((List.mem_cons.mp hm).resolve_left e)]; omega
/-- a sum, sorted by what g says -/
theorem sum_split {β : Type} [DecidableEq β] (g : α → β) (f : α → Nat) {D : List β} (hD : D.Nodup) : ∀ {l : List α}, (∀ w ∈ l, g w ∈ D) → sumBy f l = sumBy (fun d => sumBy f (l.filter fun w => decide (g w = d))) D
  | [], _ => by
    rw [show (fun d => sumBy f (([] : List α).filter fun w => decide (g w = d))) = fun _ : β => 0 from rfl, sumBy_const, Nat.mul_zero]; rfl
  | w :: l, h => by
    have ih := sum_split g f hD (l := l) fun x hx => h x (List.mem_cons_of_mem _ hx)
    have e : (fun d => sumBy f ((w :: l).filter fun w => decide (g w = d))) = fun d => (if g w = d then f w else 0) + sumBy f (l.filter fun w => decide (g w = d)) := by
      funext d
      rw [List.filter_cons]
      by_cases hd : g w = d
      · rw [if_pos (decide_eq_true hd), if_pos hd, sumBy_cons]
      · rw [if_neg (by rw [decide_eq_false hd]; decide), if_neg hd]; omega
    rw [sumBy_cons, ih, e, sumBy_add, sumBy_pick _ _ hD (h w List.mem_cons_self)]
theorem length_filter_two (p : α → Bool) : ∀ l : List α, l.length = (l.filter p).length + (l.filter fun x => !p x).length
  | [] => rfl
  | a :: l => by
    have ih := length_filter_two p l
    rw [List.filter_cons, List.filter_cons]
    cases p a with
    | true => simp only [if_true, Bool.not_true, Bool.false_eq_true, if_false, List.length_cons]; omega
    | false => simp only [Bool.false_eq_true, if_false, Bool.not_false, if_true, List.length_cons]; omega
/-- f, so many times -/
def it (f : α → α) : Nat → α → α
  | 0, x => x
  | n + 1, x => it f n (f x)
theorem it_add (f : α → α) : ∀ (a b : Nat) (x : α), it f (a + b) x = it f b (it f a x)
  | 0, b, x => by rw [Nat.zero_add]; rfl
  | a + 1, b, x => by
    rw [Nat.add_right_comm]
    exact it_add f a b (f x)
theorem it_succ (f : α → α) (n : Nat) (x : α) : it f (n + 1) x = f (it f n x) := it_add f n 1 x
theorem it_mem {f : α → α} {X : List α} (h : ∀ x ∈ X, f x ∈ X) : ∀ (n : Nat) {x : α}, x ∈ X → it f n x ∈ X
  | 0, _, hx => hx
  | n + 1, _, hx => it_mem h n (h _ hx)
theorem it_mul {f : α → α} {m : Nat} {x : α} (h : it f m x = x) : ∀ k, it f (k * m) x = x
  | 0 => by rw [Nat.zero_mul]; rfl
  | k + 1 => by rw [Nat.succ_mul, it_add, it_mul h k, h]
theorem it_mod {f : α → α} {m : Nat} {x : α} (h : it f m x = x) (n : Nat) : it f n x = it f (n % m) x := by
  conv => lhs; rw [← Nat.div_add_mod n m, Nat.mul_comm, it_add, it_mul h]
/-- all circles have m members: m divides -/
theorem circles [DecidableEq α] {f : α → α} {m : Nat} (hm : 0 < m) : ∀ (k : Nat) {X : List α}, X.length ≤ k → X.Nodup → (∀ x ∈ X, f x ∈ X) → (∀ x ∈ X, it f m x = x) → (∀ x ∈ X, ∀ i, 0 < i → i < m → it f i x ≠ x) → m ∣ X.length
  | 0, [], _, _, _, _, _ => Nat.dvd_zero m
  | k + 1, [], _, _, _, _, _ => Nat.dvd_zero m
  | k + 1, x :: X0, hk, hn, hc, hr, ha => by
    generalize hX : x :: X0 = X at *
    have hx : x ∈ X := by rw [← hX]; exact List.mem_cons_self
    have hr' := hr x hx
    have nd : ((List.range m).map fun i => it f i x).Nodup := by
      refine List.pairwise_map.mpr (List.Pairwise.imp_of_mem ?_ List.pairwise_lt_range)
      intro i j hi hj hij e
      rw [List.mem_range] at hi hj
      have e2 := congrArg (it f (m - i)) e
      rw [← it_add, ← it_add, show i + (m - i) = m from by omega, hr', show j + (m - i) = (j - i) + m from by omega, it_add] at e2
      have e3 := hr (it f (j - i) x) (it_mem hc _ hx)
      rw [e3] at e2
      exact ha x hx (j - i) (by omega) (by omega) e2.symm
    have memO : ∀ y, y ∈ ((List.range m).map fun i => it f i x) ↔ ∃ i, y = it f i x := by
      intro y
      rw [List.mem_map]
      constructor
      · rintro ⟨i, _, rfl⟩; exact ⟨i, rfl⟩
      · rintro ⟨i, rfl⟩
        exact ⟨i % m, List.mem_range.mpr (Nat.mod_lt _ hm), (it_mod hr' i).symm⟩
    have two := length_filter_two (fun y => decide (y ∈ (List.range m).map fun i => it f i x)) X
    have p1 : (X.filter fun y => decide (y ∈ (List.range m).map fun i => it f i x)).Perm ((List.range m).map fun i => it f i x) := by
      refine perm_of (hn.filter _) nd fun y => ?_
      rw [List.mem_filter, decide_eq_true_eq]
      constructor
      · exact And.right
      · intro h
        obtain ⟨i, rfl⟩ := (memO y).mp h
        exact ⟨it_mem hc i hx, h⟩
    have l1 := p1.length_eq
    rw [List.length_map, List.length_range] at l1
    have l2 : X.length = X0.length + 1 := by rw [← hX]; rfl
    have rest := circles (f := f) hm k (X := X.filter fun y => !decide (y ∈ (List.range m).map fun i => it f i x)) (by omega) (hn.filter _) ?_ ?_ ?_
    · rw [two, l1]
      exact Nat.dvd_add (Nat.dvd_refl m) rest
    · intro y hy
      rw [List.mem_filter, Bool.not_eq_true', decide_eq_false_iff_not] at hy ⊢
      refine ⟨hc y hy.1, fun z => hy.2 ?_⟩
      obtain ⟨i, e⟩ := (memO _).mp z
      have e2 := congrArg (it f (m - 1)) e
      rw [show it f (m - 1) (f y) = it f (m - 1 + 1) y from rfl, show m - 1 + 1 = m from by omega, hr y hy.1, ← it_add] at e2
      exact (memO y).mpr ⟨_, e2⟩
    · intro y hy
      exact hr y (List.mem_filter.mp hy).1
    · intro y hy
      exact ha y (List.mem_filter.mp hy).1
/-- turned by one letter -/
def r1 : List α → List α
  | [] => []
  | x :: l => l ++ [x]
theorem it_r1 : ∀ (j : Nat) (w : List α), j ≤ w.length → it r1 j w = w.drop j ++ w.take j
  | 0, w, _ => by rw [List.drop_zero, List.take_zero, List.append_nil]; rfl
  | j + 1, x :: l, h => by
    rw [List.length_cons] at h
    show it r1 j (l ++ [x]) = l.drop j ++ x :: l.take j
    rw [it_r1 j (l ++ [x]) (by rw [List.length_append]; omega), List.drop_append_of_le_length (by omega), List.take_append_of_le_length (by omega), List.append_assoc]; rfl
theorem r1_len (w : List α) : (r1 w).length = w.length := by
  cases w with
  | nil => rfl
  | cons x l => show (l ++ [x]).length = _; rw [List.length_append]; rfl
theorem r1_mem {w : List α} {x : α} : x ∈ r1 w ↔ x ∈ w := by
  cases w with
  | nil => exact Iff.rfl
  | cons y l =>
    show x ∈ l ++ [y] ↔ _
    rw [List.mem_append, List.mem_singleton, List.mem_cons]
    exact Or.comm
theorem r1_inj {v w : List α} (h : r1 v = r1 w) : v = w := by
  cases v with
  | nil =>
    have := congrArg List.length h
    rw [r1_len, r1_len] at this
    exact (List.length_eq_zero_iff.mp this.symm).symm
  | cons x l =>
    cases w with
    | nil =>
      have := congrArg List.length h
      rw [r1_len, r1_len] at this
      exact absurd this (by simp)
    | cons y m =>
      have h' : l ++ [x] = m ++ [y] := h
      have q := List.append_inj' h' rfl
      rw [q.1, (List.cons.inj q.2).1]
theorem it_r1_inj : ∀ (j : Nat) {v w : List α}, it r1 j v = it r1 j w → v = w
  | 0, _, _, h => h
  | j + 1, _, _, h => r1_inj (it_r1_inj j h)
/-- v, so many times -/
def pw (v : List α) (e : Nat) : List α := (List.replicate e v).flatten
theorem pw_succ (v : List α) (e : Nat) : pw v (e + 1) = v ++ pw v e := by
  unfold pw
  rw [List.replicate_succ, List.flatten_cons]
theorem pw_one (v : List α) : pw v 1 = v := by rw [pw_succ]; exact List.append_nil v
theorem pw_add (v : List α) (b : Nat) : ∀ a, pw v (a + b) = pw v a ++ pw v b
  | 0 => by rw [Nat.zero_add]; rfl
  | a + 1 => by rw [Nat.add_right_comm, pw_succ, pw_succ, pw_add v b a, List.append_assoc]
theorem pw_mul (v : List α) (a : Nat) : ∀ b, pw (pw v a) b = pw v (b * a)
  | 0 => by rw [Nat.zero_mul]; rfl
  | b + 1 => by rw [pw_succ, pw_mul v a b, Nat.succ_mul, Nat.add_comm, pw_add]
theorem pw_length (v : List α) : ∀ e, (pw v e).length = e * v.length
  | 0 => by rw [Nat.zero_mul]; rfl
  | e + 1 => by rw [pw_succ, List.length_append, pw_length v e, Nat.succ_mul]; omega
theorem pw_turn (v : List α) (e : Nat) : it r1 v.length (pw v (e + 1)) = pw v (e + 1) := by
  rw [it_r1 _ _ (by rw [pw_succ, List.length_append]; omega), pw_succ, List.drop_left, List.take_left]
  have : pw v e ++ pw v 1 = pw v (e + 1) := (pw_add v 1 e).symm
  rw [pw_one] at this
  rw [this, pw_succ]
theorem least {P : Nat → Prop} (h : ∃ n, P n) : ∃ n, P n ∧ ∀ m, m < n → ¬ P m := by
  obtain ⟨n, hn⟩ := h
  induction n using Nat.strongRecOn with
  | _ n ih =>
    by_cases c : ∃ m, m < n ∧ P m
    · obtain ⟨m, h1, h2⟩ := c
      exact ih m h1 h2
    · exact ⟨n, hn, fun m h1 h2 => c ⟨m, h1, h2⟩⟩
theorem it_len (w : List α) : it r1 w.length w = w := by
  rw [it_r1 _ _ (Nat.le_refl _), List.drop_length, List.take_length]; rfl
theorem per_ex (w : List α) : ∃ n, 0 < n ∧ it r1 n w = w := by
  by_cases h : w = []
  · subst h
    exact ⟨1, by decide, rfl⟩
  · exact ⟨w.length, List.length_pos_iff.mpr h, it_len w⟩
/-- the least turn that gives the word again -/
noncomputable def per (w : List α) : Nat := Classical.choose (least (per_ex w))
theorem per_pos (w : List α) : 0 < per w := (Classical.choose_spec (least (per_ex w))).1.1
theorem per_turn (w : List α) : it r1 (per w) w = w := (Classical.choose_spec (least (per_ex w))).1.2
theorem per_least {w : List α} {j : Nat} (h0 : 0 < j) (h : it r1 j w = w) : per w ≤ j := by
  refine Nat.le_of_not_lt fun c => ?_
  exact (Classical.choose_spec (least (per_ex w))).2 j c ⟨h0, h⟩
theorem per_le {w : List α} (h : w ≠ []) : per w ≤ w.length := per_least (List.length_pos_iff.mpr h) (it_len w)
end
section
variable {α : Type} [Inhabited α]
/-- a common divisor of a turn and the length is a turn, too -/
theorem turn_gcd {w : List α} (hw : w ≠ []) {j : Nat} (h0 : 0 < j) (hj : j ≤ w.length) (h : it r1 j w = w) : pw (w.take (Nat.gcd j w.length)) (w.length / Nat.gcd j w.length) = w ∧ it r1 (Nat.gcd j w.length) w = w := by
  rw [it_r1 j w hj] at h
  have g := Per.gcd j w.length (per_of_turn hj h) (ring_len w)
  have g0 : 0 < Nat.gcd j w.length := Nat.gcd_pos_of_pos_left _ h0
  have gl : Nat.gcd j w.length ≤ w.length := Nat.le_of_dvd (List.length_pos_iff.mpr hw) (Nat.gcd_dvd_right _ _)
  have e := power_of_per g0 (Nat.gcd_dvd_right _ _) g
  refine ⟨e, ?_⟩
  rw [it_r1 _ _ gl]
  exact turn_of_power gl e (Nat.div_pos gl g0)
theorem per_dvd {w : List α} (hw : w ≠ []) : per w ∣ w.length ∧ pw (w.take (per w)) (w.length / per w) = w := by
  obtain ⟨a, b⟩ := turn_gcd hw (per_pos w) (per_le hw) (per_turn w)
  have g0 : 0 < Nat.gcd (per w) w.length := Nat.gcd_pos_of_pos_left _ (per_pos w)
  have h1 := per_least g0 b
  have h2 : Nat.gcd (per w) w.length ≤ per w := Nat.le_of_dvd (per_pos w) (Nat.gcd_dvd_left _ _)
  have e : Nat.gcd (per w) w.length = per w := by omega
  rw [e] at a
  refine ⟨?_, a⟩
  have := Nat.gcd_dvd_right (per w) w.length
  rwa [e] at this
/-- no smaller word, repeated -/
def Prim (w : List α) : Prop := w ≠ [] ∧ per w = w.length
theorem root_prim {w : List α} (hw : w ≠ []) : Prim (w.take (per w)) ∧ (w.take (per w)).length = per w := by
  obtain ⟨hd, hp⟩ := per_dvd hw
  have hl : (w.take (per w)).length = per w := by rw [List.length_take]; have := per_le hw; omega
  have ne : w.take (per w) ≠ [] := fun e => by
    have := per_pos w
    rw [← hl, e] at this
    exact absurd this (by simp)
  refine ⟨⟨ne, ?_⟩, hl⟩
  obtain ⟨d2, p2⟩ := per_dvd ne
  have le := per_le ne
  refine Nat.le_antisymm le ?_
  rw [hl]
  refine per_least (per_pos _) ?_
  obtain ⟨e, he⟩ : ∃ e, (w.length / per w) * ((w.take (per w)).length / per (w.take (per w))) = e + 1 := by
    have q1 : 0 < w.length / per w := Nat.div_pos (per_le hw) (per_pos w)
    have q2 : 0 < (w.take (per w)).length / per (w.take (per w)) := Nat.div_pos le (per_pos _)
    have := Nat.mul_pos q1 q2
    exact ⟨_, (Nat.succ_pred_eq_of_pos this).symm⟩
  have e2 : pw ((w.take (per w)).take (per (w.take (per w)))) (e + 1) = w := by
    rw [← he, ← pw_mul, p2, hp]
  have e3 := pw_turn ((w.take (per w)).take (per (w.take (per w)))) e
  rw [e2] at e3
  have e4 : ((w.take (per w)).take (per (w.take (per w)))).length = per (w.take (per w)) := by rw [List.length_take]; omega
  rw [e4] at e3
  exact e3
theorem per_pw {v : List α} (hv : Prim v) (e : Nat) : per (pw v (e + 1)) = v.length := by
  have vp : 0 < v.length := List.length_pos_iff.mpr hv.1
  have h1 : per (pw v (e + 1)) ≤ v.length := per_least vp (pw_turn v e)
  have ne : pw v (e + 1) ≠ [] := fun z => by
    have : (pw v (e + 1)).length = 0 := by rw [z]; rfl
    rw [pw_length, Nat.succ_mul] at this
    omega
  have le := per_le ne
  refine Nat.le_antisymm h1 ?_
  -- the least turn divides the length of v
  have t1 := per_turn (pw v (e + 1))
  have lw : (pw v (e + 1)).length = (e + 1) * v.length := pw_length v _
  have pr := per_of_turn le (by rw [← it_r1 _ _ le]; exact t1)
  have vl : v.length ≤ (pw v (e + 1)).length := by rw [lw, Nat.succ_mul]; omega
  have pv := per_of_turn vl (by rw [← it_r1 _ _ vl]; exact pw_turn v e)
  have g := Per.gcd _ _ pr pv
  have g0 : 0 < Nat.gcd (per (pw v (e + 1))) v.length := Nat.gcd_pos_of_pos_left _ (per_pos _)
  have gd : Nat.gcd (per (pw v (e + 1))) v.length ∣ v.length := Nat.gcd_dvd_right _ _
  have gl : Nat.gcd (per (pw v (e + 1))) v.length ≤ per (pw v (e + 1)) := Nat.le_of_dvd (per_pos _) (Nat.gcd_dvd_left _ _)
  have pe := power_of_per g0 (by rw [lw]; exact Nat.dvd_trans gd (Nat.dvd_mul_left _ _)) g
  generalize Nat.gcd (per (pw v (e + 1))) v.length = q at g0 gd gl pe
  obtain ⟨c, hc⟩ := gd
  have c0 : 0 < c := Nat.pos_of_ne_zero fun z => by rw [z] at hc; omega
  have ec : (pw v (e + 1)).length / q = (e + 1) * c := by
    rw [lw, hc, Nat.mul_left_comm, Nat.mul_div_cancel_left _ g0]
  rw [ec] at pe
  have pe' : pw ((pw v (e + 1)).take q) (c + e * c) = pw v (e + 1) := by
    rw [show c + e * c = (e + 1) * c from by rw [Nat.succ_mul]; omega]
    exact pe
  have lq : ((pw v (e + 1)).take q).length = q := by
    rw [List.length_take]
    have : q ≤ v.length := Nat.le_of_dvd vp ⟨c, hc⟩
    omega
  generalize (pw v (e + 1)).take q = x at pe' lq
  have ev : pw x c = v := by
    have t := congrArg (List.take v.length) pe'
    rw [pw_add, pw_succ v e, List.take_left, List.take_left' (by rw [pw_length, lq, hc, Nat.mul_comm])] at t
    exact t
  obtain ⟨c', rfl⟩ : ∃ c', c = c' + 1 := ⟨c - 1, by omega⟩
  have tv := pw_turn x c'
  rw [ev, lq] at tv
  have := per_least g0 tv
  rw [hv.2] at this
  omega
theorem prim_iff {w : List α} (hw : w ≠ []) : Prim w ↔ ¬ ∃ j, 0 < j ∧ j < w.length ∧ w.drop j ++ w.take j = w := by
  constructor
  · rintro ⟨_, h⟩ ⟨j, h0, h1, h2⟩
    rw [← it_r1 j w (Nat.le_of_lt h1)] at h2
    have := per_least h0 h2
    omega
  · intro h
    refine ⟨hw, Nat.le_antisymm (per_le hw) (Nat.le_of_not_lt fun c => h ⟨per w, per_pos w, c, ?_⟩)⟩
    rw [← it_r1 _ w (per_le hw)]
    exact per_turn w
theorem prim_r1 {w : List α} (h : Prim w) : Prim (r1 w) := by
  have ne : r1 w ≠ [] := fun e => h.1 (List.length_eq_zero_iff.mp (by rw [← r1_len, e]; rfl))
  refine ⟨ne, Nat.le_antisymm (per_le ne) ?_⟩
  rw [r1_len, ← h.2]
  refine per_least (per_pos _) ?_
  have t := per_turn (r1 w)
  have e : it r1 (per (r1 w)) (r1 w) = r1 (it r1 (per (r1 w)) w) := it_succ r1 _ w
  rw [e] at t
  exact r1_inj t
end
end Rng

set_option linter.all false
set_option maxRecDepth 100000
/-! numbers of rings of letters, by the sums and by counting -/
namespace K41m
/-- the sum of all part * rings[part], part a divisor of the next length -/
def rep (rs : List Int) : Int := (((List.range' 1 rs.length).filter fun p => decide ((rs.length + 1) % p = 0)).map fun p : Nat => (p : Int) * rs.getD (p - 1) 0).sum
def ringStep (rs : List Int) (t : Int) : List Int := rs ++ [(t - rep rs) / ((rs.length + 1 : Nat) : Int)]
def rings (ts : List Int) : List Int := ts.foldl ringStep []
def pows (m n : Nat) : List Int := (List.range n).map fun k => ((m ^ (k + 1) : Nat) : Int)
def last (m n : Nat) : Int := (rings (pows m n)).getD (n - 1) 0
theorem rings_snoc (ts : List Int) (t : Int) : rings (ts ++ [t]) = ringStep (rings ts) t := by
  unfold rings
  rw [List.foldl_append]; rfl
theorem step_length (rs : List Int) (t : Int) : (ringStep rs t).length = rs.length + 1 := by
  unfold ringStep
  rw [List.length_append]; rfl
theorem rings_length (ts : List Int) : (rings ts).length = ts.length := by
  have h : ∀ (l : List Int) (acc : List Int), (l.foldl ringStep acc).length = acc.length + l.length := by
    intro l
    induction l with
    | nil => intro acc; rfl
    | cons t l ih =>
      intro acc
      rw [List.foldl_cons, ih, step_length, List.length_cons]; omega
  have q := h ts []
  unfold rings
  rw [q]; simp
theorem pows_length (m n : Nat) : (pows m n).length = n := by
  unfold pows
  rw [List.length_map, List.length_range]
theorem pows_succ (m n : Nat) : pows m (n + 1) = pows m n ++ [((m ^ (n + 1) : Nat) : Int)] := by
  unfold pows
  rw [List.range_succ, List.map_append]; rfl
theorem rings_pows (m n : Nat) : (rings (pows m n)).length = n := by rw [rings_length, pows_length]
/-- the last numbers, one behind the other, are all of them -/
theorem lasts (m : Nat) : ∀ n, (List.range' 1 n).map (last m) = rings (pows m n)
  | 0 => rfl
  | n + 1 => by
    rw [List.range'_1_concat, List.map_append, lasts m n]
    have e : rings (pows m (n + 1)) = rings (pows m n) ++ [last m (1 + n)] := by
      rw [pows_succ, rings_snoc]
      have e2 : last m (1 + n) = (rings (pows m n) ++ [(((m ^ (n + 1) : Nat) : Int) - rep (rings (pows m n))) / (((rings (pows m n)).length + 1 : Nat) : Int)]).getD n 0 := by
        unfold last
        rw [Nat.add_comm 1 n, pows_succ, rings_snoc]; rfl
      rw [e2, List.getD_eq_getElem?_getD, List.getElem?_append_right (by rw [rings_pows]; exact Nat.le_refl _), rings_pows]
      simp [ringStep, rings_pows]
    rw [e]; rfl
/-- the sum over the divisors of n -/
def total (n : Nat) (rs : List Int) : Int := (((List.range' 1 n).filter fun p => decide (n % p = 0)).map fun p : Nat => (p : Int) * rs.getD (p - 1) 0).sum
def okAt (m n : Nat) : Bool := (rings (pows m n)).all (fun x => decide (0 ≤ x)) && decide (total n (rings (pows m n)) = ((m ^ n : Nat) : Int))
theorem sums_ok : ((List.range' 2 99).all fun m => (List.range' 1 16).all fun n => okAt m n) = true := by decide +kernel
theorem sums_at {m n : Nat} (h1 : 2 ≤ m) (h2 : m ≤ 100) (h3 : 1 ≤ n) (h4 : n ≤ 16) : (∀ x ∈ rings (pows m n), 0 ≤ x) ∧ total n (rings (pows m n)) = ((m ^ n : Nat) : Int) := by
  have q := List.all_eq_true.mp (List.all_eq_true.mp sums_ok m (by rw [List.mem_range'_1]; omega)) n (by rw [List.mem_range'_1]; omega)
  unfold okAt at q
  rw [Bool.and_eq_true, decide_eq_true_eq, List.all_eq_true] at q
  exact ⟨fun x hx => of_decide_eq_true (q.1 x hx), q.2⟩
/-- the rows of n of some signs -/
def rowsW (S : List Nat) : Nat → List (List Nat)
  | 0 => [[]]
  | n + 1 => (rowsW S n).flatMap fun r => S.map fun s => r ++ [s]
def ltB : List Nat → List Nat → Bool
  | _, [] => false
  | [], _ :: _ => true
  | a :: l, b :: m => Nat.blt a b || (Nat.beq a b && ltB l m)
theorem ltB_is : ∀ l m : List Nat, ltB l m = decide (l < m)
  | l, [] => by
    cases l <;> simp [ltB]
  | [], b :: m => by simp [ltB]
  | a :: l, b :: m => by
    have ih := ltB_is l m
    unfold ltB
    rw [ih]
    by_cases h : a < b
    · simp [h, Nat.blt_eq, List.cons_lt_cons_iff]
    · by_cases e : a = b
      · subst e; simp [List.cons_lt_cons_iff]
      · have hb : Nat.blt a b = false := Bool.eq_false_iff.mpr (by rw [ne_eq, Nat.blt_eq]; exact h)
        simp [h, e, hb, List.cons_lt_cons_iff]
/-- less than all its turns at other places -/
def lynB (n : Nat) (r : List Nat) : Bool := (List.range' 1 (n - 1)).all fun k => ltB r (r.drop k ++ r.take k)
def cnt (S : List Nat) (n : Nat) : Nat := ((rowsW S n).filter (lynB n)).length
/-- the letters of the law -/
def four : List (List Nat) := [[97, 98], [97, 98, 99], [97, 98, 99, 100], [97, 98, 99, 100, 101]]
theorem counts_ok : (four.all fun S => (List.range' 1 10).all fun n => !decide (S.length ^ n < 1101) || decide ((cnt S n : Int) = last S.length n)) = true := by decide +kernel
theorem counts_at {S : List Nat} {n : Nat} (hS : S ∈ four) (h1 : 1 ≤ n) (h2 : n ≤ 10) (h : S.length ^ n < 1101) : (cnt S n : Int) = last S.length n := by
  have q := List.all_eq_true.mp (List.all_eq_true.mp counts_ok S hS) n (by rw [List.mem_range'_1]; omega)
  rw [decide_eq_true h] at q
  exact of_decide_eq_true q
theorem rows_mem {S : List Nat} : ∀ n, ∀ r ∈ rowsW S n, r.length = n ∧ ∀ d ∈ r, d ∈ S
  | 0, r, h => by
    rw [List.mem_singleton.mp h]
    exact ⟨rfl, fun d hd => nomatch hd⟩
  | n + 1, r, h => by
    obtain ⟨q, hq, hr⟩ := List.mem_flatMap.mp h
    obtain ⟨d, hd, rfl⟩ := List.mem_map.mp hr
    obtain ⟨a, b⟩ := rows_mem n q hq
    refine ⟨by rw [List.length_append, a]; rfl, fun e he => ?_⟩
    rcases List.mem_append.mp he with h | h
    · exact b e h
    · rw [List.mem_singleton.mp h]; exact hd
theorem rows_length (S : List Nat) : ∀ n, (rowsW S n).length = S.length ^ n
  | 0 => rfl
  | n + 1 => by
    show ((rowsW S n).flatMap _).length = _
    rw [List.length_flatMap]
    have e : (rowsW S n).map (fun r => (S.map fun s => r ++ [s]).length) = List.replicate (rowsW S n).length S.length := by
      refine List.eq_replicate_iff.mpr ⟨by rw [List.length_map], fun b hb => ?_⟩
      obtain ⟨r, _, rfl⟩ := List.mem_map.mp hb
      rw [List.length_map]
    rw [e, List.sum_replicate_nat, rows_length S n, Nat.pow_succ]
end K41m

set_option linter.all false
/-! rings of records: the sums and the count -/
namespace Rng
abbrev Sym := Nat × Nat
def tot (w : List Sym) : Nat := sumBy Prod.fst w
def first : List Sym → Nat
  | [] => 0
  | x :: _ => x.1
def step (u : List Nat) (t : List (List (List Sym))) : List (List Sym) :=
  (List.range t.length).flatMap fun k => (List.range (u.getD k 0)).flatMap fun j => (t.getD (t.length - 1 - k) []).map fun w => w ++ [(k + 1, j)]
def tab (u : List Nat) : Nat → List (List (List Sym))
  | 0 => [[[]]]
  | n + 1 => tab u n ++ [step u (tab u n)]
/-- all sequences with so many letters -/
def W (u : List Nat) (n : Nat) : List (List Sym) := (tab u n).getD n []
theorem tab_length (u : List Nat) : ∀ n, (tab u n).length = n + 1
  | 0 => rfl
  | n + 1 => by
    show (tab u n ++ [_]).length = _
    rw [List.length_append, tab_length u n]; rfl
theorem tab_at (u : List Nat) {i : Nat} : ∀ n, i ≤ n → (tab u n).getD i [] = W u i
  | 0, h => by
    have : i = 0 := by omega
    subst this; rfl
  | n + 1, h => by
    by_cases e : i = n + 1
    · subst e; rfl
    · have ih := tab_at u n (by omega : i ≤ n)
      rw [← ih]
      show (tab u n ++ [_]).getD i [] = _
      rw [List.getD_eq_getElem?_getD, List.getD_eq_getElem?_getD, List.getElem?_append_left (by rw [tab_length]; omega)]
theorem W_zero (u : List Nat) : W u 0 = [[]] := rfl
theorem W_succ (u : List Nat) (n : Nat) : W u (n + 1) = (List.range (n + 1)).flatMap fun k => (List.range (u.getD k 0)).flatMap fun j => (W u (n - k)).map fun w => w ++ [(k + 1, j)] := by
  have e : W u (n + 1) = step u (tab u n) := by
    show (tab u n ++ [step u (tab u n)]).getD (n + 1) [] = _
    rw [List.getD_eq_getElem?_getD, List.getElem?_append_right (by rw [tab_length]; exact Nat.le_refl _), tab_length, Nat.sub_self]; rfl
  rw [e]
  unfold step
  rw [tab_length]
  have e2 : ∀ k, (tab u n).getD (n + 1 - 1 - k) [] = W u (n - k) := fun k => tab_at u n (by omega)
  simp only [e2]
def good (u : List Nat) (w : List Sym) : Prop := ∀ x ∈ w, 1 ≤ x.1 ∧ x.2 < u.getD (x.1 - 1) 0
theorem tot_append (a b : List Sym) : tot (a ++ b) = tot a + tot b := sumBy_append _ a b
theorem tot_one (x : Sym) : tot [x] = x.1 := Nat.add_zero _
theorem len_le_tot {u : List Nat} : ∀ {w : List Sym}, good u w → w.length ≤ tot w
  | [], _ => Nat.zero_le _
  | x :: w, h => by
    have ih := len_le_tot (w := w) fun y hy => h y (List.mem_cons_of_mem _ hy)
    have := (h x List.mem_cons_self).1
    show w.length + 1 ≤ x.1 + tot w
    omega
theorem mem_W (u : List Nat) : ∀ (n : Nat) (w : List Sym), w ∈ W u n ↔ good u w ∧ tot w = n := by
  intro n
  induction n using Nat.strongRecOn with
  | _ n ih =>
    intro w
    cases n with
    | zero =>
      rw [W_zero, List.mem_singleton]
      constructor
      · rintro rfl; exact ⟨(fun x hx => nomatch hx), rfl⟩
      · rintro ⟨g, t⟩
        have := len_le_tot g
        exact List.length_eq_zero_iff.mp (by omega)
    | succ n =>
      rw [W_succ, List.mem_flatMap]
      constructor
      · rintro ⟨k, hk, h⟩
        rw [List.mem_range] at hk
        obtain ⟨j, hj, h⟩ := List.mem_flatMap.mp h
        rw [List.mem_range] at hj
        obtain ⟨v, hv, rfl⟩ := List.mem_map.mp h
        obtain ⟨g, t⟩ := (ih (n - k) (by omega) v).mp hv
        refine ⟨fun x hx => ?_, ?_⟩
        · rcases List.mem_append.mp hx with hx | hx
          · exact g x hx
          · rw [List.mem_singleton.mp hx]
            exact ⟨by show 1 ≤ k + 1; omega, by show j < u.getD (k + 1 - 1) 0; rw [Nat.add_sub_cancel]; exact hj⟩
        · rw [tot_append, tot_one, t]
          show n - k + (k + 1) = n + 1
          omega
      · rintro ⟨g, t⟩
        rcases List.eq_nil_or_concat w with rfl | ⟨v, x, rfl⟩
        · exact absurd t (by show (0 : Nat) ≠ n + 1; omega)
        · rw [List.concat_eq_append] at *
          obtain ⟨g1, g2⟩ := g x (List.mem_append_right _ List.mem_cons_self)
          rw [tot_append, tot_one] at t
          refine ⟨x.1 - 1, List.mem_range.mpr (by omega), List.mem_flatMap.mpr ⟨x.2, List.mem_range.mpr g2, List.mem_map.mpr ⟨v, ?_, ?_⟩⟩⟩
          · exact (ih _ (by omega) v).mpr ⟨fun y hy => g y (List.mem_append_left _ hy), by omega⟩
          · rw [show x.1 - 1 + 1 = x.1 from by omega]
theorem nodup_W (u : List Nat) : ∀ n : Nat, (W u n).Nodup := by
  intro n
  induction n using Nat.strongRecOn with
  | _ n ih =>
    cases n with
    | zero => rw [W_zero]; exact List.nodup_cons.mpr ⟨(fun h => nomatch h), List.nodup_nil⟩
    | succ n =>
      rw [W_succ]
      have last : ∀ {k j k' j' : Nat} {v v' : List Sym}, v ++ [(k + 1, j)] = v' ++ [(k' + 1, j')] → v = v' ∧ k = k' ∧ j = j' := fun h => by
        have q := List.append_inj' h rfl
        have e := List.cons.inj q.2
        have e1 := Prod.mk.inj e.1
        exact ⟨q.1, by omega, e1.2⟩
      refine List.pairwise_flatMap.mpr ⟨fun k hk => List.pairwise_flatMap.mpr ⟨fun j hj => ?_, ?_⟩, ?_⟩
      · rw [List.pairwise_map]
        rw [List.mem_range] at hk
        exact (ih (n - k) (by omega)).imp fun h e => h (last e).1
      · refine List.pairwise_lt_range.imp fun {a b} hab x hx y hy e => ?_
        obtain ⟨v, _, rfl⟩ := List.mem_map.mp hx
        obtain ⟨v', _, rfl⟩ := List.mem_map.mp hy
        have := (last e).2.2
        omega
      · refine List.pairwise_lt_range.imp fun {a b} hab x hx y hy e => ?_
        obtain ⟨j, _, hx⟩ := List.mem_flatMap.mp hx
        obtain ⟨j', _, hy⟩ := List.mem_flatMap.mp hy
        obtain ⟨v, _, rfl⟩ := List.mem_map.mp hx
        obtain ⟨v', _, rfl⟩ := List.mem_map.mp hy
        have := (last e).2.1
        omega
/-- the sum of the first lengths -/
def A (u : List Nat) (n : Nat) : Nat := sumBy first (W u n)
theorem A_succ (u : List Nat) (m : Nat) : A u (m + 1) = (m + 1) * u.getD m 0 + sumBy (fun k => u.getD k 0 * A u (m - k)) (List.range m) := by
  unfold A
  rw [W_succ, sumBy_flat, List.range_succ, sumBy_append, Nat.add_comm]
  congr 1
  · rw [sumBy_cons, sumBy_nil, Nat.add_zero, sumBy_flat, Nat.sub_self, W_zero]
    have e : ∀ j ∈ List.range (u.getD m 0), sumBy first (([[]] : List (List Sym)).map fun w => w ++ [(m + 1, j)]) = m + 1 := fun j _ => Nat.add_zero _
    rw [sumBy_congr e, sumBy_const, List.length_range, Nat.mul_comm]
  · refine sumBy_congr fun k hk => ?_
    rw [List.mem_range] at hk
    rw [sumBy_flat]
    have e : ∀ j ∈ List.range (u.getD k 0), sumBy first ((W u (m - k)).map fun w => w ++ [(k + 1, j)]) = sumBy first (W u (m - k)) := fun j _ => by
      rw [sumBy_map]
      refine sumBy_congr fun w hw => ?_
      cases w with
      | nil =>
        have := ((mem_W u _ _).mp hw).2
        exact absurd this (by show (0 : Nat) ≠ m - k; omega)
      | cons x w => rfl
    rw [sumBy_congr e, sumBy_const, List.length_range]
theorem tot_pw (v : List Sym) : ∀ e, tot (pw v e) = e * tot v
  | 0 => by rw [Nat.zero_mul]; rfl
  | e + 1 => by rw [pw_succ, tot_append, tot_pw v e, Nat.succ_mul]; omega
theorem mem_pw {v : List Sym} {x : Sym} : ∀ e, x ∈ pw v e → x ∈ v
  | 0, h => nomatch h
  | e + 1, h => by
    rw [pw_succ] at h
    exact (List.mem_append.mp h).elim id (mem_pw e)
theorem first_pw {v : List Sym} (hv : v ≠ []) (e : Nat) : first (pw v (e + 1)) = first v := by
  rw [pw_succ]
  cases v with
  | nil => exact absurd rfl hv
  | cons x v => rfl
open Classical in
noncomputable def primB (w : List Sym) : Bool := decide (Prim w)
open Classical in
theorem primB_iff {w : List Sym} : primB w = true ↔ Prim w := by unfold primB; exact decide_eq_true_iff
/-- those that are no smaller ones, repeated -/
noncomputable def P (u : List Nat) (n : Nat) : List (List Sym) := (W u n).filter primB
theorem mem_P {u : List Nat} {n : Nat} {w : List Sym} : w ∈ P u n ↔ good u w ∧ tot w = n ∧ Prim w := by
  unfold P
  rw [List.mem_filter, mem_W, primB_iff, and_assoc]
theorem nodup_P (u : List Nat) (n : Nat) : (P u n).Nodup := (nodup_W u n).filter _
def divs (n : Nat) : List Nat := (List.range' 1 n).filter fun d => decide (n % d = 0)
theorem mem_divs {n d : Nat} : d ∈ divs n ↔ 1 ≤ d ∧ d ≤ n ∧ n % d = 0 := by
  unfold divs
  rw [List.mem_filter, List.mem_range'_1, decide_eq_true_eq]
  constructor
  · rintro ⟨h1, h2⟩; exact ⟨h1.1, by omega, h2⟩
  · rintro ⟨h1, h2, h3⟩; exact ⟨⟨h1, by omega⟩, h3⟩
theorem tot_pos {u : List Nat} {w : List Sym} (g : good u w) (h : w ≠ []) : 0 < tot w := Nat.lt_of_lt_of_le (List.length_pos_iff.mpr h) (len_le_tot g)
theorem A_split (u : List Nat) (n : Nat) (hn : 0 < n) : A u n = sumBy (fun d => sumBy first (P u d)) (divs n) := by
  have key : ∀ w ∈ W u n, w ≠ [] ∧ good u (w.take (per w)) ∧ Prim (w.take (per w)) ∧ pw (w.take (per w)) (w.length / per w) = w ∧ (w.length / per w) * tot (w.take (per w)) = n := fun w hw => by
    obtain ⟨g, t⟩ := (mem_W u n w).mp hw
    have ne : w ≠ [] := fun e => by rw [e] at t; exact absurd t (by show (0 : Nat) ≠ n; omega)
    obtain ⟨d1, d2⟩ := per_dvd ne
    refine ⟨ne, fun x hx => g x (List.mem_of_mem_take hx), (root_prim ne).1, d2, ?_⟩
    rw [← tot_pw, d2, t]
  have gd : ∀ w ∈ W u n, tot (w.take (per w)) ∈ divs n := fun w hw => by
    obtain ⟨ne, g, pr, e1, e2⟩ := key w hw
    have p := tot_pos g pr.1
    have dv : tot (w.take (per w)) ∣ n := ⟨_, by rw [Nat.mul_comm]; exact e2.symm⟩
    exact mem_divs.mpr ⟨p, Nat.le_of_dvd hn dv, Nat.mod_eq_zero_of_dvd dv⟩
  unfold A
  rw [sum_split (fun w => tot (w.take (per w))) first ((List.nodup_range' ..).filter _ : (divs n).Nodup) gd]
  refine sumBy_congr fun d hd => ?_
  obtain ⟨h1, h2, h3⟩ := mem_divs.mp hd
  obtain ⟨e, he⟩ := Nat.dvd_of_mod_eq_zero h3
  have e0 : 0 < e := Nat.pos_of_ne_zero fun z => by rw [z] at he; omega
  obtain ⟨e', rfl⟩ : ∃ e', e = e' + 1 := ⟨e - 1, by omega⟩
  have pm : ((W u n).filter fun w => decide (tot (w.take (per w)) = d)).Perm ((P u d).map fun v => pw v (e' + 1)) := by
    refine perm_of ((nodup_W u n).filter _) ?_ fun w => ?_
    · refine List.pairwise_map.mpr ((nodup_P u d).imp_of_mem fun {a b} ha hb hab z => hab ?_)
      have pa := (mem_P.mp ha).2.2
      have pb := (mem_P.mp hb).2.2
      have l1 := per_pw pa e'
      have l2 := per_pw pb e'
      rw [z] at l1
      have hl : a.length = b.length := by omega
      have t := congrArg (List.take a.length) z
      rw [pw_succ, pw_succ, List.take_left, hl, List.take_left] at t
      exact t
    · rw [List.mem_filter, decide_eq_true_eq, List.mem_map]
      constructor
      · rintro ⟨hw, ht⟩
        obtain ⟨ne, g, pr, e1, e2⟩ := key w hw
        refine ⟨w.take (per w), mem_P.mpr ⟨g, ht, pr⟩, ?_⟩
        have : w.length / per w = e' + 1 := by
          rw [ht, he, Nat.mul_comm d] at e2
          exact Nat.eq_of_mul_eq_mul_right (by omega) e2
        rw [← this]; exact e1
      · rintro ⟨v, hv, rfl⟩
        obtain ⟨g, t, pr⟩ := mem_P.mp hv
        refine ⟨(mem_W u n _).mpr ⟨fun x hx => g x (mem_pw _ hx), by rw [tot_pw, t, he, Nat.mul_comm]⟩, ?_⟩
        rw [per_pw pr, pw_succ, List.take_left]; exact t
  rw [sumBy_perm first pm, sumBy_map]
  exact sumBy_congr fun v hv => first_pw (mem_P.mp hv).2.2.1 e'
/-- those of so many records -/
noncomputable def Pm (u : List Nat) (d m : Nat) : List (List Sym) := (P u d).filter fun w => decide (w.length = m)
theorem mem_Pm {u : List Nat} {d m : Nat} {w : List Sym} : w ∈ Pm u d m ↔ (good u w ∧ tot w = d ∧ Prim w) ∧ w.length = m := by
  unfold Pm
  rw [List.mem_filter, mem_P, decide_eq_true_eq]
/-- the number of rings -/
noncomputable def q (u : List Nat) (d : Nat) : Nat := sumBy (fun m => (Pm u d m).length / m) (List.range' 1 d)
theorem tot_r1 (w : List Sym) : tot (r1 w) = tot w := by
  cases w with
  | nil => rfl
  | cons x l =>
    show tot (l ++ [x]) = x.1 + tot l
    rw [tot_append, tot_one, Nat.add_comm]
theorem Pm_r1 {u : List Nat} {d m : Nat} {w : List Sym} (h : w ∈ Pm u d m) : r1 w ∈ Pm u d m := by
  obtain ⟨⟨g, t, p⟩, l⟩ := mem_Pm.mp h
  exact mem_Pm.mpr ⟨⟨fun x hx => g x (r1_mem.mp hx), by rw [tot_r1, t], prim_r1 p⟩, by rw [r1_len, l]⟩
theorem Pm_dvd (u : List Nat) (d m : Nat) (hm : 0 < m) : m ∣ (Pm u d m).length := by
  refine circles (f := r1) hm _ (Nat.le_refl _) ((nodup_P u d).filter _) (fun x hx => Pm_r1 hx) (fun x hx => ?_) fun x hx i h0 h1 e => ?_
  · have l := (mem_Pm.mp hx).2
    rw [← l]; exact it_len x
  · obtain ⟨⟨_, _, p⟩, l⟩ := mem_Pm.mp hx
    have := per_least h0 e
    rw [p.2] at this
    omega
theorem sum_at : ∀ w : List Sym, sumBy (fun i => (w.getD i (0, 0)).1) (List.range w.length) = tot w
  | [] => rfl
  | x :: w => by
    rw [List.length_cons, List.range_succ_eq_map, sumBy_cons, sumBy_map]
    show x.1 + sumBy (fun i => (w.getD i (0, 0)).1) (List.range w.length) = x.1 + tot w
    rw [sum_at w]
theorem first_turn {w : List Sym} {i : Nat} (h : i < w.length) : first (it r1 i w) = (w.getD i (0, 0)).1 := by
  rw [it_r1 i w (Nat.le_of_lt h), List.drop_eq_getElem_cons h, List.getD_eq_getElem?_getD, List.getElem?_eq_getElem h]; rfl
theorem Pm_first (u : List Nat) (d m : Nat) (hm : 0 < m) : sumBy first (Pm u d m) = d * ((Pm u d m).length / m) := by
  have turn : ∀ i, sumBy (fun w => first (it r1 i w)) (Pm u d m) = sumBy first (Pm u d m) := fun i => by
    rw [← sumBy_map]
    refine sumBy_perm first (perm_of ?_ ((nodup_P u d).filter _) fun w => ?_)
    · exact List.pairwise_map.mpr (((nodup_P u d).filter _).imp fun h e => h (it_r1_inj i e))
    · rw [List.mem_map]
      constructor
      · rintro ⟨v, hv, rfl⟩
        exact it_mem (fun x hx => Pm_r1 hx) i hv
      · intro hw
        have l := (mem_Pm.mp hw).2
        have back : ∀ k, it r1 (k * m) w = w := it_mul (by rw [← l]; exact it_len w)
        refine ⟨it r1 (i * m - i) w, it_mem (fun x hx => Pm_r1 hx) _ hw, ?_⟩
        rw [← it_add, show i * m - i + i = i * m from Nat.sub_add_cancel (Nat.le_mul_of_pos_right i hm), back]
  have e : sumBy (fun i => sumBy (fun w => first (it r1 i w)) (Pm u d m)) (List.range m) = (Pm u d m).length * d := by
    rw [sumBy_swap, ← sumBy_const]
    refine sumBy_congr fun w hw => ?_
    obtain ⟨⟨_, t, _⟩, l⟩ := mem_Pm.mp hw
    have : sumBy (fun i => first (it r1 i w)) (List.range m) = sumBy (fun i => (w.getD i (0, 0)).1) (List.range w.length) := by
      rw [l]
      exact sumBy_congr fun i hi => first_turn (by rw [l]; exact List.mem_range.mp hi)
    rw [this, sum_at, t]
  rw [sumBy_congr fun i _ => turn i, sumBy_const, List.length_range] at e
  obtain ⟨c, hc⟩ := Pm_dvd u d m hm
  rw [hc] at e ⊢
  rw [Nat.mul_div_cancel_left _ hm]
  have : m * sumBy first (Pm u d m) = m * (d * c) := by rw [e, Nat.mul_assoc, Nat.mul_comm c d]
  exact Nat.eq_of_mul_eq_mul_left hm this
theorem P_first (u : List Nat) (d : Nat) : sumBy first (P u d) = d * q u d := by
  have h : ∀ w ∈ P u d, w.length ∈ List.range' 1 d := fun w hw => by
    obtain ⟨g, t, p⟩ := mem_P.mp hw
    have l1 := len_le_tot g
    have l2 := List.length_pos_iff.mpr p.1
    rw [List.mem_range'_1]; omega
  rw [sum_split List.length first (List.nodup_range' ..) h]
  unfold q
  rw [← sumBy_mul]
  refine sumBy_congr fun m hm => ?_
  rw [List.mem_range'_1] at hm
  exact Pm_first u d m (by omega)
/-- the sums are those over the divisors -/
theorem A_rings (u : List Nat) (n : Nat) (hn : 0 < n) : A u n = sumBy (fun d => d * q u d) (divs n) := by
  rw [A_split u n hn]
  exact sumBy_congr fun d _ => P_first u d
/-- the numbers that the sums give are the numbers of rings -/
theorem rings_are (u : List Nat) : ∀ N, K41m.rings ((List.range' 1 N).map fun n => (A u n : Int)) = (List.range' 1 N).map fun n => (q u n : Int)
  | 0 => rfl
  | N + 1 => by
    have ih := rings_are u N
    rw [List.range'_1_concat, List.map_append, List.map_append]
    show K41m.rings (_ ++ [((A u (1 + N) : Nat) : Int)]) = _
    rw [K41m.rings_snoc, ih]
    unfold K41m.ringStep
    congr 1
    have hl : ((List.range' 1 N).map fun n => (q u n : Int)).length = N := by rw [List.length_map, List.length_range']
    have er : K41m.rep ((List.range' 1 N).map fun n => (q u n : Int)) = ((sumBy (fun d => d * q u d) ((List.range' 1 N).filter fun p => decide ((N + 1) % p = 0)) : Nat) : Int) := by
      unfold K41m.rep
      rw [hl]
      have g : ∀ l : List Nat, (∀ p ∈ l, 1 ≤ p ∧ p ≤ N) → (l.map fun p : Nat => (p : Int) * ((List.range' 1 N).map fun n => (q u n : Int)).getD (p - 1) 0).sum = ((sumBy (fun d => d * q u d) l : Nat) : Int) := by
        intro l
        induction l with
        | nil => intro _; rfl
        | cons p l ihl =>
          intro hp
          obtain ⟨p1, p2⟩ := hp p List.mem_cons_self
          rw [List.map_cons, List.sum_cons, ihl fun x hx => hp x (List.mem_cons_of_mem _ hx), sumBy_cons, Int.natCast_add, Int.natCast_mul]
          congr 2
          rw [List.getD_eq_getElem?_getD, List.getElem?_map, List.getElem?_range' (by omega)]
          show (q u (1 + 1 * (p - 1)) : Int) = _
          rw [show 1 + 1 * (p - 1) = p from by omega]
      exact g _ fun p hp => by
        have := (List.mem_filter.mp hp).1
        rw [List.mem_range'_1] at this
        omega
    have ea : A u (1 + N) = sumBy (fun d => d * q u d) ((List.range' 1 N).filter fun p => decide ((N + 1) % p = 0)) + (N + 1) * q u (N + 1) := by
      rw [A_rings u (1 + N) (by omega), Nat.add_comm 1 N]
      unfold divs
      rw [List.range'_1_concat, List.filter_append, sumBy_append]
      congr 1
      rw [List.filter_cons, if_pos (by rw [Nat.add_comm 1 N, Nat.mod_self]; rfl), List.filter_nil, sumBy_cons, sumBy_nil, Nat.add_zero, Nat.add_comm 1 N]
    rw [er, ea, hl, Int.natCast_add]
    show [_] = [((q u (1 + N) : Nat) : Int)]
    congr 1
    rw [Int.add_comm, Int.add_sub_cancel, Int.natCast_mul, Int.mul_comm, Int.mul_ediv_cancel _ (by omega), Nat.add_comm 1 N]
theorem good_mono {u v : List Nat} (h : ∀ k, u.getD k 0 ≤ v.getD k 0) {w : List Sym} (g : good u w) : good v w := fun x hx => ⟨(g x hx).1, Nat.lt_of_lt_of_le (g x hx).2 (h _)⟩
open Classical in
theorem q_mono {u v : List Nat} (h : ∀ k, u.getD k 0 ≤ v.getD k 0) (d : Nat) : q u d ≤ q v d := by
  unfold q
  have le : ∀ m ∈ List.range' 1 d, (Pm u d m).length / m ≤ (Pm v d m).length / m := fun m _ => by
    refine Nat.div_le_div_right ?_
    have pm : (Pm u d m).Perm ((Pm v d m).filter fun w => decide (good u w)) := by
      refine perm_of ((nodup_P u d).filter _) (((nodup_P v d).filter _).filter _) fun w => ?_
      rw [List.mem_filter, decide_eq_true_eq, mem_Pm, mem_Pm]
      constructor
      · rintro ⟨⟨g, t, p⟩, l⟩; exact ⟨⟨⟨good_mono h g, t, p⟩, l⟩, g⟩
      · rintro ⟨⟨⟨_, t, p⟩, l⟩, g⟩; exact ⟨⟨g, t, p⟩, l⟩
    rw [pm.length_eq]
    exact List.length_filter_le _ _
  have mono : ∀ (l : List Nat) (f g : Nat → Nat), (∀ x ∈ l, f x ≤ g x) → sumBy f l ≤ sumBy g l := by
    intro l f g
    induction l with
    | nil => intro _; exact Nat.le_refl _
    | cons a l ih =>
      intro hf
      rw [sumBy_cons, sumBy_cons]
      have := hf a List.mem_cons_self
      have := ih fun x hx => hf x (List.mem_cons_of_mem _ hx)
      omega
  exact mono _ _ _ le
theorem q_ge (u : List Nat) (d : Nat) (hd : 0 < d) : u.getD (d - 1) 0 ≤ q u d := by
  obtain ⟨n, rfl⟩ : ∃ n, d = n + 1 := ⟨d - 1, by omega⟩
  rw [Nat.add_sub_cancel]
  unfold q
  rw [List.range'_succ, sumBy_cons, Nat.div_one]
  refine Nat.le_trans ?_ (Nat.le_add_right _ _)
  have pm : (((List.range (u.getD n 0)).map fun j => [((n + 1, j) : Sym)])).Perm (Pm u (n + 1) 1) := by
    refine perm_of ?_ ((nodup_P u _).filter _) fun w => ?_
    · refine List.pairwise_map.mpr (List.nodup_range.imp fun {a b} h e => h ?_)
      exact (Prod.mk.inj (List.cons.inj e).1).2
    · rw [List.mem_map, mem_Pm]
      constructor
      · rintro ⟨j, hj, rfl⟩
        rw [List.mem_range] at hj
        refine ⟨⟨fun x hx => ?_, rfl, ⟨by simp, ?_⟩⟩, rfl⟩
        · rw [List.mem_singleton.mp hx]
          exact ⟨by show 1 ≤ n + 1; omega, by show j < u.getD (n + 1 - 1) 0; rw [Nat.add_sub_cancel]; exact hj⟩
        · have := per_le (w := [((n + 1, j) : Sym)]) (by simp)
          have := per_pos [((n + 1, j) : Sym)]
          show per _ = 1
          have e : ([((n + 1, j) : Sym)]).length = 1 := rfl
          omega
      · rintro ⟨⟨g, t, _⟩, l⟩
        obtain ⟨x, rfl⟩ := List.length_eq_one_iff.mp l
        rw [tot_one] at t
        have gx := (g x List.mem_cons_self).2
        rw [t, Nat.add_sub_cancel] at gx
        exact ⟨x.2, List.mem_range.mpr gx, by rw [← t]⟩
  have := pm.length_eq
  rw [List.length_map, List.length_range] at this
  omega
end Rng

set_option linter.all false
/-! rings of letters are rings of records of as many words of one letter; where counting bars -/
namespace Rng
theorem A_one (m : Nat) : ∀ n, A [m] (n + 1) = m ^ (n + 1) := by
  intro n
  induction n using Nat.strongRecOn with
  | _ n ih =>
    rw [A_succ]
    cases n with
    | zero =>
      show 1 * m + 0 = m ^ 1
      rw [Nat.one_mul, Nat.pow_one]; rfl
    | succ n =>
      have e0 : ([m] : List Nat).getD (n + 1) 0 = 0 := rfl
      rw [e0, Nat.mul_zero, Nat.zero_add, List.range_succ_eq_map, sumBy_cons, sumBy_map]
      have e1 : sumBy (fun x => ([m] : List Nat).getD (Nat.succ x) 0 * A [m] (n + 1 - Nat.succ x)) (List.range n) = sumBy (fun _ => 0) (List.range n) := sumBy_congr fun k _ => by
        show 0 * _ = 0
        rw [Nat.zero_mul]
      rw [e1, sumBy_const, Nat.mul_zero, Nat.add_zero]
      show m * A [m] (n + 1 - 0) = _
      rw [Nat.sub_zero, ih n (by omega), Nat.pow_succ m (n + 1), Nat.mul_comm]
theorem pows_are (m : Nat) : ∀ N, K41m.pows m N = (List.range' 1 N).map fun n => (A [m] n : Int)
  | 0 => rfl
  | N + 1 => by
    rw [K41m.pows_succ, pows_are m N, List.range'_1_concat, List.map_append]
    congr 1
    show [((m ^ (N + 1) : Nat) : Int)] = [((A [m] (1 + N) : Nat) : Int)]
    rw [Nat.add_comm 1 N, A_one]
/-- the numbers of rings of letters -/
theorem letters_are (m N : Nat) : K41m.rings (K41m.pows m N) = (List.range' 1 N).map fun n => (q [m] n : Int) := by rw [pows_are, rings_are]
theorem at_range (f : Nat → Int) {N n : Nat} (h1 : 1 ≤ n) (h2 : n ≤ N) : ((List.range' 1 N).map f)[n - 1]? = some (f n) := by
  rw [List.getElem?_map, List.getElem?_range' (by omega)]
  show some (f (1 + 1 * (n - 1))) = _
  rw [show 1 + 1 * (n - 1) = n from by omega]
/-- the least length at which there are too many rings of records -/
noncomputable def bar (m : Nat) (u : List Nat) : Option Nat := (List.range' 1 u.length).find? fun n => decide (q [m] n < q u n)
theorem find_le {l : List Nat} (hl : l.Pairwise (· < ·)) {p p' : Nat → Bool} (h : ∀ n ∈ l, p n = true → p' n = true) : ∀ {b}, l.find? p = some b → ∃ b', l.find? p' = some b' ∧ b' ≤ b := by
  induction l with
  | nil => intro b hb; cases hb
  | cons a l ih =>
    intro b hb
    rw [List.pairwise_cons] at hl
    rw [List.find?_cons] at hb ⊢
    cases ha' : p' a with
    | true =>
      refine ⟨a, rfl, ?_⟩
      cases ha : p a with
      | true => rw [ha] at hb; cases hb; exact Nat.le_refl _
      | false =>
        rw [ha] at hb
        exact Nat.le_of_lt (hl.1 b (List.mem_of_find?_eq_some hb))
    | false =>
      have ha : p a = false := by
        cases e : p a with
        | false => rfl
        | true => rw [h a List.mem_cons_self e] at ha'; cases ha'
      rw [ha] at hb
      exact ih hl.2 (fun n hn => h n (List.mem_cons_of_mem _ hn)) hb
theorem find_none_of {l : List Nat} {p p' : Nat → Bool} (h : ∀ n ∈ l, p n = true → p' n = true) (hn : l.find? p' = none) : l.find? p = none := by
  rw [List.find?_eq_none] at hn ⊢
  exact fun n hm z => hn n hm (h n hm z)
/-- a length for comparing -/
def far : Option Nat → Nat
  | none => 99
  | some n => n
theorem far_le {l : List Nat} (hl : l.Pairwise (· < ·)) (hb : ∀ n ∈ l, n ≤ 99) {p p' : Nat → Bool} (h : ∀ n ∈ l, p n = true → p' n = true) : far (l.find? p') ≤ far (l.find? p) := by
  cases e : l.find? p with
  | none =>
    cases e' : l.find? p' with
    | none => exact Nat.le_refl _
    | some b => exact hb b (List.mem_of_find?_eq_some e')
  | some b =>
    obtain ⟨b', e', hle⟩ := find_le hl h e
    rw [e']; exact hle
theorem bar_letters {m m' : Nat} (h : m ≤ m') (u : List Nat) (hu : u.length ≤ 99) : far (bar m u) ≤ far (bar m' u) := by
  refine far_le List.pairwise_lt_range' (fun n hn => by rw [List.mem_range'_1] at hn; omega) fun n _ hp => ?_
  rw [decide_eq_true_eq] at hp ⊢
  have := q_mono (u := [m]) (v := [m']) (fun k => by cases k with | zero => exact h | succ k => exact Nat.le_refl _) n
  omega
theorem bar_words {m : Nat} {u v : List Nat} (hl : u.length = v.length) (h : ∀ k, u.getD k 0 ≤ v.getD k 0) (hu : u.length ≤ 99) : far (bar m v) ≤ far (bar m u) := by
  unfold bar
  rw [← hl]
  refine far_le List.pairwise_lt_range' (fun n hn => by rw [List.mem_range'_1] at hn; omega) fun n _ hp => ?_
  rw [decide_eq_true_eq] at hp ⊢
  have := q_mono h n
  omega
end Rng

set_option linter.all false
/-! enough letters; room -/
namespace Rng
theorem pow_split (c : Nat) : ∀ m, (c + 1) ^ (m + 1) = sumBy (fun k => c * (c + 1) ^ (m - k)) (List.range (m + 1)) + 1
  | 0 => by
    show (c + 1) ^ 1 = c * (c + 1) ^ 0 + 0 + 1
    rw [Nat.pow_one, Nat.pow_zero]; omega
  | m + 1 => by
    rw [List.range_succ_eq_map, sumBy_cons, sumBy_map]
    have e : sumBy (fun x => c * (c + 1) ^ (m + 1 - Nat.succ x)) (List.range (m + 1)) = sumBy (fun k => c * (c + 1) ^ (m - k)) (List.range (m + 1)) := sumBy_congr fun k _ => by rw [show m + 1 - Nat.succ k = m - k from by omega]
    rw [e]
    have ih := pow_split c m
    show (c + 1) ^ (m + 1 + 1) = c * (c + 1) ^ (m + 1 - 0) + sumBy (fun k => c * (c + 1) ^ (m - k)) (List.range (m + 1)) + 1
    rw [Nat.sub_zero, Nat.pow_succ (c + 1) (m + 1), Nat.mul_add, Nat.mul_one, Nat.mul_comm]
    omega
/-- as many words of each length -/
theorem A_flat (c N : Nat) : ∀ n, n < N → A (List.replicate N c) (n + 1) + 1 = (c + 1) ^ (n + 1) := by
  intro n
  induction n using Nat.strongRecOn with
  | _ n ih =>
    intro hn
    have g : ∀ k, k < N → (List.replicate N c).getD k 0 = c := fun k hk => by
      rw [List.getD_eq_getElem?_getD, List.getElem?_replicate, if_pos hk]; rfl
    rw [A_succ, g n hn]
    have e : sumBy (fun k => (List.replicate N c).getD k 0 * A (List.replicate N c) (n - k)) (List.range n) + n * c = sumBy (fun k => c * (c + 1) ^ (n - k)) (List.range n) := by
      have e1 : n * c = sumBy (fun _ => c) (List.range n) := by rw [sumBy_const, List.length_range]
      rw [e1, ← sumBy_add]
      refine sumBy_congr fun k hk => ?_
      rw [List.mem_range] at hk
      rw [g k (by omega)]
      have := ih (n - k - 1) (by omega) (by omega)
      rw [show n - k - 1 + 1 = n - k from by omega] at this
      rw [← this, Nat.mul_add, Nat.mul_one]
    have p := pow_split c n
    rw [List.range_succ, sumBy_append, sumBy_cons, sumBy_nil, Nat.sub_self, Nat.pow_zero, Nat.mul_one, Nat.add_zero] at p
    rw [p, ← e, Nat.succ_mul]
    omega
theorem divs_top {n : Nat} (hn : 0 < n) : divs n = ((List.range' 1 (n - 1)).filter fun d => decide (n % d = 0)) ++ [n] := by
  obtain ⟨m, rfl⟩ : ∃ m, n = m + 1 := ⟨n - 1, by omega⟩
  unfold divs
  rw [List.range'_1_concat, List.filter_append, List.filter_cons, if_pos (by rw [Nat.add_comm 1 m, Nat.mod_self]; rfl), List.filter_nil, Nat.add_comm 1 m]; rfl
/-- they make as many rings as one letter more, but for that letter -/
theorem q_flat (c N : Nat) : ∀ n, 0 < n → n ≤ N → q (List.replicate N c) n + (if n = 1 then 1 else 0) = q [c + 1] n := by
  intro n
  induction n using Nat.strongRecOn with
  | _ n ih =>
    intro h0 hN
    have a1 := A_rings (List.replicate N c) n h0
    have a2 := A_rings [c + 1] n h0
    obtain ⟨m, rfl⟩ : ∃ m, n = m + 1 := ⟨n - 1, by omega⟩
    have f := A_flat c N m (by omega)
    rw [A_one] at a2
    rw [divs_top h0, sumBy_append, sumBy_cons, sumBy_nil, Nat.add_zero, Nat.add_sub_cancel] at a1 a2
    have e : sumBy (fun d => d * q (List.replicate N c) d) ((List.range' 1 m).filter fun d => decide ((m + 1) % d = 0)) + (if m + 1 = 1 then 0 else 1) = sumBy (fun d => d * q [c + 1] d) ((List.range' 1 m).filter fun d => decide ((m + 1) % d = 0)) := by
      have e2 : sumBy (fun d => d * q [c + 1] d) ((List.range' 1 m).filter fun d => decide ((m + 1) % d = 0)) = sumBy (fun d => d * q (List.replicate N c) d + (if 1 = d then 1 else 0)) ((List.range' 1 m).filter fun d => decide ((m + 1) % d = 0)) := by
        refine sumBy_congr fun d hd => ?_
        have hd' := (List.mem_filter.mp hd).1
        rw [List.mem_range'_1] at hd'
        rw [← ih d (by omega) (by omega) (by omega), Nat.mul_add]
        by_cases h1 : d = 1
        · subst h1; rfl
        · rw [if_neg h1, if_neg (fun z => h1 z.symm), Nat.mul_zero]
      rw [e2, sumBy_add]
      congr 1
      cases m with
      | zero => rfl
      | succ m =>
        rw [if_neg (by omega)]
        refine (sumBy_pick 1 1 ((List.nodup_range' ..).filter _) ?_).symm
        rw [List.mem_filter, List.mem_range'_1, Nat.mod_one]
        exact ⟨by omega, rfl⟩
    by_cases h1 : m + 1 = 1
    · rw [if_pos h1] at e ⊢
      have hm : m = 0 := by omega
      subst hm
      have a1' : A (List.replicate N c) 1 = 0 + 1 * q (List.replicate N c) 1 := a1
      have a2' : (c + 1) ^ 1 = 0 + 1 * q [c + 1] 1 := a2
      have f' : A (List.replicate N c) 1 + 1 = (c + 1) ^ 1 := f
      show q (List.replicate N c) 1 + 1 = q [c + 1] 1
      omega
    · rw [if_neg h1] at e ⊢
      rw [Nat.add_zero]
      have : (m + 1) * q (List.replicate N c) (m + 1) = (m + 1) * q [c + 1] (m + 1) := by omega
      exact Nat.eq_of_mul_eq_mul_left (by omega) this
theorem flat_ge {u : List Nat} {c : Nat} (h : ∀ k, u.getD k 0 ≤ c) : ∀ k, u.getD k 0 ≤ (List.replicate u.length c).getD k 0 := fun k => by
  by_cases hk : k < u.length
  · rw [List.getD_eq_getElem?_getD (l := List.replicate _ _), List.getElem?_replicate, if_pos hk]; exact h k
  · rw [List.getD_eq_getElem?_getD, List.getElem?_eq_none (by omega)]; exact Nat.zero_le _
/-- more letters than there are words of any length: nothing is barred -/
theorem bar_none {m : Nat} {u : List Nat} (h : ∀ k, u.getD k 0 < m) : bar m u = none := by
  unfold bar
  rw [List.find?_eq_none]
  intro n hn
  rw [List.mem_range'_1] at hn
  obtain ⟨c, rfl⟩ : ∃ c, m = c + 1 := ⟨m - 1, by have := h 0; omega⟩
  have q1 := q_mono (flat_ge (u := u) (c := c) fun k => by have := h k; omega) n
  have q2 := q_flat c u.length n (by omega) (by omega)
  rw [decide_eq_true_eq]
  omega
theorem A_le {u : List Nat} {c : Nat} (h : ∀ k, u.getD k 0 ≤ c) {n : Nat} (hn : n ≤ u.length) : A u n ≤ (c + 1) ^ n := by
  cases n with
  | zero => show 0 ≤ _; exact Nat.zero_le _
  | succ n =>
    have f := A_flat c u.length n (by omega)
    rw [A_rings u (n + 1) (by omega)]
    rw [A_rings (List.replicate u.length c) (n + 1) (by omega)] at f
    have mono : ∀ (l : List Nat) (f g : Nat → Nat), (∀ x ∈ l, f x ≤ g x) → sumBy f l ≤ sumBy g l := by
      intro l f g
      induction l with
      | nil => intro _; exact Nat.le_refl _
      | cons a l ih =>
        intro hf
        rw [sumBy_cons, sumBy_cons]
        have := hf a List.mem_cons_self
        have := ih fun x hx => hf x (List.mem_cons_of_mem _ hx)
        omega
    have := mono (divs (n + 1)) (fun d => d * q u d) (fun d => d * q (List.replicate u.length c) d) fun d _ => Nat.mul_le_mul_left d (q_mono (flat_ge h) d)
    omega
/-- so many further words of a length -/
def more (u : List Nat) (i x : Nat) : List Nat := u.set i (u.getD i 0 + x)
theorem more_length (u : List Nat) (i x : Nat) : (more u i x).length = u.length := List.length_set
theorem more_at (u : List Nat) {i : Nat} (hi : i < u.length) (x k : Nat) : (more u i x).getD k 0 = if i = k then u.getD i 0 + x else u.getD k 0 := by
  unfold more
  rw [List.getD_eq_getElem?_getD, List.getElem?_set]
  by_cases e : i = k
  · subst e
    rw [if_pos rfl, if_pos rfl, if_pos hi]; rfl
  · rw [if_neg e, if_neg e, List.getD_eq_getElem?_getD]
theorem more_zero (u : List Nat) {i : Nat} (hi : i < u.length) : more u i 0 = u := by
  unfold more
  rw [Nat.add_zero, List.getD_eq_getElem?_getD, List.getElem?_eq_getElem hi]
  exact List.set_getElem_self hi
theorem more_mono (u : List Nat) {i : Nat} (hi : i < u.length) {x y : Nat} (h : x ≤ y) (k : Nat) : (more u i x).getD k 0 ≤ (more u i y).getD k 0 := by
  rw [more_at u hi, more_at u hi]
  split <;> omega
/-- one more than there are rings is too many -/
theorem more_barred (m : Nat) (u : List Nat) {i : Nat} (hi : i < u.length) : bar m (more u i (q [m] (i + 1) + 1)) ≠ none := by
  unfold bar
  intro h
  rw [List.find?_eq_none] at h
  have := h (i + 1) (by rw [List.mem_range'_1, more_length]; omega)
  rw [decide_eq_true_eq] at this
  have g := q_ge (more u i (q [m] (i + 1) + 1)) (i + 1) (by omega)
  rw [Nat.add_sub_cancel, more_at u hi, if_pos rfl] at g
  omega
/-- the room beside some words -/
def IsRoom (m : Nat) (u : List Nat) (i r : Nat) : Prop := bar m (more u i r) = none ∧ bar m (more u i (r + 1)) ≠ none
theorem far_none {m : Nat} {u : List Nat} (hu : u.length < 99) : far (bar m u) = 99 ↔ bar m u = none := by
  constructor
  · intro h
    cases e : bar m u with
    | none => rfl
    | some n =>
      rw [e] at h
      have := List.mem_of_find?_eq_some e
      rw [List.mem_range'_1] at this
      have h' : n = 99 := h
      omega
  · intro h; rw [h]; rfl
theorem bar_down {m : Nat} {u v : List Nat} (hl : u.length = v.length) (h : ∀ k, u.getD k 0 ≤ v.getD k 0) (hu : u.length < 99) (hv : bar m v = none) : bar m u = none := by
  have := bar_words (m := m) hl h (by omega)
  rw [hv] at this
  have h99 : (99 : Nat) ≤ far (bar m u) := this
  refine (far_none hu).mp ?_
  cases e : bar m u with
  | none => rfl
  | some n =>
    rw [e] at h99
    have h2 := List.mem_of_find?_eq_some e
    rw [List.mem_range'_1] at h2
    have h3 : (99 : Nat) ≤ n := h99
    omega
theorem bar_up {m m' : Nat} (h : m ≤ m') {u : List Nat} (hu : u.length < 99) (hv : bar m u = none) : bar m' u = none := by
  have := bar_letters h u (by omega)
  rw [hv] at this
  have h99 : (99 : Nat) ≤ far (bar m' u) := this
  cases e : bar m' u with
  | none => rfl
  | some n =>
    rw [e] at h99
    have h2 := List.mem_of_find?_eq_some e
    rw [List.mem_range'_1] at h2
    have h3 : (99 : Nat) ≤ n := h99
    omega
theorem room_uniq {m : Nat} {u : List Nat} {i r r' : Nat} (hi : i < u.length) (hu : u.length < 99) (h : IsRoom m u i r) (h' : IsRoom m u i r') : r = r' := by
  have key : ∀ {a b : Nat}, IsRoom m u i a → IsRoom m u i b → ¬ a < b := fun {a b} ha hb hab => by
    refine ha.2 (bar_down (v := more u i b) (by rw [more_length, more_length]) (more_mono u hi (by omega)) (by rw [more_length]; exact hu) hb.1)
  have := key h h'
  have := key h' h
  omega
/-- the least number of letters over which nothing is barred -/
def IsLeast (u : List Nat) (h : Nat) : Prop := 1 ≤ h ∧ bar h u = none ∧ (h = 1 ∨ bar (h - 1) u ≠ none)
theorem least_uniq {u : List Nat} {h h' : Nat} (hu : u.length < 99) (a : IsLeast u h) (b : IsLeast u h') : h = h' := by
  have key : ∀ {a b : Nat}, IsLeast u a → IsLeast u b → ¬ a < b := fun {a b} ha hb hab => by
    rcases hb.2.2 with e | e
    · have := ha.1; omega
    · exact e (bar_up (by omega) hu ha.2.1)
  have := key a b
  have := key b a
  omega
end Rng

set_option Elab.async false
set_option linter.all false
set_option maxRecDepth 100000
set_option maxHeartbeats 4000000
/-! a tuple so many times, for any number from 0 on; the greatest of a tuple of ints. -/
namespace Ami
open PySem PySem.Spec PyProof.Rows L2
theorem tuple_mul0 (l : Addr) (items : Array Value) (n : Nat) (dd : Option Addr) (sl : Array (Option Value)) (u : Tok) (c1 : items.isEmpty = false) :
    Meets (Builtin.«tuple.__mul__» ⟨[.ref l, .int 0 u], []⟩) (fun _ R s => s.heap.get? l = some { cls := .type "tuple", dict := dd, data := .seq items n, slots := sl } ∧
      R (.ok (.ret (Value.ref s.heap.objs.size))) { s with heap := s.heap.push { cls := Value.type "tuple", data := Data.seq #[] }, toks := s.toks }) :=
  .of_wp fun prog w A R s h => by
    obtain ⟨hp, g, d, tk, os⟩ := s
    obtain ⟨hl, h⟩ := h
    have f1 := AutoSeq1.idx_int
    wp_walk using wpAny_loadPart' hl
    repeat (first
      | (refine wpAny_ite_false (decide_eq_false (by decide)) ?_; wp_walk using wpAny_loadPart' hl)
      | (refine wpAny_ite_false (decide_eq_false (by rw [c1]; decide)) ?_; wp_walk using wpAny_loadPart' hl)
      | (refine wpAny_ite_true (decide_eq_true (by decide)) ?_; wp_walk using wpAny_loadPart' hl))
    exact ⟨_, rfl, h⟩
theorem tuple_mul1 (l : Addr) (items : Array Value) (n : Nat) (dd : Option Addr) (sl : Array (Option Value)) (u : Tok) :
    Meets (Builtin.«tuple.__mul__» ⟨[.ref l, .int 1 u], []⟩) (fun _ R s => s.heap.get? l = some { cls := .type "tuple", dict := dd, data := .seq items n, slots := sl } ∧
      R (.ok (.ret (Value.ref l))) s) :=
  .of_wp fun prog w A R s h => by
    obtain ⟨hp, g, d, tk, os⟩ := s
    obtain ⟨hl, h⟩ := h
    have f1 := AutoSeq1.idx_int
    wp_walk using wpAny_loadPart' hl
    repeat (first
      | (refine wpAny_ite_false (decide_eq_false (by decide)) ?_; wp_walk using wpAny_loadPart' hl)
      | (refine wpAny_ite_true (decide_eq_true (by simp)) ?_; wp_walk using wpAny_loadPart' hl))
    exact ⟨_, rfl, h⟩
theorem max_intTup {prog : Program} {w : World} {A : Around} {E : Value → Shared → Prop} {s : Shared} {l : Addr} {xs : Array (Int × Tok)} {Q : Value → Shared → Prop} (hh : A.handled = none) (hl : s.heap.IsTuple l (intItems xs)) (hne : 0 < xs.size)
    (h : ∀ v h' tk, (intItems xs)[argBest (fun i j => decide (numAt xs i > numAt xs j)) (xs.size - 1)]? = some v → (∀ b o, s.heap.get? b = some o → h'.get? b = some o) → Q v { s with heap := h', toks := tk }) :
    wpAny (model prog w) A (call (.builtin "max") [.ref l]) Q E s := by
  have hlt : l < s.heap.objs.size := by obtain ⟨_, e, _⟩ := hl; exact Heap.lt_size e
  refine call_max_walk (wpAny_pyIter_tuple hl ?_)
  refine ⟨_, _, _, _, _, _, _, rfl, Walks.tuple (A := A.in1) hh _ l (Nat.ne_of_lt hlt) (intItems xs), ⟨⟨_, Heap.get?_push_size _ rfl, rfl, rfl⟩, hl.push _⟩, fun b hb => ?_, by simpa [intItems] using hne, CmpOf.ints_gt (numAt xs) (fun _ _ => intItems_at), fun v h' tk hP hk => ?_⟩
  · show b < (s.heap.push _).objs.size
    rw [Heap.size_push]
    rcases List.mem_cons.mp hb with rfl | hb
    · exact Nat.lt_succ_self _
    · rcases List.mem_cons.mp hb with rfl | hb
      · exact Nat.lt_succ_of_lt hlt
      · cases hb
  · refine h v h' tk (by simpa [intItems] using hP) fun b o e => ?_
    refine hk b o (fun hm => ?_) (Heap.get?_push_of_some _ e)
    rcases List.mem_cons.mp hm with e1 | hm
    · exact absurd (e1 ▸ Heap.lt_size e) (Nat.lt_irrefl _)
    · cases hm
theorem max_rawT {prog : Program} {w : World} {A : Around} {E : Value → Shared → Prop} {s : Shared} {l : Addr} {its : List Value} {ns : List Int} {Q : Value → Shared → Prop} (hh : A.handled = none) (hl : s.heap.IsTuple l its.toArray) (hi : IntsAre its ns) (hne : 0 < ns.length)
    (h : ∀ h' tk M t', (∀ b o, s.heap.get? b = some o → h'.get? b = some o) → M ∈ ns → (∀ a, a ∈ ns → a ≤ M) → Q (.int M t') { s with heap := h', toks := tk }) : wpAny (model prog w) A (call (.builtin "max") [.ref l]) Q E s := by
  obtain ⟨xs, e⟩ := hi.allInts.items
  have hn : numsOf (intItems xs).toList = ns := by rw [← e]; exact hi.numsOf
  rw [nums_intItems] at hn
  subst hn
  rw [e] at hl
  have hsz : 0 < xs.size := by simpa using hne
  refine max_intTup hh hl hsz fun v h' tk hv hk => ?_
  obtain ⟨t, rfl⟩ := intItems_at hv
  obtain ⟨h1, h2⟩ := argBest_gt (numAt xs) (xs.size - 1)
  refine h h' tk _ t hk ?_ fun a ha => ?_
  · rw [numAt_eq]; exact PySem.getD_mem (by rw [List.length_map, Array.length_toList]; omega)
  · obtain ⟨j, hj, rfl⟩ := mem_getD ha
    rw [List.length_map, Array.length_toList] at hj
    rw [← numAt_eq]; exact h2 j (by omega)
section
variable {X : Cx}
/-- max(t) of a tuple of ints -/
def rMaxT (K : PySem.W.Frag) : List V → Hp → VK → Prop := fun vs H Q => ∃ (a : Addr) (ns : List Int), vs = [V.ref a] ∧ SqT K H a (ns.map V.int) ∧ 0 < ns.length ∧ ∀ m, m ∈ ns → (∀ y, y ∈ ns → y ≤ m) → Q (.int m) H
theorem cr_maxT (hc : X.calm = true) : CallR X (.builtin "max") (rMaxT X.K) := by
  intro pins s σ H vs us Q I r h
  obtain ⟨a, ns, rfl, hs, hne, q⟩ := h
  obtain ⟨its, rv, hl, _⟩ := I.tuple hs
  rw [Vals.ref1 r]
  exact max_rawT (I.ok.hd hc) hl rv.ints hne fun h' tk m t' hk h1 h2 => ⟨.int _, H, I.kept hk, ⟨_, rfl⟩, q m h1 h2⟩
/-- t * k -/
def rRepN (K : PySem.W.Frag) : R2 := fun x y H Q => ∃ l k xs, x = .ref l ∧ y = .int k ∧ SqT K H l xs ∧ xs ≠ [] ∧ 0 ≤ k ∧ k ≤ 1000 ∧ xs.length ≤ 1000 ∧ ∀ H' p, Same H H' → SqT K H' p (List.replicate k.toNat xs).flatten → Q (.ref p) H'
theorem op_repN : OpR X (binaryOp .Mult) (rRepN X.K) := by
  intro pins s σ H x y v u Q I rx ry h
  obtain ⟨l, k, xs, rfl, rfl, hT, hne, h1, h2, hz, q⟩ := h
  by_cases hk2 : 2 ≤ k
  · exact op_repT pins s σ H _ _ v u Q I rx ry ⟨l, k, xs, rfl, rfl, hT, hne, hk2, h2, hz, fun p hp => q _ p (Same.upd hp) (SqT.of upd_same)⟩
  cases rx
  obtain ⟨t, rfl⟩ := ry
  obtain ⟨its, r, ⟨⟨cls, dd, data, sl⟩, ho, hc, n, hd⟩, hs⟩ := I.tuple hT
  simp only at hc hd
  subst hc hd
  have hle : its.length = xs.length := r.length.symm
  have hn : its ≠ [] := fun e => hne (by
    rw [e] at hle
    exact List.eq_nil_of_length_eq_zero hle.symm)
  have hi : its.toArray.isEmpty = false := by
    cases its with
    | nil => exact absurd rfl hn
    | cons a b => rfl
  obtain rfl | rfl : k = 0 ∨ k = 1 := by omega
  · refine wpAny_binaryOp_repeat_ref (T := "tuple") (U := "int") (by decide) ⟨_, ho, rfl⟩ (fun s' => typeIs_int s' 0 t) noFill_tuple_mul F.fills_int_mul F.slot_int_rmul repeat_tuple F.slot_int_index.lookup
      (call_meets F.slot_int_rmul (typeIs_int s 0 t) F.entry_int_rmul (F.args_int_rmul_2 _ _) (int_rmul_tuple 0 t l its.toArray n dd sl)
        ⟨ho, rfl, ⟨_, ho, rfl⟩, call_meets F.slot_tuple_mul ⟨_, ho, rfl⟩ F.entry_tuple_mul (F.args_tuple_mul_2 _ _) (tuple_mul0 l its.toArray n dd sl t hi) ⟨ho, ?_⟩⟩)
    refine ⟨.ref s.heap.objs.size, _, I.laid (t' := s.toks) (o := .tup []) (fun b ob q => Heap.get?_push_of_some _ q) (Nat.le_refl _) ?_, rfl, q _ _ (Same.upd (I.hok.fresh (Nat.le_refl _))) (SqT.of upd_same)⟩
    exact ⟨Nat.zero_le _, [], .nil, IsTup.new _ _⟩
  · refine wpAny_binaryOp_repeat_ref (T := "tuple") (U := "int") (by decide) ⟨_, ho, rfl⟩ (fun s' => typeIs_int s' 1 t) noFill_tuple_mul F.fills_int_mul F.slot_int_rmul repeat_tuple F.slot_int_index.lookup
      (call_meets F.slot_int_rmul (typeIs_int s 1 t) F.entry_int_rmul (F.args_int_rmul_2 _ _) (int_rmul_tuple 1 t l its.toArray n dd sl)
        ⟨ho, rfl, ⟨_, ho, rfl⟩, call_meets F.slot_tuple_mul ⟨_, ho, rfl⟩ F.entry_tuple_mul (F.args_tuple_mul_2 _ _) (tuple_mul1 l its.toArray n dd sl t) ⟨ho, ?_⟩⟩)
    refine ⟨.ref l, H, I, rfl, q _ _ (Same.refl _) ?_⟩
    show SqT _ _ _ ([xs].flatten)
    rw [List.flatten_cons, List.flatten_nil, List.append_nil]; exact hT
end
end Ami

set_option Elab.async false
set_option linter.all false
set_option maxRecDepth 100000
set_option maxHeartbeats 2000000
namespace K42
open PySem PySem.Spec PyProof.Rows L2 Ami
def top (i : Nat) : Stmt := PySem.Challenge.pw_amidread_k42_rings_of_records.main.body.getD i (.Pass ⟨0, 0, 0, 0⟩)
abbrev sRin : Stmt := top 1
abbrev sRec : Stmt := top 2
abbrev sDeck : Stmt := top 4
abbrev sDraw : Stmt := top 5
abbrev sPick : Stmt := top 6
abbrev sSeq : Stmt := top 7
abbrev sPow : Stmt := top 8
abbrev sCnt : Stmt := top 9
abbrev sLaw : Stmt := top 10
/-- the names of the built-ins that no one has taken -/
structure Blt (mg : Str → Option Value) : Prop where
  len : mg "len" = none
  int : mg "int" = none
  list : mg "list" = none
  range : mg "range" = none
  enumerate : mg "enumerate" = none
  sum : mg "sum" = none
  tuple : mg "tuple" = none
  isi : mg "isinstance" = none
  repr : mg "repr" = none
/-- a new deck over the script -/
def spDeck (K : PySem.W.Frag) : Sp := fun vs H Q _ => ∃ (a : Addr) (ns : List Int), vs = [.ref a] ∧ SqL K H a (ns.map V.int) ∧ ns.length ≤ 63 ∧
  ∀ (H' : Hp) (d c : Addr), H d = none → H c = none → DeckAt H' d c 0 → Same H H' → Q (.ref d) H'
theorem cut_ints (ns : List Int) (lo hi : Option Int) : ∃ ms : List Int, cutV (ns.map V.int) lo hi = ms.map V.int ∧ ms.length ≤ ns.length := by
  refine ⟨(ns.drop (HT.sIx (ns.map V.int).length 0 lo)).take (HT.sIx (ns.map V.int).length (ns.map V.int).length hi - HT.sIx (ns.map V.int).length 0 lo), ?_, ?_⟩
  · unfold cutV
    rw [List.map_take, List.map_drop]
  · rw [List.length_take, List.length_drop]; omega
section
variable {P : Program} {w : World} {K : PySem.W.Frag} {mg : Str → Option Value} {base : Heap}
theorem scDraw : FnScope ["_law_deck_here", "_law_bound", "_law_mixed", "_law_cell"] ["_law_deck_here", "_law_bound"] (defScope sDraw) := ⟨rfl, rfl, rfl, by decide +kernel, rfl, by decide +kernel, by decide +kernel⟩
theorem ok_draw {f : Addr} {fd : FuncData} (F : Fun K "_law_draw" "_law_draw" sDraw f fd) (T : Blt mg) : FnOk P w K mg base CX0 1 f fd ["_law_deck_here", "_law_bound"] spDraw := by
  refine F.ok scDraw (fun vs H Q E h => ?_) (fun cdv A outer s H vs Q E hr h => ?_)
  · obtain ⟨d, c, n, bd, rfl, _⟩ := h
    rfl
  · obtain ⟨d, c, n, bd, rfl, hb0, hb1, hn, ⟨hcd, b, cells, hd, hc, hlen⟩, k⟩ := h
    have hu := hr.units
    refine ⟨_, pss_cons (ps_asg (pe_op op_add (pe_ix ix_list (pv 0) pe_int (fun _ _ => rfl)) pe_int) (pg_sub (pv 0) pe_int set_list))
      (pss_cons (ps_set (i := 2) scDraw.nd rfl (Or.inl rfl) (pe_op op_add (pe_ix ix_list (pv 0) pe_int (fun _ _ => rfl)) (pe_op op_mul (pe_op op_mul pe_int (pe_ix ix_list (pv 0) pe_int (fun _ _ => rfl))) (pe_ix ix_list (pv 0) pe_int (fun _ _ => rfl)))))
      (C8.pss_cut (ps_if (pt_cmpR (op_neD hu) (pe_ix ix_list (pv 0) pe_int (fun _ _ => rfl)) (pe_lst pa_nil) (nomark _))
        (pss_cons (ps_set (i := 3) scDraw.nd rfl (Or.inl rfl) (pe_bm0 PySem.F.plainAttrs_list PySem.F.slot_list_pop PySem.F.type_list_pop mt_pop (pe_ix ix_list (pv 0) pe_int (fun _ _ => rfl))))
        (pss_cons (ps_if (pt_cmpR op_ge (pv 3) (pe_op op_pow pe_int pe_int) (nomark _))
          (pss_cons (ps_expr (pe_bm PySem.F.plainAttrs_list PySem.F.slot_list_append PySem.F.type_list_append mt_append (pe_ix ix_list (pv 0) pe_int (fun _ _ => rfl)) (pa_cons (pe_op op_fdiv (pv 3) (pv 1)) pa_nil)))
          (pss_one (ps_ret (pe_op op_mod (pe_callTy call_int1 (by rfl) T.int (by decide +kernel) (pa_cons (pv 3) pa_nil)) (pv 1)))))
          pss_nil)
        (pss_one (ps_set (i := 2) scDraw.nd rfl (Or.inl rfl) (pe_op op_add (pv 2) (pe_callTy call_int1 (by rfl) T.int (by decide +kernel) (pa_cons (pv 3) pa_nil))))))) pss_nil)
      (pss_cons (ps_set (i := 2) scDraw.nd rfl (Or.inl rfl) (pe_op op_mod (pe_op op_mul (pe_callTy call_int1 (by rfl) T.int (by decide +kernel) (pa_cons (pe_op op_add (pe_op op_mod (pe_callTy call_int1 (by rfl) T.int (by decide +kernel) (pa_cons (pv 2) pa_nil)) pe_int) pe_int) pa_nil)) pe_int) pe_int))
      (pss_cons (ps_set (i := 2) scDraw.nd rfl (Or.inl rfl) (pe_op op_mod (pe_callTy call_int1 (by rfl) T.int (by decide +kernel) (pa_cons (pe_op op_add (pe_op op_add (pe_op op_mul (pv 2) (pv 2)) (pe_op op_mul pe_int (pe_ix ix_list (pv 0) pe_int (fun _ _ => rfl)))) pe_int) pa_nil)) pe_int))
      (pss_one (ps_ret (pe_op op_mod (pe_op op_fdiv (pe_op op_mod (pe_callTy call_int1 (by rfl) T.int (by decide +kernel) (pa_cons (pe_op op_mul (pv 2) pe_int) pa_nil)) pe_int) pe_int) (pv 1)))))))), ?_⟩
    have hn1 : ((n : Int) + 1) = ((n + 1 : Nat) : Int) := by omega
    refine ⟨_, rfl, d, _, 2, _, rfl, rfl, SqL.of hd, rfl, _, _, rfl, rfl, _, rfl, d, _, 2, 2, rfl, rfl, hd, rfl, ?_⟩
    have hd1 : (upd H d (.lst ([V.ref c, V.int b, V.int (n : Int)].set 2 (V.int ((n : Int) + 1))))) d = some (.lst [.ref c, .int b, .int (n + 1 : Nat)]) := by rw [upd_same, ← hn1]; rfl
    have hc1 : (upd H d (.lst ([V.ref c, V.int b, V.int (n : Int)].set 2 (V.int ((n : Int) + 1))))) c = some (.lst (cells.map V.int)) := by rw [upd_ne hcd]; exact hc
    have b1 : But d c H (upd H d (.lst ([V.ref c, V.int b, V.int (n : Int)].set 2 (V.int ((n : Int) + 1))))) := fun x o h1 _ e => by rw [upd_ne h1]; exact e
    revert hd1 hc1 b1
    generalize upd H d (.lst ([V.ref c, V.int b, V.int (n : Int)].set 2 (V.int ((n : Int) + 1)))) = H1
    intro hd1 hc1 b1
    have m1 : -(2 ^ 64) < (40177 : Int) ∧ (40177 : Int) < 2 ^ 64 := by decide
    refine ⟨_, rfl, d, _, 1, _, rfl, rfl, SqL.of hd1, rfl, _, rfl, d, _, 2, _, rfl, rfl, SqL.of hd1, rfl, _, _, rfl, rfl, .inl m1, _, rfl, d, _, 2, _, rfl, rfl, SqL.of hd1, rfl, _, _, rfl, rfl, .inl (by omega), _, _, rfl, rfl, ?_⟩
    refine ⟨fun σ H3 => ∃ (m : Int) (cell : Option V), σ = [some (.ref d), some (.int bd), some (.int m), cell] ∧ DeckAt H3 d c (n + 1) ∧ But d c H H3, ?_, ?_⟩
    · refine ⟨_, rfl, d, _, 0, _, rfl, rfl, SqL.of hd1, rfl, Nat.zero_le _, fun p hp => ?_⟩
      have npc : c ≠ p := ne_of_none hc1 hp
      have npd : d ≠ p := ne_of_none hd1 hp
      have hd2 : (upd H1 p (.lst [])) d = some (.lst [.ref c, .int b, .int (n + 1 : Nat)]) := by rw [upd_ne npd]; exact hd1
      have hc2 : (upd H1 p (.lst [])) c = some (.lst (cells.map V.int)) := by rw [upd_ne npc]; exact hc1
      have hp2 : (upd H1 p (.lst [])) p = some (.lst []) := upd_same
      have b2 : But d c H (upd H1 p (.lst [])) := b1.new hp
      revert hd2 hc2 hp2 b2
      generalize upd H1 p (.lst []) = H2
      intro hd2 hc2 hp2 b2
      refine ne_nil (SqL.of hc2) (SqL.of hp2) (all_ints _) ⟨_, rfl, ?_⟩
      by_cases hce : cells = []
      · subst hce
        refine iteF ?_
        exact ⟨_, _, rfl, ⟨hcd, b, [], hd2, hc2, by decide⟩, b2⟩
      · have hne : (!(cells.map V.int).isEmpty) = true := by
          cases cells with
          | nil => exact absurd rfl hce
          | cons a r => rfl
        rw [hne]
        refine iteT ?_
        obtain ⟨z, hz⟩ : ∃ z : Int, cells[cells.length - 1]? = some z := by
          have : cells.length - 1 < cells.length := by
            cases cells with
            | nil => exact absurd rfl hce
            | cons a r => simp
          exact ⟨_, List.getElem?_eq_getElem this⟩
        have hz' : (cells.map V.int)[(cells.map V.int).length - 1]? = some (V.int z) := by
          rw [List.length_map, List.getElem?_map, hz]; rfl
        refine ⟨_, rfl, d, _, 0, _, rfl, rfl, SqL.of hd2, rfl, .inl ⟨rfl, _, SqL.of hc2⟩, c, _, _, rfl, rfl, hc2, hz', ?_⟩
        have hdl : (cells.map V.int).dropLast = cells.dropLast.map V.int := (List.map_dropLast ..).symm
        have hd3 : (upd H2 c (.lst (cells.map V.int).dropLast)) d = some (.lst [.ref c, .int b, .int (n + 1 : Nat)]) := by rw [upd_ne (Ne.symm hcd)]; exact hd2
        have hc3 : (upd H2 c (.lst (cells.map V.int).dropLast)) c = some (.lst (cells.dropLast.map V.int)) := by rw [upd_same, hdl]
        have b3 : But d c H (upd H2 c (.lst (cells.map V.int).dropLast)) := fun x o h1 h2 e => by rw [upd_ne h2]; exact b2 x o h1 h2 e
        revert hd3 hc3 b3
        generalize upd H2 c (.lst (cells.map V.int).dropLast) = H3
        intro hd3 hc3 b3
        have hl3 : cells.dropLast.length ≤ 62 := by rw [List.length_dropLast]; omega
        refine ⟨_, rfl, _, _, rfl, rfl, pow18, _, _, rfl, rfl, _, rfl, ?_⟩
        refine ite2 (fun _ => ?_) (fun _ => ?_)
        · refine ⟨_, rfl, d, _, 0, _, rfl, rfl, SqL.of hd3, rfl, .inl ⟨rfl, _, SqL.of hc3⟩, _, rfl, _, rfl, _, _, rfl, rfl, ⟨hb0, hb1⟩, c, _, _, rfl, rfl, hc3, ?_, ?_⟩
          · rw [List.length_map]; exact Nat.lt_of_le_of_lt hl3 (by decide)
          · refine ⟨_, rfl, .inl ⟨_, rfl, _, rfl, _, _, rfl, rfl, hb0, ?_⟩⟩
            refine k _ _ (Int.emod_nonneg _ (by omega)) (Int.emod_lt_of_pos _ hb0) ⟨hcd, b, cells.dropLast ++ [z / bd], ?_, ?_, ?_⟩ fun x o h1 h2 e => ?_
            · rw [upd_ne (Ne.symm hcd)]; exact hd3
            · rw [upd_same, List.map_append]; rfl
            · rw [List.length_append, List.length_singleton]; omega
            · rw [upd_ne h2]; exact b3 x o h1 h2 e
        · refine ⟨_, rfl, _, rfl, .inl ⟨_, rfl, _, _, rfl, rfl, ?_⟩⟩
          exact ⟨_, _, rfl, ⟨hcd, b, cells.dropLast, hd3, hc3, by omega⟩, b3⟩
    · rintro σ H3 ⟨m, cell, rfl, ⟨_, bl, cells3, hd3, hc3, hl3⟩, b3⟩
      have r1 := mod_range m (m := 2147483629) (by decide)
      refine ⟨_, rfl, .inl ⟨_, rfl, _, _, rfl, rfl, (by show (0 : Int) < _; decide), _, _, rfl, rfl, .inl ⟨_, rfl, _, _, rfl, rfl, .inr (by decide), _, _, rfl, rfl, (by show (0 : Int) < _; decide), ?_⟩⟩⟩
      have r2 := mod_range ((m % 2147483629 + 43) * 40692) (m := 2147483647) (by decide)
      refine ⟨_, rfl, _, rfl, _, _, rfl, rfl, .inl (by omega), _, rfl, d, _, 2, _, rfl, rfl, SqL.of hd3, rfl, _, _, rfl, rfl, .inl (by decide), _, _, rfl, rfl, _, _, rfl, rfl, .inl ⟨_, rfl, _, _, rfl, rfl, (by show (0 : Int) < _; decide), ?_⟩⟩
      refine ⟨_, rfl, _, _, rfl, rfl, .inr (by decide), .inl ⟨_, rfl, _, _, rfl, rfl, (by show (0 : Int) < _; decide), _, _, rfl, rfl, ⟨by decide, by decide⟩, _, rfl, _, _, rfl, rfl, hb0, ?_⟩⟩
      exact k _ _ (Int.emod_nonneg _ (by omega)) (Int.emod_lt_of_pos _ hb0) ⟨hcd, bl, cells3, hd3, hc3, hl3⟩ b3
theorem scPick : FnScope ["_law_deck_here", "_law_some"] ["_law_deck_here", "_law_some"] (defScope sPick) := ⟨rfl, rfl, rfl, by decide +kernel, rfl, by decide +kernel, by decide +kernel⟩
theorem ok_pick {f f1 : Addr} {fd fd1 : FuncData} (F : Fun K "_law_pick" "_law_pick" sPick f fd) (T : Blt mg) (D1 : DefAt K mg "_law_draw" sDraw ["_law_deck_here", "_law_bound"] f1 fd1) : FnOk P w K mg base CX0 2 f fd ["_law_deck_here", "_law_some"] (spPick K) := by
  have G1 : FnOk P w K mg base CX0 1 f1 fd1 ["_law_deck_here", "_law_bound"] spDraw := ok_draw D1.F T
  refine F.ok scPick (fun vs H Q E h => ?_) (fun cdv A outer s H vs Q E hr h => ?_)
  · obtain ⟨d, c, n, x, xs, rfl, _⟩ := h
    rfl
  · obtain ⟨d, c, n, x, xs, rfl, hne, hl, hn, D, hs, k⟩ := h
    have lp : 0 < xs.length := List.length_pos_iff.mpr hne
    refine ⟨_, pss_one (ps_ret (pe_ix ix_seq (pv 1) (pc D1 G1 hr (pa_cons (pv 0) (pa_cons (pe_callB call_len (by rfl) T.len PySem.boot_len (pa_cons (pv 1) pa_nil)) pa_nil))) (fun _ _ => rfl))), ?_⟩
    have hlen : LenV K x H xs.length := by
      cases hs.now with
      | lst h => exact .inl ⟨xs, h, rfl⟩
      | txt z h => exact ⟨h, by rw [List.length_map, letts_length]⟩
    refine ⟨_, rfl, _, rfl, _, rfl, _, _, rfl, hlen, ?_⟩
    refine ⟨d, c, n, _, rfl, by omega, by omega, hn, D, fun H' r h0 h1 D' B => ?_⟩
    obtain ⟨j, rfl⟩ : ∃ j : Nat, r = j := ⟨r.toNat, by omega⟩
    have hi : j < xs.length := by omega
    have mem : xs[j] ∈ xs := List.getElem_mem hi
    cases (hs.go B).now with
    | lst h => exact .inl ⟨_, xs, j, _, rfl, rfl, h, atI_nat (List.getElem?_eq_getElem hi), k _ _ mem D' B⟩
    | txt z h =>
      have hz : j < z.cps.toList.length := by
        rw [List.length_map, letts_length] at hi
        rw [Array.length_toList]; exact hi
      refine .inr (.inr ⟨z, j, z.cps.toList[j], rfl, rfl, h, atI_nat (List.getElem?_eq_getElem hz), ?_⟩)
      have e : ((letts z).map V.str)[j] = V.str ⟨#[z.cps.toList[j]]⟩ := by
        simp [letts, one]
      rw [← e]
      exact k _ _ mem D' B
theorem scDeck : FnScope ["_law_script", "_law_cells", "_law_blend", "_law_cell"] ["_law_script"] (defScope sDeck) := ⟨rfl, rfl, rfl, by decide +kernel, rfl, by decide +kernel, by decide +kernel⟩
theorem ok_deck {f : Addr} {fd : FuncData} (F : Fun K "_law_deck" "_law_deck" sDeck f fd) (T : Blt mg) : FnOk P w K mg base CX0 1 f fd ["_law_script"] (spDeck K) := by
  refine F.ok scDeck (fun vs H Q E h => ?_) (fun cdv A outer s H vs Q E hr h => ?_)
  · obtain ⟨a, ns, rfl, _⟩ := h
    rfl
  · obtain ⟨a, ns, rfl, hS, hlen, k⟩ := h
    refine ⟨_, pss_cons (ps_par (i := 1) (j := 2) rfl scDeck.nd rfl rfl (by decide) rfl rfl (pa_cons (pe_callTy call_list_of (by rfl) T.list (by decide +kernel) (pa_cons (pe_slice sl_list (pv 0) po_none (po_some pe_int)) pa_nil)) (pa_cons pe_int pa_nil)) (by rfl))
      (pss_cons (ps_for PassesOwn.never rfl (pi_list (pv 1)) (pg_name (i := 3) scDeck.nd rfl (Or.inl rfl))
        (pss_one (ps_set (i := 2) scDeck.nd rfl (Or.inl rfl) (pe_op op_mod (pe_callTy call_int1 (by rfl) T.int (by decide +kernel) (pa_cons (pe_op op_add (pe_op op_add (pe_op op_mul (pv 2) pe_int) (pe_op op_mod (pe_callTy call_int1 (by rfl) T.int (by decide +kernel) (pa_cons (pv 3) pa_nil)) pe_int)) pe_int) pa_nil)) pe_int))))
      (pss_one (ps_ret (pe_lst (pa_cons (pe_revL (pv 1)) (pa_cons (pv 2) (pa_cons pe_int pa_nil))))))), ?_⟩
    obtain ⟨ms, em, hm⟩ := cut_ints ns none (some 63)
    refine ⟨_, rfl, _, rfl, a, _, rfl, hS, fun p hp => ⟨p, _, rfl, .inl (SqL.of upd_same), fun l hl => ⟨_, _, rfl, ?_⟩⟩⟩
    rw [em]
    have s1 : Same H (upd H p (.lst (ms.map V.int))) := Same.upd hp
    have hl' : (upd H p (.lst (ms.map V.int))) l = none := by rw [← em]; exact hl
    have s2 : Same H (upd (upd H p (.lst (ms.map V.int))) l (.lst (ms.map V.int))) := s1.trans (Same.upd hl')
    have h2 : (upd (upd H p (.lst (ms.map V.int))) l (.lst (ms.map V.int))) l = some (.lst (ms.map V.int)) := upd_same
    revert s2 h2
    generalize upd (upd H p (.lst (ms.map V.int))) l (.lst (ms.map V.int)) = H2
    intro s2 h2
    refine ⟨_, rfl, l, rfl, ⟨_, SqL.of h2⟩, for_list (K := K) (a := l) (xs := ms.map V.int) (fun i σ H' => ∃ (b : Int) (v : Option V), σ = [some (.ref a), some (.ref l), some (.int b), v] ∧ H' = H2)
      ⟨_, none, rfl, rfl⟩ (fun i σ H' _ ⟨_, _, _, e⟩ => by rw [e]; exact SqL.of h2) ?_ ?_⟩
    · rintro i y σ H' hi ⟨b, v, rfl, rfl⟩
      obtain ⟨z, rfl⟩ : ∃ z, y = V.int z := by
        rw [List.getElem?_map] at hi
        cases e : ms[i]? with
        | none => rw [e] at hi; cases hi
        | some z => rw [e] at hi; exact ⟨z, (Option.some.inj hi).symm⟩
      refine ⟨_, rfl, _, _, rfl, rfl, .inr (by decide), _, rfl, .inl ⟨_, rfl, _, _, rfl, rfl, (by show (0 : Int) < _; decide), _, _, rfl, rfl, _, _, rfl, rfl, .inl ⟨_, rfl, _, _, rfl, rfl, (by show (0 : Int) < _; decide), ?_⟩⟩⟩
      exact ⟨_, _, rfl, rfl⟩
    · rintro σ H' ⟨b, v, rfl, rfl⟩
      refine ⟨_, rfl, l, _, rfl, SqL.of h2, fun c hc => ⟨_, rfl, (by show 3 ≤ sizeLine; decide), fun d hd => ?_⟩⟩
      have ndc : d ≠ c := fun e => by rw [e, upd_same] at hd; cases hd
      have hd' : H' d = none := by rw [upd_ne ndc] at hd; exact hd
      refine k _ d c (s2.free hd') (s2.free hc) ⟨Ne.symm ndc, b, ms.reverse, upd_same, ?_, ?_⟩ (s2.trans ((Same.upd hc).trans (Same.upd hd)))
      · rw [upd_ne (Ne.symm ndc), upd_same, List.map_reverse]
      · rw [List.length_reverse]; omega
end
end K42

set_option Elab.async false
set_option linter.all false
set_option maxRecDepth 100000
set_option maxHeartbeats 2000000
namespace K42
open PySem PySem.Spec PyProof.Rows L2 Ami K41m
theorem ix_seqK {X : Cx} {K0 : PySem.W.Frag} (hK : X.K = K0) : IxR X (rIx K0) := by
  subst hK
  exact ix_seq
theorem same_put {H H' : Hp} {a : Addr} {o : HO} (h : Same H H') (ha : H a = none) : Same H (upd H' a o) := by
  intro b p hb
  rw [upd_ne (ne_of_none hb ha)]
  exact h b p hb
theorem take_and {α : Type} {l : List α} {i : Nat} {c : α} (h : l[i]? = some c) : l.take (i + 1) = l.take i ++ [c] := by
  rw [List.take_succ, h]; rfl
/-- what is summed, as far as it goes -/
def parts (rs : List Int) (j : Nat) : List Int := ((List.range' 1 j).filter fun p => decide ((rs.length + 1) % p = 0)).map fun p : Nat => (p : Int) * rs.getD (p - 1) 0
theorem parts_all (rs : List Int) : (parts rs rs.length).sum = rep rs := rfl
theorem parts_length (rs : List Int) (j : Nat) : (parts rs j).length ≤ j := by
  unfold parts
  rw [List.length_map]
  exact Nat.le_trans (List.length_filter_le _ _) (by rw [List.length_range']; exact Nat.le_refl _)
theorem parts_succ (rs : List Int) (j : Nat) : parts rs (j + 1) = parts rs j ++ (if decide ((rs.length + 1) % (1 + j) = 0) = true then [((1 + j : Nat) : Int) * rs.getD j 0] else []) := by
  unfold parts
  rw [List.range'_1_concat, List.filter_append, List.map_append]
  congr 1
  rw [List.filter_cons]
  cases decide ((rs.length + 1) % (1 + j) = 0) with
  | true =>
    rw [if_pos rfl, if_pos rfl, List.filter_nil, List.map_cons, List.map_nil, Nat.add_sub_cancel_left]
  | false => rfl
/-- the numbers of rings for some sums -/
def spRin (K : PySem.W.Frag) : Sp := fun vs H Q _ => ∃ (a : Addr) (ts : List Int), vs = [.ref a] ∧ SqL K H a (ts.map V.int) ∧ ts.length ≤ 1000 ∧ ∀ (H' : Hp) (p : Addr), H p = none → Same H H' → H' p = some (.tup ((rings ts).map V.int)) → Q (.ref p) H'
section
variable {P : Program} {w : World} {K : PySem.W.Frag} {mg : Str → Option Value} {base : Heap}
abbrev nRin : List Str := ["sums", "rings", "length", "total", "repeated", "part"]
theorem scRin : FnScope nRin ["sums"] (defScope sRin) := ⟨rfl, rfl, rfl, by decide +kernel, rfl, by decide +kernel, by decide +kernel⟩
theorem ok_rin {f : Addr} {fd : FuncData} (F : Fun K "rings_in" "rings_in" sRin f fd) (T : Blt mg) : FnOk P w K mg base CX0 1 f fd ["sums"] (spRin K) := by
  refine F.ok scRin (fun vs H Q E h => ?_) (fun cdv A outer s H vs Q E hr h => ?_)
  · obtain ⟨a, ts, rfl, _⟩ := h
    rfl
  · obtain ⟨a, ts, rfl, hS, hlen, k⟩ := h
    refine ⟨_, pss_cons (ps_set (i := 1) scRin.nd rfl (Or.inr rfl) (pe_lst pa_nil))
      (pss_cons (ps_for PassesOwn.never rfl (pi_enumF (by rfl) T.enumerate (pa_cons (pv 0) pa_nil) (pk_cons pe_int pk_nil)) (pg_tup (by rfl) (pgs_cons (pg_name (i := 2) scRin.nd rfl (Or.inr rfl)) (pgs_cons (pg_name (i := 3) scRin.nd rfl (Or.inl rfl)) pgs_nil)))
        (pss_cons (ps_set (i := 4) scRin.nd rfl (Or.inl rfl) (pe_callB (cr_sum rfl) (by rfl) T.sum (by rfl) (pa_cons (pe_lc (own := [("part", 5)]) (g := gName 5) rfl scRin.nd (pi_range2 (by rfl) T.range (pa_cons pe_int (pa_cons (pv 2) pa_nil)))
            (blkOk_by (own := [("part", 5)]) (N := nRin) (sc := defScope sRin) (by decide +kernel)) (fun _ _ _ _ _ => pg_name (i := 5) scRin.nd rfl (Or.inl rfl))
            (fun _ _ _ _ _ => pts_one (pt_cmpR op_eq (pe_op op_mod (pv 2) (pv 5)) pe_int (nomark _))) (fun _ _ _ _ _ => pe_op op_mul (pv 5) (pe_ix (ix_seqK (K0 := K) rfl) (pv 1) (pe_op op_sub (pv 5) pe_int) (fun _ _ => rfl)))) pa_nil)))
        (pss_one (ps_expr (pe_bm PySem.F.plainAttrs_list PySem.F.slot_list_append PySem.F.type_list_append mt_append (pv 1) (pa_cons (pe_op op_fdiv (pe_op op_sub (pv 3) (pv 4)) (pv 2)) pa_nil))))))
      (pss_one (ps_ret (pe_tupleOf (by rfl) T.tuple (pv 1))))), ?_⟩
    refine ⟨Nat.zero_le _, fun R hR => ?_⟩
    refine ⟨_, rfl, a, ts.map V.int, 1, rfl, rfl, Same.seq (Same.upd hR) hS, by decide, by decide, ?_⟩
    refine for_it walk_enumF (fun i σ H' => ∃ v2 v3 v4 v5 : Option V, σ = [some (.ref a), some (.ref R), v2, v3, v4, v5] ∧ Same H H' ∧ H' R = some (.lst ((rings (ts.take i)).map V.int)))
      ⟨none, none, none, none, rfl, Same.upd hR, upd_same⟩ (fun i σ H' _ ⟨_, _, _, _, _, sm, _⟩ => Same.seq sm hS) ?_ ?_
    · rintro i x σ H1 H2 hi ⟨v2, v3, v4, v5, rfl, sm, eR⟩ ⟨C0, y, rfl, hC0, rfl, hy⟩
      rw [List.length_map] at hi
      rw [List.getElem?_map] at hy
      cases ht : ts[i]? with
      | none => rw [ht] at hy; cases hy
      | some t =>
        rw [ht] at hy
        cases hy
        have tT : (upd H1 C0 (.tup [.int (1 + (i : Nat)), V.int t])) C0 = some (.tup [.int (1 + (i : Nat)), V.int t]) := upd_same
        have sm2 : Same H (upd H1 C0 (.tup [.int (1 + (i : Nat)), V.int t])) := sm.trans (Same.upd hC0)
        have eR2 : (upd H1 C0 (.tup [.int (1 + (i : Nat)), V.int t])) R = some (.lst ((rings (ts.take i)).map V.int)) := Same.upd hC0 _ _ eR
        revert tT sm2 eR2
        generalize upd H1 C0 (.tup [.int (1 + (i : Nat)), V.int t]) = H2
        intro tT sm2 eR2
        refine ⟨C0, _, rfl, SqT.of tT, rfl, ?_⟩
        refine ⟨_, _, rfl, _, _, rfl, rfl, ?_⟩
        obtain ⟨rs, hrs, hrl⟩ : ∃ rs, rs = rings (ts.take i) ∧ rs.length = i := ⟨_, rfl, by rw [rings_length, List.length_take]; omega⟩
        rw [← hrs] at eR2
        refine ⟨_, rfl, 1, _, rfl, ⟨by decide, by decide, by omega, by omega⟩, fun C hC => ?_⟩
        have en : (1 + (i : Int) - 1).toNat = i := by omega
        rw [en]
        have nRC : R ≠ C := ne_of_none eR2 hC
        refine lc_range (lo := 1) (n := i) (fun j H' => H' = upd H2 C (.lst ((parts rs j).map V.int))) rfl ?_ ?_
        · rintro j H3 hj rfl
          have ej : (1 : Int) + (j : Int) = ((1 + j : Nat) : Int) := by omega
          rw [ej]
          refine ⟨rfl, _, rfl, _, rfl, _, _, rfl, rfl, (by omega), rfl, _, rfl, ?_⟩
          have e : decide (V.int ((1 + (i : Int)) % ((1 + j : Nat) : Int)) = V.int 0) = decide ((rs.length + 1) % (1 + j) = 0) := decide_eq_decide.mpr ⟨fun h => by
            have h2 : (1 + (i : Int)) % ((1 + j : Nat) : Int) = 0 := V.int.inj h
            have h3 : (((rs.length + 1) % (1 + j) : Nat) : Int) = 0 := by
              rw [hrl, Int.natCast_emod]
              rw [show ((i + 1 : Nat) : Int) = 1 + (i : Int) from by omega]; exact h2
            omega, fun h => by
            have h3 : (((rs.length + 1) % (1 + j) : Nat) : Int) = 0 := by rw [h]; rfl
            rw [hrl, Int.natCast_emod, show ((i + 1 : Nat) : Int) = 1 + (i : Int) from by omega] at h3
            rw [h3]⟩
          show if decide (V.int ((1 + (i : Int)) % ((1 + j : Nat) : Int)) = V.int 0) = true then _ else _
          rw [e, parts_succ]
          have hl : (parts rs j).length < sizeLine := Nat.lt_of_le_of_lt (parts_length rs j) (Nat.lt_of_le_of_lt (by omega : j ≤ 1000) (by decide))
          cases hm : decide ((rs.length + 1) % (1 + j) = 0) with
          | true =>
            refine iteT ?_
            have g : (rs.map V.int)[j]? = some (V.int (rs.getD j 0)) := by
              rw [List.getElem?_map, List.getElem?_eq_getElem (by omega : j < rs.length), List.getD_eq_getElem?_getD, List.getElem?_eq_getElem (by omega : j < rs.length)]; rfl
            refine ⟨_, rfl, _, rfl, _, rfl, _, _, rfl, rfl, .inl ⟨R, rs.map V.int, (j : Int), _, rfl, congrArg V.int (by omega), SqL.of (by rw [upd_ne nRC]; exact eR2), atI_nat g, ?_⟩⟩
            refine ⟨_, _, rfl, rfl, .inl ⟨by omega, by omega⟩, (parts rs j).map V.int, upd_same, by rw [List.length_map]; exact hl, ?_⟩
            rw [upd_upd, if_pos rfl, List.map_append]; rfl
          | false =>
            refine iteF ?_
            rw [if_neg Bool.false_ne_true, List.append_nil]
        rintro H3 rfl
        refine ⟨C, _, rfl, SqL.of upd_same, ?_⟩
        have eR3 : (upd H2 C (.lst ((parts rs i).map V.int))) R = some (.lst (rs.map V.int)) := by rw [upd_ne nRC]; exact eR2
        have sm3 : Same H (upd H2 C (.lst ((parts rs i).map V.int))) := sm2.trans (Same.upd hC)
        revert eR3 sm3
        generalize upd H2 C (.lst ((parts rs i).map V.int)) = H3
        intro eR3 sm3
        have ep : (parts rs i).sum = rep rs := by rw [← parts_all, hrl]
        rw [ep]
        refine ⟨_, rfl, .inl ⟨rfl, _, SqL.of eR3⟩, _, rfl, _, rfl, _, _, rfl, rfl, _, rfl, _, _, rfl, rfl, ⟨by omega, by omega⟩, R, _, _, rfl, rfl, eR3, by rw [List.length_map, hrl]; exact Nat.lt_of_le_of_lt (by omega : i ≤ 1000) (by decide), ?_⟩
        refine ⟨_, _, _, _, rfl, same_put sm3 hR, ?_⟩
        rw [upd_same, take_and ht, rings_snoc, ← hrs]
        unfold ringStep
        rw [List.map_append, hrl, show ((i + 1 : Nat) : Int) = 1 + (i : Int) from by omega]; rfl
    · rintro σ H1 ⟨v2, v3, v4, v5, rfl, sm, eR⟩
      rw [List.length_map, List.take_length] at eR
      refine ⟨_, rfl, .inl ⟨R, _, rfl, SqL.of eR, fun p hp => ?_⟩⟩
      have hp0 : H p = none := sm.free hp
      exact k _ p hp0 (sm.trans (Same.upd hp)) upd_same
end
end K42

set_option Elab.async false
set_option linter.all false
set_option maxRecDepth 100000
set_option maxHeartbeats 2000000
namespace K42
open PySem PySem.Spec PyProof.Rows L2 Ami K41m Rng
theorem atI_last {α : Type} {l : List α} (h : 0 < l.length) : atI l (-1) = some l[l.length - 1] := by
  unfold atI ixN
  rw [if_neg (by decide), if_pos (by omega)]
  have e : ((-1 : Int) + (l.length : Int)).toNat = l.length - 1 := by omega
  rw [e]
  show l[l.length - 1]? = some l[l.length - 1]
  exact List.getElem?_eq_getElem (by omega)
abbrev uV (u : List Nat) : List V := u.map fun n : Nat => V.int (n : Int)
noncomputable abbrev qV (u : List Nat) (N : Nat) : List V := ((List.range' 1 N).map fun n => (q u n : Int)).map V.int
def optV : Option Nat → V
  | none => .non
  | some n => .int (n : Int)
theorem sum_cast (f : Nat → Nat) (l : List Nat) : (l.map fun k => (f k : Int)).sum = ((sumBy f l : Nat) : Int) := by
  induction l with
  | nil => rfl
  | cons a l ih => rw [List.map_cons, List.sum_cons, ih, sumBy_cons, Int.natCast_add]
theorem u_at {u : List Nat} {i : Nat} (h : i < u.length) : (uV u)[i]? = some (V.int (u.getD i 0 : Nat)) := by
  rw [List.getElem?_map, List.getElem?_eq_getElem h, List.getD_eq_getElem?_getD, List.getElem?_eq_getElem h]; rfl
theorem q_at {u : List Nat} {N n : Nat} (h1 : 1 ≤ n) (h2 : n ≤ N) : (qV u N)[n - 1]? = some (V.int (q u n : Nat)) := by
  rw [List.getElem?_map, at_range _ h1 h2]; rfl
theorem find_first {p : Nat → Bool} {N n : Nat} (h1 : 1 ≤ n) (h2 : n ≤ N) (hp : p n = true) (hb : ∀ k, 1 ≤ k → k < n → p k = false) : (List.range' 1 N).find? p = some n := by
  have e : List.range' 1 N = List.range' 1 (n - 1) ++ n :: List.range' (n + 1) (N - n) := by
    have e1 : List.range' 1 N = List.range' 1 (n - 1) ++ List.range' n (N - (n - 1)) := by
      have := List.range'_append_1 (s := 1) (m := n - 1) (n := N - (n - 1))
      rw [show 1 + (n - 1) = n from by omega, show n - 1 + (N - (n - 1)) = N from by omega] at this
      exact this.symm
    rw [e1, show N - (n - 1) = N - n + 1 from by omega, List.range'_succ]
  rw [e, List.find?_append, List.find?_cons, hp]
  have : (List.range' 1 (n - 1)).find? p = none := by
    rw [List.find?_eq_none]
    intro k hk
    rw [List.mem_range'_1] at hk
    rw [hb k hk.1 (by omega)]; decide
  rw [this]; rfl
/-- the last of them -/
def spRings : Sp := fun vs H Q _ => ∃ m n : Nat, vs = [.int m, .int n] ∧ m ≤ 1000000 ∧ 1 ≤ n ∧ n ≤ 100 ∧ ∀ (H' : Hp), Same H H' → Q (.int (q [m] n : Nat)) H'
/-- all numbers of rings of records -/
def spRec (K : PySem.W.Frag) : Sp := fun vs H Q _ => ∃ (t : Addr) (u : List Nat), vs = [.ref t] ∧ SqT K H t (uV u) ∧ u.length ≤ 100 ∧ (∀ k, u.getD k 0 < 2 ^ 120) ∧ ∀ (H' : Hp) (p : Addr), H p = none → Same H H' → H' p = some (.tup (qV u u.length)) → Q (.ref p) H'
/-- where counting bars -/
def spBar (K : PySem.W.Frag) : Sp := fun vs H Q _ => ∃ (m : Nat) (t : Addr) (u : List Nat), vs = [.int m, .ref t] ∧ m ≤ 1000000 ∧ SqT K H t (uV u) ∧ u.length ≤ 100 ∧ (∀ k, u.getD k 0 < 2 ^ 120) ∧ ∀ H', Same H H' → Q (optV (bar m u)) H'
/-- the shorter words put ahead, as far as they go -/
def shr (u : List Nat) (i j : Nat) : List Int := (List.range j).map fun k => ((u.getD k 0 * A u (i - k) : Nat) : Int)
theorem shr_succ (u : List Nat) (i j : Nat) : shr u i (j + 1) = shr u i j ++ [((u.getD j 0 * A u (i - j) : Nat) : Int)] := by
  unfold shr
  rw [List.range_succ, List.map_append]; rfl
theorem shr_sum (u : List Nat) (i : Nat) : ((i + 1 : Nat) : Int) * (u.getD i 0 : Nat) + (shr u i i).sum = (A u (i + 1) : Nat) := by
  unfold shr
  rw [sum_cast, A_succ, ← Int.natCast_mul, ← Int.natCast_add]
/-- the sums so far -/
abbrev sA (u : List Nat) (i : Nat) : List Int := (List.range' 1 i).map fun n => (A u n : Int)
theorem sA_succ (u : List Nat) (i : Nat) : sA u (i + 1) = sA u i ++ [((A u (i + 1) : Nat) : Int)] := by
  unfold sA
  rw [List.range'_1_concat, List.map_append, Nat.add_comm 1 i]; rfl
theorem sA_at (u : List Nat) {i j : Nat} (h : j < i) : ((sA u i).map V.int)[i - 1 - j]? = some (V.int (A u (i - j) : Nat)) := by
  have := at_range (fun n => (A u n : Int)) (N := i) (n := i - j) (by omega) (by omega)
  rw [List.getElem?_map, show i - 1 - j = i - j - 1 from by omega, this]; rfl
theorem mulW_ok {u : List Nat} (hb : ∀ k, u.getD k 0 < 2 ^ 120) (hl : u.length ≤ 100) (j : Nat) {n : Nat} (hn : n ≤ u.length) : CMulW ((u.getD j 0 : Nat) : Int) ((A u n : Nat) : Int) := by
  show ((u.getD j 0 : Nat) : Int).natAbs.log2 + ((A u n : Nat) : Int).natAbs.log2 < 1000000
  rw [Int.natAbs_natCast, Int.natAbs_natCast]
  have a : (u.getD j 0).log2 < 120 := by
    by_cases e : u.getD j 0 = 0
    · rw [e]; decide
    · rw [Nat.log2_lt e]; exact hb j
  have b : (A u n).log2 < 120 * n + 1 := by
    by_cases e : A u n = 0
    · rw [e]; show 0 < _; omega
    · rw [Nat.log2_lt e]
      have q := A_le (u := u) (c := 2 ^ 120 - 1) (fun k => by have := hb k; omega) hn
      rw [show 2 ^ 120 - 1 + 1 = 2 ^ 120 from by decide, ← Nat.pow_mul] at q
      exact Nat.lt_of_le_of_lt q (Nat.pow_lt_pow_right (by decide) (by omega))
  omega
section
variable {P : Program} {w : World} {K : PySem.W.Frag} {mg : Str → Option Value} {base : Heap}
abbrev nRec : List Str := ["lengths", "sums", "length", "number", "shorter", "part"]
theorem scRec : FnScope nRec ["lengths"] (defScope sRec) := ⟨rfl, rfl, rfl, by decide +kernel, rfl, by decide +kernel, by decide +kernel⟩
theorem ok_rec {f f1 : Addr} {fd fd1 : FuncData} (F : Fun K "record_rings" "record_rings" sRec f fd) (T : Blt mg) (D1 : DefAt K mg "rings_in" sRin ["sums"] f1 fd1) : FnOk P w K mg base CX0 2 f fd ["lengths"] (spRec K) := by
  have G1 : FnOk P w K mg base CX0 1 f1 fd1 ["sums"] (spRin K) := ok_rin D1.F T
  refine F.ok scRec (fun vs H Q E h => ?_) (fun cdv A' outer s H vs Q E hr h => ?_)
  · obtain ⟨t, u, rfl, _⟩ := h
    rfl
  · obtain ⟨t, u, rfl, hT, hl, hb, k⟩ := h
    have hr1 := hr.mono (j := 1) (by decide)
    refine ⟨_, pss_cons (ps_set (i := 1) scRec.nd rfl (Or.inr rfl) (pe_lst pa_nil))
      (pss_cons (ps_for PassesOwn.never rfl (pi_enumT (by rfl) T.enumerate (pa_cons (pv 0) pa_nil) (pk_cons pe_int pk_nil)) (pg_tup (by rfl) (pgs_cons (pg_name (i := 2) scRec.nd rfl (Or.inr rfl)) (pgs_cons (pg_name (i := 3) scRec.nd rfl (Or.inl rfl)) pgs_nil)))
        (pss_cons (ps_setLc (i := 4) (own := [("part", 5)]) (g := gName 5) (tt := tYes) rfl scRec.nd rfl rfl (by rfl) (pi_range2 (by rfl) T.range (pa_cons pe_int (pa_cons (pv 2) pa_nil)))
          (blkOk_by (own := [("part", 5)]) (N := nRec) (sc := defScope sRec) (by decide +kernel)) (fun _ _ _ _ _ => pg_name (i := 5) scRec.nd rfl (Or.inl rfl)) (fun _ _ _ _ _ => pts_nil)
          (fun _ _ _ _ _ => pe_op op_mulW (pe_ix (ix_seqK (K0 := K) rfl) (pv 0) (pe_op op_sub (pv 5) pe_int) (fun _ _ => rfl)) (pe_ix (ix_seqK (K0 := K) rfl) (pv 1) (pe_op op_sub (pe_op op_sub (pv 2) (pv 5)) pe_int) (fun _ _ => rfl))))
        (pss_one (ps_expr (pe_bm PySem.F.plainAttrs_list PySem.F.slot_list_append PySem.F.type_list_append mt_append (pv 1) (pa_cons (pe_op op_add (pe_op op_mul (pv 2) (pv 3)) (pe_callB (cr_sum rfl) (by rfl) T.sum (by rfl) (pa_cons (pv 4) pa_nil))) pa_nil))))))
      (pss_one (ps_ret (pc D1 G1 hr1 (pa_cons (pv 1) pa_nil))))), ?_⟩
    refine ⟨Nat.zero_le _, fun R hR => ?_⟩
    refine ⟨_, rfl, t, uV u, 1, rfl, rfl, Same.seqT (Same.upd hR) hT, by decide, by decide, ?_⟩
    refine for_it walk_enumT (fun i σ H' => ∃ v2 v3 v4 v5 : Option V, σ = [some (.ref t), some (.ref R), v2, v3, v4, v5] ∧ Same H H' ∧ H' R = some (.lst ((sA u i).map V.int)))
      ⟨none, none, none, none, rfl, Same.upd hR, upd_same⟩ (fun i σ H' _ ⟨_, _, _, _, _, sm, _⟩ => Same.seqT sm hT) ?_ ?_
    · rintro i x σ H1 H2 hi ⟨v2, v3, v4, v5, rfl, sm, eR⟩ ⟨C0, y, rfl, hC0, rfl, hy⟩
      rw [List.length_map] at hi
      rw [u_at hi] at hy
      cases hy
      have tT : (upd H1 C0 (.tup [.int (1 + (i : Nat)), V.int (u.getD i 0 : Nat)])) C0 = some (.tup [.int (1 + (i : Nat)), V.int (u.getD i 0 : Nat)]) := upd_same
      have sm2 : Same H (upd H1 C0 (.tup [.int (1 + (i : Nat)), V.int (u.getD i 0 : Nat)])) := sm.trans (Same.upd hC0)
      have eR2 : (upd H1 C0 (.tup [.int (1 + (i : Nat)), V.int (u.getD i 0 : Nat)])) R = some (.lst ((sA u i).map V.int)) := Same.upd hC0 _ _ eR
      revert tT sm2 eR2
      generalize upd H1 C0 (.tup [.int (1 + (i : Nat)), V.int (u.getD i 0 : Nat)]) = H2
      intro tT sm2 eR2
      refine ⟨C0, _, rfl, SqT.of tT, rfl, ?_⟩
      refine ⟨_, _, rfl, _, _, rfl, rfl, ?_⟩
      refine ⟨_, rfl, 1, _, rfl, ⟨by decide, by decide, by omega, by omega⟩, fun C hC => ?_⟩
      have en : (1 + (i : Int) - 1).toNat = i := by omega
      rw [en]
      have nRC : R ≠ C := ne_of_none eR2 hC
      refine lc_range (lo := 1) (n := i) (fun j H' => H' = upd H2 C (.lst ((shr u i j).map V.int))) rfl ?_ ?_
      · rintro j H3 hj rfl
        have ej : (1 : Int) + (j : Int) = ((1 + j : Nat) : Int) := by omega
        rw [ej]
        refine ⟨rfl, ?_⟩
        dsimp only [tYes]
        refine iteT ?_
        refine ⟨_, rfl, _, rfl, _, _, rfl, rfl, .inr (.inl ⟨t, uV u, (j : Int), _, rfl, congrArg V.int (by omega), Same.seqT (sm2.trans (Same.upd hC)) hT, atI_nat (u_at (by omega)), ?_⟩)⟩
        refine ⟨_, rfl, _, rfl, _, rfl, _, _, rfl, rfl, _, _, rfl, rfl, .inl ⟨R, _, ((i - 1 - j : Nat) : Int), _, rfl, congrArg V.int (by omega), SqL.of (by rw [upd_ne nRC]; exact eR2), atI_nat (sA_at u hj), ?_⟩⟩
        refine ⟨_, _, rfl, rfl, mulW_ok hb (by omega) j (by omega), (shr u i j).map V.int, upd_same, ?_, ?_⟩
        · unfold shr
          rw [List.length_map, List.length_map, List.length_range]; exact Nat.lt_of_le_of_lt (by omega : j ≤ 100) (by decide)
        · rw [upd_upd, shr_succ, List.map_append, Int.natCast_mul]; rfl
      rintro H3 rfl
      have eR3 : (upd H2 C (.lst ((shr u i i).map V.int))) R = some (.lst ((sA u i).map V.int)) := by rw [upd_ne nRC]; exact eR2
      have eC3 : (upd H2 C (.lst ((shr u i i).map V.int))) C = some (.lst ((shr u i i).map V.int)) := upd_same
      have sm3 : Same H (upd H2 C (.lst ((shr u i i).map V.int))) := sm2.trans (Same.upd hC)
      revert eR3 sm3 eC3
      generalize upd H2 C (.lst ((shr u i i).map V.int)) = H3
      intro eR3 eC3 sm3
      refine ⟨_, rfl, .inl ⟨rfl, _, SqL.of eR3⟩, _, rfl, _, rfl, _, _, rfl, rfl, .inl ⟨by omega, by omega⟩, _, rfl, C, _, rfl, SqL.of eC3, _, _, rfl, rfl, R, _, _, rfl, rfl, eR3, ?_, ?_⟩
      · rw [List.length_map, List.length_map, List.length_range']; exact Nat.lt_of_le_of_lt (by omega : i ≤ 100) (by decide)
      · refine ⟨_, _, _, _, rfl, same_put sm3 hR, ?_⟩
        have e := shr_sum u i
        rw [upd_same, sA_succ, List.map_append, ← e, show ((i + 1 : Nat) : Int) = 1 + (i : Int) from by omega]; rfl
    · rintro σ H1 ⟨v2, v3, v4, v5, rfl, sm, eR⟩
      rw [List.length_map] at eR
      refine ⟨_, rfl, R, sA u u.length, rfl, SqL.of eR, by rw [List.length_map, List.length_range']; omega, fun H2 p hp s2 ep => ?_⟩
      rw [rings_are] at ep
      exact k _ p (sm.free hp) (sm.trans s2) ep
end
end K42

set_option linter.all false
/-! rings of records, counted -/
namespace Rng
theorem sumBy_filter_zero {α : Type} {f : α → Nat} {p : α → Bool} : ∀ {l : List α}, (∀ x ∈ l, p x = false → f x = 0) → sumBy f l = sumBy f (l.filter p)
  | [], _ => rfl
  | a :: l, h => by
    have ih := sumBy_filter_zero (l := l) fun x hx => h x (List.mem_cons_of_mem _ hx)
    rw [sumBy_cons, ih, List.filter_cons]
    cases e : p a with
    | true => rw [if_pos rfl, sumBy_cons]
    | false => rw [if_neg (by decide), h a List.mem_cons_self e, Nat.zero_add]
theorem sumBy_le {α : Type} {f g : α → Nat} : ∀ {l : List α}, (∀ x ∈ l, f x ≤ g x) → sumBy f l ≤ sumBy g l
  | [], _ => Nat.le_refl _
  | a :: l, h => by
    rw [sumBy_cons, sumBy_cons]
    have := h a List.mem_cons_self
    have := sumBy_le (l := l) fun x hx => h x (List.mem_cons_of_mem _ hx)
    omega
/-- how many sequences there are -/
theorem W_le {u : List Nat} {c n : Nat} (hc : ∀ k, u.getD k 0 ≤ c) (hn : n ≤ u.length) : (W u n).length ≤ (c + 1) ^ n := by
  cases n with
  | zero => exact Nat.le_refl _
  | succ n =>
    refine Nat.le_trans ?_ (A_le hc hn)
    have e : (W u (n + 1)).length = sumBy (fun _ => 1) (W u (n + 1)) := by rw [sumBy_const, Nat.mul_one]
    rw [e]
    refine sumBy_le fun w hw => ?_
    obtain ⟨g, t⟩ := (mem_W u (n + 1) w).mp hw
    cases w with
    | nil =>
      have : (0 : Nat) = n + 1 := t
      omega
    | cons x w => exact (g x List.mem_cons_self).1
/-- a sequence is a smaller one, repeated -/
theorem power_iff {w : List Sym} (hw : w ≠ []) : (∃ k, 1 ≤ k ∧ k < w.length ∧ w.length % k = 0 ∧ pw (w.take k) (w.length / k) = w) ↔ ¬ Prim w := by
  constructor
  · rintro ⟨k, k1, k2, k3, e⟩ p
    have hl : (w.take k).length = k := by rw [List.length_take]; omega
    have hd : 0 < w.length / k := Nat.div_pos (by omega) k1
    obtain ⟨j, hj⟩ : ∃ j, w.length / k = j + 1 := ⟨w.length / k - 1, by omega⟩
    rw [hj] at e
    have t := pw_turn (w.take k) j
    rw [e, hl] at t
    have := per_least k1 t
    have := p.2
    omega
  · intro np
    have h1 := per_dvd hw
    have h2 := per_pos w
    have h3 := per_le hw
    have h4 : per w ≠ w.length := fun e => np ⟨hw, e⟩
    exact ⟨per w, h2, by omega, Nat.mod_eq_zero_of_dvd h1.1, h1.2⟩
/-- how many sequences of some length there are among some, that aren't repeated -/
noncomputable def cntW (ws : List (List Sym)) (m : Nat) : Nat := (ws.filter fun w => primB w && decide (w.length = m)).length
theorem cntW_snoc (ws : List (List Sym)) (w : List Sym) (m : Nat) : cntW (ws ++ [w]) m = cntW ws m + (if primB w = true ∧ w.length = m then 1 else 0) := by
  unfold cntW
  rw [List.filter_append, List.length_append, List.filter_cons, List.filter_nil]
  by_cases h : primB w = true ∧ w.length = m
  · rw [if_pos h, h.1, decide_eq_true h.2]; rfl
  · rw [if_neg h]
    cases e : primB w with
    | false => rfl
    | true =>
      rw [decide_eq_false fun z => h ⟨e, z⟩]; rfl
theorem cntW_all (u : List Nat) (d m : Nat) : cntW (W u d) m = (Pm u d m).length := by
  unfold cntW Pm P
  rw [List.filter_filter]
  congr 1
  refine List.filter_congr fun w _ => ?_
  rw [Bool.and_comm]
theorem q_keys {u : List Nat} {d : Nat} (hd : 0 < d) {D : List Nat} (hD : D.Nodup) (h : ∀ m, m ∈ D ↔ 0 < cntW (W u d) m) : sumBy (fun m => cntW (W u d) m / m) D = q u d := by
  have e : q u d = sumBy (fun m => cntW (W u d) m / m) (List.range' 1 d) := sumBy_congr fun m _ => by rw [cntW_all]
  rw [e, sumBy_filter_zero (l := List.range' 1 d) (p := fun m => decide (0 < cntW (W u d) m)) fun m _ hm => ?_]
  · refine sumBy_perm _ (perm_of hD ((List.nodup_range' ..).filter _) fun m => ?_)
    rw [List.mem_filter, h m, decide_eq_true_eq]
    refine ⟨fun hm => ⟨?_, hm⟩, fun hm => hm.2⟩
    unfold cntW at hm
    obtain ⟨w, hw⟩ := List.exists_mem_of_length_pos hm
    rw [List.mem_filter, Bool.and_eq_true, decide_eq_true_eq] at hw
    obtain ⟨g, t⟩ := (mem_W u d w).mp hw.1
    have l1 := len_le_tot g
    have l2 : 0 < w.length := by
      cases w with
      | nil =>
        have : (0 : Nat) = d := t
        omega
      | cons x w => exact Nat.succ_pos _
    rw [List.mem_range'_1]
    omega
  · have := of_decide_eq_false hm
    rw [show cntW (W u d) m = 0 from by omega, Nat.zero_div]
theorem q_tail (u : List Nat) (d : Nat) : q (u ++ [0]) d = q u d := by
  have g : ∀ k, (u ++ [0]).getD k 0 = u.getD k 0 := fun k => by
    rw [List.getD_eq_getElem?_getD, List.getD_eq_getElem?_getD]
    by_cases h : k < u.length
    · rw [List.getElem?_append_left h]
    · rw [List.getElem?_append_right (by omega), List.getElem?_eq_none (l := u) (by omega)]
      cases e : k - u.length with
      | zero => rfl
      | succ n => rfl
  have a := q_mono (u := u ++ [0]) (v := u) (fun k => Nat.le_of_eq (g k)) d
  have b := q_mono (u := u) (v := u ++ [0]) (fun k => Nat.le_of_eq (g k).symm) d
  omega
end Rng

set_option Elab.async false
set_option linter.all false
set_option maxRecDepth 100000
set_option maxHeartbeats 4000000
namespace K42
open PySem PySem.Spec PyProof.Rows L2 Ami K41m Rng
inductive All2 {α β : Type} (R : α → β → Prop) : List α → List β → Prop
  | nil : All2 R [] []
  | cons {a : α} {b : β} {as : List α} {bs : List β} : R a b → All2 R as bs → All2 R (a :: as) (b :: bs)
section
variable {α β : Type} {R S : α → β → Prop}
theorem All2.imp (h : ∀ a b, R a b → S a b) : ∀ {as : List α} {bs : List β}, All2 R as bs → All2 S as bs
  | _, _, .nil => .nil
  | _, _, .cons r t => .cons (h _ _ r) (t.imp h)
theorem All2.app {cs : List α} {ds : List β} : ∀ {as : List α} {bs : List β}, All2 R as bs → All2 R cs ds → All2 R (as ++ cs) (bs ++ ds)
  | _, _, .nil, k => k
  | _, _, .cons r t, k => .cons r (t.app k)
theorem All2.len : ∀ {as : List α} {bs : List β}, All2 R as bs → as.length = bs.length
  | _, _, .nil => rfl
  | _, _, .cons _ t => congrArg (· + 1) t.len
theorem All2.at : ∀ {as : List α} {bs : List β} {i : Nat} {a : α}, All2 R as bs → as[i]? = some a → ∃ b, bs[i]? = some b ∧ R a b
  | _, _, _, _, .nil, e => nomatch e
  | _, _, 0, _, .cons r t, e => by cases e; exact ⟨_, rfl, r⟩
  | _, _, i + 1, _, .cons r t, e => t.at (i := i) e
theorem All2.at' : ∀ {as : List α} {bs : List β} {i : Nat} {b : β}, All2 R as bs → bs[i]? = some b → ∃ a, as[i]? = some a ∧ R a b
  | _, _, _, _, .nil, e => nomatch e
  | _, _, 0, _, .cons r t, e => by cases e; exact ⟨_, rfl, r⟩
  | _, _, i + 1, _, .cons r t, e => t.at' (i := i) e
theorem All2.take (n : Nat) : ∀ {as : List α} {bs : List β}, All2 R as bs → All2 R (as.take n) (bs.take n)
  | _, _, .nil => by rw [List.take_nil, List.take_nil]; exact .nil
  | _, _, .cons r t => by
    cases n with
    | zero => exact .nil
    | succ n => exact .cons r (t.take n)
theorem All2.rep {as : List α} {bs : List β} (h : All2 R as bs) : ∀ n, All2 R (List.replicate n as).flatten (List.replicate n bs).flatten
  | 0 => .nil
  | n + 1 => by
    rw [List.replicate_succ, List.replicate_succ, List.flatten_cons, List.flatten_cons]
    exact h.app (h.rep n)
end
/-- all but lists and dicts stays -/
def NL (H H' : Hp) : Prop := ∀ a u, H a = some u → (∀ xs, u ≠ .lst xs) → (∀ kvs, u ≠ .dK kvs) → H' a = some u
theorem NL.refl (H : Hp) : NL H H := fun _ _ e _ _ => e
theorem NL.trans {H H' H'' : Hp} (h : NL H H') (k : NL H' H'') : NL H H'' := fun a u e h1 h2 => k a u (h a u e h1 h2) h1 h2
theorem NL.same {H H' : Hp} (h : Same H H') : NL H H' := fun a u e _ _ => h a u e
theorem NL.new {H : Hp} {a : Addr} {o : HO} (h : H a = none) : NL H (upd H a o) := NL.same (Same.upd h)
theorem NL.lst {H : Hp} {a : Addr} {o : HO} {xs : List V} (h : H a = some (.lst xs)) : NL H (upd H a o) := fun b u e h1 _ => by
  by_cases hb : b = a
  · subst hb
    rw [h] at e
    cases e
    exact absurd rfl (h1 _)
  · rw [upd_ne hb]; exact e
theorem NL.dK {H : Hp} {a : Addr} {o : HO} {xs : List (Key × V)} (h : H a = some (.dK xs)) : NL H (upd H a o) := fun b u e _ h2 => by
  by_cases hb : b = a
  · subst hb
    rw [h] at e
    cases e
    exact absurd rfl (h2 _)
  · rw [upd_ne hb]; exact e
theorem NL.tup {K : PySem.W.Frag} {H H' : Hp} (h : NL H H') {a : Addr} {xs : List V} (s : SqT K H a xs) : SqT K H' a xs := by
  rcases s with s | s
  · rcases s with s | ⟨o, s⟩
    · exact .inl (.inl (h _ _ s (fun _ z => nomatch z) (fun _ z => nomatch z)))
    · exact .inl (.inr ⟨o, h _ _ s (fun _ z => nomatch z) (fun _ z => nomatch z)⟩)
  · exact .inr s
/-- a length with a word's number -/
def Pair (K : PySem.W.Frag) (H : Hp) (v : V) (x : Sym) : Prop := ∃ q, v = .ref q ∧ SqT K H q [.int (x.1 : Nat), .int (x.2 : Nat)]
/-- a sequence -/
def Row (K : PySem.W.Frag) (H : Hp) (v : V) (w : List Sym) : Prop := ∃ p vs, v = .ref p ∧ SqT K H p vs ∧ All2 (Pair K H) vs w
theorem Pair.keep {K : PySem.W.Frag} {H H' : Hp} (h : NL H H') {v : V} {x : Sym} : Pair K H v x → Pair K H' v x := fun ⟨q, e, s⟩ => ⟨q, e, h.tup s⟩
theorem pairs_keep {K : PySem.W.Frag} {H H' : Hp} (h : NL H H') {vs : List V} {w : List Sym} (k : All2 (Pair K H) vs w) : All2 (Pair K H') vs w := k.imp fun _ _ => Pair.keep h
theorem Row.keep {K : PySem.W.Frag} {H H' : Hp} (h : NL H H') {v : V} {w : List Sym} : Row K H v w → Row K H' v w := fun ⟨p, vs, e, s, t⟩ => ⟨p, vs, e, h.tup s, pairs_keep h t⟩
theorem rows_keep {K : PySem.W.Frag} {H H' : Hp} (h : NL H H') {vs : List V} {ws : List (List Sym)} (k : All2 (Row K H) vs ws) : All2 (Row K H') vs ws := k.imp fun _ _ => Row.keep h
/-- as data -/
def dX (x : Sym) : PyData := .tuple [.int (x.1 : Nat), .int (x.2 : Nat)]
def dR (w : List Sym) : PyData := .tuple (w.map dX)
theorem dp_pairs {K : PySem.W.Frag} {H : Hp} : ∀ {vs : List V} {w : List Sym}, All2 (Pair K H) vs w → DpAll K H vs (w.map dX)
  | _, _, .nil => .nil
  | _, _, .cons ⟨_, rfl, s⟩ t => .cons (.tup s (.cons (.int _) (.cons (.int _) .nil))) (dp_pairs t)
theorem dp_row {K : PySem.W.Frag} {H : Hp} {p : Addr} {vs : List V} {w : List Sym} (s : SqT K H p vs) (t : All2 (Pair K H) vs w) : Dp K H (.ref p) (dR w) := .tup s (dp_pairs t)
theorem lay_all : ∀ w : List Sym, PyData.canLayAll0 (w.map dX) = true
  | [] => rfl
  | x :: w => by
    show ((dX x).canLay0 && PyData.canLayAll0 (w.map dX)) = true
    rw [lay_all w]; rfl
theorem depth_all : ∀ w : List Sym, PyData.depthAll (w.map dX) ≤ 1
  | [] => by decide
  | x :: w => by
    show max (dX x).depth (PyData.depthAll (w.map dX)) ≤ 1
    have := depth_all w
    have e : (dX x).depth = 1 := rfl
    omega
theorem shaped_row (w : List Sym) : SeqAt.shaped (dR w) = true := by
  show (PyData.canLayAll0 (w.map dX) && decide (PyData.depthAll (w.map dX) + 1 ≤ 64)) = true
  have := depth_all w
  rw [lay_all, decide_eq_true (by omega)]; rfl
theorem eqv_x (x y : Sym) : PyData.eqv (dX x) (dX y) = decide (x = y) := by
  show (((x.1 : Nat) : Int) == (y.1 : Nat) && (((x.2 : Nat) : Int) == (y.2 : Nat) && true)) = _
  rw [Bool.and_true]
  by_cases h : x = y
  · rw [decide_eq_true h, h]
    rw [beq_self_eq_true, beq_self_eq_true]; rfl
  · rw [decide_eq_false h]
    by_cases h1 : x.1 = y.1
    · have h2 : ((x.2 : Nat) : Int) ≠ (y.2 : Nat) := fun z => h (Prod.ext h1 (by omega))
      rw [beq_eq_false_iff_ne.mpr h2, Bool.and_false]
    · have h2 : ((x.1 : Nat) : Int) ≠ (y.1 : Nat) := fun z => h1 (by omega)
      rw [beq_eq_false_iff_ne.mpr h2, Bool.false_and]
theorem eqv_all : ∀ a b : List Sym, PyData.eqvAll (a.map dX) (b.map dX) = decide (a = b)
  | [], [] => rfl
  | [], y :: b => rfl
  | x :: a, [] => rfl
  | x :: a, y :: b => by
    show (PyData.eqv (dX x) (dX y) && PyData.eqvAll (a.map dX) (b.map dX)) = _
    rw [eqv_x, eqv_all a b]
    by_cases h : x = y
    · by_cases h2 : a = b
      · rw [decide_eq_true h, decide_eq_true h2, h, h2, decide_eq_true rfl]; rfl
      · rw [decide_eq_false h2, Bool.and_false, decide_eq_false fun z => h2 (List.cons.inj z).2]
    · rw [decide_eq_false h, Bool.false_and, decide_eq_false fun z => h (List.cons.inj z).1]
theorem eqv_row (a b : List Sym) : PyData.eqv (dR a) (dR b) = decide (a = b) := eqv_all a b
/-- with K said first -/
theorem call_lenK {X : Cx} {K0 : PySem.W.Frag} (hK : X.K = K0) : CallR X (.builtin "len") (fun xs H Q => ∃ x n, xs = [x] ∧ LenV K0 x H n ∧ Q (V.int (n : Nat)) H) := by
  subst hK
  exact call_len
theorem sl_tupK {X : Cx} {K0 : PySem.W.Frag} (hK : X.K = K0) : SlR X (rSlT K0) := by
  subst hK
  exact sl_tup
theorem op_repNK {X : Cx} {K0 : PySem.W.Frag} (hK : X.K = K0) : OpR X (binaryOp .Mult) (rRepN K0) := by
  subst hK
  exact op_repN
theorem op_eqDK {X : Cx} {K0 : PySem.W.Frag} (hK : X.K = K0) (hu : X.A.units + 64 < cLine) : OpR X (compareOp .Eq) (rEqD K0) := by
  subst hK
  exact op_eqD hu
/-- the sizes of beginnings that may be repeated; those that are -/
def szs (n j : Nat) : List Nat := (List.range' 1 j).filter fun k => decide (n % k = 0)
def good' (w : List Sym) (k : Nat) : Bool := decide (pw (w.take k) (w.length / k) = w)
def spPow (K : PySem.W.Frag) : Sp := fun vs H Q _ => ∃ (v : V) (w : List Sym), vs = [v] ∧ Row K H v w ∧ w ≠ [] ∧ w.length ≤ 100 ∧ ∀ H', Same H H' → Q (.bl (!primB w)) H'
section
variable {P : Program} {w : World} {K : PySem.W.Frag} {mg : Str → Option Value} {base : Heap}
abbrev nPow : List Str := ["_law_row", "_law_sizes", "_law_k"]
theorem scPow : FnScope nPow ["_law_row"] (defScope sPow) := ⟨rfl, rfl, rfl, by decide +kernel, rfl, by decide +kernel, by decide +kernel⟩
theorem ok_pow {f : Addr} {fd : FuncData} (F : Fun K "_law_is_power" "_law_is_power" sPow f fd) (T : Blt mg) : FnOk P w K mg base CX0 1 f fd ["_law_row"] (spPow K) := by
  refine F.ok scPow (fun vs H Q E h => ?_) (fun cdv A' outer s H vs Q E hr h => ?_)
  · obtain ⟨v, w, rfl, _⟩ := h
    rfl
  · obtain ⟨v, w, rfl, hR, hne, hl, k⟩ := h
    obtain ⟨p, vs, rfl, hT, hP⟩ := hR
    have hun := hr.units
    have lv := hP.len
    refine ⟨_, pss_cons (ps_setLc (i := 1) (own := [("_law_k", 2)]) (g := gName 2) rfl scPow.nd rfl rfl (by rfl) (pi_range2 (by rfl) T.range (pa_cons pe_int (pa_cons (pe_callB call_len (by rfl) T.len PySem.boot_len (pa_cons (pv 0) pa_nil)) pa_nil)))
          (blkOk_by (own := [("_law_k", 2)]) (N := nPow) (sc := defScope sPow) (by decide +kernel)) (fun _ _ _ _ _ => pg_name (i := 2) scPow.nd rfl (Or.inl rfl))
          (fun _ _ _ _ _ => pts_one (pt_cmpR op_eq (pe_op op_mod (pe_callB (call_lenK (K0 := K) rfl) (by rfl) T.len PySem.boot_len (pa_cons (pv 0) pa_nil)) (pv 2)) pe_int (nomark _))) (fun _ _ _ _ _ => pv 2))
      (pss_one (ps_ret (pe_cmpR (op_neD hun) (pe_lc (own := [("_law_k", 2)]) (g := gName 2) rfl scPow.nd (pi_list (pv 1))
          (blkOk_by (own := [("_law_k", 2)]) (N := nPow) (sc := defScope sPow) (by decide +kernel)) (fun _ _ _ _ _ => pg_name (i := 2) scPow.nd rfl (Or.inl rfl))
          (fun _ _ _ _ _ => pts_one (pt_cmpR (op_eqDK (K0 := K) rfl hun) (pe_op (op_repNK (K0 := K) rfl) (pe_slice (sl_tupK (K0 := K) rfl) (pv 0) po_none (po_some (pv 2))) (pe_op op_fdiv (pe_callB (call_lenK (K0 := K) rfl) (by rfl) T.len PySem.boot_len (pa_cons (pv 0) pa_nil)) (pv 2))) (pv 0) (nomark _))) (fun _ _ _ _ _ => pv 2))
        (pe_lst pa_nil) (nomark _)))), ?_⟩
    refine ⟨_, rfl, _, w.length, rfl, .inr ⟨_, hT, lv.symm⟩, 1, _, rfl, ⟨by decide, by decide, by omega, by omega⟩, fun C hC => ?_⟩
    have en : ((w.length : Int) - 1).toNat = w.length - 1 := by omega
    rw [en]
    have np : p ≠ C → True := fun _ => trivial
    have hTC : ∀ o, SqT K (upd H C o) p vs := fun o => Same.seqT (Same.upd hC) hT
    have w1 : 1 ≤ w.length := by
      cases w with
      | nil => exact absurd rfl hne
      | cons x w => exact Nat.succ_pos _
    refine lc_range (lo := 1) (n := w.length - 1) (fun j H' => H' = upd H C (.lst (uV (szs w.length j)))) rfl ?_ ?_
    · rintro j H3 hj rfl
      have ej : (1 : Int) + (j : Int) = ((1 + j : Nat) : Int) := by omega
      rw [ej]
      refine ⟨rfl, _, rfl, _, w.length, rfl, .inr ⟨_, hTC _, lv.symm⟩, _, rfl, _, _, rfl, rfl, (by omega), rfl, _, rfl, ?_⟩
      have e : decide (V.int ((w.length : Int) % ((1 + j : Nat) : Int)) = V.int 0) = decide (w.length % (1 + j) = 0) := decide_eq_decide.mpr ⟨fun h => by
        have h2 : (w.length : Int) % ((1 + j : Nat) : Int) = 0 := V.int.inj h
        have h3 : ((w.length % (1 + j) : Nat) : Int) = 0 := by rw [Int.natCast_emod]; exact h2
        omega, fun h => by
        have h3 : ((w.length % (1 + j) : Nat) : Int) = 0 := by rw [h]; rfl
        rw [Int.natCast_emod] at h3
        rw [h3]⟩
      show if decide (V.int ((w.length : Int) % ((1 + j : Nat) : Int)) = V.int 0) = true then _ else _
      have fs : szs w.length (j + 1) = szs w.length j ++ (if decide (w.length % (1 + j) = 0) = true then [1 + j] else []) := by
        unfold szs
        rw [List.range'_1_concat, List.filter_append, List.filter_cons]; rfl
      rw [e, fs]
      cases hm : decide (w.length % (1 + j) = 0) with
      | true =>
        refine iteT ?_
        refine ⟨_, rfl, _, upd_same, ?_, ?_⟩
        · unfold szs
          rw [List.length_map]
          refine Nat.lt_of_le_of_lt (List.length_filter_le _ _) ?_
          rw [List.length_range']
          exact Nat.lt_of_le_of_lt (by omega : j ≤ 100) (by decide)
        · rw [upd_upd, if_pos rfl]
          show _ = upd H C (.lst (List.map _ (_ ++ _)))
          rw [List.map_append]; rfl
      | false =>
        refine iteF ?_
        rw [if_neg Bool.false_ne_true, List.append_nil]
    rintro H3 rfl
    have smC : Same H (upd H C (.lst (uV (szs w.length (w.length - 1))))) := Same.upd hC
    have eC : (upd H C (.lst (uV (szs w.length (w.length - 1))))) C = some (.lst (uV (szs w.length (w.length - 1)))) := upd_same
    revert smC eC
    generalize upd H C (.lst (uV (szs w.length (w.length - 1)))) = H1
    intro smC eC
    have hT1 := Same.seqT smC hT
    have hP1 := pairs_keep (NL.same smC) hP
    have hsz : ∀ {i k' : Nat}, (szs w.length (w.length - 1))[i]? = some k' → 1 ≤ k' ∧ k' < w.length ∧ w.length % k' = 0 := fun h => by
      have := List.mem_of_getElem? h
      unfold szs at this
      rw [List.mem_filter, List.mem_range'_1, decide_eq_true_eq] at this
      omega
    refine ⟨_, rfl, C, rfl, ⟨_, SqL.of eC⟩, fun C2 hC2 => ?_⟩
    refine lc_list (K := K) (a := C) (xs := uV (szs w.length (w.length - 1))) (fun i H' => Same H1 H' ∧ H' C2 = some (.lst (uV (((szs w.length (w.length - 1)).take i).filter (good' w))))) ⟨Same.upd hC2, upd_same⟩ (fun i H' _ ⟨sm, _⟩ => SqL.of (sm _ _ eC)) ?_ ?_
    · rintro i x H4 hx ⟨sm, e4⟩
      obtain ⟨k', hk', rfl⟩ : ∃ k', (szs w.length (w.length - 1))[i]? = some k' ∧ x = V.int (k' : Nat) := by
        rw [List.getElem?_map] at hx
        cases e : (szs w.length (w.length - 1))[i]? with
        | none => rw [e] at hx; exact nomatch hx
        | some k' => rw [e] at hx; cases hx; exact ⟨k', rfl, rfl⟩
      obtain ⟨k1, k2, k3⟩ := hsz hk'
      have hT4 := Same.seqT sm hT1
      have fs : ((szs w.length (w.length - 1)).take (i + 1)).filter (good' w) = ((szs w.length (w.length - 1)).take i).filter (good' w) ++ (if good' w k' = true then [k'] else []) := by
        rw [List.take_add_one, hk', List.filter_append]
        show _ ++ List.filter _ [k'] = _
        rw [List.filter_cons]; rfl
      refine ⟨rfl, ?_⟩
      have ecut : cutV vs none (some (k' : Int)) = vs.take k' := by
        unfold cutV
        rw [HT.sIx_none, HT.sIx_nat, Nat.min_eq_left (by omega), List.drop_zero, Nat.sub_zero]
      have hd : 0 < w.length / k' := Nat.div_pos (by omega) k1
      have hd2 : w.length / k' ≤ w.length := Nat.div_le_self ..
      have ed : (w.length : Int) / (k' : Int) = ((w.length / k' : Nat) : Int) := (Int.natCast_ediv ..).symm
      refine ⟨_, rfl, _, rfl, _, rfl, p, vs, rfl, hT4, ?_, fun p1 hp1 => ?_⟩
      · rintro ⟨_, z⟩
        rw [HT.sIx_nat] at z
        omega
      refine ⟨_, rfl, _, w.length, rfl, .inr ⟨_, Same.seqT (Same.upd hp1) hT4, lv.symm⟩, _, rfl, _, _, rfl, rfl, ⟨by omega, by omega⟩, ?_⟩
      refine ⟨p1, ((w.length / k' : Nat) : Int), vs.take k', rfl, congrArg V.int ed, by rw [ecut]; exact SqT.of upd_same, ?_, by omega, by omega, by rw [List.length_take]; omega, fun H5 p2 s5 e5 => ?_⟩
      · intro z
        have := congrArg List.length z
        rw [List.length_take] at this
        have h0 : min k' vs.length = 0 := this
        omega
      rw [Int.toNat_natCast] at e5
      have s45 := (Same.upd hp1).trans s5
      have s15 := sm.trans s45
      have hP5 := pairs_keep (NL.same s15) hP1
      refine ⟨_, rfl, dR (pw (w.take k') (w.length / k')), dR w, dp_row e5 ((hP5.take k').rep _), dp_row (Same.seqT s15 hT1) hP5, shaped_row _, shaped_row _, _, rfl, ?_⟩
      have e45 := s45 _ _ e4
      rw [eqv_row, fs]
      show if good' w k' = true then _ else _
      cases hg : good' w k' with
      | true =>
        refine iteT ⟨_, rfl, _, e45, ?_, same_put s15 hC2, ?_⟩
        · rw [List.length_map]
          refine Nat.lt_of_le_of_lt (List.length_filter_le _ _) ?_
          rw [List.length_take]
          refine Nat.lt_of_le_of_lt (Nat.min_le_right _ _) ?_
          unfold szs
          refine Nat.lt_of_le_of_lt (List.length_filter_le _ _) ?_
          rw [List.length_range']
          exact Nat.lt_of_le_of_lt (by omega : w.length - 1 ≤ 100) (by decide)
        · rw [upd_same, if_pos rfl]
          show _ = some (HO.lst (List.map _ (_ ++ _)))
          rw [List.map_append]; rfl
      | false =>
        refine iteF ⟨s15, ?_⟩
        rw [if_neg Bool.false_ne_true, List.append_nil]; exact e45
    rintro H4 ⟨sm, e4⟩
    rw [List.length_map, List.take_length] at e4
    refine ⟨Nat.zero_le _, fun p3 hp3 => ?_⟩
    have okl : (uV ((szs w.length (w.length - 1)).filter (good' w))).all okF = true := by
      rw [List.all_eq_true]
      intro v hv
      obtain ⟨c, hc, rfl⟩ := List.mem_map.mp hv
      rfl
    refine ne_nil (SqL.of (Same.upd hp3 _ _ e4)) (SqL.of upd_same) okl ?_
    have eb : (!(uV ((szs w.length (w.length - 1)).filter (good' w))).isEmpty) = !primB w := by
      congr 1
      rw [Bool.eq_iff_iff, primB_iff, List.isEmpty_iff]
      have pi := power_iff hne
      constructor
      · intro h
        refine Classical.byContradiction fun np => ?_
        obtain ⟨k', k1, k2, k3, e⟩ := pi.mpr np
        have m : k' ∈ (szs w.length (w.length - 1)).filter (good' w) := by
          rw [List.mem_filter]
          refine ⟨?_, decide_eq_true e⟩
          unfold szs
          rw [List.mem_filter, List.mem_range'_1, decide_eq_true_eq]
          exact ⟨by omega, k3⟩
        have m2 : V.int (k' : Nat) ∈ uV ((szs w.length (w.length - 1)).filter (good' w)) := List.mem_map.mpr ⟨k', m, rfl⟩
        rw [h] at m2
        exact nomatch m2
      · intro pr
        cases e : (szs w.length (w.length - 1)).filter (good' w) with
        | nil => rfl
        | cons k' r =>
          have m : k' ∈ (szs w.length (w.length - 1)).filter (good' w) := by rw [e]; exact List.mem_cons_self
          rw [List.mem_filter] at m
          obtain ⟨m1, m2⟩ := m
          unfold szs at m1
          rw [List.mem_filter, List.mem_range'_1, decide_eq_true_eq] at m1
          exact absurd pr (pi.mp ⟨k', by omega, by omega, m1.2, of_decide_eq_true m2⟩)
    rw [eb]
    exact k _ ((smC.trans sm).trans (Same.upd hp3))
end
end K42

set_option Elab.async false
set_option linter.all false
set_option maxRecDepth 100000
set_option maxHeartbeats 4000000
namespace K42
open PySem PySem.Spec PyProof.Rows L2 Ami K41m Rng
theorem catA_any {K : PySem.W.Frag} {H : Hp} {a b : Addr} {xs ys : List V} {Q : VK} (ha : SqT K H a xs) (hb : SqT K H b ys) (hl : xs.length + ys.length ≤ sizeLine) (q : ∀ H' p, Same H H' → SqT K H' p (xs ++ ys) → Q (.ref p) H') : rCatA K (.ref a) (.ref b) H Q :=
  ⟨a, b, xs, ys, rfl, rfl, ha, hb, hl, fun e => by subst e; exact q H b (Same.refl _) hb, fun _ e => by subst e; exact q H a (Same.refl _) (by rw [List.append_nil]; exact ha), fun _ _ p hp => q _ p (Same.upd hp) (SqT.of upd_same)⟩
theorem op_catAK {X : Cx} {K0 : PySem.W.Frag} (hK : X.K = K0) : OpR X (binaryOp .Add) (rCatA K0) := by
  subst hK
  exact op_catA
/-- the sequences with one of the first words of a length behind -/
def Wk (u : List Nat) (n k m : Nat) : List (List Sym) := (List.range m).flatMap fun j => (W u (n - k)).map fun w => w ++ [(k + 1, j)]
theorem Wk_succ (u : List Nat) (n k m : Nat) : Wk u n k (m + 1) = Wk u n k m ++ (W u (n - k)).map fun w => w ++ [(k + 1, m)] := by
  unfold Wk
  rw [List.range_succ, List.flatMap_append, List.flatMap_cons, List.flatMap_nil, List.append_nil]
def part (u : List Nat) (n i : Nat) : List (List Sym) := (List.range (min i (n + 1))).flatMap fun k => Wk u n k (u.getD k 0)
theorem part_succ (u : List Nat) {n k : Nat} (h : k ≤ n) : part u n (k + 1) = part u n k ++ Wk u n k (u.getD k 0) := by
  unfold part
  rw [Nat.min_eq_left (by omega), Nat.min_eq_left (by omega), List.range_succ, List.flatMap_append, List.flatMap_cons, List.flatMap_nil, List.append_nil]
theorem part_skip (u : List Nat) {n k : Nat} (h : n < k) : part u n (k + 1) = part u n k := by
  unfold part
  rw [Nat.min_eq_right (by omega), Nat.min_eq_right (by omega)]
theorem part_all (u : List Nat) {n i : Nat} (h : n < i) : part u n i = W u (n + 1) := by
  unfold part
  rw [Nat.min_eq_right (by omega), W_succ]; rfl
/-- a list of sequences, elsewhere than at R -/
def LstAt (R : Addr) (K : PySem.W.Frag) (H : Hp) (v : V) (ws : List (List Sym)) : Prop := ∃ a vs, v = .ref a ∧ a ≠ R ∧ H a = some (.lst vs) ∧ All2 (Row K H) vs ws
theorem LstAt.same {R : Addr} {K : PySem.W.Frag} {H H' : Hp} (h : Same H H') {v : V} {ws : List (List Sym)} : LstAt R K H v ws → LstAt R K H' v ws := fun ⟨a, vs, e, n, s, t⟩ => ⟨a, vs, e, n, h _ _ s, rows_keep (NL.same h) t⟩
theorem LstAt.put {R : Addr} {K : PySem.W.Frag} {H : Hp} {o : HO} {xs : List V} (h : H R = some (.lst xs)) {v : V} {ws : List (List Sym)} : LstAt R K H v ws → LstAt R K (upd H R o) v ws := fun ⟨a, vs, e, n, s, t⟩ => ⟨a, vs, e, n, by rw [upd_ne n]; exact s, rows_keep (NL.lst h) t⟩
def spSeq (K : PySem.W.Frag) : Sp := fun vs H Q _ => ∃ (t : Addr) (u : List Nat), vs = [.ref t, .int (u.length : Nat)] ∧ SqT K H t (uV u) ∧ u.length ≤ 6 ∧ (∀ k, u.getD k 0 ≤ 3) ∧
  ∀ H' R ls M, Same H H' → M ≤ u.length → H' R = some (.lst ls) → All2 (LstAt R K H') ls ((List.range (M + 1)).map (W u)) → Q (.ref R) H'
section
variable {P : Program} {w : World} {K : PySem.W.Frag} {mg : Str → Option Value} {base : Heap}
abbrev nSeq : List Str := ["_law_lot", "_law_top", "_law_found", "_law_total", "_law_here", "_law_k", "_law_amount", "_law_spot", "_law_row"]
theorem scSeq : FnScope nSeq ["_law_lot", "_law_top"] (defScope sSeq) := ⟨rfl, rfl, rfl, by decide +kernel, rfl, by decide +kernel, by decide +kernel⟩
theorem ok_seq {f : Addr} {fd : FuncData} (F : Fun K "_law_sequences" "_law_sequences" sSeq f fd) (T : Blt mg) : FnOk P w K mg base CX0 1 f fd ["_law_lot", "_law_top"] (spSeq K) := by
  refine F.ok scSeq (fun vs H Q E h => ?_) (fun cdv A' outer s H vs Q E hr h => ?_)
  · obtain ⟨t, u, rfl, _⟩ := h
    rfl
  · obtain ⟨t, u, rfl, hT, hl, hu, k⟩ := h
    refine ⟨_, pss_cons (ps_set (i := 2) scSeq.nd rfl (Or.inl rfl) (pe_lst (pa_cons (pe_lst (pa_cons (pe_tup pa_nil) pa_nil)) pa_nil)))
      (pss_cons (ps_for PassesOwn.never rfl (pi_range2 (by rfl) T.range (pa_cons pe_int (pa_cons (pe_op op_add (pv 1) pe_int) pa_nil))) (pg_name (i := 3) scSeq.nd rfl (Or.inl rfl))
        (pss_cons (ps_set (i := 4) scSeq.nd rfl (Or.inl rfl) (pe_lst pa_nil))
        (pss_cons (ps_for PassesOwn.never rfl (pi_enumA (by rfl) T.enumerate (pa_cons (pv 0) pa_nil)) (pg_tup (by rfl) (pgs_cons (pg_name (i := 5) scSeq.nd rfl (Or.inr rfl)) (pgs_cons (pg_name (i := 6) scSeq.nd rfl (Or.inl rfl)) pgs_nil)))
          (pss_one (ps_if (pt_cmpR op_lt (pv 5) (pv 3) (nomark _)) (pss_one (ps_for PassesOwn.never rfl (pi_range1 (by rfl) T.range (pa_cons (pv 6) pa_nil)) (pg_name (i := 7) scSeq.nd rfl (Or.inr rfl))
            (pss_one (ps_expr (pe_bm PySem.F.plainAttrs_list PySem.F.slot_list_extend PySem.F.type_list_extend mt_extend (pv 4) (pa_cons
              (pe_lc (own := [("_law_row", 8)]) (g := gName 8) (tt := tYes) rfl scSeq.nd (pi_list (pe_ix ix_seq (pv 2) (pe_op op_sub (pe_op op_sub (pv 3) (pv 5)) pe_int) (fun _ _ => rfl)))
                (blkOk_by (own := [("_law_row", 8)]) (N := nSeq) (sc := defScope sSeq) (by decide +kernel)) (fun _ _ _ _ _ => pg_name (i := 8) scSeq.nd rfl (Or.inl rfl)) (fun _ _ _ _ _ => pts_nil)
                (fun _ _ _ _ _ => pe_op (op_catAK (K0 := K) rfl) (pv 8) (pe_tup (pa_cons (pe_tup (pa_cons (pe_op op_add (pv 5) pe_int) (pa_cons (pv 7) pa_nil))) pa_nil)))) pa_nil)))))) pss_nil)))
        (pss_cons (ps_expr (pe_bm PySem.F.plainAttrs_list PySem.F.slot_list_append PySem.F.type_list_append mt_append (pv 2) (pa_cons (pv 4) pa_nil)))
        (pss_one (ps_if (pt_cmpR op_gt (pe_callB call_len (by rfl) T.len PySem.boot_len (pa_cons (pv 4) pa_nil)) pe_int (nomark _)) (pss_one ps_break) pss_nil))))))
      (pss_one (ps_ret (pv 2)))), ?_⟩
    have lu : (uV u).length = u.length := List.length_map ..
    refine ⟨Nat.zero_le _, fun p0 hp0 => ⟨(by show 1 ≤ sizeLine; decide), fun L0 hL0 => ⟨(by show 1 ≤ sizeLine; decide), fun R hR => ?_⟩⟩⟩
    have s0 : Same H (upd (upd H p0 (.tup [])) L0 (.lst [.ref p0])) := (Same.upd hp0).trans (Same.upd hL0)
    have e0 : (upd (upd H p0 (.tup [])) L0 (.lst [.ref p0])) p0 = some (.tup []) := Same.upd hL0 _ _ upd_same
    have e1 : (upd (upd H p0 (.tup [])) L0 (.lst [.ref p0])) L0 = some (.lst [.ref p0]) := upd_same
    revert s0 e0 e1 hR
    generalize upd (upd H p0 (.tup [])) L0 (.lst [.ref p0]) = H0
    intro hR s0 e0 e1
    have hRH : H R = none := s0.free hR
    refine ⟨_, rfl, _, _, rfl, rfl, 1, _, rfl, ⟨by decide, by decide, by omega, by omega⟩, ?_⟩
    have en : ((u.length : Int) + 1 - 1).toNat = u.length := by omega
    rw [en]
    refine for_range (lo := 1) (n := u.length) (fun i σ H' => ∃ (ls : List V) (v3 v4 v5 v6 v7 v8 : Option V), σ = [some (.ref t), some (.int (u.length : Nat)), some (.ref R), v3, v4, v5, v6, v7, v8] ∧ Same H H' ∧ H' R = some (.lst ls) ∧ All2 (LstAt R K H') ls ((List.range (i + 1)).map (W u)))
      ⟨[.ref L0], _, _, _, _, _, _, rfl, s0.trans (Same.upd hR), upd_same, .cons ⟨L0, _, rfl, ne_of_none e1 hR, Same.upd hR _ _ e1, .cons ⟨p0, [], rfl, SqT.of (Same.upd hR _ _ e0), .nil⟩ .nil⟩ .nil⟩ ?_ ?_
    · rintro i σ H1 hi ⟨ls, v3, v4, v5, v6, v7, v8, rfl, sm1, eR1, al1⟩
      refine ⟨Nat.zero_le _, fun h hh => ?_⟩
      have nRh : R ≠ h := ne_of_none eR1 hh
      have hT2 : SqT K (upd H1 h (.lst [])) t (uV u) := Same.seqT (sm1.trans (Same.upd hh)) hT
      refine ⟨_, rfl, t, uV u, rfl, .inr ⟨hT2, ?_⟩⟩
      refine for_it walk_enumT (fun k' σ H' => ∃ (vs : List V) (v5 v6 v7 v8 : Option V), σ = [some (.ref t), some (.int (u.length : Nat)), some (.ref R), some (.int (1 + (i : Nat))), some (.ref h), v5, v6, v7, v8] ∧ Same H1 H' ∧ H' h = some (.lst vs) ∧ All2 (Row K H') vs (part u i k') ∧ vs.length ≤ 4096 * (3 * k'))
        ⟨[], _, _, _, _, rfl, Same.upd hh, upd_same, .nil, Nat.zero_le _⟩ (fun k' σ H' _ ⟨_, _, _, _, _, _, sm, _⟩ => Same.seqT (sm1.trans sm) hT) ?_ ?_
      · rintro k' x σ H2 H3 hk' ⟨vs, v5, v6, v7, v8, rfl, sm2, eh2, al2, vl2⟩ ⟨C0, y, rfl, hC0, rfl, hy⟩
        rw [List.length_map] at hk'
        rw [u_at hk'] at hy
        cases hy
        have ez : (0 : Int) + (k' : Nat) = (k' : Int) := by omega
        rw [ez]
        have tT : (upd H2 C0 (.tup [.int (k' : Nat), V.int (u.getD k' 0 : Nat)])) C0 = some (.tup [.int (k' : Nat), V.int (u.getD k' 0 : Nat)]) := upd_same
        have s23 : Same H2 (upd H2 C0 (.tup [.int (k' : Nat), V.int (u.getD k' 0 : Nat)])) := Same.upd hC0
        revert tT s23
        generalize upd H2 C0 (.tup [.int (k' : Nat), V.int (u.getD k' 0 : Nat)]) = H3
        intro tT s23
        refine ⟨C0, _, rfl, SqT.of tT, rfl, ?_⟩
        have al3 := rows_keep (NL.same s23) al2
        have eh3 := s23 _ _ eh2
        have sm3 := sm2.trans s23
        refine ⟨_, _, rfl, _, _, rfl, rfl, ?_⟩
        refine ⟨_, rfl, _, rfl, _, _, rfl, rfl, _, rfl, ?_⟩
        by_cases hki : k' ≤ i
        · rw [decide_eq_true (by omega : (k' : Int) < 1 + (i : Int))]
          refine iteT ?_
          have huk := hu k'
          refine ⟨_, rfl, _, rfl, by omega, by omega, ?_⟩
          rw [Int.toNat_natCast]
          refine for_range (lo := 0) (n := u.getD k' 0) (fun j σ H' => ∃ (vs : List V) (v7 v8 : Option V), σ = [some (.ref t), some (.int (u.length : Nat)), some (.ref R), some (.int (1 + (i : Nat))), some (.ref h), some (.int (k' : Nat)), some (.int (u.getD k' 0 : Nat)), v7, v8] ∧ Same H1 H' ∧ H' h = some (.lst vs) ∧ All2 (Row K H') vs (part u i k' ++ Wk u i k' j) ∧ vs.length ≤ 4096 * (3 * k' + j))
            ⟨vs, _, _, rfl, sm3, eh3, by rw [show Wk u i k' 0 = [] from rfl, List.append_nil]; exact al3, by omega⟩ ?_ ?_
          · rintro j σ H4 hj ⟨vs4, v7, v8, rfl, sm4, eh4, al4, vl4⟩
            have ej : (0 : Int) + (j : Int) = (j : Int) := by omega
            rw [ej]
            have eR4 := sm4 _ _ eR1
            have hWi : ((List.range (i + 1)).map (W u))[i - k']? = some (W u (i - k')) := by
              rw [List.getElem?_map, List.getElem?_range (by omega)]; rfl
            obtain ⟨v, hv, La, src, rfl, nLR, eL, alL⟩ := al1.at' hWi
            have eL4 := sm4 _ _ eL
            have alL4 := rows_keep (NL.same sm4) alL
            have hWl : src.length ≤ 4096 := by
              rw [alL.len]
              have a1 := W_le (u := u) (c := 3) (n := i - k') hu (by omega)
              have a2 : (3 + 1) ^ (i - k') ≤ 4 ^ 6 := Nat.pow_le_pow_right (by decide) (by omega)
              have a3 : 4 ^ 6 = 4096 := by decide
              omega
            have hwl : ∀ {w : List Sym}, w ∈ W u (i - k') → w.length ≤ 6 := fun hw => by
              obtain ⟨g, e⟩ := (mem_W u _ _).mp hw
              have := len_le_tot g
              omega
            refine ⟨_, rfl, .inl ⟨rfl, _, SqL.of eh4⟩, _, rfl, _, rfl, _, rfl, _, _, rfl, rfl, _, _, rfl, rfl, .inl ⟨R, _, ((i - k' : Nat) : Int), _, rfl, congrArg V.int (by omega), SqL.of eR4, atI_nat hv, La, rfl, ⟨src, SqL.of eL4⟩, fun C hC => ?_⟩⟩
            refine lc_list (K := K) (a := La) (xs := src) (fun m H' => ∃ acc, Same H4 H' ∧ H' C = some (.lst acc) ∧ acc.length = m ∧ All2 (Row K H') acc (((W u (i - k')).take m).map fun w => w ++ [(k' + 1, j)])) ⟨[], Same.upd hC, upd_same, rfl, .nil⟩ (fun m H' _ ⟨_, sm, _⟩ => SqL.of (sm _ _ eL4)) ?_ ?_
            · rintro m x H5 hx ⟨acc, sm5, eC5, la5, al5⟩
              obtain ⟨w', hw', pr, rvs, rfl, hrT, hrP⟩ := alL4.at hx
              have hwm := List.mem_of_getElem? hw'
              have lw := hwl hwm
              have lr := hrP.len
              refine ⟨rfl, ?_⟩
              dsimp only [tYes]
              refine iteT ?_
              refine ⟨_, rfl, _, rfl, _, _, rfl, rfl, _, rfl, (by show 2 ≤ sizeLine; decide), fun q1 hq1 => ⟨(by show 1 ≤ sizeLine; decide), fun q2 hq2 => ?_⟩⟩
              have s56 := (Same.upd (o := .tup [.int ((k' : Nat) + 1), .int (j : Nat)]) hq1).trans (Same.upd (o := .tup [.ref q1]) hq2)
              refine catA_any (Same.seqT (sm5.trans s56) hrT) (SqT.of upd_same) ?_ fun H7 p7 s7 e7 => ?_
              · show rvs.length + 1 ≤ _
                exact Nat.le_trans (by omega : rvs.length + 1 ≤ 100) (by decide)
              have s57 := s56.trans s7
              have eq1 : SqT K H7 q1 [.int (k' + 1 : Nat), .int (j : Nat)] := by
                rw [show ((k' + 1 : Nat) : Int) = (k' : Int) + 1 from by omega]
                exact SqT.of (s7 _ _ (Same.upd hq2 _ _ upd_same))
              have eC7 := s57 _ _ eC5
              refine ⟨acc, eC7, ?_, acc ++ [.ref p7], same_put (sm5.trans s57) hC, upd_same, ?_, ?_⟩
              · rw [la5]
                have : m < src.length := (List.getElem?_eq_some_iff.mp hx).1
                exact Nat.lt_of_lt_of_le (Nat.lt_of_lt_of_le this hWl) (by decide)
              · rw [List.length_append, la5]; rfl
              · rw [List.take_add_one, hw', List.map_append]
                have kp : NL H5 (upd H7 C (.lst (acc ++ [.ref p7]))) := (NL.same s57).trans (NL.lst eC7)
                have kp2 : NL H4 (upd H7 C (.lst (acc ++ [.ref p7]))) := (NL.same sm5).trans kp
                exact (rows_keep kp al5).app (.cons ⟨p7, _, rfl, (NL.lst eC7).tup e7, (pairs_keep kp2 hrP).app (.cons ⟨q1, rfl, (NL.lst eC7).tup eq1⟩ .nil)⟩ .nil)
            rintro H5 ⟨acc, sm5, eC5, la5, al5⟩
            have nhC : h ≠ C := ne_of_none eh4 hC
            have eh5 := sm5 _ _ eh4
            rw [List.take_of_length_le (by rw [alL.len]; exact Nat.le_refl _)] at al5
            refine ⟨h, C, vs4, acc, rfl, rfl, eh5, eC5, ?_, ?_⟩
            · exact Nat.le_trans (by omega : vs4.length + acc.length ≤ 4096 * 30) (by decide)
            have sh : Same H1 (upd H5 h (.lst (vs4 ++ acc))) := same_put (sm4.trans sm5) hh
            refine ⟨vs4 ++ acc, _, _, rfl, sh, upd_same, ?_, ?_⟩
            · rw [Wk_succ, ← List.append_assoc]
              exact (rows_keep ((NL.same sm5).trans (NL.lst eh5)) al4).app (rows_keep (NL.lst eh5) al5)
            · rw [List.length_append]; omega
          · rintro σ H4 ⟨vs4, v7, v8, rfl, sm4, eh4, al4, vl4⟩
            exact ⟨vs4, _, _, _, _, rfl, sm4, eh4, by rw [part_succ u hki]; exact al4, by omega⟩
        · rw [decide_eq_false (by omega : ¬ (k' : Int) < 1 + (i : Int))]
          refine iteF ?_
          exact ⟨vs, _, _, _, _, rfl, sm3, eh3, by rw [part_skip u (by omega)]; exact al3, by omega⟩
      · rintro σ H2 ⟨vs, v5, v6, v7, v8, rfl, sm2, eh2, al2, vl2⟩
        rw [List.length_map] at al2
        rw [part_all u (by omega)] at al2
        have eR2 := sm2 _ _ eR1
        have al12 : All2 (LstAt R K H2) ls ((List.range (i + 1)).map (W u)) := al1.imp fun _ _ => LstAt.same sm2
        refine ⟨_, rfl, .inl ⟨rfl, _, SqL.of eR2⟩, _, rfl, R, _, _, rfl, rfl, eR2, ?_, ?_⟩
        · have := al1.len
          rw [List.length_map, List.length_range] at this
          rw [this]; exact Nat.lt_of_le_of_lt (by omega : i + 1 ≤ 100) (by decide)
        have smf : Same H (upd H2 R (.lst (ls ++ [.ref h]))) := same_put (sm1.trans sm2) hRH
        have ehf : (upd H2 R (.lst (ls ++ [.ref h]))) h = some (.lst vs) := by rw [upd_ne (Ne.symm nRh)]; exact eh2
        have eRf : (upd H2 R (.lst (ls ++ [.ref h]))) R = some (.lst (ls ++ [.ref h])) := upd_same
        have alf : All2 (LstAt R K (upd H2 R (.lst (ls ++ [.ref h])))) (ls ++ [.ref h]) ((List.range (i + 1 + 1)).map (W u)) := by
          rw [List.range_succ, List.map_append]
          exact (al12.imp fun _ _ => LstAt.put eR2).app (.cons ⟨h, vs, rfl, Ne.symm nRh, ehf, rows_keep (NL.lst eR2) al2⟩ .nil)
        revert smf ehf eRf alf
        generalize upd H2 R (.lst (ls ++ [.ref h])) = H3
        intro smf ehf eRf alf
        refine ⟨_, rfl, _, vs.length, rfl, .inl ⟨_, SqL.of ehf, rfl⟩, _, _, rfl, rfl, _, rfl, ?_⟩
        generalize hbb : decide ((_ : Int) < _) = b
        cases b with
        | true =>
          refine iteT ?_
          exact ⟨_, rfl, k H3 R _ (i + 1) smf (by omega) eRf alf⟩
        | false =>
          refine iteF ?_
          exact ⟨_, _, _, _, _, _, _, rfl, smf, eRf, alf⟩
    · rintro σ H1 ⟨ls, v3, v4, v5, v6, v7, v8, rfl, sm1, eR1, al1⟩
      exact ⟨_, rfl, k H1 R ls u.length sm1 (Nat.le_refl _) eR1 al1⟩
end
end K42

set_option Elab.async false
set_option linter.all false
set_option maxRecDepth 100000
set_option maxHeartbeats 4000000
namespace K42
open PySem PySem.Spec PyProof.Rows L2 Ami K41m Rng
/-- the counts by lengths -/
noncomputable def kvsOf (D : List Nat) (ws : List (List Sym)) : List (Key × V) := D.map fun m : Nat => ((.inl (m : Int) : Key), V.int (cntW ws m : Nat))
theorem key_eq {m m' : Nat} : ((.inl (m : Int) : Key) = .inl (m' : Int)) ↔ m = m' := by
  constructor
  · intro h
    have := Sum.inl.inj h
    omega
  · intro h; rw [h]
theorem val_kvs (ws : List (List Sym)) (m : Nat) : ∀ {D : List Nat}, valV (kvsOf D ws) (.inl (m : Int)) = if m ∈ D then some (V.int (cntW ws m : Nat)) else none
  | [] => rfl
  | m' :: D => by
    have ih := val_kvs ws m (D := D)
    by_cases h : m' = m
    · subst h
      rw [if_pos List.mem_cons_self]
      exact valV_pos (p := ((.inl (m' : Int) : Key), V.int (cntW ws m' : Nat))) rfl
    · have e : valV (kvsOf (m' :: D) ws) (.inl (m : Int)) = valV (kvsOf D ws) (.inl (m : Int)) := valV_neg (p := ((.inl (m' : Int) : Key), V.int (cntW ws m' : Nat))) (fun z => h (key_eq.mp z))
      rw [e, ih]
      by_cases h2 : m ∈ D
      · rw [if_pos h2, if_pos (List.mem_cons_of_mem _ h2)]
      · rw [if_neg h2, if_neg fun z => (List.mem_cons.mp z).elim (fun e => h e.symm) h2]
theorem any_kvs (ws : List (List Sym)) (m : Nat) : ∀ {D : List Nat}, ((kvsOf D ws).any fun kv => decide (kv.1 = (.inl (m : Int) : Key))) = decide (m ∈ D)
  | [] => rfl
  | m' :: D => by
    have ih := any_kvs ws m (D := D)
    show (decide ((.inl (m' : Int) : Key) = .inl (m : Int)) || (kvsOf D ws).any fun kv => decide (kv.1 = (.inl (m : Int) : Key))) = _
    rw [ih]
    by_cases h : m' = m
    · subst h
      rw [decide_eq_true rfl, decide_eq_true List.mem_cons_self]; rfl
    · rw [decide_eq_false fun z => h (key_eq.mp z), Bool.false_or]
      exact decide_eq_decide.mpr ⟨fun z => List.mem_cons_of_mem _ z, fun z => (List.mem_cons.mp z).elim (fun e => absurd e.symm h) id⟩
theorem put_in {ws : List (List Sym)} {w : List Sym} (hp : primB w = true) {D : List Nat} (h : w.length ∈ D) : putK (kvsOf D ws) (.inl (w.length : Int)) (V.int ((cntW ws w.length : Nat) + 1)) = kvsOf D (ws ++ [w]) := by
  unfold putK
  rw [any_kvs, if_pos (decide_eq_true h)]
  unfold kvsOf
  rw [List.map_map]
  refine List.map_congr_left fun m _ => ?_
  show (if (.inl (m : Int) : Key) = .inl (w.length : Int) then _ else _) = _
  rw [cntW_snoc]
  by_cases e : m = w.length
  · rw [if_pos (key_eq.mpr e), if_pos ⟨hp, e.symm⟩, e]; rfl
  · rw [if_neg fun z => e (key_eq.mp z), if_neg fun z => e z.2.symm]; rfl
theorem put_new {ws : List (List Sym)} {w : List Sym} (hp : primB w = true) {D : List Nat} (h : w.length ∉ D) (h0 : cntW ws w.length = 0) : putK (kvsOf D ws) (.inl (w.length : Int)) (V.int ((cntW ws w.length : Nat) + 1)) = kvsOf (D ++ [w.length]) (ws ++ [w]) := by
  unfold putK
  rw [any_kvs, if_neg (by rw [decide_eq_false h]; exact Bool.false_ne_true)]
  unfold kvsOf
  rw [List.map_append]
  congr 1
  · refine List.map_congr_left fun m hm => ?_
    rw [cntW_snoc, if_neg fun z => h (by rw [z.2]; exact hm)]; rfl
  · show [((.inl (w.length : Int) : Key), _)] = [((.inl (w.length : Int) : Key), V.int ((cntW (ws ++ [w]) w.length : Nat) : Int))]
    rw [cntW_snoc, if_pos ⟨hp, rfl⟩]; rfl
theorem kvs_skip {ws : List (List Sym)} {w : List Sym} (hp : primB w = false) (m : Nat) : cntW (ws ++ [w]) m = cntW ws m := by
  rw [cntW_snoc, if_neg fun z => by rw [hp] at z; exact nomatch z.1]; rfl
theorem len_kvs (D : List Nat) (ws : List (List Sym)) : (kvsOf D ws).length = D.length := List.length_map ..
def spCnt (K : PySem.W.Frag) : Sp := fun vs H Q _ => ∃ (a : Addr) (rs : List V) (u : List Nat) (d : Nat), vs = [.ref a] ∧ SqL K H a rs ∧ All2 (Row K H) rs (W u d) ∧ 0 < d ∧ d ≤ 6 ∧ ∀ H', Same H H' → Q (.int (q u d : Nat)) H'
section
variable {P : Program} {w : World} {K : PySem.W.Frag} {mg : Str → Option Value} {base : Heap}
abbrev nCnt : List Str := ["_law_rows", "_law_by_size", "_law_row", "_law_size"]
theorem scCnt : FnScope nCnt ["_law_rows"] (defScope sCnt) := ⟨rfl, rfl, rfl, by decide +kernel, rfl, by decide +kernel, by decide +kernel⟩
theorem ok_cnt {f f1 : Addr} {fd fd1 : FuncData} (F : Fun K "_law_counted" "_law_counted" sCnt f fd) (T : Blt mg) (D1 : DefAt K mg "_law_is_power" sPow ["_law_row"] f1 fd1) : FnOk P w K mg base CX0 2 f fd ["_law_rows"] (spCnt K) := by
  have G1 : FnOk P w K mg base CX0 1 f1 fd1 ["_law_row"] (spPow K) := ok_pow D1.F T
  refine F.ok scCnt (fun vs H Q E h => ?_) (fun cdv A' outer s H vs Q E hr h => ?_)
  · obtain ⟨a, rs, u, d, rfl, _⟩ := h
    rfl
  · obtain ⟨a, rs, u, d, rfl, hS, hR, hd, hd6, k⟩ := h
    have hr1 := hr.mono (j := 1) (by decide)
    have hu := hr.units
    have hu1 : (A'.deeper (envOfC "_law_counted" (defScope sCnt) s.heap.objs.size f cdv)).units + 1 < cLine := by omega
    refine ⟨_, pss_cons (ps_set (i := 1) scCnt.nd rfl (Or.inr rfl) pe_dnewK)
      (pss_cons (ps_for PassesOwn.never rfl (pi_list (pv 0)) (pg_name (i := 2) scCnt.nd rfl (Or.inl rfl))
        (pss_one (ps_if (pt_not (pt_val (pc D1 G1 hr1 (pa_cons (pv 2) pa_nil))))
          (pss_one (ps_asg (pe_op op_add (pe_dget2 hu1 (pv 1) (pe_callB call_len (by rfl) T.len PySem.boot_len (pa_cons (pv 2) pa_nil)) pe_int ⟨by rfl, by rfl, by rfl, by rfl⟩) pe_int)
            (pg_sub (pv 1) (pe_callB call_len (by rfl) T.len PySem.boot_len (pa_cons (pv 2) pa_nil)) (set_dict hu1)))) pss_nil)))
      (pss_one (ps_ret (pe_lock (pe_callB (cr_sum rfl) (by rfl) T.sum (by rfl) (pa_cons (pe_lc (own := [("_law_size", 3)]) (g := gName 3) (tt := tYes) rfl scCnt.nd (pi_keys (pv 1))
          (blkOk_by (own := [("_law_size", 3)]) (N := nCnt) (sc := defScope sCnt) (by decide +kernel)) (fun _ _ _ _ _ => pg_name (i := 3) scCnt.nd rfl (Or.inl rfl)) (fun _ _ _ _ _ => pts_nil)
          (fun _ _ _ _ _ => pe_op op_fdiv (pe_dget hu1 (pv 1) (pv 3) (fun _ _ => rfl)) (pv 3))) pa_nil)))))), ?_⟩
    have hlw : ∀ {w : List Sym}, w ∈ W u d → w ≠ [] ∧ w.length ≤ 6 := fun hw => by
      obtain ⟨g, e⟩ := (mem_W u _ _).mp hw
      have := len_le_tot g
      refine ⟨fun z => ?_, by omega⟩
      subst z
      have : (0 : Nat) = d := e
      omega
    refine fun B hB => ?_
    refine ⟨_, rfl, a, rfl, ⟨rs, Same.seq (Same.upd hB) hS⟩, ?_⟩
    refine for_list (K := K) (a := a) (xs := rs) (fun i σ H' => ∃ (D : List Nat) (v2 v3 : Option V), σ = [some (.ref a), some (.ref B), v2, v3] ∧ Same H H' ∧ H' B = some (.dK (kvsOf D ((W u d).take i))) ∧ D.Nodup ∧ ∀ m, m ∈ D ↔ 0 < cntW ((W u d).take i) m)
      ⟨[], _, _, rfl, Same.upd hB, upd_same, List.nodup_nil, fun m => ⟨fun z => (nomatch z), fun z => absurd z (Nat.lt_irrefl 0)⟩⟩ (fun i σ H' _ ⟨_, _, _, _, sm, _⟩ => Same.seq sm hS) ?_ ?_
    · rintro i x σ H1 hx ⟨D, v2, v3, rfl, sm, eB, nD, hD⟩
      obtain ⟨w', hw', hrow⟩ := hR.at hx
      have hwm := List.mem_of_getElem? hw'
      obtain ⟨wne, wl⟩ := hlw hwm
      have row1 := Row.keep (NL.same sm) hrow
      have etk : (W u d).take (i + 1) = (W u d).take i ++ [w'] := by rw [List.take_add_one, hw']; rfl
      rw [etk]
      have hws : ∀ w ∈ (W u d).take i, w.length ≤ 6 := fun w hw => (hlw (List.mem_of_mem_take hw)).2
      revert eB hD hws
      generalize (W u d).take i = ws
      intro eB hD hws
      refine ⟨_, rfl, x, w', rfl, row1, wne, by omega, fun H2 s2 => ⟨_, rfl, ?_⟩⟩
      have eB2 := s2 _ _ eB
      have sm2 := sm.trans s2
      obtain ⟨pr, rvs, rfl, hrT, hrP⟩ := Row.keep (NL.same s2) row1
      have lr := hrP.len
      cases hp : primB w' with
      | false =>
        refine iteF ?_
        refine ⟨D, _, _, rfl, sm2, ?_, nD, fun m => by rw [kvs_skip hp]; exact hD m⟩
        rw [eB2]
        have e : kvsOf D ws = kvsOf D (ws ++ [w']) := List.map_congr_left fun m _ => by rw [kvs_skip hp]
        rw [e]
      | true =>
        refine iteT ?_
        have lD : D.length ≤ 7 := by
          have p := perm_of nD ((List.nodup_range (n := 7)).filter fun m => decide (m ∈ D)) (fun m => by
            rw [List.mem_filter, List.mem_range, decide_eq_true_eq]
            refine ⟨fun hm => ⟨?_, hm⟩, fun hm => hm.2⟩
            have h0 := (hD m).mp hm
            unfold cntW at h0
            obtain ⟨w, hw⟩ := List.exists_mem_of_length_pos h0
            rw [List.mem_filter, Bool.and_eq_true, decide_eq_true_eq] at hw
            have := hws w hw.1
            omega)
          rw [p.length_eq]
          exact Nat.le_trans (List.length_filter_le _ _) (by rw [List.length_range]; exact Nat.le_refl _)
        refine ⟨_, rfl, B, rfl, .inl ⟨_, .of eB2⟩, _, rfl, _, w'.length, rfl, .inr ⟨_, hrT, lr.symm⟩, _, DGet.k (k := .inl (w'.length : Int)) eB2, ((cntW ws w'.length : Nat) : Int), 1, ?_, rfl, _, rfl, _, rfl, _, w'.length, rfl, .inr ⟨_, hrT, lr.symm⟩, B, _, rfl, DPut.k (k := .inl (w'.length : Int)) eB2 (by rw [len_kvs]; exact Nat.lt_of_le_of_lt (by omega : D.length ≤ 7) (by decide)), ?_⟩
        · rw [val_kvs]
          by_cases hm : w'.length ∈ D
          · rw [if_pos hm]; rfl
          · rw [if_neg hm]
            have h0 : cntW ws w'.length = 0 := Nat.eq_zero_of_not_pos fun z => hm ((hD _).mpr z)
            rw [h0]; rfl
        · have sB := same_put (o := .dK (putK (kvsOf D ws) (.inl (w'.length : Int)) (V.int ((cntW ws w'.length : Nat) + 1)))) sm2 hB
          by_cases hm : w'.length ∈ D
          · refine ⟨D, _, _, rfl, sB, ?_, nD, fun m => ?_⟩
            · rw [upd_same]
              exact congrArg (fun z => some (HO.dK z)) (put_in hp hm)
            · rw [cntW_snoc]
              have := hD m
              have := hD w'.length
              by_cases e : primB w' = true ∧ w'.length = m
              · rw [if_pos e]
                obtain ⟨_, rfl⟩ := e
                exact ⟨fun _ => Nat.succ_pos _, fun _ => hm⟩
              · rw [if_neg e]; exact hD m
          · have h0 : cntW ws w'.length = 0 := Nat.eq_zero_of_not_pos fun z => hm ((hD _).mpr z)
            refine ⟨D ++ [w'.length], _, _, rfl, sB, ?_, ?_, fun m => ?_⟩
            · rw [upd_same]
              exact congrArg (fun z => some (HO.dK z)) (put_new hp hm h0)
            · rw [List.nodup_append]
              refine ⟨nD, List.nodup_cons.mpr ⟨(fun z => nomatch z), List.nodup_nil⟩, fun x hx y hy => ?_⟩
              rw [List.mem_singleton.mp hy]
              exact fun z => hm (z ▸ hx)
            · rw [cntW_snoc, List.mem_append, List.mem_singleton]
              by_cases e : primB w' = true ∧ w'.length = m
              · rw [if_pos e]
                obtain ⟨_, rfl⟩ := e
                exact ⟨fun _ => Nat.succ_pos _, fun _ => .inr rfl⟩
              · rw [if_neg e]
                refine ⟨fun z => z.elim (fun z => (hD m).mp z) (fun z => absurd ⟨hp, z.symm⟩ e), fun z => .inl ((hD m).mpr z)⟩
    · rintro σ H1 ⟨D, v2, v3, rfl, sm, eB, nD, hD⟩
      rw [List.take_of_length_le (by rw [hR.len]; exact Nat.le_refl _)] at eB hD
      refine ⟨B, _, eB, trivial, fun od => ?_⟩
      have sB : Same H (upd H1 B (.frz od (.dK (kvsOf D (W u d))))) := same_put sm hB
      have eF : (upd H1 B (.frz od (.dK (kvsOf D (W u d))))) B = some (.frz od (.dK (kvsOf D (W u d)))) := upd_same
      revert sB eF
      generalize upd H1 B (.frz od (.dK (kvsOf D (W u d)))) = H2
      intro sB eF
      refine ⟨_, rfl, B, od, rfl, .inl ⟨_, eF, fun C hC => ?_⟩⟩
      have nBC : B ≠ C := ne_of_none eF hC
      have lD : D.length ≤ 7 := by
        have p := perm_of nD ((List.nodup_range (n := 7)).filter fun m => decide (m ∈ D)) (fun m => by
          rw [List.mem_filter, List.mem_range, decide_eq_true_eq]
          refine ⟨fun hm => ⟨?_, hm⟩, fun hm => hm.2⟩
          have h0 := (hD m).mp hm
          unfold cntW at h0
          obtain ⟨w, hw⟩ := List.exists_mem_of_length_pos h0
          rw [List.mem_filter, Bool.and_eq_true, decide_eq_true_eq] at hw
          have := (hlw hw.1).2
          omega)
        rw [p.length_eq]
        exact Nat.le_trans (List.length_filter_le _ _) (by rw [List.length_range]; exact Nat.le_refl _)
      refine lc_it walk_keys (fun i H' => H' = upd H2 C (.lst (((D.take i).map fun m => ((cntW (W u d) m / m : Nat) : Int)).map V.int))) rfl (fun i H' _ e => by subst e; rw [upd_ne nBC]; exact eF) ?_ ?_
      · rintro i x H3 H4 hi rfl ⟨rfl, key, v, hkv, rfl⟩
        rw [len_kvs] at hi
        have hkv' : (kvsOf D (W u d))[i]? = some ((.inl ((D[i] : Nat) : Int) : Key), V.int (cntW (W u d) D[i] : Nat)) := by
          unfold kvsOf
          rw [List.getElem?_map, List.getElem?_eq_getElem hi]; rfl
        rw [hkv'] at hkv
        cases hkv
        have hmD : D[i] ∈ D := List.getElem_mem hi
        have m1 : 1 ≤ D[i] ∧ D[i] ≤ 6 := by
          have h0 := (hD _).mp hmD
          unfold cntW at h0
          obtain ⟨w, hw⟩ := List.exists_mem_of_length_pos h0
          rw [List.mem_filter, Bool.and_eq_true, decide_eq_true_eq] at hw
          have := hlw hw.1
          have : 0 < w.length := List.length_pos_iff.mpr this.1
          omega
        have eF3 : (upd H2 C (.lst (((D.take i).map fun m => ((cntW (W u d) m / m : Nat) : Int)).map V.int))) B = some (.frz od (.dK (kvsOf D (W u d)))) := by rw [upd_ne nBC]; exact eF
        refine ⟨rfl, ?_⟩
        dsimp only [tYes]
        refine iteT ?_
        refine ⟨_, rfl, _, rfl, B, V.int (cntW (W u d) D[i] : Nat), rfl, .inl ⟨_, .inl ((D[i] : Nat) : Int), .inr ⟨od, eF3⟩, rfl, by rw [val_kvs, if_pos hmD]⟩, _, rfl, _, _, rfl, rfl, ⟨by omega, by omega⟩, _, upd_same, ?_, ?_⟩
        · rw [List.length_map, List.length_map, List.length_take]
          exact Nat.lt_of_le_of_lt (Nat.le_trans (Nat.min_le_right _ _) lD) (by decide)
        · rw [upd_upd, List.take_add_one, List.getElem?_eq_getElem hi, List.map_append, List.map_append]
          have e9 : ([V.int (((cntW (W u d) D[i] : Nat) : Int) / ((D[i] : Nat) : Int))] : List V) = List.map V.int (List.map (fun m : Nat => ((cntW (W u d) m / m : Nat) : Int)) [D[i]]) := by
            show _ = [V.int ((cntW (W u d) D[i] / D[i] : Nat) : Int)]
            rw [Int.natCast_ediv]
          exact congrArg (fun z => upd H2 C (.lst (List.map V.int (List.map (fun m : Nat => ((cntW (W u d) m / m : Nat) : Int)) (List.take i D)) ++ z))) e9
      rintro H3 rfl
      rw [len_kvs, List.take_length]
      refine ⟨C, _, rfl, SqL.of upd_same, by rw [upd_ne nBC]; exact eF, ?_⟩
      rw [sum_cast (fun m => cntW (W u d) m / m), q_keys hd nD hD]
      exact k _ (same_put (sB.trans (Same.upd hC)) hB)
end
end K42

set_option Elab.async false
set_option linter.all false
set_option maxRecDepth 100000
set_option maxHeartbeats 4000000
namespace Ami
/-- the law -/
def spLaw2 (K : PySem.W.Frag) : L2.Sp := fun vs H Q _ => ∃ (a : PySem.Addr) (ns : List Int), vs = [.ref a] ∧ L2.SqL K H a (ns.map L2.V.int) ∧ ns.length ≤ 63 ∧ ∀ H', Q (.bl true) H'
end Ami
namespace K42
open PySem PySem.Spec PyProof.Rows L2 Ami K41m Rng
theorem dI_ok {z : Int} (h1 : -999999999999 ≤ z) (h2 : z ≤ 999999999999) : dictFlat (.int z) = true ∧ (PyData.int z).showable = true ∧ (PyData.int z).shown.length ≤ sizeLine ∧ (PyData.int z).depth ≤ 50 := by
  refine ⟨rfl, ?_, Nat.le_trans (PyData.shown_int_le2 h1 h2) (by decide), by show 0 ≤ 50; decide⟩
  show decide (z.natAbs.log2 < 1920) = true
  refine decide_eq_true ?_
  by_cases e : z.natAbs = 0
  · rw [e]; decide
  · rw [Nat.log2_lt e]
    have : z.natAbs < 10 ^ 12 := by omega
    exact Nat.lt_of_lt_of_le this (Nat.le_trans (by decide : 10 ^ 12 ≤ 2 ^ 40) (Nat.pow_le_pow_right (by decide) (by decide)))
/-- a row of numbers, as data -/
def dU (u : List Nat) : PyData := .tuple ((uV u).map fD)
theorem dU_all : ∀ {u : List Nat}, (∀ x ∈ u, x < 10 ^ 9) → PyData.hasDictAll ((uV u).map fD) = false ∧ PyData.showableAll ((uV u).map fD) = true ∧ PyData.leavesShortAll 13 ((uV u).map fD) = true ∧ PyData.weightAll ((uV u).map fD) ≤ 40 * u.length
  | [], _ => ⟨rfl, rfl, rfl, Nat.le_refl _⟩
  | x :: u, h => by
    obtain ⟨a, b, c, d⟩ := dU_all (u := u) fun y hy => h y (List.mem_cons_of_mem _ hy)
    have hx := h x List.mem_cons_self
    have hlog : x.log2 < 30 := by
      by_cases e : x = 0
      · subst e; decide
      · rw [Nat.log2_lt e]
        exact Nat.lt_of_lt_of_le hx (by decide)
    refine ⟨?_, ?_, ?_, ?_⟩
    · show (false || PyData.hasDictAll ((uV u).map fD)) = false
      rw [a]; rfl
    · show (decide ((x : Int).natAbs.log2 < 1920) && PyData.showableAll ((uV u).map fD)) = true
      rw [b, Int.natAbs_natCast, decide_eq_true (by omega)]; rfl
    · show (decide ((PyData.shown (.int (x : Nat))).length ≤ 13) && PyData.leavesShortAll 13 ((uV u).map fD)) = true
      have hx2 : x < 1000000000 := Nat.lt_of_lt_of_le hx (by decide)
      rw [c, decide_eq_true (PyData.shown_int_le2 (by omega) (by omega))]; rfl
    · show PyData.weight (.int (x : Nat)) + 1 + PyData.weightAll ((uV u).map fD) ≤ 40 * (u.length + 1)
      have e : PyData.weight (.int (x : Nat)) ≤ 31 := by
        show (if ((x : Nat) : Int) == 0 then 0 else ((x : Nat) : Int).natAbs.log2 + 1) ≤ 31
        rw [Int.natAbs_natCast]
        split <;> omega
      omega
theorem dU_ok {u : List Nat} (hu : ∀ x ∈ u, x < 10 ^ 9) (hl : u.length ≤ 100) : dictFlat (dU u) = true ∧ (dU u).showable = true ∧ (dU u).shown.length ≤ sizeLine ∧ (dU u).depth ≤ 50 := by
  obtain ⟨a, b, c, d⟩ := dU_all hu
  refine ⟨?_, b, ?_, ?_⟩
  · show (!PyData.hasDictAll ((uV u).map fD)) = true
    rw [a]; rfl
  · have q := PyData.shown_le 13 (by decide) (dU u) c
    have e : PyData.weight (dU u) = PyData.weightAll ((uV u).map fD) := rfl
    rw [e] at q
    rw [sizeLine_eq]
    omega
  · show PyData.depthAll ((uV u).map fD) + 1 ≤ 50
    rw [depthAll_flat]; decide
theorem dU_at {K : PySem.W.Frag} {H : Hp} {a : Addr} {u : List Nat} (h : SqT K H a (uV u)) : Dq K H (.ref a) (dU u) := by
  refine .tup h (dqAll_flat ?_)
  rw [List.all_eq_true]
  intro v hv
  obtain ⟨c, hc, rfl⟩ := List.mem_map.mp hv
  rfl

/-- three rows of numbers, as data -/
def d3 (a b c : List Nat) : PyData := .list [dU a, dU b, dU c]
theorem d3_ok {a b c : List Nat} (ha : ∀ x ∈ a, x < 10 ^ 9) (hb : ∀ x ∈ b, x < 10 ^ 9) (hc : ∀ x ∈ c, x < 10 ^ 9) (la : a.length ≤ 100) (lb : b.length ≤ 100) (lc : c.length ≤ 100) :
    dictFlat (d3 a b c) = true ∧ (d3 a b c).showable = true ∧ (d3 a b c).shown.length ≤ sizeLine ∧ (d3 a b c).depth ≤ 50 := by
  obtain ⟨a1, a2, a3, a4⟩ := dU_all ha
  obtain ⟨b1, b2, b3, b4⟩ := dU_all hb
  obtain ⟨c1, c2, c3, c4⟩ := dU_all hc
  refine ⟨?_, ?_, ?_, ?_⟩
  · show (!(PyData.hasDictAll ((uV a).map fD) || (PyData.hasDictAll ((uV b).map fD) || (PyData.hasDictAll ((uV c).map fD) || false)))) = true
    rw [a1, b1, c1]; rfl
  · show (PyData.showableAll ((uV a).map fD) && (PyData.showableAll ((uV b).map fD) && (PyData.showableAll ((uV c).map fD) && true))) = true
    rw [a2, b2, c2]; rfl
  · have q := PyData.shown_le 13 (by decide) (d3 a b c) (by
      show (PyData.leavesShortAll 13 ((uV a).map fD) && (PyData.leavesShortAll 13 ((uV b).map fD) && (PyData.leavesShortAll 13 ((uV c).map fD) && true))) = true
      rw [a3, b3, c3]; rfl)
    have e : PyData.weight (d3 a b c) = PyData.weightAll ((uV a).map fD) + 1 + (PyData.weightAll ((uV b).map fD) + 1 + (PyData.weightAll ((uV c).map fD) + 1 + 0)) := rfl
    rw [e] at q
    rw [sizeLine_eq]
    omega
  · show max (PyData.depthAll ((uV a).map fD) + 1) (max (PyData.depthAll ((uV b).map fD) + 1) (max (PyData.depthAll ((uV c).map fD) + 1) 0)) + 1 ≤ 50
    rw [depthAll_flat, depthAll_flat, depthAll_flat]; decide
theorem d3_at {K : PySem.W.Frag} {H : Hp} {l x y z : Addr} {a b c : List Nat} (h : SqL K H l [.ref x, .ref y, .ref z]) (ha : SqT K H x (uV a)) (hb : SqT K H y (uV b)) (hc : SqT K H z (uV c)) : Dq K H (.ref l) (d3 a b c) := .lst h (.cons (dU_at ha) (.cons (dU_at hb) (.cons (dU_at hc) .nil)))
/-- the numbers of rings -/
noncomputable def qs (u : List Nat) (N : Nat) : List Nat := (List.range' 1 N).map (q u)
theorem qs_V (u : List Nat) (N : Nat) : qV u N = uV (qs u N) := by
  show List.map V.int (List.map (fun n => (q u n : Int)) (List.range' 1 N)) = List.map (fun n : Nat => V.int (n : Int)) (List.map (q u) (List.range' 1 N))
  rw [List.map_map, List.map_map]; rfl
theorem qs_len (u : List Nat) (N : Nat) : (qs u N).length = N := by
  unfold qs
  rw [List.length_map, List.length_range']
theorem qs_tail (u : List Nat) (N : Nat) : qs (u ++ [0]) N = qs u N := List.map_congr_left fun n _ => q_tail u n
theorem qs_take (u : List Nat) (N : Nat) : (qs u (N + 1)).take N = qs u N := by
  unfold qs
  rw [List.range'_1_concat, List.map_append, List.take_append_of_le_length (by rw [List.length_map, List.length_range']; exact Nat.le_refl _), List.take_of_length_le (by rw [List.length_map, List.length_range']; exact Nat.le_refl _)]
theorem q_lt {u : List Nat} (hu : ∀ k, u.getD k 0 ≤ 3) (hl : u.length ≤ 6) {n : Nat} (h0 : 0 < n) (hn : n ≤ u.length) : q u n ≤ 4096 := by
  have e := A_rings u n h0
  rw [divs_top h0, sumBy_append, sumBy_cons, sumBy_nil, Nat.add_zero] at e
  have a1 := A_le hu hn
  have a2 : (3 + 1) ^ n ≤ 4 ^ 6 := Nat.pow_le_pow_right (by decide) (by omega)
  have a3 : 4 ^ 6 = 4096 := by decide
  have a4 := Nat.le_mul_of_pos_left (q u n) h0
  omega
theorem qs_lt {u : List Nat} (hu : ∀ k, u.getD k 0 ≤ 3) (hl : u.length ≤ 6) : ∀ x ∈ qs u u.length, x < 10 ^ 9 := fun x hx => by
  unfold qs at hx
  obtain ⟨n, hn, rfl⟩ := List.mem_map.mp hx
  rw [List.mem_range'_1] at hn
  exact Nat.lt_of_le_of_lt (q_lt hu hl (by omega) (by omega)) (by decide)
section
variable {P : Program} {w : World} {K : PySem.W.Frag} {mg : Str → Option Value} {base : Heap}
theorem kb_rec {f : Addr} {fd : FuncData} (F : Fun K "record_rings" "record_rings" sRec f fd) : KBinds K fd ["lengths"] ["lengths"] g1 g1 := by
  obtain ⟨oc, od, kV, doc, pm, an, cdv, ct, osl, rfl, lk, hcd⟩ := F.ex
  exact ⟨fun s us ws _ hl => match us, ws, hl with | [], [_], _ => .of_eq rfl, g1_rel⟩
abbrev nLaw : List Str := ["_law_script", "_law_deck_here", "_law_turn", "_law_k", "_law_lot", "_law_was", "_law_told", "_law_rows"]
theorem scLaw : FnScope nLaw ["_law_script"] (defScope sLaw) := ⟨rfl, rfl, rfl, by decide +kernel, rfl, by decide +kernel, by decide +kernel⟩
/-- all that the law calls -/
structure Txt (K : PySem.W.Frag) (mg : Str → Option Value) (fi fr fk fd fp fS fP fC : Addr) (di dr dk dd dp dS dP dC : FuncData) : Prop where
  T : Blt mg
  i : DefAt K mg "rings_in" sRin ["sums"] fi di
  r : DefAt K mg "record_rings" sRec ["lengths"] fr dr
  k : DefAt K mg "_law_deck" sDeck ["_law_script"] fk dk
  d : DefAt K mg "_law_draw" sDraw ["_law_deck_here", "_law_bound"] fd dd
  p : DefAt K mg "_law_pick" sPick ["_law_deck_here", "_law_some"] fp dp
  S : DefAt K mg "_law_sequences" sSeq ["_law_lot", "_law_top"] fS dS
  P : DefAt K mg "_law_is_power" sPow ["_law_row"] fP dP
  C : DefAt K mg "_law_counted" sCnt ["_law_rows"] fC dC
theorem ok_law {f : Addr} {fdl : FuncData} {fi fr fk fd fp fS fP fC : Addr} {di dr dk dd dp dS dP dC : FuncData} (F : Fun K "law" "law" sLaw f fdl) (X : Txt K mg fi fr fk fd fp fS fP fC di dr dk dd dp dS dP dC) :
    FnG P w K mg base CX0 8 f fdl ["_law_script"] (spLaw2 K) := by
  obtain ⟨T, Di, Dr, Dk, Dd, Dp, DS, DP, DC⟩ := X
  have Gk : FnOk P w K mg base CX0 1 fk dk ["_law_script"] (spDeck K) := ok_deck Dk.F T
  have Gd : FnOk P w K mg base CX0 1 fd dd ["_law_deck_here", "_law_bound"] spDraw := ok_draw Dd.F T
  have Gr : FnOk P w K mg base CX0 2 fr dr ["lengths"] (spRec K) := ok_rec Dr.F T Di
  have GS : FnOk P w K mg base CX0 1 fS dS ["_law_lot", "_law_top"] (spSeq K) := ok_seq DS.F T
  have GC : FnOk P w K mg base CX0 2 fC dC ["_law_rows"] (spCnt K) := ok_cnt DC.F T DP
  have kr := kb_rec Dr.F
  refine Ami.Fun.okG F scLaw (fun vs H Q E h => ?_) (fun cdv A' outer s H vs Q E hg hr h => ?_)
  · obtain ⟨a, ns, rfl, _⟩ := h
    rfl
  · obtain ⟨a, ns, rfl, hS, hlen, k⟩ := h
    have hr1 := hr.mono (j := 1) (by decide)
    have hr2 := hr.mono (j := 2) (by decide)
    have hgu := guards_deeper (envOfC "law" (defScope sLaw) s.heap.objs.size f cdv) hg
    have hun := hr.units
    refine ⟨_, pss_cons (ps_set (i := 1) scLaw.nd rfl (Or.inr rfl) (pc Dk Gk hr1 (pa_cons (pv 0) pa_nil)))
      (pss_cons (ps_for PassesOwn.never rfl (pi_range1 (by rfl) T.range (pa_cons pe_int pa_nil)) (pg_name (i := 2) scLaw.nd rfl (Or.inl rfl))
        (pss_cons (ps_set (i := 4) scLaw.nd rfl (Or.inl rfl) (pe_tupleOf (by rfl) T.tuple (pe_lc (own := [("_law_k", 3)]) (g := gName 3) (tt := tYes) rfl scLaw.nd (pi_range1 (by rfl) T.range (pa_cons (pe_op op_add pe_int (pc Dd Gd hr1 (pa_cons (pv 1) (pa_cons pe_int pa_nil)))) pa_nil))
            (blkOk_by (own := [("_law_k", 3)]) (N := nLaw) (sc := defScope sLaw) (by decide +kernel)) (fun _ _ _ _ _ => pg_name (i := 3) scLaw.nd rfl (Or.inl rfl)) (fun _ _ _ _ _ => pts_nil)
            (fun _ _ _ _ _ => pc Dd Gd hr1 (pa_cons (pv 1) (pa_cons pe_int pa_nil))))))
        (pss_cons (ps_par (i := 5) (j := 6) (by rfl) scLaw.nd rfl rfl (by decide) rfl rfl (pa_cons (pe_callB (cr_repr hgu hun) (by rfl) T.repr (by decide +kernel) (pa_cons (pv 4) pa_nil)) (pa_cons (pc Dr Gr hr2 (pa_cons (pv 4) pa_nil)) pa_nil)) (by rfl))
        (pss_cons (ps_if (pt_cmpR op_ne (pe_callB (cr_repr hgu hun) (by rfl) T.repr (by decide +kernel) (pa_cons (pe_lst (pa_cons (pe_callK0 Gr hr2 (by rfl) Dr.g Dr.F.kp kr pass0 (pk_cons (pv 4) pk_nil))
              (pa_cons (pe_slice sl_tup (pc Dr Gr hr2 (pa_cons (pe_op op_catA (pv 4) (pe_tup (pa_cons pe_int pa_nil))) pa_nil)) po_none (po_some (pe_callB call_len (by rfl) T.len PySem.boot_len (pa_cons (pv 4) pa_nil)))) (pa_cons (pv 4) pa_nil)))) pa_nil))
            (pe_callB (cr_repr hgu hun) (by rfl) T.repr (by decide +kernel) (pa_cons (pe_lst (pa_cons (pv 6) (pa_cons (pv 6) (pa_cons (pv 4) pa_nil)))) pa_nil)) (nomark _)) (pss_one (ps_ret pe_bl)) pss_nil)
        (pss_cons (ps_if (PW.pt (pw_or (pt_not (pt_val (pe_callB call_isi (by rfl) T.isi (by decide +kernel) (pa_cons (pv 6) (pa_cons (pe_bltn (v := .ty "tuple") (by rfl) T.tuple (by decide +kernel) rfl) pa_nil)))))
            (pw_or (pt_cmpR op_ne (pe_callB call_len (by rfl) T.len PySem.boot_len (pa_cons (pv 6) pa_nil)) (pe_callB call_len (by rfl) T.len PySem.boot_len (pa_cons (pv 4) pa_nil)) (nomark _))
            (pw_or1 (pt_cmpR op_ne (pe_callB (cr_repr hgu hun) (by rfl) T.repr (by decide +kernel) (pa_cons (pv 4) pa_nil)) (pv 5) (nomark _)))))) (pss_one (ps_ret pe_bl)) pss_nil)
        (pss_cons (ps_set (i := 7) scLaw.nd rfl (Or.inl rfl) (pc DS GS hr1 (pa_cons (pv 4) (pa_cons (pe_callB call_len (by rfl) T.len PySem.boot_len (pa_cons (pv 4) pa_nil)) pa_nil))))
        (pss_one (ps_for PassesOwn.never rfl (pi_range2 (by rfl) T.range (pa_cons pe_int (pa_cons (pe_callB call_len (by rfl) T.len PySem.boot_len (pa_cons (pv 7) pa_nil)) pa_nil))) (pg_name (i := 3) scLaw.nd rfl (Or.inl rfl))
          (pss_one (ps_if (pt_cmpR op_ne (pe_callB (cr_repr hgu hun) (by rfl) T.repr (by decide +kernel) (pa_cons (pe_ix ix_seq (pv 6) (pe_op op_sub (pv 3) pe_int) (fun _ _ => rfl)) pa_nil))
              (pe_callB (cr_repr hgu hun) (by rfl) T.repr (by decide +kernel) (pa_cons (pc DC GC hr2 (pa_cons (pe_ix ix_seq (pv 7) (pv 3) (fun _ _ => rfl)) pa_nil)) pa_nil)) (nomark _)) (pss_one (ps_ret pe_bl)) pss_nil))))))))))
      (pss_one (ps_ret (pe_cmpR (op_eqD hun) (pc Dr Gr hr2 (pa_cons (pe_tup pa_nil) pa_nil)) (pe_tup pa_nil) (nomark _))))), ?_⟩
    have ne : ∀ x : V, (!decide (x = x)) = false := fun x => by rw [decide_eq_true rfl]; rfl
    refine ⟨_, rfl, a, ns, rfl, hS, hlen, fun H1 d c hd hc D s1 => ?_⟩
    refine ⟨_, rfl, by decide, by decide, ?_⟩
    refine for_range (lo := 0) (n := 5) (fun i σ H' => ∃ (n : Nat) (v2 v3 v4 v5 v6 v7 : Option V), σ = [some (.ref a), some (.ref d), v2, v3, v4, v5, v6, v7] ∧ n ≤ 100 * i ∧ DeckAt H' d c n) ⟨0, _, _, _, _, _, _, rfl, Nat.le_refl _, D⟩ ?_ ?_
    · rintro i σ H2 hi ⟨n, v2, v3, v4, v5, v6, v7, rfl, hn, D2⟩
      refine ⟨_, rfl, d, c, n, 6, rfl, by decide, by decide, by omega, D2, fun H5 r r0 r1 D5 B5 => ⟨_, _, rfl, rfl, _, rfl, by omega, by omega, fun C hC => ?_⟩⟩
      obtain ⟨nCd, nCc⟩ := D5.ned hC
      refine lc_range (lo := 0) (n := (1 + r).toNat) (fun j H' => ∃ u : List Nat, H' C = some (.lst (uV u)) ∧ u.length = j ∧ (∀ x ∈ u, x ≤ 3) ∧ DeckAt H' d c (n + 1 + j)) ⟨[], upd_same, rfl, (fun x hx => nomatch hx), D5.new hC⟩ ?_ ?_
      · rintro j H6 hj ⟨u, e1, e2, e3, D6⟩
        refine ⟨rfl, ?_⟩
        dsimp only [tYes]
        refine iteT ?_
        refine ⟨_, rfl, d, c, _, 4, rfl, by decide, by decide, by omega, D6, fun H7 x x0 x1 D7 B7 => ?_⟩
        obtain ⟨x', rfl⟩ : ∃ x' : Nat, x = x' := ⟨x.toNat, by omega⟩
        refine ⟨_, B7 C _ nCd nCc e1, ?_, u ++ [x'], ?_, ?_, ?_, D7.set nCd nCc⟩
        · rw [List.length_map, e2]; exact Nat.lt_of_le_of_lt (by omega : j ≤ 100) (by decide)
        · rw [upd_same]
          show _ = some (HO.lst (List.map _ _))
          rw [List.map_append]; rfl
        · rw [List.length_append, e2]; rfl
        · intro z hz
          rcases List.mem_append.mp hz with h | h
          · exact e3 z h
          · rw [List.mem_singleton.mp h]; omega
      rintro H6 ⟨u, e1, e2, e3, D6⟩
      refine .inl ⟨C, _, rfl, SqL.of e1, fun t ht => ?_⟩
      have ul : u.length ≤ 6 := by omega
      have ul1 : 1 ≤ u.length := by omega
      have lu : (uV u).length = u.length := List.length_map ..
      have lt_of : ∀ {b : Nat}, 3 < b → ∀ k', u.getD k' 0 < b := fun hb k' => by
        rw [List.getD_eq_getElem?_getD]
        cases e : u[k']? with
        | none => exact Nat.lt_of_le_of_lt (Nat.zero_le _) hb
        | some x => exact Nat.lt_of_le_of_lt (e3 x (List.mem_of_getElem? e)) hb
      have hu3 : ∀ k', u.getD k' 0 ≤ 3 := fun k' => Nat.le_of_lt_succ (lt_of (by decide) k')
      have hb : ∀ k', u.getD k' 0 < 2 ^ 120 := lt_of (by decide)
      have hb0 : ∀ k', (u ++ [0]).getD k' 0 < 2 ^ 120 := fun k' => by
        rw [List.getD_eq_getElem?_getD]
        cases e : (u ++ [0])[k']? with
        | none => exact Nat.lt_of_le_of_lt (Nat.zero_le _) (by decide : 0 < 2 ^ 120)
        | some x =>
          rcases List.mem_append.mp (List.mem_of_getElem? e) with h | h
          · exact Nat.lt_of_le_of_lt (e3 x h) (by decide)
          · rw [List.mem_singleton.mp h]; decide
      have hu9 : ∀ x ∈ u, x < 10 ^ 9 := fun x hx => Nat.lt_of_le_of_lt (e3 x hx) (by decide)
      have hT : SqT K (upd H6 t (.tup (uV u))) t (uV u) := SqT.of upd_same
      have D7 : DeckAt (upd H6 t (.tup (uV u))) d c (n + 1 + (1 + r).toNat) := D6.new ht
      revert hT D7
      generalize upd H6 t (.tup (uV u)) = H7
      intro hT D7
      obtain ⟨o1, o2, o3, o4⟩ := dU_ok hu9 (by omega)
      refine ⟨_, rfl, _, dU u, rfl, dU_at hT, o1, o2, o3, o4, ?_⟩
      refine ⟨_, rfl, t, u, rfl, hT, by omega, hb, fun H8 p8 hp8 s8 ep8 => ?_⟩
      refine ⟨_, _, rfl, ?_⟩
      have hT8 := Same.seqT s8 hT
      rw [qs_V] at ep8
      refine ⟨_, rfl, t, u, rfl, hT8, by omega, hb, fun H9 p9 hp9 s9 ep9 => ?_⟩
      rw [qs_V] at ep9
      refine ⟨_, rfl, (by show 1 ≤ sizeLine; decide), fun q1 hq1 => ?_⟩
      have hT9 := Same.seqT s9 hT8
      refine catA_any (Same.seqT (Same.upd hq1) hT9) (SqT.of upd_same) (Nat.le_trans (by show (uV u).length + 1 ≤ 100; omega) (by decide)) fun H10 q2 s10 e10 => ?_
      have eu0 : uV (u ++ [0]) = uV u ++ [V.int 0] := List.map_append ..
      refine ⟨q2, u ++ [0], rfl, by rw [eu0]; exact e10, by rw [List.length_append]; show u.length + 1 ≤ 100; omega, hb0, fun H11 p11 hp11 s11 ep11 => ?_⟩
      have lu0 : (u ++ [0]).length = u.length + 1 := List.length_append ..
      rw [lu0, qs_V, qs_tail] at ep11
      have s811 := ((s9.trans (Same.upd hq1)).trans s10).trans s11
      have hT11 := Same.seqT s811 hT8
      have lq : (uV (qs u (u.length + 1))).length = u.length + 1 := by rw [List.length_map, qs_len]
      refine ⟨_, rfl, _, u.length, rfl, .inr ⟨_, hT11, lu.symm⟩, _, rfl, p11, _, rfl, SqT.of ep11, ?_, fun p12 hp12 => ?_⟩
      · rintro ⟨_, z⟩
        rw [HT.sIx_nat, lq] at z
        omega
      have ecut : cutV (uV (qs u (u.length + 1))) none (some (u.length : Int)) = uV (qs u u.length) := by
        unfold cutV
        rw [HT.sIx_none, HT.sIx_nat, lq, Nat.min_eq_left (by omega), List.drop_zero, Nat.sub_zero, ← List.map_take, qs_take]
      rw [ecut]
      have e12 : (upd H11 p12 (.tup (uV (qs u u.length)))) p12 = some (.tup (uV (qs u u.length))) := upd_same
      have s12 : Same H11 (upd H11 p12 (.tup (uV (qs u u.length)))) := Same.upd hp12
      revert e12 s12
      generalize upd H11 p12 (.tup (uV (qs u u.length))) = H12
      intro e12 s12
      have s912 := ((((Same.upd (o := .tup [V.int 0]) hq1).trans s10).trans s11).trans s12)
      have s812 := s9.trans s912
      refine ⟨_, rfl, (by show 3 ≤ sizeLine; decide), fun l1 hl1 => ?_⟩
      have sl1 : ∀ o, Same H12 (upd H12 l1 o) := fun o => Same.upd hl1
      have ep9' : H12 p9 = some (.tup (uV (qs u u.length))) := s912 _ _ ep9
      have ep8' : H12 p8 = some (.tup (uV (qs u u.length))) := s812 _ _ ep8
      have hT12 := Same.seqT s812 hT8
      have hq9 := qs_lt hu3 ul
      obtain ⟨j1, j2, j3, j4⟩ := d3_ok hq9 hq9 hu9 (by rw [qs_len]; omega) (by rw [qs_len]; omega) (by omega)
      refine ⟨_, d3 (qs u u.length) (qs u u.length) u, rfl, d3_at (SqL.of upd_same) (SqT.of (sl1 _ _ _ ep9')) (SqT.of (sl1 _ _ _ e12)) (Same.seqT (sl1 _) hT12), j1, j2, j3, j4, ?_⟩
      refine ⟨_, rfl, _, rfl, _, rfl, (by show 3 ≤ sizeLine; decide), fun l2 hl2 => ?_⟩
      have sl2 := (sl1 (.lst [.ref p9, .ref p12, .ref t])).trans (Same.upd (o := .lst [.ref p8, .ref p8, .ref t]) hl2)
      refine ⟨_, d3 (qs u u.length) (qs u u.length) u, rfl, d3_at (SqL.of upd_same) (SqT.of (sl2 _ _ ep8')) (SqT.of (sl2 _ _ ep8')) (Same.seqT sl2 hT12), j1, j2, j3, j4, rfl, _, rfl, ?_⟩
      rw [ne]
      refine iteF ?_
      have s813 := s812.trans sl2
      have ep13 := s813 _ _ ep8
      have hT13 := Same.seqT s813 hT8
      revert s813 ep13 hT13
      generalize upd (upd H12 l1 (.lst [.ref p9, .ref p12, .ref t])) l2 (.lst [.ref p8, .ref p8, .ref t]) = H13
      intro s813 ep13 hT13
      refine ⟨_, rfl, .ref p8, .ty "tuple", .type "tuple", .type "tuple", true, rfl, .ty _, .base (.tup ep13), kit_ty (by decide +kernel), _, rfl, ?_⟩
      refine iteF ?_
      have lq2 : (uV (qs u u.length)).length = u.length := by rw [List.length_map, qs_len]
      refine ⟨_, rfl, _, u.length, rfl, .inr ⟨_, SqT.of ep13, lq2.symm⟩, _, rfl, _, u.length, rfl, .inr ⟨_, hT13, lu.symm⟩, rfl, _, rfl, ?_⟩
      rw [ne]
      refine iteF ?_
      refine ⟨_, rfl, _, dU u, rfl, dU_at hT13, o1, o2, o3, o4, _, rfl, rfl, _, rfl, ?_⟩
      rw [ne]
      refine iteF ?_
      refine ⟨_, rfl, _, rfl, _, u.length, rfl, .inr ⟨_, hT13, lu.symm⟩, t, u, rfl, hT13, ul, hu3, fun H14 R ls M s14 hM eR al => ?_⟩
      have ll := al.len
      rw [List.length_map, List.length_range] at ll
      refine ⟨_, rfl, _, ls.length, rfl, .inl ⟨_, SqL.of eR, rfl⟩, 1, _, rfl, ⟨by decide, by decide, by omega, by omega⟩, ?_⟩
      have eM : ((ls.length : Int) - 1).toNat = M := by omega
      rw [eM]
      have ep14 := s14 _ _ ep13
      have D14 : DeckAt H14 d c (n + 1 + (1 + r).toNat) := (D7.same (s8.trans s813)).same s14
      refine for_range (lo := 1) (n := M) (fun m σ H' => ∃ v3 : Option V, σ = [some (.ref a), some (.ref d), some (.int (0 + (i : Nat))), v3, some (.ref t), some (.str (dU u).shown), some (.ref p8), some (.ref R)] ∧ Same H14 H') ⟨_, rfl, Same.refl _⟩ ?_ ?_
      · rintro m σ H15 hm ⟨v3, rfl, s15⟩
        have ei : (1 : Int) + (m : Int) = ((1 + m : Nat) : Int) := by omega
        rw [ei]
        have gq : (uV (qs u u.length))[m]? = some (V.int (q u (1 + m) : Nat)) := by
          have := q_at (u := u) (N := u.length) (n := 1 + m) (by omega) (by omega)
          rw [Nat.add_sub_cancel_left, qs_V] at this
          exact this
        have qb := q_lt (u := u) hu3 ul (n := 1 + m) (by omega) (by omega)
        obtain ⟨k1, k2, k3, k4⟩ := dI_ok (z := ((q u (1 + m) : Nat) : Int)) (by omega) (by omega)
        have hWi : ((List.range (M + 1)).map (W u))[1 + m]? = some (W u (1 + m)) := by
          rw [List.getElem?_map, List.getElem?_range (by omega)]; rfl
        obtain ⟨v, hv, La, src, rfl, nLR, eL, alL⟩ := al.at' hWi
        refine ⟨_, rfl, _, rfl, _, _, rfl, rfl, .inr (.inl ⟨p8, _, (m : Int), _, rfl, congrArg V.int (by omega), SqT.of (s15 _ _ ep14), atI_nat gq, ?_⟩)⟩
        refine ⟨_, .int _, rfl, .int _, k1, k2, k3, k4, ?_⟩
        refine ⟨_, rfl, _, rfl, .inl ⟨R, _, ((1 + m : Nat) : Int), _, rfl, rfl, SqL.of (s15 _ _ eR), atI_nat hv, ?_⟩⟩
        refine ⟨La, src, u, 1 + m, rfl, SqL.of (s15 _ _ eL), rows_keep (NL.same s15) alL, by omega, by omega, fun H16 s16 => ?_⟩
        refine ⟨_, .int _, rfl, .int _, k1, k2, k3, k4, rfl, _, rfl, ?_⟩
        rw [ne]
        refine iteF ?_
        exact ⟨_, rfl, s15.trans s16⟩
      · rintro σ H15 ⟨v3, rfl, s15⟩
        exact ⟨_, _, _, _, _, _, _, rfl, by omega, D14.same s15⟩
    · rintro σ H2 ⟨n, v2, v3, v4, v5, v6, v7, rfl, _, D2⟩
      refine ⟨Nat.zero_le _, fun p1 h1 => ⟨p1, [], rfl, SqT.of upd_same, by decide, fun k' => by show 0 < 2 ^ 120; decide, fun H3 p2 h2 s3 e3 => ?_⟩⟩
      refine ⟨Nat.zero_le _, fun p3 h3 => ?_⟩
      refine ⟨.tuple [], .tuple [], .tup (SqT.of (Same.upd h3 _ _ e3)) .nil, .tup (SqT.of upd_same) .nil, rfl, rfl, ?_⟩
      exact k _
end
end K42

set_option Elab.async false
set_option linter.all false
set_option maxRecDepth 100000
namespace K42
open PySem PySem.Spec PyProof.Rows L2 Ami
theorem all_mk {l : PySem.W.OpenLaw} {w : World} {K : PySem.W.Frag} {h : Heap} {mg : Str → Option Value} {fa f1 f2 f3 f4 f5 f6 f7 f8 f9 : Addr} (X : K.In h) (G : h.Ns mainGlobals mg) (hfa : mg "law" = some (.ref fa))
    {od1 an1 od2 an2 od3 an3 od4 an4 od5 an5 od6 an6 od7 an7 od8 an8 od9 an9 : Option Addr} {sl1 sl2 sl3 sl4 sl5 sl6 sl7 sl8 sl9 : Array (Option Value)} {oc1 kV1 dc1 pm1 cd1 ct1 oc2 kV2 dc2 pm2 cd2 ct2 oc3 kV3 dc3 pm3 cd3 ct3 oc4 kV4 dc4 pm4 cd4 ct4 oc5 kV5 dc5 pm5 cd5 ct5 oc6 kV6 dc6 pm6 cd6 ct6 oc7 kV7 dc7 pm7 cd7 ct7 oc8 kV8 dc8 pm8 cd8 ct8 oc9 kV9 dc9 pm9 cd9 ct9 : Value}
    (a1 : PySem.W.nsIn K mainGlobals "rings_in" = some (some (.ref f1))) (l1 : K.lookup f1 = some ⟨oc1, od1, .func (PySem.W.fnOf "rings_in" "rings_in" (defArgs sRin) (defBody sRin) (defScope sRin) .none kV1 dc1 pm1 an1 cd1 ct1), sl1⟩) (c1 : PySem.W.codeIn K cd1 "rings_in" = true) (k1 : PySem.W.keepIn K (.ref f1) = true)
    (a2 : PySem.W.nsIn K mainGlobals "record_rings" = some (some (.ref f2))) (l2 : K.lookup f2 = some ⟨oc2, od2, .func (PySem.W.fnOf "record_rings" "record_rings" (defArgs sRec) (defBody sRec) (defScope sRec) .none kV2 dc2 pm2 an2 cd2 ct2), sl2⟩) (c2 : PySem.W.codeIn K cd2 "record_rings" = true) (k2 : PySem.W.keepIn K (.ref f2) = true)
    (a3 : PySem.W.nsIn K mainGlobals "_law_deck" = some (some (.ref f3))) (l3 : K.lookup f3 = some ⟨oc3, od3, .func (PySem.W.fnOf "_law_deck" "_law_deck" (defArgs sDeck) (defBody sDeck) (defScope sDeck) .none kV3 dc3 pm3 an3 cd3 ct3), sl3⟩) (c3 : PySem.W.codeIn K cd3 "_law_deck" = true) (k3 : PySem.W.keepIn K (.ref f3) = true)
    (a4 : PySem.W.nsIn K mainGlobals "_law_draw" = some (some (.ref f4))) (l4 : K.lookup f4 = some ⟨oc4, od4, .func (PySem.W.fnOf "_law_draw" "_law_draw" (defArgs sDraw) (defBody sDraw) (defScope sDraw) .none kV4 dc4 pm4 an4 cd4 ct4), sl4⟩) (c4 : PySem.W.codeIn K cd4 "_law_draw" = true) (k4 : PySem.W.keepIn K (.ref f4) = true)
    (a5 : PySem.W.nsIn K mainGlobals "_law_pick" = some (some (.ref f5))) (l5 : K.lookup f5 = some ⟨oc5, od5, .func (PySem.W.fnOf "_law_pick" "_law_pick" (defArgs sPick) (defBody sPick) (defScope sPick) .none kV5 dc5 pm5 an5 cd5 ct5), sl5⟩) (c5 : PySem.W.codeIn K cd5 "_law_pick" = true) (k5 : PySem.W.keepIn K (.ref f5) = true)
    (a6 : PySem.W.nsIn K mainGlobals "_law_sequences" = some (some (.ref f6))) (l6 : K.lookup f6 = some ⟨oc6, od6, .func (PySem.W.fnOf "_law_sequences" "_law_sequences" (defArgs sSeq) (defBody sSeq) (defScope sSeq) .none kV6 dc6 pm6 an6 cd6 ct6), sl6⟩) (c6 : PySem.W.codeIn K cd6 "_law_sequences" = true) (k6 : PySem.W.keepIn K (.ref f6) = true)
    (a7 : PySem.W.nsIn K mainGlobals "_law_is_power" = some (some (.ref f7))) (l7 : K.lookup f7 = some ⟨oc7, od7, .func (PySem.W.fnOf "_law_is_power" "_law_is_power" (defArgs sPow) (defBody sPow) (defScope sPow) .none kV7 dc7 pm7 an7 cd7 ct7), sl7⟩) (c7 : PySem.W.codeIn K cd7 "_law_is_power" = true) (k7 : PySem.W.keepIn K (.ref f7) = true)
    (a8 : PySem.W.nsIn K mainGlobals "_law_counted" = some (some (.ref f8))) (l8 : K.lookup f8 = some ⟨oc8, od8, .func (PySem.W.fnOf "_law_counted" "_law_counted" (defArgs sCnt) (defBody sCnt) (defScope sCnt) .none kV8 dc8 pm8 an8 cd8 ct8), sl8⟩) (c8 : PySem.W.codeIn K cd8 "_law_counted" = true) (k8 : PySem.W.keepIn K (.ref f8) = true)
    (a9 : PySem.W.nsIn K mainGlobals "law" = some (some (.ref f9))) (l9 : K.lookup f9 = some ⟨oc9, od9, .func (PySem.W.fnOf "law" "law" (defArgs sLaw) (defBody sLaw) (defScope sLaw) .none kV9 dc9 pm9 an9 cd9 ct9), sl9⟩) (c9 : PySem.W.codeIn K cd9 "law" = true) (k9 : PySem.W.keepIn K (.ref f9) = true)
    (b1 : PySem.W.nsIn K mainGlobals "len" = some none)
    (b2 : PySem.W.nsIn K mainGlobals "int" = some none)
    (b3 : PySem.W.nsIn K mainGlobals "list" = some none)
    (b4 : PySem.W.nsIn K mainGlobals "range" = some none)
    (b5 : PySem.W.nsIn K mainGlobals "enumerate" = some none)
    (b6 : PySem.W.nsIn K mainGlobals "sum" = some none)
    (b7 : PySem.W.nsIn K mainGlobals "tuple" = some none)
    (b8 : PySem.W.nsIn K mainGlobals "isinstance" = some none)
    (b9 : PySem.W.nsIn K mainGlobals "repr" = some none)
    : ∃ fd : FuncData, (∀ (s : Shared) (v : Value), BindsTo s fd ⟨[v], []⟩ [("_law_script", v)]) ∧ ∀ base : Heap, K.In base → base.Ns mainGlobals mg → FnG l.prog w K mg base CX0 8 fa fd ["_law_script"] (spLaw2 K) := by
  have e := hfa.symm.trans (PySem.W.mg_of X G a9)
  cases e
  have T : Blt mg := ⟨PySem.W.mg_none_of X G b1, PySem.W.mg_none_of X G b2, PySem.W.mg_none_of X G b3, PySem.W.mg_none_of X G b4, PySem.W.mg_none_of X G b5, PySem.W.mg_none_of X G b6, PySem.W.mg_none_of X G b7, PySem.W.mg_none_of X G b8, PySem.W.mg_none_of X G b9⟩
  have D1 : DefAt K mg "rings_in" sRin ["sums"] f1 _ := ⟨fun_mk (st := sRin) l1 c1 k1, (fun_mk (st := sRin) l1 c1 k1).binds (ps := ["sums"]) fun _ _ _ _ _ _ us hl => match us, hl with | [_], _ => rfl, PySem.W.mg_of X G a1⟩
  have D2 : DefAt K mg "record_rings" sRec ["lengths"] f2 _ := ⟨fun_mk (st := sRec) l2 c2 k2, (fun_mk (st := sRec) l2 c2 k2).binds (ps := ["lengths"]) fun _ _ _ _ _ _ us hl => match us, hl with | [_], _ => rfl, PySem.W.mg_of X G a2⟩
  have D3 : DefAt K mg "_law_deck" sDeck ["_law_script"] f3 _ := ⟨fun_mk (st := sDeck) l3 c3 k3, (fun_mk (st := sDeck) l3 c3 k3).binds (ps := ["_law_script"]) fun _ _ _ _ _ _ us hl => match us, hl with | [_], _ => rfl, PySem.W.mg_of X G a3⟩
  have D4 : DefAt K mg "_law_draw" sDraw ["_law_deck_here", "_law_bound"] f4 _ := ⟨fun_mk (st := sDraw) l4 c4 k4, (fun_mk (st := sDraw) l4 c4 k4).binds (ps := ["_law_deck_here", "_law_bound"]) fun _ _ _ _ _ _ us hl => match us, hl with | [_, _], _ => rfl, PySem.W.mg_of X G a4⟩
  have D5 : DefAt K mg "_law_pick" sPick ["_law_deck_here", "_law_some"] f5 _ := ⟨fun_mk (st := sPick) l5 c5 k5, (fun_mk (st := sPick) l5 c5 k5).binds (ps := ["_law_deck_here", "_law_some"]) fun _ _ _ _ _ _ us hl => match us, hl with | [_, _], _ => rfl, PySem.W.mg_of X G a5⟩
  have D6 : DefAt K mg "_law_sequences" sSeq ["_law_lot", "_law_top"] f6 _ := ⟨fun_mk (st := sSeq) l6 c6 k6, (fun_mk (st := sSeq) l6 c6 k6).binds (ps := ["_law_lot", "_law_top"]) fun _ _ _ _ _ _ us hl => match us, hl with | [_, _], _ => rfl, PySem.W.mg_of X G a6⟩
  have D7 : DefAt K mg "_law_is_power" sPow ["_law_row"] f7 _ := ⟨fun_mk (st := sPow) l7 c7 k7, (fun_mk (st := sPow) l7 c7 k7).binds (ps := ["_law_row"]) fun _ _ _ _ _ _ us hl => match us, hl with | [_], _ => rfl, PySem.W.mg_of X G a7⟩
  have D8 : DefAt K mg "_law_counted" sCnt ["_law_rows"] f8 _ := ⟨fun_mk (st := sCnt) l8 c8 k8, (fun_mk (st := sCnt) l8 c8 k8).binds (ps := ["_law_rows"]) fun _ _ _ _ _ _ us hl => match us, hl with | [_], _ => rfl, PySem.W.mg_of X G a8⟩
  exact ⟨_, fun s v => .of_eq rfl, fun base _ _ => ok_law (fun_mk (st := sLaw) l9 c9 k9) ⟨T, D1, D2, D3, D4, D5, D6, D7, D8⟩⟩
end K42

open PySem PySem.W PyProof.Rows in
set_option maxRecDepth 100000 in
set_option maxHeartbeats 0 in
theorem PySem.Challenge.cw_amidread_k42_rings_of_records_holds : PySem.Challenge.rw_amidread_k42_rings_of_records.Holds := by
  w_on; o_law; k_head; (case hw => w_witness2)
  k_fill
  refine Ami.walk_ofG (l := PySem.Challenge.rw_amidread_k42_rings_of_records) (n := 63) (k := 8) (x := "_law_script") (sp := fun w => Ami.spLaw2 _) rfl (by decide) rfl ⟨rfl, by decide, by decide⟩ (fun w h Y => PySem.W.kIn_of Y) ?F (fun _ _ a ns hl _ hS => ⟨a, ns, rfl, hS, hl, fun _ => rfl⟩)
  case F =>
    intro w mg fa h KX G hmg
    refine' K42.all_mk KX G hmg ?a1 ?l1 ?c1 ?k1 ?a2 ?l2 ?c2 ?k2 ?a3 ?l3 ?c3 ?k3 ?a4 ?l4 ?c4 ?k4 ?a5 ?l5 ?c5 ?k5 ?a6 ?l6 ?c6 ?k6 ?a7 ?l7 ?c7 ?k7 ?a8 ?l8 ?c8 ?k8 ?a9 ?l9 ?c9 ?k9 ?b1 ?b2 ?b3 ?b4 ?b5 ?b6 ?b7 ?b8 ?b9
    (case a1 => k_is)
    (case l1 => k_is)
    (case c1 => k_is)
    (case k1 => k_is)
    (case a2 => k_is)
    (case l2 => k_is)
    (case c2 => k_is)
    (case k2 => k_is)
    (case a3 => k_is)
    (case l3 => k_is)
    (case c3 => k_is)
    (case k3 => k_is)
    (case a4 => k_is)
    (case l4 => k_is)
    (case c4 => k_is)
    (case k4 => k_is)
    (case a5 => k_is)
    (case l5 => k_is)
    (case c5 => k_is)
    (case k5 => k_is)
    (case a6 => k_is)
    (case l6 => k_is)
    (case c6 => k_is)
    (case k6 => k_is)
    (case a7 => k_is)
    (case l7 => k_is)
    (case c7 => k_is)
    (case k7 => k_is)
    (case a8 => k_is)
    (case l8 => k_is)
    (case c8 => k_is)
    (case k8 => k_is)
    (case a9 => k_is)
    (case l9 => k_is)
    (case c9 => k_is)
    (case k9 => k_is)
    (case b1 => k_is)
    (case b2 => k_is)
    (case b3 => k_is)
    (case b4 => k_is)
    (case b5 => k_is)
    (case b6 => k_is)
    (case b7 => k_is)
    (case b8 => k_is)
    (case b9 => k_is)

