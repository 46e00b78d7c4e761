import PyProof.Rows.All
import Wide.All
import OpenK.AllK
import Wide.FinOn
import HandS.ForMost
import HandS.IsInst
import HandS.Walk
import HandS.Conv
import HandS.Style
import HandS.Flow
import PyProof.ListStr
import PyProof.ReprRoads
import HandS.Set
import HandS.SetTxt0
import PyProof.Rows.SetFrom
import PyProof.Rows.SortStr
import HandS.SetKeys
import PyProof.ReprLen
import HandS.Iter
import HandS.SortKw
import KE.GoesEnumKw
import HandS.TupSets
import KE.KeyNested
import HandS.SortInts
import PyProof.Rows.SortKeyStr
import KE.SortData
import HandS.SetBool
import PyProof.Transfer
import PyProof.DictMoreH
import HandS.DictComp
import KE.DataMinMax
import KE.KDictSum
import HandS.DictTup
import HandS.ClsMeth
import HandS.CallLocal
import HandS.OwnEq
import HandS.More
import OpenK.KMeth
import KE.KOpsOwn
import HandS.ExcInit
import KE.KExcInit
import KE.KExcIs
import KE.KIsAll
import HandS.ExcValue
import HandS.HotCalls
import HandS.ExcValueHot
import HandS.TryOnly
import HandS.WordsExc
import HandS.Codes
import PySem.Challenge.RW_amidread_k06_both_and_backward
import HandS.Zip
import HandS.TupAny
import HandS.Property
import HandS.Steps
set_option Elab.async false
set_option linter.all false
set_option maxRecDepth 100000
set_option maxHeartbeats 2000000
namespace Ami
open PySem PySem.Spec PyProof.Rows L2

/-! ### texts -/
/-- a text of one sign -/
def one (c : Nat) : Str := ⟨#[c]⟩
/-- the signs of a text, each as a text -/
def letts (z : Str) : List Str := z.cps.toList.map one
theorem letts_length (z : Str) : (letts z).length = z.length := by
  unfold letts
  rw [List.length_map, Array.length_toList]
  rfl

section
variable {X : Cx}
/-- list(z) -/
theorem cr_listStr (hc : X.calm = true) : CallR X (.type "list") (fun vs H Q => ∃ z : Str, vs = [.str z] ∧ z.length ≤ sizeLine ∧ ∀ p, H p = none → Q (.ref p) (upd H p (.lst ((letts z).map V.str)))) := by
  intro pins s σ H vs us Q I r h
  obtain ⟨z, rfl, hz, q⟩ := h
  obtain ⟨u, rfl, t, rfl⟩ := vals1 r
  refine call_list_str (I.ok.hd hc) z t (fun h' tk acc c' k hS hacc => ?_) hz
  have hl : acc.size = z.cps.size := hacc.1
  have hv : Vals ((letts z).map V.str) acc.toList := by
    refine vals_of_at ?_ fun j x u hx hu => ?_
    · rw [List.length_map, letts_length, Array.length_toList, hl]; rfl
    · have hu' : acc[j]? = some u := by rw [← Array.getElem?_toList]; exact hu
      have hj : j < acc.size := (Array.getElem?_eq_some_iff.mp hu').1
      obtain ⟨c, t', e1, e2⟩ := hacc.2 j u hu'
      subst e2
      have e3 : (letts z)[j]? = some (one c) := by
        unfold letts
        rw [List.getElem?_map, Array.getElem?_toList, e1]; rfl
      rw [List.getElem?_map, e3] at hx
      cases hx
      exact ⟨t', rfl⟩
  refine ⟨.ref s.heap.objs.size, _, I.laid (t' := tk) k (Nat.le_refl _) (show ObjOk X.prog X.w _ h' _ (.lst ((letts z).map V.str)) from ⟨?_, acc.toList, c', hv, by simpa using hS⟩), rfl, q _ (I.hok.fresh (Nat.le_refl _))⟩
  rw [List.length_map, letts_length]; exact hz

/-- z * n, as a text -/
def repS (z : Str) (n : Nat) : Str := ⟨(List.replicate n z.cps.toList).flatten.toArray⟩
theorem flat_rep (l : List Nat) : ∀ (n : Nat) (acc : List Nat), (List.replicate n l.toArray).foldl (· ++ ·) acc.toArray = (acc ++ (List.replicate n l).flatten).toArray := by
  intro n
  induction n with
  | zero => intro acc; simp
  | succ n ih =>
    intro acc
    rw [List.replicate_succ, List.foldl_cons, List.append_toArray, ih, List.replicate_succ, List.flatten_cons, List.append_assoc]
theorem repS_length (z : Str) (n : Nat) : (repS z n).length = n * z.length := by
  show ((List.replicate n z.cps.toList).flatten.toArray).size = n * z.cps.size
  rw [List.size_toArray, List.length_flatten, List.map_replicate, List.sum_replicate_nat, Array.length_toList]
theorem repS_mem {z : Str} {n c : Nat} (h : c ∈ (repS z n).cps.toList) : c ∈ z.cps.toList := by
  have h' : c ∈ (List.replicate n z.cps.toList).flatten := h
  obtain ⟨l, h1, h2⟩ := List.mem_flatten.mp h'
  rw [(List.mem_replicate.mp h1).2] at h2
  exact h2
/-- text * int -/
theorem op_repS : OpR X (binaryOp .Mult) (fun x y H Q => ∃ (z : Str) (n : Nat), x = .str z ∧ y = .int n ∧ n * z.length ≤ sizeLine ∧ n < 2 ^ 62 ∧ Q (.str (repS z n)) H) := by
  intro pins s σ H x y v u Q I rx ry h
  obtain ⟨z, n, rfl, rfl, hz, hn, q⟩ := h
  obtain ⟨t, rfl⟩ := rx
  obtain ⟨t', rfl⟩ := ry
  have hline := sizeLine_eq
  have e0 : (List.replicate n z.cps).foldl (· ++ ·) #[] = (repS z n).cps := by
    have := flat_rep z.cps.toList n []
    simpa [repS] using this
  have fin : ∀ t' k, EP X pins σ Q (.str (repS z n) t') { s with toks := k } := fun t' k => ⟨.str (repS z n), H, I.tok _, ⟨t', rfl⟩, q⟩
  refine PySem.P.mul_str ?_ ?_ ?_ ?_
  · have h1 : ¬ ((n : Int) < -(2 ^ 63 : Int)) := by omega
    have h2 : ¬ ((n : Int) ≥ 2 ^ 63) := by omega
    rw [decide_eq_false h1, decide_eq_false h2]; rfl
  · intro h1 _
    have hn0 : 0 < n := by omega
    have hz' : z.length ≤ n * z.length := Nat.le_mul_of_pos_left _ hn0
    have hq : (2 ^ 63 - 1 : Int) / n ≥ z.length := by
      refine Int.le_ediv_of_mul_le (by omega) ?_
      have e : (z.length : Int) * (n : Int) = ((n * z.length : Nat) : Int) := by
        rw [Nat.mul_comm n z.length]; exact (Int.natCast_mul _ _).symm
      rw [e]
      omega
    omega
  · intro h1 _
    show decide (z.length * n > sizeLine) = false
    rw [Nat.mul_comm]
    exact decide_eq_false (by omega)
  · by_cases c1 : (n : Int) < 1
    · rw [if_pos c1]
      have hn0 : n = 0 := by omega
      subst hn0
      exact ⟨Nat.zero_le _, by have e : Str.empty = repS z 0 := by simp [repS, Str.empty]
                               rw [e]; exact fin _ _⟩
    · rw [if_neg c1]
      by_cases c2 : ((n : Int) == 1 || z.length == 0) = true
      · rw [if_pos c2]
        have e : z = repS z n := by
          rcases (Bool.or_eq_true _ _).mp c2 with k | k
          · have : n = 1 := by have := of_decide_eq_true k; omega
            subst this
            simp [repS]
          · have k' : z.length = 0 := by simpa using k
            have z0 : z.cps = #[] := Array.eq_empty_of_size_eq_zero k'
            obtain ⟨a⟩ := z
            simp only at z0
            subst z0
            simp [repS]
        show EP X pins σ Q (.str z t) s
        exact ⟨.str z, H, I, ⟨t, rfl⟩, by rw [e]; exact q⟩
      · rw [if_neg c2]
        refine ⟨?_, ?_⟩
        · show ((List.replicate ((n : Int)).toNat z.cps).foldl (· ++ ·) #[]).size ≤ sizeLine
          rw [Int.toNat_natCast, e0]
          have := repS_length z n
          unfold Str.length at this
          rw [this]
          exact hz
        · have e1 : (⟨(List.replicate ((n : Int)).toNat z.cps).foldl (· ++ ·) #[]⟩ : Str) = repS z n := by
            rw [Int.toNat_natCast, e0]
          rw [e1]
          exact fin _ _

/-- z[::-1], as a text -/
def revS (z : Str) : Str := ⟨z.cps.toList.reverse.toArray⟩
theorem revS_length (z : Str) : (revS z).length = z.length := by
  show z.cps.toList.reverse.toArray.size = z.cps.size
  rw [List.size_toArray, List.length_reverse, Array.length_toList]
def tRevS (te : TE) : TE := fun σ H Q => te σ H fun x H1 => ∃ z : Str, x = .str z ∧ z.length ≤ sizeLine ∧ Q (.str (revS z)) H1
theorem sliceMade_rev (z : Str) (t uk : Tok) : sliceMade z t none none (some (-1, uk)) = .str (revS z) := by
  unfold sliceMade
  rw [if_neg (by simp)]
  have e : slicePicked z none none (some (-1, uk)) = (List.range z.length).map fun k => z.length - 1 - k := by
    show sliceRange ((z.length : Int) - 1) (-1) (-1) = _
    exact PySem.W.krv_sliceRange z.length
  rw [e]
  have e2 := PySem.W.krv_range z.length
  rw [e2, List.filterMap_reverse]
  have e3 := PySem.W.krv_all z.cps
  unfold Str.length
  rw [e3]
  rfl
theorem pe_revS {e : Expr} {te : TE} {k : Nat} {p1 p2 p3 pos : Pos} (he : PE X e te) : PE X (.Subscript e (.Slice none none (some (.UnaryOp .USub (.Constant (.int 1) k p1) p2)) p3) pos) (tRevS te) := by
  refine ⟨fun pins s σ H Q I h => ?_⟩
  refine Subscript_ (thn (he.run pins s σ H _ I h) fun v s1 ⟨x, H1, I1, r1, z, ex, hz, q⟩ => ?_)
  subst ex
  obtain ⟨t, rfl⟩ := r1
  have hst : PO X (some (.UnaryOp .USub (.Constant (.int 1) k p1) p2)) (tPart (tUn (rU fun i => .int (-i)) (tC (.int 1)))) := po_some (pe_un un_neg pe_int)
  refine wpAny_Slice (thn (po_none.run pins s1 σ H1 (fun o H2 => o = none ∧ H2 = H1) I1 ⟨rfl, rfl⟩) fun vl s2 ⟨l, H2, I2, pl, el, e2⟩ => ?_)
  subst el e2
  refine thn (po_none.run pins s2 σ H2 (fun o H3 => o = none ∧ H3 = H2) I2 ⟨rfl, rfl⟩) fun vu s3 ⟨u, H3, I3, pu, eu, e3⟩ => ?_
  subst eu e3
  refine thn (hst.run pins s3 σ H3 (fun o H4 => o = some (-1) ∧ H4 = H3) I3 ⟨1, rfl, -1, rfl, rfl, rfl⟩) fun vs s4 ⟨o, H4, I4, ps, eo, e4⟩ => ?_
  subst eo e4
  have I5 : Inv X pins σ H4 { s4 with heap := s4.heap.push { cls := .type "slice", data := .fields #[vl, vu, vs] } } := I4.kept (t' := s4.toks) fun b ob q => Heap.get?_push_of_some _ q
  obtain ⟨l0, e1, e2⟩ := IsPart.raw pl
  obtain ⟨u0, e3, e4⟩ := IsPart.raw pu
  obtain ⟨k0, e5, e6⟩ := IsPart.raw ps
  have l00 : l0 = none := by cases l0 with | none => rfl | some p => cases e2
  have u00 : u0 = none := by cases u0 with | none => rfl | some p => cases e4
  obtain ⟨uk, k00⟩ : ∃ uk, k0 = some (-1, uk) := by
    cases k0 with
    | none => cases e6
    | some p =>
      obtain ⟨i, uk⟩ := p
      have : i = -1 := Option.some.inj e6
      subst this
      exact ⟨uk, rfl⟩
  subst l00 u00 k00 e1 e3 e5
  show wpAny (model X.prog X.w) X.A (subscriptTail e (.Slice none none (some (.UnaryOp .USub (.Constant (.int 1) k p1) p2)) p3) (.str z t) (.ref s4.heap.objs.size)) (EP X pins σ Q) X.xe { s4 with heap := s4.heap.push { cls := .type "slice", data := .fields #[partValue none, partValue none, partValue (some (-1, uk))] } }
  refine tail_any (ops := [.ref s4.heap.objs.size, .str z t]) (typeIs_str _ _ _) (PySem.F.slot_str_getitem.lookup) ?_ (by with_unfolding_all rfl)
  refine wpAny_getItem_str_slice (l := none) (u := none) (st := some (-1, uk)) ⟨_, Heap.get?_push_size _ rfl, rfl, rfl⟩ rfl ?_
  rw [sliceMade_rev]
  exact ⟨by rw [revS_length]; exact hz, .str (revS z), _, I5.tok _, ⟨_, rfl⟩, q⟩
end

/-! ### what repr shows -/
mutual
inductive Dq (K : PySem.W.Frag) (H : Hp) : V → PyData → Prop
  | non : Dq K H .non .none
  | bl (b : Bool) : Dq K H (.bl b) (.bool b)
  | int (i : Int) : Dq K H (.int i) (.int i)
  | str (x : Str) : Dq K H (.str x) (.str x)
  | lst {a : Addr} {xs : List V} {ds : List PyData} : SqL K H a xs → DqAll K H xs ds → Dq K H (.ref a) (.list ds)
  | tup {a : Addr} {xs : List V} {ds : List PyData} : SqT K H a xs → DqAll K H xs ds → Dq K H (.ref a) (.tuple ds)
  | dct {a : Addr} {kvs : List (Key × V)} {ds : List (PyData × PyData)} : H a = some (.dK kvs) → DqAll K H (kvs.map fun p => kV p.1) (ds.map (·.1)) → DqAll K H (kvs.map (·.2)) (ds.map (·.2)) → Dq K H (.ref a) (.dict ds)
inductive DqAll (K : PySem.W.Frag) (H : Hp) : List V → List PyData → Prop
  | nil : DqAll K H [] []
  | cons {v : V} {vs : List V} {d : PyData} {ds : List PyData} : Dq K H v d → DqAll K H vs ds → DqAll K H (v :: vs) (d :: ds)
end
mutual
theorem Dq.same {K : PySem.W.Frag} {H H' : Hp} (k : ∀ a, (∀ xs, SqL K H a xs → SqL K H' a xs) ∧ (∀ xs, SqT K H a xs → SqT K H' a xs) ∧ ∀ kvs, H a = some (.dK kvs) → H' a = some (.dK kvs)) : ∀ {v : V} {d : PyData}, Dq K H v d → Dq K H' v d
  | _, _, .non => .non
  | _, _, .bl b => .bl b
  | _, _, .int i => .int i
  | _, _, .str x => .str x
  | _, _, .lst h t => .lst ((k _).1 _ h) (DqAll.same k t)
  | _, _, .tup h t => .tup ((k _).2.1 _ h) (DqAll.same k t)
  | _, _, .dct h t u => .dct ((k _).2.2 _ h) (DqAll.same k t) (DqAll.same k u)
theorem DqAll.same {K : PySem.W.Frag} {H H' : Hp} (k : ∀ a, (∀ xs, SqL K H a xs → SqL K H' a xs) ∧ (∀ xs, SqT K H a xs → SqT K H' a xs) ∧ ∀ kvs, H a = some (.dK kvs) → H' a = some (.dK kvs)) : ∀ {vs : List V} {ds : List PyData}, DqAll K H vs ds → DqAll K H' vs ds
  | _, _, .nil => .nil
  | _, _, .cons h t => .cons (Dq.same k h) (DqAll.same k t)
end
theorem pairs_vals {P : Program} {w : World} : ∀ {es : List DictEntry} {vs : List (Key × Value)} {kvs : List (Key × V)}, Pairs (mixKind P w) es vs → KV kvs vs →
    Vals (kvs.map fun p => kV p.1) (es.map (·.key)) ∧ Vals (kvs.map (·.2)) (es.map (·.val))
  | _, _, _, .nil, .nil => ⟨.nil, .nil⟩
  | _, _, _, .cons h1 h2 h3, .cons q1 q2 => by
    obtain ⟨t1, t2⟩ := pairs_vals h3 q2
    refine ⟨.cons ?_ t1, .cons ?_ t2⟩
    · dsimp only; rw [q1.1]; exact keyIs_rel h1
    · dsimp only; rw [h2]; exact q1.2
section
variable {X : Cx} {pins : List (Addr × Obj)} {σ : L2.St} {H : Hp} {s : Shared}
mutual
theorem Dq.reads (I : Inv X pins σ H s) : ∀ {v : V} {d : PyData} (u : Value), Dq X.K H v d → RelV v u → ∃ as, Reads s.heap u d as
  | _, _, _, .non, r => by cases r; exact ⟨_, Reads.none⟩
  | _, _, _, .bl b, r => by cases r; exact ⟨_, Reads.bool b⟩
  | _, _, _, .int i, r => by obtain ⟨t, rfl⟩ := r; exact ⟨_, Reads.int i t⟩
  | _, _, _, .str x, r => by obtain ⟨t, rfl⟩ := r; exact ⟨_, Reads.str x t⟩
  | _, _, _, .lst hs ha, r => by
    cases r
    obtain ⟨its, rv, ⟨o, n, ho, hc, _, hd⟩, _⟩ := I.list hs
    obtain ⟨as, hr⟩ := DqAll.reads I its ha rv
    exact ⟨_, Reads.list ho hc hd hr⟩
  | _, _, _, .tup hs ha, r => by
    cases r
    obtain ⟨its, rv, ⟨o, ho, hc, n, hd⟩, _⟩ := I.tuple hs
    obtain ⟨as, hr⟩ := DqAll.reads I its ha rv
    exact ⟨_, Reads.tuple ho hc hd hr⟩
  | _, _, _, @Dq.dct _ _ a kvs ds ha h1 h2, r => by
    cases r
    obtain ⟨_, _, vs, kv, o, es, ep, ho, hx, hd, _, pr, _⟩ := dk_of I.hok ha
    obtain ⟨p1, p2⟩ := pairs_vals pr kv
    obtain ⟨as, q1⟩ := DqAll.reads I _ h1 p1
    obtain ⟨bs, q2⟩ := DqAll.reads I _ h2 p2
    exact ⟨_, Reads.dict ho hx.1 hd q1 q2⟩
theorem DqAll.reads (I : Inv X pins σ H s) : ∀ {vs : List V} {ds : List PyData} (us : List Value), DqAll X.K H vs ds → Vals vs us → ∃ as, ReadsAll s.heap us ds as
  | _, _, _, .nil, r => by cases r; exact ⟨_, ReadsAll.nil⟩
  | _, _, _, .cons h1 h2, r => by
    cases r with
    | cons r1 r2 =>
      obtain ⟨as, q1⟩ := Dq.reads I _ h1 r1
      obtain ⟨bs, q2⟩ := DqAll.reads I _ h2 r2
      exact ⟨_, ReadsAll.cons q1 q2⟩
end

/-- what has no object of its own -/
def flatD : PyData → Bool
  | .none | .bool _ | .int _ | .str _ => true
  | _ => false
theorem DqAll.flat (I : Inv X pins σ H s) : ∀ {vs : List V} {ds : List PyData} (us : List Value), DqAll X.K H vs ds → ds.all flatD = true → Vals vs us → ReadsAll s.heap us ds []
  | _, _, _, .nil, _, r => by cases r; exact ReadsAll.nil
  | _, _, _, .cons h1 h2, f, r => by
    cases r with
    | cons r1 r2 =>
      rw [List.all_cons, Bool.and_eq_true] at f
      have q2 := DqAll.flat I _ h2 f.2 r2
      cases h1 with
      | non => cases r1; exact ReadsAll.cons Reads.none q2
      | bl b => cases r1; exact ReadsAll.cons (Reads.bool b) q2
      | int i => obtain ⟨t, rfl⟩ := r1; exact ReadsAll.cons (Reads.int i t) q2
      | str x => obtain ⟨t, rfl⟩ := r1; exact ReadsAll.cons (Reads.str x t) q2
      | _ => cases f.1
/-- no dict within, or itself a dict of what has no object of its own -/
def dictFlat : PyData → Bool
  | .dict kvs => (kvs.map (·.1)).all flatD && (kvs.map (·.2)).all flatD
  | d => !d.hasDict
theorem Dq.readsF (I : Inv X pins σ H s) {v : V} {d : PyData} (u : Value) (h : Dq X.K H v d) (r : RelV v u) (f : dictFlat d = true) : ∃ as, Reads s.heap u d as ∧ (d.hasDict = true → sysModules ∉ as) := by
  cases h with
  | @dct a kvs ds ha h1 h2 =>
    cases r
    obtain ⟨_, hsy, vs, kv, o, es, ep, ho, hx, hd, _, pr, _⟩ := dk_of I.hok ha
    obtain ⟨p1, p2⟩ := pairs_vals pr kv
    have f' : ((ds.map (·.1)).all flatD && (ds.map (·.2)).all flatD) = true := f
    rw [Bool.and_eq_true] at f'
    refine ⟨_, Reads.dict ho hx.1 hd (DqAll.flat I _ h1 f'.1 p1) (DqAll.flat I _ h2 f'.2 p2), fun _ m => ?_⟩
    have m' : sysModules = a := by simpa using m
    rw [m'] at hsy
    simp at hsy
  | non => exact (Dq.reads I u .non r).imp fun as q => ⟨q, fun z => by cases z⟩
  | bl b => exact (Dq.reads I u (.bl b) r).imp fun as q => ⟨q, fun z => by cases z⟩
  | int i => exact (Dq.reads I u (.int i) r).imp fun as q => ⟨q, fun z => by cases z⟩
  | str x => exact (Dq.reads I u (.str x) r).imp fun as q => ⟨q, fun z => by cases z⟩
  | lst hs ha =>
    have f' : (!(PyData.list _).hasDict) = true := f
    exact (Dq.reads I u (.lst hs ha) r).imp fun as q => ⟨q, fun z => by rw [z] at f'; cases f'⟩
  | tup hs ha =>
    have f' : (!(PyData.tuple _).hasDict) = true := f
    exact (Dq.reads I u (.tup hs ha) r).imp fun as q => ⟨q, fun z => by rw [z] at f'; cases f'⟩
end
section
variable {X : Cx}
/-- repr(x) -/
def rRepr (K : PySem.W.Frag) : List V → Hp → VK → Prop := fun xs H Q => ∃ (x : V) (d : PyData), xs = [x] ∧ Dq K H x d ∧ dictFlat d = true ∧ d.showable = true ∧ d.shown.length ≤ sizeLine ∧ d.depth ≤ 50 ∧ Q (.str d.shown) H
theorem cr_repr (hg : X.A.guards = some []) (hu : X.A.units + 64 < cLine) : CallR X (.builtin "repr") (rRepr X.K) := by
  intro pins s σ H xs us Q I r h
  obtain ⟨x, d, rfl, hd, hf, hs, hl, hdep, q⟩ := h
  obtain ⟨u, rfl, rx⟩ := vals1 r
  obtain ⟨as, hr, hsm⟩ := Dq.readsF I u hd rx hf
  have hfin : ∀ (h' : Heap) (t : Tok) (tk : Nat), (∀ b o, s.heap.get? b = some o → h'.get? b = some o) → EP X pins σ Q (.str d.shown t) { s with heap := h', toks := tk } :=
    fun h' t tk k => ⟨.str d.shown, H, I.kept (t' := tk) k, ⟨t, rfl⟩, q⟩
  have hsame : EP X pins σ Q (.str d.shown s.toks) { s with toks := s.toks + 1 } := hfin s.heap s.toks (s.toks + 1) fun _ _ e => e
  cases hd with
  | non => cases rx; exact PySem.P.repr_of_none hsame
  | bl b => cases rx; exact PySem.P.repr_of_bool hsame
  | int i =>
    obtain ⟨t, rfl⟩ := rx
    exact PySem.P.repr_of_int (of_decide_eq_true hs) hsame
  | str y =>
    obtain ⟨t, rfl⟩ := rx
    exact PySem.P.repr_of_str hsame hl
  | lst => cases rx; exact repr_of_reads' hr hs hsm hg (by omega) (fun _ _ e => e) hfin hl
  | tup => cases rx; exact repr_of_reads' hr hs hsm hg (by omega) (fun _ _ e => e) hfin hl
  | dct => cases rx; exact repr_of_reads' hr hs hsm hg (by omega) (fun _ _ e => e) hfin hl
end
end Ami

set_option Elab.async false
set_option linter.all false
set_option maxRecDepth 100000
set_option maxHeartbeats 2000000
namespace Ami
open PySem PySem.Spec PyProof.Rows L2

/-- the key that a member of a set stands for -/
def kOf : Value → Key
  | .int i _ => .inl i
  | .str x _ => .inr x
  | _ => .inl 0
theorem kOf_is {k : Key} {v : Value} (h : keyIs k v = true) : kOf v = k := by
  rcases keyIs_shape h with ⟨i, t, rfl, rfl⟩ | ⟨x, t, rfl, rfl⟩ <;> rfl
def Mem (w : World) (e : Int × Value) : Prop := keyIs (kOf e.2) e.2 = true ∧ e.1 = keyH w (kOf e.2)
theorem scan_of {k : Key} {v : Value} (h : keyIs k v = true) : v.scannable = true := by
  rcases keyIs_shape h with ⟨i, t, rfl, rfl⟩ | ⟨x, t, rfl, rfl⟩ <;> rfl
abbrev keysIn (es : List (Int × Value)) : List Key := es.map fun e => kOf e.2

/-- at a stands a set; its members are the keys of l, each once there -/
def SetW (w : World) (h : Heap) (a : Addr) (l : List Key) : Prop :=
  ∃ o es ep t, h.get? a = some o ∧ o.ExactSet ∧ o.data = .set es ep t ∧ (∀ e ∈ es.toList, Mem w e) ∧ (keysIn es.toList).Nodup ∧ l.Perm (keysIn es.toList) ∧
    es.size < scanBound ∧ t.fits es.size = true ∧ Ris t.place.toList ∧ (w.params.followText "set-order" = true ∨ t.led = true)

section
variable {P : Program} {w : World} {h h' : Heap} {a : Addr} {l l' : List Key}
theorem SetW.at (R : SetW w h a l) (k : ∀ o, h.get? a = some o → h'.get? a = some o) : SetW w h' a l := by
  obtain ⟨o, es, ep, t, ho, r⟩ := R
  exact ⟨o, es, ep, t, k o ho, r⟩
theorem SetW.congr (R : SetW w h a l) (e : l'.Perm l) : SetW w h a l' := by
  obtain ⟨o, es, ep, t, ho, x, d, g, nd, m, r⟩ := R
  exact ⟨o, es, ep, t, ho, x, d, g, nd, e.trans m, r⟩
theorem SetW.nodup (R : SetW w h a l) : l.Nodup := by
  obtain ⟨o, es, ep, t, ho, x, d, g, nd, m, r⟩ := R
  exact m.nodup_iff.mpr nd
theorem elems_of {es : List (Int × Value)} (g : ∀ e ∈ es, Mem w e) : ElemsOf (mixKind P w) es := fun e he => ⟨⟨_, (g e he).1, (g e he).2⟩, scan_of (g e he).1⟩
theorem find_iff {es : List (Int × Value)} (g : ∀ e ∈ es, Mem w e) (k : Key) : k ∈ keysIn es ↔ ∃ e ∈ es, (mixKind P w).is k e.2 = true := by
  constructor
  · intro m
    obtain ⟨e, he, q⟩ := List.mem_map.mp m
    exact ⟨e, he, by rw [← q]; exact (g e he).1⟩
  · rintro ⟨e, he, q⟩
    exact List.mem_map.mpr ⟨e, he, kOf_is q⟩
theorem SetW.setOf (R : SetW w h a l) (S : Key → Bool) (hS : ∀ k, S k = true ↔ k ∈ l) : ∃ n, h.SetOf (mixKind P w) a S n := by
  obtain ⟨o, es, ep, t, ho, x, d, g, nd, m, b, f, r⟩ := R
  exact ⟨_, o, es, ep, t, ho, x, d, elems_of g, fun k => by rw [hS k, m.mem_iff]; exact find_iff g k, b, f, rfl⟩
theorem setW_fresh (w : World) (led : Bool) (hl : w.params.followText "set-order" = true ∨ led = true) :
    SetW w (h.push { cls := .type "set", dict := none, data := .set #[] 0 (.fresh 0 0 led) }) h.objs.size [] :=
  ⟨_, #[], 0, _, Heap.get?_push_size _ rfl, ⟨rfl, rfl, rfl⟩, rfl, (fun e he => by simp at he), List.nodup_nil, List.Perm.nil, (by decide), (by rfl), List.Pairwise.nil, hl⟩
end

section
variable {P : Program} {w : World} {A : Around} {E : Value → Shared → Prop} {s : Shared} {a : Addr} {l : List Key}

/-- the last part of an add: the entries are stored, and laid anew where the table is too full -/
theorem tail_w {g : Bool → Sem Unit} (hg : ∀ (b : Bool) (s₁ : Shared) (Q' : Unit → Shared → Prop), Q' () s₁ → wpAny (model P w) A (g b) Q' E s₁)
    {o : Obj} {es : Array (Int × Value)} {ep : Nat} {t : SetTable} (ho : s.heap.get? a = some o) (hx : o.ExactSet) (hd : o.data = .set es ep t)
    {es1 : Array (Int × Value)} {t1 : SetTable} {l1 : List Key} (g1 : ∀ e ∈ es1.toList, Mem w e) (nd1 : (keysIn es1.toList).Nodup) (m1 : l1.Perm (keysIn es1.toList))
    (hb : es1.size < scanBound) (hf : t1.fits es1.size = true) (hr : Ris t1.place.toList) (hl : w.params.followText "set-order" = true ∨ t1.led = true) {dummy : Bool} {R : Option Bool → Shared → Prop}
    (hR : ∀ h', Heap.SameBut a s.heap h' → SetW w h' a l1 → R (some true) { s with heap := h' }) :
    wpAny (model P w) A (do
        storeSet a es1 t1
        if (!dummy && t1.tooFull) = true then do
            g (relayAll t1 es1 (SetTable.grown es1.size)).2.2
            storeSet a (relayAll t1 es1 (SetTable.grown es1.size)).1 (relayAll t1 es1 (SetTable.grown es1.size)).2.1
            pure (some true)
          else pure (some true)) R E s := by
  have same1 := Heap.SameBut.update s.heap a (Obj.putSet es1 t1)
  have at1 := store_at (es' := es1) (t' := t1) ho hd
  refine wpAny_bind (wpAny_storeSet_of ho hd ?_ (fits_of_scanBound hb))
  by_cases c : (!dummy && t1.tooFull) = true
  · rw [if_pos c]
    obtain ⟨es2, t2, gave, eZ⟩ : ∃ es2 t2 gave, relayAll t1 es1 (SetTable.grown es1.size) = (es2, t2, gave) := ⟨_, _, _, rfl⟩
    have pm := relayAll_perm t1 es1 (SetTable.grown es1.size)
    have hf2 := relayAll_fits t1 es1 (SetTable.grown es1.size)
    have hr2 := relayAll_ris t1 es1 (SetTable.grown es1.size)
    have hl2 := relayAll_led t1 es1 (SetTable.grown es1.size)
    rw [eZ] at pm hf2 hr2 hl2 ⊢
    have hsz : es2.size = es1.size := by rw [← Array.length_toList, pm.length_eq, Array.length_toList]
    have pk : (keysIn es2.toList).Perm (keysIn es1.toList) := pm.map _
    refine wpAny_bind (hg _ _ _ ?_)
    refine wpAny_bind (wpAny_storeSet_of at1 rfl ?_ (fits_of_scanBound (by rw [hsz]; exact hb)))
    refine wpAny_pure (hR _ (same1.trans (Heap.SameBut.update _ a _)) ⟨_, es2, _, t2, store_at (es' := es2) (t' := t2) at1 rfl, hx, rfl, fun e he => g1 e (pm.mem_iff.mp he), pk.nodup_iff.mpr nd1,
      m1.trans pk.symm, by rw [hsz]; exact hb, hf2, hr2, hl.imp id fun z => hl2.trans z⟩)
  · rw [if_neg c]
    exact wpAny_pure (hR _ same1 ⟨_, es1, _, t1, at1, hx, rfl, g1, nd1, m1, hb, hf, hr, hl⟩)

/-- a key is added -/
theorem add_w {k : Key} {v : Value} {Q : Bool → Shared → Prop} (R : SetW w s.heap a l) (hk : keyIs k v = true) (room : l.length + 1 < scanBound)
    (hQ : ∀ (b : Bool) (h' : Heap) (l' : List Key), Heap.SameBut a s.heap h' → SetW w h' a l' → (k ∈ l → l' = l) → (k ∉ l → l' = k :: l) → Q b { s with heap := h' }) :
    wpAny (model P w) A (setAddHashed a v (keyH w k)) Q E s := by
  obtain ⟨o, es, ep, t, ho, hx, hd, g, ndE, m, hb, hf, hr, hl⟩ := R
  have el : ElemsOf (mixKind P w) es.toList := elems_of g
  have hsc := scan_of hk
  have hsize : es.size = l.length := by
    have := m.symm.length_eq
    rw [List.length_map, Array.length_toList] at this
    exact this
  unfold setAddHashed setAddHashedIn
  refine wpAny_holding (wpAny_bind (wpAny_setState_of ho hd hf ?_))
  dsimp only
  rw [byScan_of hsc hb el]
  simp only [↓reduceIte]
  unfold setAddByScan
  refine wpAny_bind ?_
  refine wpAny_bind (wpAny_rule ?_)
  refine wpAny_bind (wpAny_setScan_of (knd := mixKind P w) (k := k) hk ho hd hf el ?_)
  cases hfi : List.findIdx? (fun e => (mixKind P w).is k e.2) es.toList with
  | some j =>
    dsimp only
    obtain ⟨hj, pj, _⟩ := List.findIdx?_eq_some_iff_getElem.mp hfi
    have hkl : k ∈ l := m.mem_iff.mpr ((find_iff (P := P) g k).mpr ⟨_, List.getElem_mem hj, pj⟩)
    refine wpAny_pure (wpAny_pure ?_)
    exact hQ _ s.heap l (Heap.SameBut.refl a s.heap) ⟨o, es, ep, t, ho, hx, hd, g, ndE, m, hb, hf, hr, hl⟩ (fun _ => rfl) fun z => absurd hkl z
  | none =>
    dsimp only
    have hnk : k ∉ keysIn es.toList := fun z => by
      obtain ⟨e, he, q⟩ := (find_iff (P := P) g k).mp z
      have := List.findIdx?_eq_none_iff.mp hfi e he
      rw [q] at this
      cases this
    have hkl : k ∉ l := fun z => hnk (m.mem_iff.mp z)
    have gave : ∀ (b : Bool) {s₁ : Shared} {Q' : Unit → Shared → Prop}, Q' () s₁ → wpAny (model P w) A (match b with | true => rule "set.scan.the-table-gave-way" | false => pure ()) Q' E s₁ :=
      fun b s₁ Q' q => by cases b with | true => exact wpAny_rule q | false => exact wpAny_pure q
    obtain ⟨es1, t1, dummy, gv, eZ⟩ : ∃ es1 t1 dummy gv, layNew t es (keyH w k) v = (es1, t1, dummy, gv) := ⟨_, _, _, _, rfl⟩
    have pm := layNew_perm t es (keyH w k) v
    have hf1 := layNew_fits t es (keyH w k) v
    have hr1 := layNew_ris t es (keyH w k) v hr
    have hl1 := layNew_led t es (keyH w k) v
    have eZ' : layNew t es ((mixKind P w).hash k) v = (es1, t1, dummy, gv) := eZ
    rw [eZ] at pm hf1 hr1 hl1
    rw [eZ]
    dsimp only at pm hf1 hr1 hl1 ⊢
    rw [Array.toList_push] at pm
    have pc : es1.toList.Perm ((keyH w k, v) :: es.toList) := pm.trans (List.perm_append_singleton _ _)
    have pk : (keysIn es1.toList).Perm (k :: keysIn es.toList) := by
      have q := pc.map fun e : Int × Value => kOf e.2
      rw [List.map_cons, kOf_is hk] at q
      exact q
    have g1 : ∀ e ∈ es1.toList, Mem w e := fun e he => by
      rcases List.mem_cons.mp (pc.mem_iff.mp he) with z | z
      · rw [z]
        have e1 := kOf_is hk
        exact ⟨by show keyIs (kOf v) v = true; rw [e1]; exact hk, by show keyH w k = keyH w (kOf v); rw [e1]⟩
      · exact g e z
    have nd1 : (keysIn es1.toList).Nodup := pk.nodup_iff.mpr (List.nodup_cons.mpr ⟨hnk, ndE⟩)
    have m1 : (k :: l).Perm (keysIn es1.toList) := (m.cons k).trans pk.symm
    have hb1 : es1.size < scanBound := by
      have : es1.size = es.size + 1 := by rw [← Array.length_toList, pc.length_eq, List.length_cons, Array.length_toList]
      omega
    have led1 : w.params.followText "set-order" = true ∨ t1.led = true := hl.imp id fun z => hl1.trans z
    refine wpAny_bind (gave _ ?_)
    by_cases hpl : t1.plain = true
    · rw [if_pos hpl]
      refine wpAny_bind ?_
      rw [hashByValue_scannable 8 hsc]
      refine wpAny_pure ?_
      refine tail_w ?_ ho hx hd g1 nd1 m1 hb1 ?_ ?_ ?_ fun h' sb r => wpAny_pure (hQ _ h' (k :: l) sb r (fun z => absurd z hkl) fun _ => rfl)
      · intro b s₁ Q' q; exact gave b q
      · split
        · exact hf1
        · exact SetTable.fits_plain_off hf1
      · split <;> exact hr1
      · split <;> exact led1
    · rw [if_neg hpl]
      refine wpAny_bind (wpAny_pure ?_)
      simp only [↓reduceIte]
      refine tail_w ?_ ho hx hd g1 nd1 m1 hb1 hf1 hr1 led1 fun h' sb r => wpAny_pure (hQ _ h' (k :: l) sb r (fun z => absurd z hkl) fun _ => rfl)
      intro b s₁ Q' q; exact gave b q

/-- what is walked goes into the set -/
theorem loop_w {I : Addr} {fp : List Addr} {n : Nat} {Pv : Nat → Value → Prop} {St : Nat → Heap → Prop} (W : Walks P w A.in1 I fp [I] n Pv St) (haf : a ∉ fp) (hfI : I ∈ fp) {f : Nat → Key} (hf : ∀ i v, i < n → Pv i v → keyIs (f i) v = true) {R : Result → Shared → Prop} :
    ∀ (m i : Nat) (l : List Key) (s : Shared), n - i = m → i ≤ n → SetW w s.heap a l → St i s.heap → l.length + m < scanBound →
    (∀ (h' : Heap) (tk : Nat) (l' : List Key), (∀ b o, b ≠ a → b ≠ I → s.heap.get? b = some o → h'.get? b = some o) →
      SetW w h' a l' → (∀ k, k ∈ l' ↔ k ∈ l ∨ ∃ j, i ≤ j ∧ j < n ∧ k = f j) → R (.ok (.ret .none)) { s with heap := h', toks := tk }) →
    codeAny (model P w) A (.builtin "set.update.loop" ⟨[.ref a, .ref I], []⟩) R s := by
  have haI : a ≠ I := fun e => haf (e ▸ hfI)
  intro m
  induction m with
  | zero =>
    intro i l s hm hi ha hst hb h
    have hin : i = n := by omega
    subst hin
    refine codeAny_builtin PyProof.Rows.F.entry_set_update_loop ?_
    rw [Around.under_plainId PyProof.Rows.F.plain_set_update_loop _]
    show wpAny _ A.in1 (pyNext (.ref I) >>= _) _ _ s
    refine wpAny_bind (W.done s _ _ hst fun h' tk hk => ?_)
    show wpAny _ A.in1 (ret Value.none) _ _ _
    refine wpAny_pure (h h' tk l (fun b o _ hb e => hk b o (by simpa using hb) e) (ha.at fun o e => hk a o (by simpa using haI) e) fun k => ⟨.inl, fun z => z.elim id fun ⟨j, h1, h2, _⟩ => by omega⟩)
  | succ m ih =>
    intro i l s hm hi ha hst hb h
    have hlt : i < n := by omega
    refine codeAny_builtin PyProof.Rows.F.entry_set_update_loop ?_
    rw [Around.under_plainId PyProof.Rows.F.plain_set_update_loop _]
    show wpAny _ A.in1 (pyNext (.ref I) >>= _) _ _ s
    refine wpAny_bind (W.item i s _ _ hlt hst fun v h1 tk hP hst1 hk1 => ?_)
    have hkey : keyIs (f i) v = true := hf i v hlt hP
    show wpAny _ A.in1 (holding [v] (setAdd a v) >>= _) _ _ _
    refine wpAny_bind (wpAny_holding ?_)
    unfold setAdd
    refine wpAny_holding ?_
    refine wpAny_bind ((mixKind P w).pyHash (k := f i) hkey ?_)
    refine add_w (s := { s with heap := h1, toks := tk + 1 }) (ha.at fun o e => hk1 a o (by simpa using haI) e) hkey (by omega) fun b h2 l2 sb R2 q1 q2 => ?_
    have hl2 : l2.length ≤ l.length + 1 := by
      rcases Classical.em (f i ∈ l) with z | z
      · rw [q1 z]; omega
      · rw [q2 z, List.length_cons]; omega
    have hm2 : ∀ k, k ∈ l2 ↔ k ∈ l ∨ k = f i := fun k => by
      rcases Classical.em (f i ∈ l) with z | z
      · rw [q1 z]
        exact ⟨.inl, fun y => y.elim id fun e => e ▸ z⟩
      · rw [q2 z, List.mem_cons]
        exact Or.comm
    have hst2 : St (i + 1) h2 := W.frame _ _ _ hst1 fun c hc o e => (sb.2 c fun z => haf (z ▸ hc)).trans e
    refine wpAny_pure ⟨plainId_quiet PyProof.Rows.F.plain_set_update_loop _, ih (i + 1) l2 { s with heap := h2, toks := tk + 1 } (by omega) hlt R2 hst2 (by omega) fun h3 tk3 l3 k3 R3 m3 => ?_⟩
    refine h h3 tk3 l3 (fun c o hc1 hc2 e => k3 c o hc1 hc2 ((sb.2 c hc1).trans (hk1 c o (by simpa using hc2) e))) R3 fun k => ?_
    rw [m3 k, hm2 k]
    constructor
    · rintro ((q | q) | ⟨j, j1, j2, q⟩)
      · exact .inl q
      · exact .inr ⟨i, Nat.le_refl _, hlt, q⟩
      · exact .inr ⟨j, by omega, j2, q⟩
    · rintro (q | ⟨j, j1, j2, q⟩)
      · exact .inl (.inl q)
      · by_cases e : j = i
        · subst e; exact .inl (.inr q)
        · exact .inr ⟨j, by omega, j2, q⟩


theorem new_led (v : Value) {Q₁ : Value → Shared → Prop}
    (h : Q₁ (.ref s.heap.objs.size) { s with heap := s.heap.push { cls := .type "set", dict := none, data := .set #[] 0 (.fresh 0 0 (!w.params.followText "set-order")) } }) :
    codeAny (model P w) A (.call (.builtin "set.__new__") ⟨[.type "set", v], []⟩) (wants Q₁ E) s := by
  refine codeAny_of_tree ?_
  show wpAny _ A.in1 (do checkBuiltinCall "set.__new__" ⟨[.type "set", v], []⟩; again (.builtin "set.__new__" ⟨[.type "set", v], []⟩)) _ _ s
  refine wpAny_bind (wpAny_of_eq (PySem.F.newCall_set_1 v) (wpAny_pure ⟨plainId_quiet PySem.F.plain_set_new _, codeAny_builtin PySem.F.entry_set_new ?_⟩))
  rw [Around.under_plainId PySem.F.plain_set_new _]
  have hsub := PySem.sub_set_self
  unfold Builtin.«set.__new__» Builtin.Frozenset.newClass
  obtain ⟨hp, g, d, tk, os⟩ := s
  dsimp only
  wp_walk
  refine wpAny_askSetting (wpAny_pure ?_)
  dsimp only
  simp only [newObj]
  refine wpAny_bind (wpAny_alloc (wpAny_pure ?_))
  exact wpAny_pure h

/-- set(v): what is needed of v and its walk -/
structure Fills (P : Program) (w : World) (h : Heap) (v : Value) (T : String) (n : Nat) (f : Nat → Key) : Prop where
  ty : ∀ s' : Shared, (∀ b o, h.get? b = some o → s'.heap.get? b = some o) → s'.TypeIs v T
  s1 : isSubtype (.type T) (.type "set") = pure false
  s2 : isSubtype (.type T) (.type "frozenset") = pure false
  nd : (Value.type T == Value.type "dict") = false
  it : ∀ (A : Around) (E : Value → Shared → Prop) (s' : Shared) (Q : Value → Shared → Prop), (∀ b o, h.get? b = some o → s'.heap.get? b = some o) →
    (∀ (h' : Heap) (I : Addr) (fp : List Addr) (Pv : Nat → Value → Prop) (St : Nat → Heap → Prop), (∀ b o, s'.heap.get? b = some o → h'.get? b = some o) → s'.heap.objs.size ≤ I → I ∈ fp → (∀ b ∈ fp, b = I ∨ ∃ o, h.get? b = some o) →
      (∀ A2 : Around, A2.handled = none → Walks P w A2 I fp [I] n Pv St) → St 0 h' → (∀ i v, i < n → Pv i v → keyIs (f i) v = true) → Q (.ref I) { s' with heap := h' }) → wpAny (model P w) A (pyIter v) Q E s'

end
end Ami

set_option Elab.async false
set_option linter.all false
set_option maxRecDepth 100000
set_option maxHeartbeats 2000000
namespace Ami
open PySem PySem.Spec PyProof.Rows L2
section
variable {P : Program} {w : World} {A : Around} {E : Value → Shared → Prop} {s : Shared} {a : Addr} {l : List Key}
set_option maxHeartbeats 4000000 in
theorem call_set_w {v : Value} {T : String} {n : Nat} {f : Nat → Key} {Q : Value → Shared → Prop} (hh : A.handled = none) (hn : n < scanBound) (F : Fills P w s.heap v T n f)
    (h : ∀ (h' : Heap) (tk : Nat) (l : List Key), (∀ b o, s.heap.get? b = some o → h'.get? b = some o) → SetW w h' s.heap.objs.size l → (∀ k, k ∈ l ↔ ∃ j, j < n ∧ k = f j) → Q (.ref s.heap.objs.size) { s with heap := h', toks := tk }) :
    wpAny (model P w) A (call (.type "set") [v]) Q E s := by
  obtain ⟨c, tl, hmro⟩ := PySem.F.called_set.mro
  have hmade := PySem.F.called_set.made
  have hsub := PySem.F.called_set.sub
  have keep0 : ∀ b o, s.heap.get? b = some o → (s.heap.push { cls := .type "set", dict := none, data := .set #[] 0 (.fresh 0 0 (!w.params.followText "set-order")) }).get? b = some o := fun b o e => Heap.get?_push_of_some _ e
  refine wpAny_call (codeAny_of_tree ?_)
  show wpAny _ _ (callAny (.type "set") _) _ _ _
  refine wpAny_pure ⟨Code.quiet_builtin _ (by decide +kernel), codeAny_builtin PySem.F.entry_type_call ?_⟩
  rw [Around.under_plain (weight_type_call_type "set" [v] []) rfl]
  have h1 := PySem.F.called_set.notType
  have h2 := PySem.F.called_set.canCreate
  have hct := PySem.F.typeCall_set_1 v
  repeat (any_goals (first | assumption | wp_step))
  refine codeAny_mono (new_led v (E := E) (Q₁ := fun obj s₁ => obj = .ref s.heap.objs.size ∧ s₁ = { s with heap := s.heap.push { cls := .type "set", dict := none, data := .set #[] 0 (.fresh 0 0 (!w.params.followText "set-order")) } }) ⟨rfl, rfl⟩) fun r s₁ hr => ?_
  cases r with
  | error e => exact hr
  | ok fl =>
    cases fl with
    | ret obj =>
      obtain ⟨rfl, rfl⟩ := hr
      have hS : (s.heap.push { cls := .type "set", dict := none, data := .set #[] 0 (.fresh 0 0 (!w.params.followText "set-order")) }).get? s.heap.objs.size = some { cls := .type "set", dict := none, data := .set #[] 0 (.fresh 0 0 (!w.params.followText "set-order")) } := Heap.get?_push_size _ rfl
      have hT : Shared.TypeIs { s with heap := s.heap.push { cls := .type "set", dict := none, data := .set #[] 0 (.fresh 0 0 (!w.params.followText "set-order")) } } (.ref s.heap.objs.size) "set" := ⟨_, hS, rfl⟩
      have hli := PySem.F.called_set.init.lookup
      have hbi := PySem.F.called_set.init.bind (.ref s.heap.objs.size)
      repeat (any_goals (first | assumption | wp_step))
      refine codeAny_mono (codeAny_call_builtin (R := wants (fun r s₂ => r = .none ∧ ∃ h' tk l, s₂ = { s with heap := h', toks := tk } ∧ (∀ b o, s.heap.get? b = some o → h'.get? b = some o) ∧ SetW w h' s.heap.objs.size l ∧
          (∀ k, k ∈ l ↔ ∃ j, j < n ∧ k = f j)) E) PySem.F.called_set.init.plain PySem.F.entry_set_init (PySem.check_set_init_1 hT ?_)) fun r₂ s₂ hr₂ => ?_
      · have hTv := F.ty { s with heap := s.heap.push { cls := .type "set", dict := none, data := .set #[] 0 (.fresh 0 0 (!w.params.followText "set-order")) } } keep0
        have q1 := F.s1
        have q2 := F.s2
        have q3 := F.nd
        unfold Builtin.«set.__init__» noKeywords Builtin.Frozenset.updateFrom
        generalize hPI : pyIter = PI
        wp_walk
        subst hPI
        refine F.it _ _ _ _ keep0 fun h1' I fp Pv St k1 hI hfI hfp W st hkey => ?_
        have hI' : s.heap.objs.size + 1 ≤ I := by
          have z := hI
          simp only [Heap.size_push] at z
          exact z
        have haf : s.heap.objs.size ∉ fp := fun m => by
          rcases hfp _ m with z | ⟨o, z⟩
          · exact absurd hI' (by rw [← z]; exact Nat.not_succ_le_self _)
          · exact absurd (Heap.lt_size z) (Nat.lt_irrefl _)
        refine wpAny_bind (wpAny_runValue ?_)
        refine loop_w (A := A.in1.in1) (W _ (by simp [hh])) haf hfI hkey n 0 [] _ (Nat.sub_zero n) (Nat.zero_le _) ((setW_fresh w _ ?_).at fun o e => k1 _ o e) st (by simpa using hn) fun h2 tk l2 k2 R2 m2 => ?_
        · cases w.params.followText "set-order"
          · exact .inr rfl
          · exact .inl rfl
        · refine wpAny_pure ?_
          show wpAny _ _ (ret Value.none) _ _ _
          refine wpAny_pure ⟨rfl, h2, tk, l2, rfl, fun b o e => ?_, R2, fun k => ?_⟩
          · have hb := Heap.lt_size e
            exact k2 b o (Nat.ne_of_lt hb) (Nat.ne_of_lt (Nat.lt_of_lt_of_le hb (Nat.le_of_succ_le hI'))) (k1 b o (keep0 b o e))
          · rw [m2 k]
            constructor
            · rintro (z | ⟨j, _, h2, h3⟩)
              · cases z
              · exact ⟨j, h2, h3⟩
            · rintro ⟨j, h2, h3⟩
              exact .inr ⟨j, Nat.zero_le _, h2, h3⟩
      · cases r₂ with
        | error e => exact hr₂
        | ok fl₂ =>
          cases fl₂ with
          | ret r =>
            obtain ⟨rfl, h', tk, l, rfl, hk', hS', hm'⟩ := hr₂
            repeat (any_goals (first | assumption | wp_step))
            exact h _ _ l hk' hS' hm'
          | _ => exact hr₂.elim
    | _ => exact hr.elim

/-- a text's signs fill a set -/
theorem fills_text {x : Str} {t : Tok} {h : Heap} : Fills P w h (.str x t) "str" x.cps.size (fun i => .inr (one (x.cps.getD i 0))) where
  ty := fun s' _ => typeIs_str s' x t
  s1 := by rw [isSubtype_type]; kernel_rfl
  s2 := by rw [isSubtype_type]; kernel_rfl
  nd := by decide
  it := fun A E s' Q k hq => by
    refine wpAny_pyIter_str fun o St W hst => ?_
    refine hq _ s'.heap.objs.size [s'.heap.objs.size] (SignAt x) St (fun b o' e => Heap.get?_push_of_some _ e) (Nat.le_refl _) (List.mem_singleton.mpr rfl) (fun b hb => .inl (List.mem_singleton.mp hb)) (fun A2 h2 => W A2 h2) hst fun i v hi hv => ?_
    obtain ⟨c, u, e1, e2⟩ := hv
    subst e2
    have e3 : x.cps.getD i 0 = c := by
      rw [Array.getD_eq_getD_getElem?, e1]; rfl
    rw [e3]
    exact keyIs_str _ _
end
end Ami

set_option Elab.async false
set_option linter.all false
set_option maxRecDepth 100000
set_option maxHeartbeats 2000000
namespace Ami
open PySem PySem.Spec PyProof.Rows L2
section
variable {P : Program} {w : World} {A : Around} {E : Value → Shared → Prop} {s : Shared} {a : Addr} {l : List Key}
theorem strs_of_keys : ∀ {us : List Value} {ss : List Str}, us.map kOf = ss.map Sum.inr → (∀ v ∈ us, keyIs (kOf v) v = true) → StrsAre us ss
  | [], [], _, _ => .nil
  | [], _ :: _, e, _ => by cases e
  | _ :: _, [], e, _ => by cases e
  | v :: us, x :: ss, e, g => by
    rw [List.map_cons, List.map_cons] at e
    obtain ⟨e1, e2⟩ := List.cons.inj e
    have h1 := g v List.mem_cons_self
    rw [e1] at h1
    obtain ⟨t, rfl⟩ : ∃ t, v = .str x t := by
      rcases keyIs_shape h1 with ⟨i, t, h, _⟩ | ⟨y, t, h, h2⟩
      · cases h
      · cases h; exact ⟨t, h2⟩
    exact .cons x t (strs_of_keys e2 fun u hu => g u (List.mem_cons_of_mem _ hu))

/-- sorted of a set of texts -/
theorem sorted_w {ss : List Str} {Q : Value → Shared → Prop} (R : SetW w s.heap a (ss.map Sum.inr)) (hh : A.handled = none) (h64 : ss.length < 64)
    (hQ : ∀ s' p (out : Array Value) (c : Nat) (ys : List Str), (∀ b o, s.heap.get? b = some o → s'.heap.get? b = some o) → s'.gens = s.gens → s'.os = s.os → s.heap.objs.size ≤ p →
      s'.heap.get? p = some (seqObj "list" out c) → StrsAre out.toList ys → ys.Perm ss → sortedS ys = true → Q (.ref p) s') :
    wpAny (model P w) A (call (.builtin "sorted") [.ref a]) Q E s := by
  obtain ⟨o, es, ep, t, ho, hx, hd, g, nd, m, hb, hf, hr, hl⟩ := R
  refine Calls.call_function_entry kind_sorted plain_sorted entry_sorted (args_sorted1 _) ?_
  unfold Builtin.«sorted»
  refine wpAny_bind (m := checkCount "sorted" 1 1 _) (wpAny_pure ?_)
  refine wpAny_bind (collect_set (A := A.in1) hh ⟨o, ho, hx.1, hd⟩ hf hb hr hl fun s1 vs k1 hz g1 o1 pm => ?_)
  have pk : (vs.map kOf).Perm (ss.map Sum.inr) := by
    have q := pm.map kOf
    rw [List.map_map] at q
    exact q.trans m.symm
  obtain ⟨ts, et, pt⟩ : ∃ ts : List Str, vs.map kOf = ts.map Sum.inr ∧ ts.Perm ss := by
    refine ⟨(vs.map kOf).map fun k => (match k with | .inr x => x | .inl _ => Str.empty), ?_, ?_⟩
    · rw [List.map_map]
      have : ∀ k ∈ vs.map kOf, k = Sum.inr (match k with | .inr x => x | .inl _ => Str.empty) := fun k hk => by
        obtain ⟨x, _, e⟩ := List.mem_map.mp (pk.mem_iff.mp hk)
        rw [← e]
      conv => lhs; rw [← List.map_id (vs.map kOf)]
      exact List.map_congr_left this
    · have q := pk.map fun k : Key => (match k with | .inr x => x | .inl _ => Str.empty)
      rw [List.map_map (l := ss)] at q
      have e : (ss.map ((fun k : Key => (match k with | .inr x => x | .inl _ => Str.empty)) ∘ Sum.inr)) = ss := by
        conv => rhs; rw [← List.map_id ss]
        exact List.map_congr_left fun _ _ => rfl
      rw [e] at q
      exact q
  have hS : StrsAre vs ts := strs_of_keys et fun v hv => by
    obtain ⟨e, he, q⟩ := List.mem_map.mp (pm.mem_iff.mp hv)
    rw [← q]
    exact (g e he).1
  have hvl : vs.length = ss.length := by
    have := pk.length_eq
    rw [List.length_map, List.length_map] at this
    exact this
  refine wpAny_bind (wpAny_newList ?_ (by rw [hvl, sizeLine_eq]; omega))
  have hoL : (s1.heap.push (seqObj "list" vs.toArray 0)).get? s1.heap.objs.size = some (seqObj "list" vs.toArray 0) := Heap.get?_push_size _ rfl
  refine wpAny_bind (wpAny_holding (wpAny_call_entry slot_list_sort ⟨_, hoL, rfl⟩ entry_list_sort
    (list_sort_treeK strKind_oneLt hoL hS.keysOf (fun v₁ v₂ rest e => keyKind_strs (by rw [← e]; exact hS)) (by rw [hvl]; exact h64) fun st' hp hs => ⟨_, rfl, ?_⟩) (args_list_sort _)))
  obtain ⟨ys, g1', g2, g3⟩ := sorted_out_str hS hp hs
  obtain ⟨c, hc⟩ := sortedHeap_at (vs := vs) (out := (arrOf st').map (·.2)) hoL
  refine wpAny_pure ⟨_, rfl, hQ _ s1.heap.objs.size ((arrOf st').map (·.2)) c ys (fun b u e => ?_) g1 o1 hz hc g1' (g2.trans pt) g3⟩
  have q := k1 b u e
  have hlt := Heap.lt_size q
  show (sortedHeap (s1.heap.push (seqObj "list" vs.toArray 0)) s1.heap.objs.size vs ((arrOf st').map (·.2))).get? b = some u
  rw [sortedHeap_old (Nat.ne_of_lt hlt) (by rw [Heap.size_push]; exact Nat.lt_succ_of_lt hlt)]
  exact Heap.get?_push_of_some _ q
end

/-! ### the rules -/
/-- a set of keys, tracked -/
def SW (w : World) (a : Addr) (l : List Key) : HO := .ext fun h => SetW w h a l
section
variable {X : Cx}
theorem sw_new {H : Hp} {h : Heap} {a : Addr} {l : List Key} {P : Program} {w : World} (R : SetW w h a l) : ObjOk P w H h a (SW w a l) := by
  have ⟨o, _, _, _, ho, _⟩ := R
  exact ⟨R, ⟨o, ho⟩, fun h1 h2 p k => p.at k⟩
theorem sw_get {pins : List (Addr × Obj)} {σ : L2.St} {H : Hp} {s : Shared} {a : Addr} {l : List Key} (I : Inv X pins σ H s) (ha : H a = some (SW X.w a l)) : SetW X.w s.heap a l := (I.hok a _ ha).1
/-- set(z) -/
theorem cr_setStr (hc : X.calm = true) : CallR X (.type "set") (fun vs H Q => ∃ z : Str, vs = [.str z] ∧ z.length < scanBound ∧
    ∀ p l, H p = none → l.Nodup → (∀ x, Sum.inr x ∈ l ↔ x ∈ letts z) → (∀ k ∈ l, ∃ x, k = Sum.inr x) → Q (.ref p) (upd H p (SW X.w p l))) := by
  intro pins s σ H vs us Q I r h
  obtain ⟨z, rfl, hz, q⟩ := h
  obtain ⟨u, rfl, t, rfl⟩ := vals1 r
  refine call_set_w (I.ok.hd hc) (n := z.cps.size) hz fills_text fun h' tk l k R m => ?_
  have hm : ∀ k, k ∈ l ↔ ∃ x ∈ letts z, k = Sum.inr x := fun k => by
    rw [m k]
    constructor
    · rintro ⟨j, hj, e⟩
      refine ⟨one (z.cps.getD j 0), ?_, e⟩
      unfold letts
      refine List.mem_map.mpr ⟨_, ?_, rfl⟩
      rw [Array.getD_eq_getD_getElem?, Array.getElem?_eq_getElem hj]
      exact Array.mem_toList_iff.mpr (Array.getElem_mem hj)
    · rintro ⟨x, hx, e⟩
      obtain ⟨c, hc, e2⟩ := List.mem_map.mp hx
      obtain ⟨j, hj, e3⟩ := List.getElem_of_mem hc
      rw [Array.length_toList] at hj
      refine ⟨j, hj, ?_⟩
      rw [e, ← e2, Array.getD_eq_getD_getElem?, Array.getElem?_eq_getElem hj]
      rw [Array.getElem_toList] at e3
      rw [e3]; rfl
  refine ⟨.ref s.heap.objs.size, _, I.laid (t' := tk) k (Nat.le_refl _) (sw_new R), rfl, q _ l (I.hok.fresh (Nat.le_refl _)) R.nodup (fun x => ?_) fun k hk => ?_⟩
  · rw [hm]
    exact ⟨fun ⟨y, hy, e⟩ => by cases e; exact hy, fun hy => ⟨x, hy, rfl⟩⟩
  · obtain ⟨x, _, e⟩ := (hm k).mp hk
    exact ⟨x, e⟩
/-- sorted of such a set of texts -/
theorem cr_sortedW (hc : X.calm = true) : CallR X (.builtin "sorted") (fun vs H Q => ∃ (a : Addr) (ss : List Str), vs = [.ref a] ∧ H a = some (SW X.w a (ss.map Sum.inr)) ∧ ss.length < 64 ∧
    ∀ ys p, ys.Perm ss → sortedS ys = true → H p = none → Q (.ref p) (upd H p (.lst (ys.map V.str)))) := by
  intro pins s σ H vs us Q I r h
  obtain ⟨a, ss, rfl, ha, h64, q⟩ := h
  rw [Vals.ref1 r]
  refine sorted_w (sw_get I ha) (I.ok.hd hc) h64 fun s' p out c ys k g o hp hg hs hpm hso => ?_
  have hlen : (ys.map V.str).length ≤ sizeLine := by rw [List.length_map, hpm.length_eq, sizeLine_eq]; omega
  have hn : H p = none := I.hok.fresh hp
  have J : Inv X pins σ (upd H p (.lst (ys.map V.str))) { s with heap := s'.heap, gens := s'.gens, drawn := s'.drawn, toks := s'.toks } :=
    I.call (ch := []) (Un.laid k hp hn) (I.hok.laid k hp ⟨hlen, out.toList, c, vals_of_strs hs, hg⟩) (by rw [g]; exact I.bare) (fun _ z => nomatch z)
  have e : s' = { s with heap := s'.heap, gens := s'.gens, drawn := s'.drawn, toks := s'.toks } := by
    cases s'
    cases s
    cases o
    rfl
  rw [e]
  exact ⟨.ref p, _, J, rfl, q ys p hpm hso hn⟩
end
end Ami

set_option Elab.async false
set_option linter.all false
set_option maxRecDepth 100000
set_option maxHeartbeats 2000000
namespace Ami
open PySem PySem.Spec PyProof.Rows L2

/-- a def keeps a promise where nothing is being shown: no guard of repr stands below -/
structure FnG (P : Program) (w : World) (K : PySem.W.Frag) (mg : Str → Option Value) (base : Heap) (CX : CXT) (k : Nat) (f : Addr) (fd : FuncData) (ps : List Str) (sp : Sp) : Prop where
  len : ∀ vs H Q E, sp vs H Q E → vs.length = ps.length
  run : ∀ (A : Around) (outer : List Env) (s : Shared) (H : Hp) (args : Args) (us : List Value) (vs : List V) (Q : VK) (E : XK), A.guards = some [] → Room k A → Env0 P w K mg base A outer s H →
    BindsTo s fd args (ps.zip us) → Vals vs us → sp vs H Q E → codeAny (model P w) A (.call (.ref f) args) (CR CX outer P w H s Q E) s
theorem FnG.of {P : Program} {w : World} {K : PySem.W.Frag} {mg : Str → Option Value} {base : Heap} {CX : CXT} {k : Nat} {f : Addr} {fd : FuncData} {ps : List Str} {sp : Sp} (F : FnOk P w K mg base CX k f fd ps sp) : FnG P w K mg base CX k f fd ps sp :=
  ⟨F.len, fun A outer s H args us vs Q E _ => F.run A outer s H args us vs Q E⟩
theorem guards_deeper {A : Around} (env : Env) (h : A.guards = some []) : (A.deeper env).guards = some [] := by
  show (A.guards) = some []
  exact h

section
variable {P : Program} {w : World} {K : PySem.W.Frag} {mg : Str → Option Value} {base : Heap}
theorem Fun.okG {x qual : Str} {st : Stmt} {f : Addr} {fd : FuncData} {N ps : List Str} {k : Nat} {sp : Sp} (F : Fun K x qual st f fd) (S : FnScope N ps (defScope st)) (len : ∀ vs H Q E, sp vs H Q E → vs.length = ps.length)
    (hbody : ∀ (cdv : Value) (A : Around) (outer : List Env) (s : Shared) (H : Hp) (vs : List V) (Q : VK) (E : XK), A.guards = some [] → Room k (A.deeper (envOfC qual (defScope st) s.heap.objs.size f cdv)) → sp vs H Q E →
      ∃ t, PSs (cxOf CX0 P w K mg base N qual (defScope st) f cdv A outer s H E).nox (defBody st) t ∧ t { nx := fun _ H' => Q .non H', rt := Q } (start N vs) H) : FnG P w K mg base CX0 (k + 1) f fd ps sp := by
  obtain ⟨oc, od, kV, doc, pm, an, cdv, ct, osl, rfl, lk, hcd⟩ := F.ex
  refine ⟨len, fun A outer s H args us vs Q E hg hr e0 hb r hsp => ?_⟩
  have hl := len _ _ _ _ hsp
  have KX : K.In s.heap := e0.mod.kin.keeps fun b o e => (e0.bs b o e).1
  have lim : s.heap.NoLimit := e0.mod.nolimit.keeps fun b o e => (e0.bs b o e).1
  have par : ∀ y ∈ ps.zip us, (defScope st).names.lookup y.1 = some .local ∨ ((defScope st).names.lookup y.1 = some .cell ∧ ((cellsFrom (s.heap.objs.size + 1) (defScope st).names []).lookup y.1).isSome = true) := fun ⟨n, v⟩ hy => by
    rcases S.par n (List.of_mem_zip hy).1 with q | q
    · exact .inl q
    · exact .inr ⟨q, PySem.W.cellsFrom_some _ _ _ (.inl q)⟩
  refine codeAny_call_function hr.depth (KX _ _ lk) rfl S.co S.gen rfl (PySem.W.codeRec_of KX hcd) (hb _ _ _ _ ?_)
  refine wpAny_newFunctionEnv_cells S.kind par fun env he s1 x => ?_
  subst he
  refine ⟨lim.keeps x.toInCall.keep, codeAny_func ?_⟩
  obtain ⟨t, ht, hq⟩ := hbody cdv A outer s H vs Q E hg (hr.deeper _) hsp
  have I : Inv (cxOf CX0 P w K mg base N qual (defScope st) f cdv A outer s H E) [] (start N vs) H s1 := inv_start S hr.hd e0 hl r x
  refine wpAny_mono (ht.nox.run [] s1 (start N vs) H _ I hq) (fun fl s' hs => ?_) fun e s' hs => hs
  have fin : ∀ {σ' : L2.St} {H' : Hp} {v : V} {u : Value}, Inv (cxOf CX0 P w K mg base N qual (defScope st) f cdv A outer s H E) [] σ' H' s' → RelV v u → Q v H' → CE outer P w H s Q u s' :=
    fun {σ' H' v u} J rv q => ⟨v, H', J.os, J.bare, J.base, J.hok, rv, q⟩
  cases fl with
  | ret u => obtain ⟨v, σ', H', J, rv, q⟩ := hs; exact fin J rv q
  | next => obtain ⟨σ', H', J, q⟩ := hs; exact fin (v := V.non) (u := Value.none) J rfl q
  | brk => obtain ⟨_, _, _, q⟩ := hs; exact False.elim q
  | cont => obtain ⟨_, _, _, q⟩ := hs; exact False.elim q
end

section
variable {X : Cx} {CX : CXT} {k : Nat} {f C : Addr} {fd : FuncData} {ps : List Str} {sp : Sp} {dvs : List V} {ds : List Value} {E : XK} {x m : Str} {p pos apos : Pos} {e o : Expr} {es : List Expr} {ta : TE} {t : TA}
theorem run_fnG {pins : List (Addr × Obj)} {σ : L2.St} {H : Hp} {s : Shared} {Q : VK} {us : List Value} {vs : List V} (F : FnG X.prog X.w X.K X.mg X.base CX k f fd ps sp) (hg : X.A.guards = some []) (hr : Room k X.A) (hb : Binds X.K fd ps ds) (hd : Vals dvs ds) (hx : Passes CX X E)
    (I : Inv X pins σ H s) (r : Vals vs us) (h : sp (vs ++ dvs) H Q E) : wpAny (model X.prog X.w) X.A (call (.ref f) us) (EP X pins σ Q) X.xe s := by
  have r2 : Vals (vs ++ dvs) (us ++ ds) := r.append hd
  have hl : (us ++ ds).length = ps.length := by rw [← r2.length]; exact F.len _ _ _ _ h
  refine wpAny_call (codeAny_mono (F.run X.A X.stack s H ⟨us, []⟩ (us ++ ds) (vs ++ dvs) Q E hg hr I.env0 (hb s us I.kIn hl) r2 h) fun r s' hq => ?_)
  cases r with
  | error e => exact hx pins σ H s e s' I hq
  | ok fl =>
    cases fl with
    | ret u => exact I.after hq
    | next => exact False.elim hq
    | brk => exact False.elim hq
    | cont => exact False.elim hq
theorem pe_callG (F : FnG X.prog X.w X.K X.mg X.base CX k f fd ps sp) (hg : X.A.guards = some []) (hr : Room k X.A) (hgl : Gl X x) (hm : X.mg x = some (.ref f)) (hk : PySem.W.keepIn X.K (.ref f) = true) (hb : Binds X.K fd ps ds) (hd : Vals dvs ds) (hx : Passes CX X E)
    (ha : PA X (e :: es) t) (hdb : (x == ("__debug__" : Str)) = false := by decide) (he : starEach (e :: es) X.env = (false, eval e X.env) :: starEach es X.env := by rfl) (hpl : (backTo pos (starEach es X.env)).any (·.1) = false := by rfl) :
    PE X (.Call (.Name x p) (e :: es) [] pos) (tCall sp dvs E t) := by
  refine ⟨fun pins s σ H Q I h => ?_⟩
  refine wpAny_Call_Name_kw (ld_glob I hgl hm ?_ hdb)
  refine PySem.W.callWith_K (h₀ := X.base) I.ok.mod.kin hk (thn (ha.run pos pins s σ H _ I h) fun us s1 ⟨vs, H1, I1, r, q⟩ => ⟨I1.kIn, ?_⟩) he hpl
  exact run_fnG F hg hr hb hd hx I1 r q
end

/-- the law's call, at the heap behind the top -/
theorem law_callG {P : Program} {w : World} {K : PySem.W.Frag} {mg mb : Str → Option Value} {k : Nat} {fa a : Addr} {fd : FuncData} {x : Str} {sp : Sp} {s₁ : Shared} {vs : List Value} {ns : List Int}
    (KX : K.In s₁.heap) (hns : s₁.heap.Ns mainGlobals mg) (hb : s₁.heap.Ns builtinsNs mb) (hbb : ∀ x : Str, x ≠ "__name__" → mb x = bootBuiltins x) (hlim : s₁.heap.NoLimit) (hg : s₁.gens = #[])
    (ha : s₁.heap.get? a = some { cls := .type "list", data := .seq vs.toArray }) (hi : IntsAre vs ns) (hl : ns.length ≤ sizeLine) (hr : Room k callerA)
    (F : ∀ base : Heap, K.In base → base.Ns mainGlobals mg → FnG P w K mg base CX0 k fa fd [x] sp) (hbind : ∀ (s : Shared) (u : Value), BindsTo s fd ⟨[u], []⟩ [(x, u)])
    (hsp : ∀ H : Hp, Only H → SqL K H a (ns.map V.int) → sp [.ref a] H (fun v _ => v = .bl true) fun _ _ _ => False) :
    codeAny (model P w) callerA (.call (.ref fa) ⟨[.ref a], []⟩) (fun r s' => r = .ok (.ret (.bool true)) ∧ OldK s₁.heap s'.heap ∧ s'.os = s₁.os ∧ AllBare s'.gens) s₁ := by
  have hfake : ∀ (H0 : Hp), (∀ b, H0 b ≠ none → b = a) → Only H0 → SqL K H0 a (ns.map V.int) → HOk P w H0 s₁.heap → (H0 a ≠ none → K.lookup a = none) →
      codeAny (model P w) callerA (.call (.ref fa) ⟨[.ref a], []⟩) (fun r s' => r = .ok (.ret (.bool true)) ∧ OldK s₁.heap s'.heap ∧ s'.os = s₁.os ∧ AllBare s'.gens) s₁ := by
    intro H0 hA hO hS hok hK
    have isList : ∀ {b : Addr}, H0 b ≠ none → s₁.heap.get? b = some { cls := .type "list", data := .seq vs.toArray } := fun {b} h => by rw [hA b h]; exact ha
    have untr : ∀ {b : Addr} {o : Obj} {es : Array DictEntry} {ep : Nat}, s₁.heap.get? b = some o → o.data = .dict es ep → H0 b = none := fun {b o es ep} e d => by
      refine Classical.byContradiction fun c => ?_
      have e2 := isList c
      rw [e] at e2
      rw [Option.some.inj e2] at d
      exact nomatch d
    have hbase : ∀ {b : Addr} {o : Obj}, s₁.heap.get? b = some o → H0 b = none → (hidT s₁.heap H0).get? b = some o := fun e n => hidT_get e n
    have nsK : ∀ {b : Addr} {m : Str → Option Value}, s₁.heap.Ns b m → (hidT s₁.heap H0).Ns b m := fun {b m} ⟨o, es, ep, e, d, r⟩ => ⟨o, es, ep, hbase e (untr e d), d, r⟩
    have inK : K.In (hidT s₁.heap H0) := fun b o e => hbase (KX b o e) (Classical.byContradiction fun c => by
      have z := hA b c
      subst z
      rw [hK c] at e
      cases e)
    obtain ⟨mc, n1, n2⟩ := hlim
    have hM : Mod K mg (hidT s₁.heap H0) := ⟨inK, nsK hns, ⟨mb, nsK hb, hbb⟩, mc, nsK n1, n2⟩
    have e0 : Env0 P w K mg (hidT s₁.heap H0) callerA [] s₁ H0 := ⟨rfl, hM, fun b o e => of_hidT e, Nat.le_of_eq (hidT_size _ _), trivial, fun b hb => absurd (show b ∈ ([] : List Addr) from hb) (by simp), hok, .of_eq hg⟩
    refine codeAny_mono ((F _ inK (nsK hns)).run callerA [] s₁ H0 ⟨[.ref a], []⟩ [.ref a] [.ref a] _ _ rfl hr e0 (hbind s₁ (.ref a)) (.cons rfl .nil) (hsp H0 hO hS)) fun r s' h => ?_
    cases r with
    | error e => exact False.elim h
    | ok fl =>
      cases fl with
      | next => exact False.elim h
      | brk => exact False.elim h
      | cont => exact False.elim h
      | ret u =>
        obtain ⟨v, H', os, bare, un, hok', rv, q⟩ := h
        have q' : v = .bl true := q
        subst q'
        have hu : u = Value.bool true := rv
        subst hu
        refine ⟨rfl, OldK.of_keep fun b o e => ?_, os, bare⟩
        rcases hO b with z | ⟨ob, xs, z⟩
        · exact un.keep b o e z (fun m => absurd (show b ∈ ([] : List Addr) from m) (by simp)) (by simp)
        · have p1 := (hok b _ z).1
          have p2 := (hok' b _ (un.frzs b ob _ z)).1
          rw [e] at p1
          rw [Option.some.inj p1]
          exact p2
  cases hk : K.lookup a with
  | some o =>
    have e := KX a o hk
    rw [ha] at e
    cases e
    exact hfake (fun _ => none) (fun b z => absurd rfl z) (fun _ => .inl rfl) (.inr ⟨_, vs.toArray, _, hk, rfl, rfl, rfl, by rw [List.size_toArray, hi.length]; exact hl, by simpa using vals_ints hi⟩) (fun b u z => nomatch (show (none : Option HO) = some u from z)) fun z => absurd rfl z
  | none =>
    refine hfake (fun b => if b = a then some (.frz { cls := .type "list", data := .seq vs.toArray } (.lst (ns.map V.int))) else none) (fun b z => ?_) (fun b => ?_) (.inl (.inr ⟨{ cls := .type "list", data := .seq vs.toArray }, if_pos rfl⟩)) (fun b u z => ?_) fun _ => hk
    · exact Classical.byContradiction fun c => z (if_neg c)
    · by_cases c : b = a
      · exact .inr ⟨_, _, if_pos c⟩
      · exact .inl (if_neg c)
    · by_cases c : b = a
      · have z' := (if_pos c).symm.trans z
        cases z'
        subst c
        exact ⟨ha, by rw [List.length_map]; exact hl, vs, _, vals_ints hi, ha⟩
      · exact nomatch (if_neg c).symm.trans z

/-- the end: what k_head leaves, from the law's promise -/
theorem walk_ofG {l : PySem.W.OpenLaw} {n k : Nat} {q : Program} {loose : List Str} {XP : (Str → Option Value) → Heap → Prop} {YP : World → Heap → Prop} {d : DefRec} {K : Params → PySem.W.Frag} {sp : World → Sp} {x : Str}
    (hn : l.most = some n) (hn2 : n ≤ sizeLine) (hdf : d.params.defaults = []) (hr : Room k callerA) (hY : ∀ (w : World) (h : Heap), YP w h → (K w.params).In h)
    (F : ∀ (w : World) (mg : Str → Option Value) (fa : Addr) (h : Heap), (K w.params).In h → h.Ns mainGlobals mg → mg d.name = some (.ref fa) →
      ∃ fd : FuncData, (∀ (s : Shared) (u : Value), BindsTo s fd ⟨[u], []⟩ [(x, u)]) ∧
        ∀ base : Heap, (K w.params).In base → base.Ns mainGlobals mg → FnG l.prog w (K w.params) mg base CX0 k fa fd [x] (sp w))
    (hsp : ∀ (w : World) (H : Hp) (a : Addr) (ns : List Int), ns.length ≤ n → Only H → SqL (K w.params) H a (ns.map V.int) → sp w [.ref a] H (fun v _ => v = .bl true) fun _ _ _ => False) :
    PySem.W.WalkO q loose XP YP l.row.toRowW d [] (fun f vs => PySem.call f vs) := by
  refine Att.attach_call hn hdf fun w s₀ s₁ mg mb fa o pm cd doc a vs ns G Y ho hd hcd hmg hobj hints hlen hg => ?_
  obtain ⟨fd, hb, hF⟩ := F w mg fa _ (hY w _ Y) G.T.g hmg
  exact law_callG (hY w _ Y) G.T.g G.T.b G.T.builtins G.T.nolimit hg hobj hints (Nat.le_trans hlen hn2) hr hF hb fun H hO hS => hsp w H a ns hlen hO hS
end Ami

set_option Elab.async false
set_option linter.all false
set_option maxRecDepth 100000
set_option maxHeartbeats 2000000
namespace Ami
open PySem PySem.Spec PyProof.Rows L2

/-! ### calls by keywords alone -/
section
variable {X : Cx} {CX : CXT} {k : Nat} {f C : Addr} {fd : FuncData} {ps ks : List Str} {sp : Sp} {E : XK} {x : Str} {p pos : Pos} {kws : List Keyword} {tk : TA} {g : List Value → List Value → List Value} {gV : List V → List V → List V}
theorem pe_callK0 (F : FnOk X.prog X.w X.K X.mg X.base CX k f fd ps sp) (hr : Room k X.A) (hg : Gl X x) (hm : X.mg x = some (.ref f)) (hk : PySem.W.keepIn X.K (.ref f) = true) (hb : KBinds X.K fd ps ks g gV) (hx : Passes CX X E) (hkw : PK X kws tk)
    (hall : (backToKw pos (keywordEach kws X.env)).all (·.1.isSome) = true := by rfl) (hks : (backToKw pos (keywordEach kws X.env)).filterMap (·.1) = ks := by rfl) (hdb : (x == ("__debug__" : Str)) = false := by decide)
    (hpl : ((backTo pos (starEach [] X.env)).any (·.1) || (backToKw pos (keywordEach kws X.env)).any (·.1.isNone)) = false := by rfl) :
    PE X (.Call (.Name x p) [] kws pos) (tCallK sp gV E tNil tk) := by
  refine ⟨fun pins s σ H Q I h => ?_⟩
  refine wpAny_Call_Name_kw (ld_glob I hg hm ?_ hdb)
  refine PySem.W.callWith_KW0 (h₀ := X.base) I.ok.mod.kin hk hall ?_ hpl
  refine thn (hkw.run pos pins s σ H _ I h) fun ws s2 ⟨zs, H2, I2, rz, q2⟩ => ⟨I2.kIn, ?_⟩
  rw [hks]
  exact run_fnk F hr hb hx I2 .nil rz q2
end

/-! ### a def of the text, with all that a call of it wants -/
structure DefAt (K : PySem.W.Frag) (mg : Str → Option Value) (x : Str) (st : Stmt) (ps : List Str) (f : Addr) (fd : FuncData) : Prop where
  F : Fun K x x st f fd
  b : Binds K fd ps []
  g : mg x = some (.ref f)
section
variable {X : Cx} {k : Nat} {f : Addr} {fd : FuncData} {ps : List Str} {sp : Sp} {x : Str} {st : Stmt} {p pos : Pos} {e : Expr} {es : List Expr} {t : TA}
/-- f(e, ..), of a def that lets nothing out -/
theorem pc (D : DefAt X.K X.mg x st ps f fd) (G : FnOk X.prog X.w X.K X.mg X.base CX0 k f fd ps sp) (hr : Room k X.A) (ha : PA X (e :: es) t) (hg : Gl X x := by rfl) (hdb : (x == ("__debug__" : Str)) = false := by decide)
    (he : starEach (e :: es) X.env = (false, eval e X.env) :: starEach es X.env := by rfl) (hpl : (backTo pos (starEach es X.env)).any (·.1) = false := by rfl) : PE X (.Call (.Name x p) (e :: es) [] pos) (tCall sp [] E0 t) :=
  pe_call G hr hg D.g D.F.kp D.b .nil pass0 ha hdb he hpl
theorem pcG (D : DefAt X.K X.mg x st ps f fd) (G : FnG X.prog X.w X.K X.mg X.base CX0 k f fd ps sp) (hgu : X.A.guards = some []) (hr : Room k X.A) (ha : PA X (e :: es) t) (hg : Gl X x := by rfl) (hdb : (x == ("__debug__" : Str)) = false := by decide)
    (he : starEach (e :: es) X.env = (false, eval e X.env) :: starEach es X.env := by rfl) (hpl : (backTo pos (starEach es X.env)).any (·.1) = false := by rfl) : PE X (.Call (.Name x p) (e :: es) [] pos) (tCall sp [] E0 t) :=
  pe_callG G hgu hr hg D.g D.F.kp D.b .nil pass0 ha hdb he hpl
end

/-! ### the deck -/
/-- all but d and c stands as it stood -/
def But (d c : Addr) (H H' : Hp) : Prop := ∀ b o, b ≠ d → b ≠ c → H b = some o → H' b = some o
theorem But.refl (d c : Addr) (H : Hp) : But d c H H := fun _ _ _ _ e => e
theorem But.trans {d c : Addr} {H H1 H2 : Hp} (a : But d c H H1) (b : But d c H1 H2) : But d c H H2 := fun x o h1 h2 e => b x o h1 h2 (a x o h1 h2 e)
theorem But.same {d c : Addr} {H H' : Hp} (s : Same H H') : But d c H H' := fun b o _ _ e => s b o e
theorem Same.upd {H : Hp} {p : Addr} {o : HO} (hp : H p = none) : Same H (L2.upd H p o) := fun b u e => by
  rw [upd_ne (ne_of_none e hp)]; exact e
theorem But.new {d c : Addr} {H H' : Hp} (s : But d c H H') {p : Addr} {o : HO} (hp : H' p = none) : But d c H (L2.upd H' p o) := fun b u h1 h2 e => by
  have e' := s b u h1 h2 e
  rw [upd_ne (ne_of_none e' hp)]
  exact e'

/-- what stays whatever the deck does -/
def Stay (d c : Addr) (φ : Hp → Prop) (H : Hp) : Prop := ∀ H', But d c H H' → φ H'
theorem Stay.now {d c : Addr} {φ : Hp → Prop} {H : Hp} (h : Stay d c φ H) : φ H := h H (But.refl d c H)
theorem Stay.go {d c : Addr} {φ : Hp → Prop} {H H' : Hp} (h : Stay d c φ H) (k : But d c H H') : Stay d c φ H' := fun _ k' => h _ (k.trans k')
theorem Stay.all {d c : Addr} {φ : Hp → Prop} {H : Hp} (h : ∀ H', φ H') : Stay d c φ H := fun H' _ => h H'
theorem Stay.mono {d c : Addr} {φ ψ : Hp → Prop} {H : Hp} (h : Stay d c φ H) (i : ∀ H', φ H' → ψ H') : Stay d c ψ H := fun H' k => i _ (h H' k)

/-- the deck at d, its cells at c, behind n draws -/
def DeckAt (H : Hp) (d c : Addr) (n : Nat) : Prop := c ≠ d ∧ ∃ (b : Int) (cells : List Int), H d = some (.lst [.ref c, .int b, .int n]) ∧ H c = some (.lst (cells.map V.int)) ∧ cells.length ≤ 63
theorem DeckAt.same {H H' : Hp} {d c : Addr} {n : Nat} (D : DeckAt H d c n) (s : Same H H') : DeckAt H' d c n := by
  obtain ⟨h, b, cells, h1, h2, h3⟩ := D
  exact ⟨h, b, cells, s _ _ h1, s _ _ h2, h3⟩
theorem DeckAt.ned {H : Hp} {d c p : Addr} {n : Nat} (D : DeckAt H d c n) (hp : H p = none) : p ≠ d ∧ p ≠ c := by
  obtain ⟨h, b, cells, h1, h2, h3⟩ := D
  exact ⟨fun e => (by rw [e, h1] at hp; cases hp), fun e => (by rw [e, h2] at hp; cases hp)⟩
theorem DeckAt.new {H : Hp} {d c p : Addr} {n : Nat} {o : HO} (D : DeckAt H d c n) (hp : H p = none) : DeckAt (upd H p o) d c n := D.same (Same.upd hp)
theorem DeckAt.set {H : Hp} {d c p : Addr} {n : Nat} {o : HO} (D : DeckAt H d c n) (h1 : p ≠ d) (h2 : p ≠ c) : DeckAt (upd H p o) d c n := by
  obtain ⟨h, b, cells, e1, e2, e3⟩ := D
  exact ⟨h, b, cells, by rw [upd_ne (Ne.symm h1)]; exact e1, by rw [upd_ne (Ne.symm h2)]; exact e2, e3⟩

/-- a draw below bd: any number there is -/
def spDraw : Sp := fun vs H Q _ => ∃ (d c : Addr) (n : Nat) (bd : Int), vs = [.ref d, .int bd] ∧ 0 < bd ∧ bd < 1073741824 ∧ n < 1000000 ∧ DeckAt H d c n ∧
  ∀ (H' : Hp) (r : Int), 0 ≤ r → r < bd → DeckAt H' d c (n + 1) → But d c H H' → Q (.int r) H'

/-- an item of a list or a tuple, or a sign of a text -/
inductive Some1 (K : PySem.W.Frag) (H : Hp) : V → List V → Prop
  | lst {a : Addr} {xs : List V} (h : SqL K H a xs) : Some1 K H (.ref a) xs
  | txt (z : Str) (h : z.length ≤ sizeLine) : Some1 K H (.str z) ((letts z).map V.str)
def spPick (K : PySem.W.Frag) : Sp := fun vs H Q _ => ∃ (d c : Addr) (n : Nat) (x : V) (xs : List V), vs = [.ref d, x] ∧ xs ≠ [] ∧ xs.length < 1073741824 ∧ n < 1000000 ∧ DeckAt H d c n ∧ Stay d c (fun H' => Some1 K H' x xs) H ∧
  ∀ (H' : Hp) (y : V), y ∈ xs → DeckAt H' d c (n + 1) → But d c H H' → Q y H'
end Ami

set_option Elab.async false
set_option linter.all false
set_option maxRecDepth 100000
set_option maxHeartbeats 2000000
namespace Ami
open PySem PySem.Spec PyProof.Rows L2

/-! ### rows of flat values as data -/
def fD : V → PyData
  | .bl b => .bool b
  | .int i => .int i
  | .str x => .str x
  | _ => .none
/-- None, a bool, an int, a text that can be laid -/
def okF : V → Bool
  | .non => true
  | .bl _ => true
  | .int _ => true
  | .str x => PyData.strOk x
  | _ => false
theorem dp_flat {K : PySem.W.Frag} {H : Hp} : ∀ {v : V}, okF v = true → Dp K H v (fD v)
  | .non, _ => .non
  | .bl b, _ => .bl b
  | .int i, _ => .int i
  | .str x, _ => .str x
theorem dpAll_flat {K : PySem.W.Frag} {H : Hp} : ∀ {xs : List V}, xs.all okF = true → DpAll K H xs (xs.map fD)
  | [], _ => .nil
  | v :: xs, h => by
    rw [List.all_cons, Bool.and_eq_true] at h
    exact .cons (dp_flat h.1) (dpAll_flat h.2)
theorem dq_flat {K : PySem.W.Frag} {H : Hp} : ∀ {v : V}, okF v = true → Dq K H v (fD v)
  | .non, _ => .non
  | .bl b, _ => .bl b
  | .int i, _ => .int i
  | .str x, _ => .str x
theorem dqAll_flat {K : PySem.W.Frag} {H : Hp} : ∀ {xs : List V}, xs.all okF = true → DqAll K H xs (xs.map fD)
  | [], _ => .nil
  | v :: xs, h => by
    rw [List.all_cons, Bool.and_eq_true] at h
    exact .cons (dq_flat h.1) (dqAll_flat h.2)
theorem canLay_flat : ∀ {v : V}, okF v = true → (fD v).canLay0 = true
  | .non, _ => rfl
  | .bl _, _ => rfl
  | .int _, _ => rfl
  | .str x, h => h
theorem canLayAll_flat : ∀ {xs : List V}, xs.all okF = true → PyData.canLayAll0 (xs.map fD) = true
  | [], _ => rfl
  | v :: xs, h => by
    rw [List.all_cons, Bool.and_eq_true] at h
    show ((fD v).canLay0 && PyData.canLayAll0 (xs.map fD)) = true
    rw [canLay_flat h.1, canLayAll_flat h.2]; rfl
theorem depth_flat : ∀ v : V, (fD v).depth = 0
  | .non => rfl
  | .bl _ => rfl
  | .int _ => rfl
  | .str _ => rfl
  | .byt _ => rfl
  | .flt _ => rfl
  | .ref _ => rfl
  | .ty _ => rfl
theorem depthAll_flat : ∀ xs : List V, PyData.depthAll (xs.map fD) = 0
  | [] => rfl
  | v :: xs => by
    show max (fD v).depth (PyData.depthAll (xs.map fD)) = 0
    rw [depth_flat, depthAll_flat]; rfl
theorem shaped_list {xs : List V} (h : xs.all okF = true) : SeqAt.shaped (.list (xs.map fD)) = true := by
  show ((PyData.list (xs.map fD)).canLay0 && decide ((PyData.list (xs.map fD)).depth ≤ 64)) = true
  have e1 : (PyData.list (xs.map fD)).canLay0 = true := canLayAll_flat h
  have e2 : (PyData.list (xs.map fD)).depth = 1 := by
    show PyData.depthAll (xs.map fD) + 1 = 1
    rw [depthAll_flat]
  rw [e1, e2]; rfl
theorem shaped_tup {xs : List V} (h : xs.all okF = true) : SeqAt.shaped (.tuple (xs.map fD)) = true := by
  show ((PyData.tuple (xs.map fD)).canLay0 && decide ((PyData.tuple (xs.map fD)).depth ≤ 64)) = true
  have e1 : (PyData.tuple (xs.map fD)).canLay0 = true := canLayAll_flat h
  have e2 : (PyData.tuple (xs.map fD)).depth = 1 := by
    show PyData.depthAll (xs.map fD) + 1 = 1
    rw [depthAll_flat]
  rw [e1, e2]; rfl
theorem eqvAll_nil : ∀ xs : List V, PyData.eqvAll (xs.map fD) [] = xs.isEmpty
  | [] => rfl
  | _ :: _ => rfl
theorem all_ints (ns : List Int) : (ns.map V.int).all okF = true := by
  rw [List.all_eq_true]
  intro v hv
  obtain ⟨n, _, rfl⟩ := List.mem_map.mp hv
  rfl
theorem all_bls (bs : List Bool) : (bs.map V.bl).all okF = true := by
  rw [List.all_eq_true]
  intro v hv
  obtain ⟨n, _, rfl⟩ := List.mem_map.mp hv
  rfl

/-- xs != [], xs == [] over flat items: the answer -/
theorem ne_nil {K : PySem.W.Frag} {H : Hp} {a p : Addr} {xs : List V} {Q : VK} (ha : SqL K H a xs) (hp : SqL K H p []) (h : xs.all okF = true) (q : Q (.bl (!xs.isEmpty)) H) : rNeD K (.ref a) (.ref p) H Q :=
  ⟨_, _, .lst ha (dpAll_flat h), .lst hp .nil, shaped_list h, rfl, by
    have e : PyData.eqv (.list (xs.map fD)) (.list []) = xs.isEmpty := eqvAll_nil xs
    rw [e]; exact q⟩
theorem eq_nil {K : PySem.W.Frag} {H : Hp} {a p : Addr} {xs : List V} {Q : VK} (ha : SqL K H a xs) (hp : SqL K H p []) (h : xs.all okF = true) (q : Q (.bl xs.isEmpty) H) : rEqD K (.ref a) (.ref p) H Q :=
  ⟨_, _, .lst ha (dpAll_flat h), .lst hp .nil, shaped_list h, rfl, by
    have e : PyData.eqv (.list (xs.map fD)) (.list []) = xs.isEmpty := eqvAll_nil xs
    rw [e]; exact q⟩
theorem pow18 : CPow 10 18 := ⟨by decide, by decide, by decide⟩
theorem pow39 : CPow 10 39 := ⟨by decide, by decide, by decide⟩
theorem mod_range (a : Int) {m : Int} (h : 0 < m) : 0 ≤ a % m ∧ a % m < m := ⟨Int.emod_nonneg _ (by omega), Int.emod_lt_of_pos _ h⟩
end Ami

set_option Elab.async false
set_option linter.all false
set_option maxRecDepth 100000
set_option maxHeartbeats 2000000
namespace Ami
open PySem PySem.Spec PyProof.Rows L2

/-! ### texts of signs, sorted and joined -/
theorem joinOnes (cs : List Nat) : Txt.join ⟨#[]⟩ (cs.map one) = ⟨cs.toArray⟩ := by
  have h := join_nil_signs ⟨cs.toArray⟩
  have e : PyProof.Rows.signs ⟨cs.toArray⟩ = cs.map one := rfl
  rw [e] at h
  show Builtin.Str.glued ⟨#[]⟩ (cs.map one) = _
  rw [StrLaws.glued_eq_join]
  exact h
theorem eraseMap {α β : Type} (f : α → β) : ∀ (l : List α) (n : Nat), (l.map f).eraseIdx n = (l.eraseIdx n).map f
  | [], _ => rfl
  | _ :: _, 0 => rfl
  | a :: l, n + 1 => by
    show f a :: (l.map f).eraseIdx n = f a :: (l.eraseIdx n).map f
    rw [eraseMap f l n]
theorem one_inj {a b : Nat} (h : one a = one b) : a = b := by
  have e : [a] = [b] := congrArg (fun y : Str => y.cps.toList) h
  exact (List.cons.inj e).1
theorem unmap_ones {ys : List Str} {cs : List Nat} (h : ys.Perm (cs.map one)) : ∃ ds : List Nat, ys = ds.map one ∧ ds.Perm cs := by
  have e : ys = (ys.map fun y => y.cps.getD 0 0).map one := by
    rw [List.map_map]
    conv => lhs; rw [← List.map_id ys]
    refine List.map_congr_left fun y hy => ?_
    obtain ⟨c, _, rfl⟩ := List.mem_map.mp (h.mem_iff.mp hy)
    rfl
  refine ⟨ys.map fun y => y.cps.getD 0 0, e, ?_⟩
  have q := h.map fun y => y.cps.getD 0 0
  rw [List.map_map] at q
  have e2 : cs.map ((fun y : Str => y.cps.getD 0 0) ∘ one) = cs := by
    conv => rhs; rw [← List.map_id cs]
    exact List.map_congr_left fun _ _ => rfl
  rw [e2] at q
  exact q
theorem rising_ones : ∀ (p : Nat) (cs : List Nat), risingS (one p) (cs.map one) = true → (p :: cs).Pairwise (· ≤ ·)
  | p, [], _ => List.pairwise_singleton _ _
  | p, x :: r, h => by
    have h' : (!ltCps [x] [p] && risingS (one x) (r.map one)) = true := h
    rw [Bool.and_eq_true] at h'
    have ih := rising_ones x r h'.2
    have hx : p ≤ x := by
      have e : ltCps [x] [p] = false := by simpa using h'.1
      have e2 : (decide (x < p) || (x == p && false)) = false := e
      simp at e2
      omega
    refine List.pairwise_cons.mpr ⟨fun y hy => ?_, ih⟩
    rcases List.mem_cons.mp hy with rfl | hy
    · exact hx
    · exact Nat.le_trans hx ((List.pairwise_cons.mp ih).1 y hy)
theorem sorted_ones : ∀ {cs : List Nat}, sortedS (cs.map one) = true → cs.Pairwise (· ≤ ·)
  | [], _ => .nil
  | x :: r, h => rising_ones x r h
theorem lt_of_le {cs : List Nat} (h : cs.Pairwise (· ≤ ·)) (nd : cs.Nodup) : cs.Pairwise (· < ·) := by
  induction cs with
  | nil => exact .nil
  | cons x r ih =>
    obtain ⟨h1, h2⟩ := List.pairwise_cons.mp h
    obtain ⟨n1, n2⟩ := List.nodup_cons.mp nd
    refine List.pairwise_cons.mpr ⟨fun y hy => ?_, ih h2 n2⟩
    have := h1 y hy
    have : x ≠ y := fun e => n1 (e ▸ hy)
    omega
/-- two rising rows with the same members are one -/
theorem rows_eq {xs ys : List Nat} (hx : xs.Pairwise (· < ·)) (hy : ys.Pairwise (· < ·)) (h : ∀ c, c ∈ xs ↔ c ∈ ys) : xs = ys := by
  have nx : xs.Nodup := hx.imp fun a => Nat.ne_of_lt a
  have ny : ys.Nodup := hy.imp fun a => Nat.ne_of_lt a
  have p : xs.Perm ys := (List.perm_ext_iff_of_nodup nx ny).mpr h
  exact p.eq_of_pairwise (fun a b _ _ h1 h2 => absurd (Nat.lt_trans h1 h2) (Nat.lt_irrefl _)) hx hy

/-- all signs below 128 -/
def Asc (z : Str) : Prop := ∀ c ∈ z.cps.toList, c < 128
theorem Asc.mem {z y : Str} (h : Asc z) (k : ∀ c ∈ y.cps.toList, c ∈ z.cps.toList) : Asc y := fun c hc => h c (k c hc)
theorem Asc.append {z y : Str} (h : Asc z) (k : Asc y) : Asc (z ++ y) := fun c hc => by
  have e : (z ++ y).cps.toList = z.cps.toList ++ y.cps.toList := Array.toList_append
  rw [e] at hc
  exact (List.mem_append.mp hc).elim (h c) (k c)
theorem Asc.cut {z : Str} (h : Asc z) (lo hi : Option Int) : Asc (cutS z lo hi) := h.mem fun c hc => List.mem_of_mem_drop (List.mem_of_mem_take hc)
theorem Asc.rev {z : Str} (h : Asc z) : Asc (revS z) := h.mem fun c hc => List.mem_reverse.mp hc
theorem Asc.rep {z : Str} (h : Asc z) (n : Nat) : Asc (repS z n) := h.mem fun c hc => repS_mem hc
theorem Asc.ok {z : Str} (h : Asc z) : PyData.strOk z = true := by
  show (z.cps.all (· < 0x110000)) = true
  rw [← Array.all_toList, List.all_eq_true]
  intro c hc
  have := h c hc
  exact decide_eq_true (by omega)
theorem Asc.repr {z : Str} (h : Asc z) (hl : z.length ≤ 100000) : (reprText z).length ≤ sizeLine := by
  have := StrLaws.reprText_len z fun c hc => Nat.lt_of_lt_of_le (h c hc) (by decide)
  rw [sizeLine_eq]
  omega
theorem append_length (z y : Str) : (z ++ y).length = z.length + y.length := Str.length_append z y

/-- letters as the laws draw them: two to so many of ten letters, ascending -/
def pool : List Nat := [97, 98, 99, 100, 101, 104, 109, 120, 121, 122]
def Sgn (top : Nat) (z : Str) : Prop := ∃ cs : List Nat, z = ⟨cs.toArray⟩ ∧ cs.Pairwise (· < ·) ∧ 2 ≤ cs.length ∧ cs.length ≤ top ∧ ∀ c ∈ cs, c ∈ pool
theorem Sgn.len {top : Nat} {z : Str} (h : Sgn top z) : 2 ≤ z.length ∧ z.length ≤ top := by
  obtain ⟨cs, rfl, _, h1, h2, _⟩ := h
  have e : (⟨cs.toArray⟩ : Str).length = cs.length := by simp [Str.length]
  omega
theorem Sgn.asc {top : Nat} {z : Str} (h : Sgn top z) : Asc z := by
  obtain ⟨cs, rfl, _, _, _, h3⟩ := h
  intro c hc
  have := h3 c hc
  simp [pool] at this
  omega
/-- letters drawn, as a promise -/
def spSigns : Sp := fun vs H Q _ => ∃ (d c : Addr) (n top : Nat), vs = [.ref d, .int top] ∧ 2 ≤ top ∧ top ≤ 10 ∧ n + 20 < 1000000 ∧ DeckAt H d c n ∧
  ∀ (H' : Hp) (z : Str) (n' : Nat), Sgn top z → n' ≤ n + 11 → DeckAt H' d c n' → But d c H H' → Q (.str z) H'
end Ami

set_option Elab.async false
set_option linter.all false
set_option maxRecDepth 100000
set_option maxHeartbeats 2000000
namespace Ami
open PySem PySem.Spec PyProof.Rows L2
theorem Same.seqT {K : PySem.W.Frag} {H H' : Hp} {a : Addr} {xs : List V} (e : Same H H') (h : SqT K H a xs) : SqT K H' a xs := by
  rcases h with (h | ⟨o, h⟩) | h
  · exact .inl (.inl (e _ _ h))
  · exact .inl (.inr ⟨o, e _ _ h⟩)
  · exact .inr h
theorem TyOf.same {K : PySem.W.Frag} {H H' : Hp} (e : Same H H') {x : V} {t : Value} (h : TyOf K H x t) : TyOf K H' x t := by
  cases h with
  | non => exact .non
  | bl b => exact .bl b
  | int i => exact .int i
  | str z => exact .str z
  | flt z => exact .flt z
  | lst h => exact .lst (e _ _ h)
  | frz h => exact .frz (e _ _ h)
  | tup h => exact .tup (e _ _ h)
  | dK h => exact .dK (e _ _ h)
  | dT h => exact .dT (e _ _ h)
  | ins h cl ha hn htk hm => exact .ins (e _ _ h) cl ha hn htk hm
theorem TyX.same {K : PySem.W.Frag} {H H' : Hp} (e : Same H H') {x : V} {t : Value} (h : TyX K H x t) : TyX K H' x t := by
  cases h with
  | base h => exact .base (TyOf.same e h)
  | byt b => exact .byt b
  | set h => exact .set (e _ _ h)
  | kList h c => exact .kList h c
  | kTuple h c => exact .kTuple h c
  | kDict h c => exact .kDict h c
  | fTuple h => exact .fTuple (e _ _ h)
  | fDict h => exact .fDict (e _ _ h)
theorem Dq.up {K : PySem.W.Frag} {H H' : Hp} (e : Same H H') {v : V} {d : PyData} (h : Dq K H v d) : Dq K H' v d :=
  h.same fun a => ⟨fun _ q => e.seq q, fun _ q => Same.seqT e q, fun _ q => e _ _ q⟩
/-- a row of two answers, as data -/
def D2b (b : Bool) : PyData := .list [.bool b, .bool b]
theorem d2_len (b : Bool) : (D2b b).shown.length ≤ sizeLine := by cases b <;> decide +kernel
theorem d2_at {K : PySem.W.Frag} {H : Hp} {a : Addr} {b : Bool} (h : H a = some (.lst [.bl b, .bl b])) : Dq K H (.ref a) (D2b b) := .lst (SqL.of h) (.cons (.bl b) (.cons (.bl b) .nil))
/-- by keyword, one parameter -/
def g1 {α : Type} : List α → List α → List α
  | [], [t] => [t]
  | _, _ => []
/-- by keywords, two parameters, the second one first -/
def g2 {α : Type} : List α → List α → List α
  | [], [t, l] => [l, t]
  | _, _ => []
theorem g1_rel {vs : List V} {us : List Value} {zs : List V} {ws : List Value} (r : Vals vs us) (rz : Vals zs ws) : Vals (g1 vs zs) (g1 us ws) := by
  cases r with
  | cons a b => exact .nil
  | nil =>
    cases rz with
    | nil => exact .nil
    | cons a b =>
      cases b with
      | nil => exact .cons a .nil
      | cons _ _ => exact .nil
theorem g2_rel {vs : List V} {us : List Value} {zs : List V} {ws : List Value} (r : Vals vs us) (rz : Vals zs ws) : Vals (g2 vs zs) (g2 us ws) := by
  cases r with
  | cons a b => exact .nil
  | nil =>
    cases rz with
    | nil => exact .nil
    | cons a b =>
      cases b with
      | nil => exact .nil
      | cons a2 b2 =>
        cases b2 with
        | nil => exact .cons a2 (.cons a .nil)
        | cons _ _ => exact .nil
end Ami

set_option Elab.async false
set_option linter.all false
set_option maxRecDepth 100000
set_option maxHeartbeats 2000000
namespace Ami
open PySem PySem.Spec PyProof.Rows L2
theorem leaves_texts : ∀ {ss : List Str}, (∀ z ∈ ss, Asc z) → PyData.leavesShortAll 8 ((ss.map V.str).map fD) = true
  | [], _ => rfl
  | z :: ss, h => by
    show ((z.cps.toList.all fun c => decide (c < 16 ^ 8)) && PyData.leavesShortAll 8 ((ss.map V.str).map fD)) = true
    rw [Bool.and_eq_true]
    refine ⟨List.all_eq_true.mpr fun c hc => decide_eq_true (Nat.lt_of_lt_of_le (h z List.mem_cons_self c hc) (by decide)), leaves_texts fun y hy => h y (List.mem_cons_of_mem _ hy)⟩
theorem weight_texts : ∀ ss : List Str, PyData.weightAll ((ss.map V.str).map fD) = (ss.map (fun z => z.length)).sum + ss.length
  | [] => rfl
  | z :: ss => by
    show z.cps.size + 1 + PyData.weightAll ((ss.map V.str).map fD) = z.length + (ss.map (fun z => z.length)).sum + (ss.length + 1)
    rw [weight_texts ss]
    unfold Str.length
    omega
theorem okF_texts {ss : List Str} (h : ∀ z ∈ ss, Asc z) : (ss.map V.str).all okF = true := by
  rw [List.all_eq_true]
  intro v hv
  obtain ⟨z, hz, rfl⟩ := List.mem_map.mp hv
  exact (h z hz).ok
theorem noDict_texts : ∀ ss : List Str, PyData.hasDictAll ((ss.map V.str).map fD) = false
  | [] => rfl
  | z :: ss => by show (false || PyData.hasDictAll ((ss.map V.str).map fD)) = false; rw [noDict_texts ss]; rfl
theorem showable_texts : ∀ ss : List Str, PyData.showableAll ((ss.map V.str).map fD) = true
  | [] => rfl
  | z :: ss => by show (true && PyData.showableAll ((ss.map V.str).map fD)) = true; rw [showable_texts ss]; rfl
theorem shownL_texts {ss : List Str} (h : ∀ z ∈ ss, Asc z) (hl : (ss.map (fun z => z.length)).sum + ss.length ≤ 1000000) : (PyData.list ((ss.map V.str).map fD)).shown.length ≤ sizeLine := by
  have q := PyData.shown_le 8 (Nat.le_refl _) (.list ((ss.map V.str).map fD)) (leaves_texts h)
  have e : PyData.weight (.list ((ss.map V.str).map fD)) = (ss.map (fun z => z.length)).sum + ss.length := weight_texts ss
  rw [e] at q
  rw [sizeLine_eq]
  omega
theorem shownT_texts {ss : List Str} (h : ∀ z ∈ ss, Asc z) (hl : (ss.map (fun z => z.length)).sum + ss.length ≤ 1000000) : (PyData.tuple ((ss.map V.str).map fD)).shown.length ≤ sizeLine := by
  have q := PyData.shown_le 8 (Nat.le_refl _) (.tuple ((ss.map V.str).map fD)) (leaves_texts h)
  have e : PyData.weight (.tuple ((ss.map V.str).map fD)) = (ss.map (fun z => z.length)).sum + ss.length := weight_texts ss
  rw [e] at q
  rw [sizeLine_eq]
  omega
theorem ones_sum (z : Str) : ((letts z).map (fun y => y.length)).sum = z.length := by
  unfold letts
  rw [List.map_map]
  have e : (fun y : Str => y.length) ∘ one = fun _ => 1 := rfl
  rw [e, List.map_const', List.sum_replicate_nat]
  show z.cps.toList.length * 1 = z.cps.size
  rw [Array.length_toList]; omega
theorem letts_asc {z : Str} (h : Asc z) : ∀ y ∈ letts z, Asc y := by
  intro y hy
  obtain ⟨c, hc, rfl⟩ := List.mem_map.mp hy
  intro d hd
  have : d = c := by simpa [one] using hd
  rw [this]
  exact h c hc
end Ami

set_option Elab.async false
set_option linter.all false
set_option maxRecDepth 100000
set_option maxHeartbeats 1000000
/-! enumerate(xs, start=k), of a list and of a tuple. -/
namespace Ami
open PySem PySem.Spec PyProof.Rows L2
section
variable {M : Model} {A : Around} {E : Value → Shared → Prop} {s : Shared} {env : Env}
/-- a built-in class called with keywords -/
theorem callT_kw {pos : Pos} {T : String} {e : Expr} {rest : List Expr} {kws : List Keyword} {Q : Value → Shared → Prop}
    (h : wpAny M A (spliced (backTo pos (starEach (e :: rest) env))) (fun vs s₁ => wpAny M A (evalAll ((backToKw pos (keywordEach kws env)).map (·.2)))
      (fun ks s₂ => wpAny M A (call (.type T) vs (((backToKw pos (keywordEach kws env)).filterMap (·.1)).zip ks)) Q E s₂) E s₁) E s)
    (he : backTo pos (starEach (e :: rest) env) = (false, eval e env) :: backTo pos (starEach rest env))
    (hp : (backTo pos (starEach (e :: rest) env)).any (·.1) = false) (hall : (backToKw pos (keywordEach kws env)).all (·.1.isSome) = true) (hn : (backToKw pos (keywordEach kws env)).any (·.1.isNone) = false) :
    wpAny M A (callWith pos (.type T) [] (backTo pos (starEach (e :: rest) env)) (backToKw pos (keywordEach kws env))) Q E s := by
  unfold callWith
  have g : wpAny M A (evalArgs (.type T) true (backTo pos (starEach (e :: rest) env)) (backToKw pos (keywordEach kws env))) (fun a s₁ => wpAny M A (call (.type T) ([] ++ a.pos) a.kw) Q E s₁) E s := by
    rw [he] at h ⊢
    exact evalArgs_kwB hall h
  refine wpAny_bind (wpAny_holding (wpAny_mono g (fun a s₁ h₁ => wpAny_bind (wpAny_standAt ?_)) fun _ _ z => z))
  simp only [hp, hn, Bool.or_false]
  refine wpAny_bind (wpAny_pure ?_)
  exact wpAny_bind (wpAny_mono h₁ (fun r s₂ hr => wpAny_bind (wpAny_holding (wpAny_point (wpAny_pure hr)))) fun _ _ z => z)
end
/-- the list at a as it stands at each turn, each item with a count from k on in a new pair -/
def IteF (K : PySem.W.Frag) (a : Addr) (k : Int) : It :=
  ⟨fun i H => ∃ (xs : List V) (x : V), SqL K H a xs ∧ xs[i]? = some x, fun i H v H' => ∃ T x, v = .ref T ∧ H T = none ∧ H' = upd H T (.tup [.int (k + (i : Nat)), x]) ∧ ∀ xs, SqL K H a xs → xs[i]? = some x, fun i H => ∃ xs : List V, SqL K H a xs ∧ xs.length = i⟩
theorem apart_IteF {h : Heap} {e it a : Addr} {c : Int} {old : Value} {i : Nat} {items : Array Value} (he : IsEnum h e it c old) (hit : h.IsListIter it a i) (pl : h.IsList a items) :
    e < h.objs.size ∧ it < h.objs.size ∧ e ≠ a ∧ a ≠ it := by
  obtain ⟨o, ho, hc, hd⟩ := hit
  obtain ⟨o2, h2, c2, _⟩ := pl
  refine ⟨Heap.lt_size he, Heap.lt_size ho, fun z => ?_, fun z => ?_⟩
  · rw [z] at he
    rw [he] at h2
    cases h2
    exact absurd (Value.type.inj c2) (by decide)
  · rw [z] at h2
    rw [ho] at h2
    cases h2
    rw [hc] at c2
    exact absurd (Value.type.inj c2) (by decide)
theorem turn_IteF {P : Program} {w : World} {K : PySem.W.Frag} {elts : List Expr} {kk : Nat} {tpos : Pos} (a e it : Addr) (k : Int) :
    Turn P w K (.Tuple elts kk tpos) (IteF K a k) [e, it] e (fun i h => (∃ old, IsEnum h e it (k + (i : Nat)) old) ∧ h.IsListIter it a i ∧ e ≠ it) where
  mem := by simp
  obj := fun i h st b hb => by
    obtain ⟨⟨old, he⟩, ⟨o, ho, hc, hd⟩, _⟩ := st
    rcases (by simpa using hb : b = e ∨ b = it) with z | z
    · subst z
      exact ⟨_, he, fun v q => nomatch q⟩
    · exact ⟨o, z ▸ ho, fun v q => by rw [hd] at q; cases q⟩
  keep := fun i h h' st kp => by
    obtain ⟨⟨old, he⟩, hi, hne⟩ := st
    exact ⟨⟨old, kp e (by simp) _ he⟩, hi.at fun o q => kp it (by simp) o q, hne⟩
  item := by
    intro X hP hw hK hc i pins s σ H E I hf st hg
    subst hP hw hK
    obtain ⟨⟨old, he⟩, hit, hne⟩ := st
    obtain ⟨xs, x, hq, hx⟩ := hg
    obtain ⟨its, rv, p, hz⟩ := I.list hq
    obtain ⟨u, hu, ru⟩ := rv.get hx
    have pl : s.heap.IsList a its.toArray := p.isList
    obtain ⟨hel, hil, nea, nai⟩ := apart_IteF he hit pl
    have D := Draws.list (prog := X.prog) (w := X.w) (A := X.A.in1) (show X.A.in1.handled = none from I.ok.hd hc) it a nai its.toArray
    have hlt : i < its.toArray.size := by
      have := (List.getElem?_eq_some_iff.mp hu).1
      simpa using this
    refine wpAny_pyNext_enum_itemC D he ⟨hit, pl⟩ hlt hne (by simp [hne, nea]) fun y h' tk hy ho hst hT hsz hk => ?_
    have ey : y = u := by
      have hy' : its[i]? = some y := by simpa using hy
      rw [hu] at hy'
      exact (Option.some.inj hy').symm
    subst ey
    refine ⟨_, rfl, wpAny_letOwnedTupleGo_enum (s := { s with heap := h', toks := tk + 1 }) ho fun h'' he' sb => ?_⟩
    have hT2 : h''.get? s.heap.objs.size = some { cls := .type "tuple", data := .seq #[.int (k + (i : Nat)) tk, y] } := (sb.2 _ (Nat.ne_of_gt hel)).trans hT
    have new : ObjOk X.prog X.w (upd H s.heap.objs.size (.tup [.int (k + (i : Nat)), x])) h'' s.heap.objs.size (.tup [.int (k + (i : Nat)), x]) :=
      ⟨by show 2 ≤ sizeLine; decide, [.int (k + (i : Nat)) tk, y], .cons ⟨_, rfl⟩ (.cons ru .nil), ⟨_, hT2, rfl, _, rfl⟩⟩
    have I1 : Inv X pins σ (upd H s.heap.objs.size (.tup [.int (k + (i : Nat)), x])) { s with heap := h'', toks := tk + 1 } :=
      I.turnedNew (ch := [e, it]) (fun b ob hb q => (sb.2 b (fun z => hb (by simp [z]))).trans (hk b ob (fun z => hb (by simp [z])) (fun z => hb (by simp [z])) q)) hf (Nat.le_refl _) new
    refine ⟨.ref s.heap.objs.size, _, I1, rfl, ⟨_, x, rfl, I.hok.fresh (Nat.le_refl _), rfl, fun ys hy => by rw [I.list_inj hy hq]; exact hx⟩, ⟨⟨y, ?_⟩, hst.1.at fun o q => (sb.2 it (Ne.symm hne)).trans q, hne⟩, fun b hb => ?_⟩
    · have e1 : k + ((i + 1 : Nat) : Int) = k + (i : Nat) + 1 := by omega
      rw [e1]; exact he'
    · have hb' : b < s.heap.objs.size := by
        rcases (by simpa using hb : b = e ∨ b = it) with z | z
        · rw [z]; exact hel
        · rw [z]; exact hil
      rw [upd_ne (Nat.ne_of_lt hb')]
      exact (hf b hb).1
  done := by
    intro X hP hw hK hc i pins s σ H E I hf st hg
    subst hP hw hK
    obtain ⟨⟨old, he⟩, hit, hne⟩ := st
    obtain ⟨xs, hq, hx⟩ := hg
    obtain ⟨its, rv, p, hz⟩ := I.list hq
    have pl : s.heap.IsList a its.toArray := p.isList
    obtain ⟨hel, hil, nea, nai⟩ := apart_IteF he hit pl
    have D := Draws.list (prog := X.prog) (w := X.w) (A := X.A.in1) (show X.A.in1.handled = none from I.ok.hd hc) it a nai its.toArray
    have hl : its.toArray.size = i := by
      have := rv.length
      rw [List.size_toArray]; omega
    obtain ⟨f0, f1, f2, f3, f4, f5⟩ := hf it (by simp)
    rw [← hl] at hit
    exact wpAny_pyNext_enum_endD D he ⟨hit, pl⟩ fun h' eb => ⟨rfl, I.turned (t' := s.toks) (fun b o hb q => eb b o hb q) f0 f1 f3 f4 f5⟩
  self := fun A i s Q E st h => by
    obtain ⟨⟨_, he⟩, _⟩ := st
    exact wpAny_pyIter_enum he h
def iEnumF (K : PySem.W.Frag) (ta tk : TA) : TI := fun σ H R => ta σ H fun vs H1 => tk σ H1 fun zs H2 => ∃ (a : Addr) (xs : List V) (k : Int), vs = [.ref a] ∧ zs = [.int k] ∧ SqL K H2 a xs ∧ -1000 ≤ k ∧ k ≤ 1000 ∧ R (IteF K a k) H2
theorem pi_enumF {X : Cx} {e : Expr} {kws : List Keyword} {ta tk : TA} {p pos tpos : Pos} {elts : List Expr} {kk : Nat} (hg : Gl X "enumerate") (hm : X.mg "enumerate" = none) (ha : PA X [e] ta) (hk : PK X kws tk)
    (he : backTo pos (starEach [e] X.env) = (false, eval e X.env) :: backTo pos (starEach [] X.env) := by rfl) (hpl : (backTo pos (starEach [e] X.env)).any (·.1) = false := by rfl)
    (hall : (backToKw pos (keywordEach kws X.env)).all (·.1.isSome) = true := by rfl) (hnone : (backToKw pos (keywordEach kws X.env)).any (·.1.isNone) = false := by rfl) (hks : (backToKw pos (keywordEach kws X.env)).filterMap (·.1) = [Str.ofString "start"] := by rfl) :
    PI X (.Tuple elts kk tpos) (.Call (.Name "enumerate" p) [e] kws pos) (iEnumF X.K ta tk) := by
  refine ⟨fun pins s σ H R I h => ?_⟩
  refine wpAny_Call_Name_kw (ld_blt I hg hm boot_enumerate (callT_kw (thn (ha.run pos pins s σ H _ I h) fun us s1 ⟨vs, H1, I1, r1, q1⟩ => thn (hk.run pos pins s1 σ H1 _ I1 q1) fun ws s2 ⟨zs, H2, I2, r2, q2⟩ => ?_) he hpl hall hnone))
  rw [hks]
  obtain ⟨a, xs, k, rfl, rfl, hq, k0, k1, q⟩ := q2
  cases r1 with
  | cons r rr =>
    cases rr
    cases r
    cases r2 with
    | cons r rr =>
      cases rr
      obtain ⟨t, rfl⟩ := r
      obtain ⟨its, rv, p', hz⟩ := I2.list hq
      have pl : s2.heap.IsList a its.toArray := p'.isList
      refine enum_begins_start (t := t) (begins_list a its.toArray) pl (by omega) (by omega) fun h' he hit hsz hk => wpAny_pyIter_enum he ?_
      have I3 : Inv X pins σ H2 { s2 with heap := h' } := I2.kept (t' := s2.toks) hk
      refine ⟨s2.heap.objs.size + 1, [s2.heap.objs.size + 1, s2.heap.objs.size], _, _, H2, rfl, I3, turn_IteF a (s2.heap.objs.size + 1) s2.heap.objs.size k, ⟨⟨.none, ?_⟩, ⟨_, hit, rfl, rfl⟩, Nat.succ_ne_self _⟩, fun b hb => ?_, q⟩
      · rw [show k + ((0 : Nat) : Int) = k from Int.add_zero k]; exact he
      · have hle : s2.heap.objs.size ≤ b := by
          rcases (by simpa using hb : b = s2.heap.objs.size + 1 ∨ b = s2.heap.objs.size) with z | z
          · rw [z]; exact Nat.le_add_right _ _
          · rw [z]; exact Nat.le_refl _
        exact I2.fpOk hle (I2.hok.fresh hle)
theorem walk_enumF {K : PySem.W.Frag} {a : Addr} {k : Int} {xs : List V} : Walk (IteF K a k) xs.length (fun H => SqL K H a xs) (fun i H v H' => ∃ T x, v = .ref T ∧ H T = none ∧ H' = upd H T (.tup [.int (k + (i : Nat)), x]) ∧ xs[i]? = some x) :=
  ⟨fun i _ hi q => ⟨xs, xs[i], q, by simp [hi]⟩, fun _ q => ⟨xs, q, rfl⟩, fun _ _ _ _ _ q ⟨T, x, e1, e2, e3, e4⟩ => ⟨T, x, e1, e2, e3, e4 xs q⟩⟩
/-- the tuple at a as it stands at each turn, each item with a count from k on in a new pair -/
def IteT (K : PySem.W.Frag) (a : Addr) (k : Int) : It :=
  ⟨fun i H => ∃ (xs : List V) (x : V), SqT K H a xs ∧ xs[i]? = some x, fun i H v H' => ∃ T x, v = .ref T ∧ H T = none ∧ H' = upd H T (.tup [.int (k + (i : Nat)), x]) ∧ ∀ xs, SqT K H a xs → xs[i]? = some x, fun i H => ∃ xs : List V, SqT K H a xs ∧ xs.length = i⟩
theorem apart_IteT {h : Heap} {e it a : Addr} {c : Int} {old : Value} {i : Nat} {items : Array Value} (he : IsEnum h e it c old) (hit : h.IsTupleIter it a i) (pl : h.IsTuple a items) :
    e < h.objs.size ∧ it < h.objs.size ∧ e ≠ a ∧ a ≠ it := by
  obtain ⟨o, ho, hc, hd⟩ := hit
  obtain ⟨o2, h2, c2, _⟩ := pl
  refine ⟨Heap.lt_size he, Heap.lt_size ho, fun z => ?_, fun z => ?_⟩
  · rw [z] at he
    rw [he] at h2
    cases h2
    exact absurd (Value.type.inj c2) (by decide)
  · rw [z] at h2
    rw [ho] at h2
    cases h2
    rw [hc] at c2
    exact absurd (Value.type.inj c2) (by decide)
theorem turn_IteT {P : Program} {w : World} {K : PySem.W.Frag} {elts : List Expr} {kk : Nat} {tpos : Pos} (a e it : Addr) (k : Int) :
    Turn P w K (.Tuple elts kk tpos) (IteT K a k) [e, it] e (fun i h => (∃ old, IsEnum h e it (k + (i : Nat)) old) ∧ h.IsTupleIter it a i ∧ e ≠ it) where
  mem := by simp
  obj := fun i h st b hb => by
    obtain ⟨⟨old, he⟩, ⟨o, ho, hc, hd⟩, _⟩ := st
    rcases (by simpa using hb : b = e ∨ b = it) with z | z
    · subst z
      exact ⟨_, he, fun v q => nomatch q⟩
    · exact ⟨o, z ▸ ho, fun v q => by rw [hd] at q; cases q⟩
  keep := fun i h h' st kp => by
    obtain ⟨⟨old, he⟩, hi, hne⟩ := st
    exact ⟨⟨old, kp e (by simp) _ he⟩, hi.at fun o q => kp it (by simp) o q, hne⟩
  item := by
    intro X hP hw hK hc i pins s σ H E I hf st hg
    subst hP hw hK
    obtain ⟨⟨old, he⟩, hit, hne⟩ := st
    obtain ⟨xs, x, hq, hx⟩ := hg
    obtain ⟨its, rv, p, hz⟩ := I.tuple hq
    obtain ⟨u, hu, ru⟩ := rv.get hx
    have pl : s.heap.IsTuple a its.toArray := (show s.heap.IsTuple a its.toArray from p)
    obtain ⟨hel, hil, nea, nai⟩ := apart_IteT he hit pl
    have D := Draws.tuple (prog := X.prog) (w := X.w) (A := X.A.in1) (show X.A.in1.handled = none from I.ok.hd hc) it a nai its.toArray
    have hlt : i < its.toArray.size := by
      have := (List.getElem?_eq_some_iff.mp hu).1
      simpa using this
    refine wpAny_pyNext_enum_itemC D he ⟨hit, pl⟩ hlt hne (by simp [hne, nea]) fun y h' tk hy ho hst hT hsz hk => ?_
    have ey : y = u := by
      have hy' : its[i]? = some y := by simpa using hy
      rw [hu] at hy'
      exact (Option.some.inj hy').symm
    subst ey
    refine ⟨_, rfl, wpAny_letOwnedTupleGo_enum (s := { s with heap := h', toks := tk + 1 }) ho fun h'' he' sb => ?_⟩
    have hT2 : h''.get? s.heap.objs.size = some { cls := .type "tuple", data := .seq #[.int (k + (i : Nat)) tk, y] } := (sb.2 _ (Nat.ne_of_gt hel)).trans hT
    have new : ObjOk X.prog X.w (upd H s.heap.objs.size (.tup [.int (k + (i : Nat)), x])) h'' s.heap.objs.size (.tup [.int (k + (i : Nat)), x]) :=
      ⟨by show 2 ≤ sizeLine; decide, [.int (k + (i : Nat)) tk, y], .cons ⟨_, rfl⟩ (.cons ru .nil), ⟨_, hT2, rfl, _, rfl⟩⟩
    have I1 : Inv X pins σ (upd H s.heap.objs.size (.tup [.int (k + (i : Nat)), x])) { s with heap := h'', toks := tk + 1 } :=
      I.turnedNew (ch := [e, it]) (fun b ob hb q => (sb.2 b (fun z => hb (by simp [z]))).trans (hk b ob (fun z => hb (by simp [z])) (fun z => hb (by simp [z])) q)) hf (Nat.le_refl _) new
    refine ⟨.ref s.heap.objs.size, _, I1, rfl, ⟨_, x, rfl, I.hok.fresh (Nat.le_refl _), rfl, fun ys hy => by rw [I.tuple_inj hy hq]; exact hx⟩, ⟨⟨y, ?_⟩, hst.1.at fun o q => (sb.2 it (Ne.symm hne)).trans q, hne⟩, fun b hb => ?_⟩
    · have e1 : k + ((i + 1 : Nat) : Int) = k + (i : Nat) + 1 := by omega
      rw [e1]; exact he'
    · have hb' : b < s.heap.objs.size := by
        rcases (by simpa using hb : b = e ∨ b = it) with z | z
        · rw [z]; exact hel
        · rw [z]; exact hil
      rw [upd_ne (Nat.ne_of_lt hb')]
      exact (hf b hb).1
  done := by
    intro X hP hw hK hc i pins s σ H E I hf st hg
    subst hP hw hK
    obtain ⟨⟨old, he⟩, hit, hne⟩ := st
    obtain ⟨xs, hq, hx⟩ := hg
    obtain ⟨its, rv, p, hz⟩ := I.tuple hq
    have pl : s.heap.IsTuple a its.toArray := (show s.heap.IsTuple a its.toArray from p)
    obtain ⟨hel, hil, nea, nai⟩ := apart_IteT he hit pl
    have D := Draws.tuple (prog := X.prog) (w := X.w) (A := X.A.in1) (show X.A.in1.handled = none from I.ok.hd hc) it a nai its.toArray
    have hl : its.toArray.size = i := by
      have := rv.length
      rw [List.size_toArray]; omega
    obtain ⟨f0, f1, f2, f3, f4, f5⟩ := hf it (by simp)
    rw [← hl] at hit
    exact wpAny_pyNext_enum_endD D he ⟨hit, pl⟩ fun h' eb => ⟨rfl, I.turned (t' := s.toks) (fun b o hb q => eb b o hb q) f0 f1 f3 f4 f5⟩
  self := fun A i s Q E st h => by
    obtain ⟨⟨_, he⟩, _⟩ := st
    exact wpAny_pyIter_enum he h
def iEnumT (K : PySem.W.Frag) (ta tk : TA) : TI := fun σ H R => ta σ H fun vs H1 => tk σ H1 fun zs H2 => ∃ (a : Addr) (xs : List V) (k : Int), vs = [.ref a] ∧ zs = [.int k] ∧ SqT K H2 a xs ∧ -1000 ≤ k ∧ k ≤ 1000 ∧ R (IteT K a k) H2
theorem pi_enumT {X : Cx} {e : Expr} {kws : List Keyword} {ta tk : TA} {p pos tpos : Pos} {elts : List Expr} {kk : Nat} (hg : Gl X "enumerate") (hm : X.mg "enumerate" = none) (ha : PA X [e] ta) (hk : PK X kws tk)
    (he : backTo pos (starEach [e] X.env) = (false, eval e X.env) :: backTo pos (starEach [] X.env) := by rfl) (hpl : (backTo pos (starEach [e] X.env)).any (·.1) = false := by rfl)
    (hall : (backToKw pos (keywordEach kws X.env)).all (·.1.isSome) = true := by rfl) (hnone : (backToKw pos (keywordEach kws X.env)).any (·.1.isNone) = false := by rfl) (hks : (backToKw pos (keywordEach kws X.env)).filterMap (·.1) = [Str.ofString "start"] := by rfl) :
    PI X (.Tuple elts kk tpos) (.Call (.Name "enumerate" p) [e] kws pos) (iEnumT X.K ta tk) := by
  refine ⟨fun pins s σ H R I h => ?_⟩
  refine wpAny_Call_Name_kw (ld_blt I hg hm boot_enumerate (callT_kw (thn (ha.run pos pins s σ H _ I h) fun us s1 ⟨vs, H1, I1, r1, q1⟩ => thn (hk.run pos pins s1 σ H1 _ I1 q1) fun ws s2 ⟨zs, H2, I2, r2, q2⟩ => ?_) he hpl hall hnone))
  rw [hks]
  obtain ⟨a, xs, k, rfl, rfl, hq, k0, k1, q⟩ := q2
  cases r1 with
  | cons r rr =>
    cases rr
    cases r
    cases r2 with
    | cons r rr =>
      cases rr
      obtain ⟨t, rfl⟩ := r
      obtain ⟨its, rv, p', hz⟩ := I2.tuple hq
      have pl : s2.heap.IsTuple a its.toArray := (show s2.heap.IsTuple a its.toArray from p')
      refine enum_begins_start (t := t) (begins_tuple a its.toArray) pl (by omega) (by omega) fun h' he hit hsz hk => wpAny_pyIter_enum he ?_
      have I3 : Inv X pins σ H2 { s2 with heap := h' } := I2.kept (t' := s2.toks) hk
      refine ⟨s2.heap.objs.size + 1, [s2.heap.objs.size + 1, s2.heap.objs.size], _, _, H2, rfl, I3, turn_IteT a (s2.heap.objs.size + 1) s2.heap.objs.size k, ⟨⟨.none, ?_⟩, ⟨_, hit, rfl, rfl⟩, Nat.succ_ne_self _⟩, fun b hb => ?_, q⟩
      · rw [show k + ((0 : Nat) : Int) = k from Int.add_zero k]; exact he
      · have hle : s2.heap.objs.size ≤ b := by
          rcases (by simpa using hb : b = s2.heap.objs.size + 1 ∨ b = s2.heap.objs.size) with z | z
          · rw [z]; exact Nat.le_add_right _ _
          · rw [z]; exact Nat.le_refl _
        exact I2.fpOk hle (I2.hok.fresh hle)
theorem walk_enumT {K : PySem.W.Frag} {a : Addr} {k : Int} {xs : List V} : Walk (IteT K a k) xs.length (fun H => SqT K H a xs) (fun i H v H' => ∃ T x, v = .ref T ∧ H T = none ∧ H' = upd H T (.tup [.int (k + (i : Nat)), x]) ∧ xs[i]? = some x) :=
  ⟨fun i _ hi q => ⟨xs, xs[i], q, by simp [hi]⟩, fun _ q => ⟨xs, q, rfl⟩, fun _ _ _ _ _ q ⟨T, x, e1, e2, e3, e4⟩ => ⟨T, x, e1, e2, e3, e4 xs q⟩⟩
end Ami

set_option Elab.async false
set_option linter.all false
set_option maxRecDepth 100000
set_option maxHeartbeats 2000000
/-! repr of data at any depth, dicts too: of a dict alone one must know that it is not the table of the modules, and a tracked one never is -/
namespace Ami
open PySem PySem.Spec PyProof.Rows L2
section
variable {X : Cx} {pins : List (Addr × Obj)} {σ : L2.St} {H : Hp} {s : Shared}
mutual
theorem Dq.shows (I : Inv X pins σ H s) : ∀ {v : V} {d : PyData} (u : Value), Dq X.K H v d → RelV v u → d.showable = true → d.shown.length ≤ sizeLine → ∃ bs, ReadAtMost s.heap d.depth bs ∧ ReprK X.prog X.w bs s.heap d.depth u d.shown
  | _, _, _, .non, r, _, _ => by cases r; exact ⟨[], (fun _ h => nomatch h), by simp only [PyData.shown]; exact .of_is ReprIs.none _ _ _⟩
  | _, _, _, .bl b, r, _, _ => by cases r; exact ⟨[], (fun _ h => nomatch h), by simp only [PyData.shown]; exact .of_is (ReprIs.bool b) _ _ _⟩
  | _, _, _, .int i, r, hs, _ => by
    obtain ⟨t, rfl⟩ := r
    exact ⟨[], (fun _ h => nomatch h), by simp only [PyData.shown]; exact .of_is (ReprIs.int t (by simpa [PyData.showable] using hs)) _ _ _⟩
  | _, _, _, .str x, r, _, hz => by
    obtain ⟨t, rfl⟩ := r
    exact ⟨[], (fun _ h => nomatch h), by simp only [PyData.shown]; exact .of_is (ReprIs.str x t (by simpa only [PyData.shown] using hz)) _ _ _⟩
  | _, _, _, @Dq.lst _ _ a xs ds hl ha, r, hs, hz => by
    cases r
    obtain ⟨its, rv, ⟨o, n, ho, hc, _, hd⟩, _⟩ := I.list hl
    have hzl : (listText (PyData.shownAll ds)).length ≤ sizeLine := by simpa only [PyData.shown] using hz
    obtain ⟨as, hr⟩ := DqAll.reads I its ha rv
    obtain ⟨bs, hb, hk⟩ := DqAll.shows I its ha rv (by simpa [PyData.showable] using hs) fun t ht => Nat.le_trans (listText_mem_le ht) hzl
    have rd : Reads s.heap (.ref a) (.list ds) _ := .list ho hc hd hr
    have deep : PyData.depthAll ds < (PyData.list ds).depth := by simp only [PyData.depth]; omega
    have out : a ∉ bs := not_mem_of_deeper rd deep hb
    refine ⟨a :: bs, ReadAtMost.cons rd (by simp only [PyData.depth]; omega) hb, ?_⟩
    simp only [PyData.depth, PyData.shown]
    cases its with
    | nil =>
      cases hr
      simp only [PyData.shownAll, listText_nil]
      exact ReprK.listEmpty ho hc hd
    | cons x l => exact ReprK.list ho hc hd out (by simpa using hk.length_eq) fun i y e => hk.item i y (by simpa using e)
  | _, _, _, @Dq.tup _ _ a xs ds hl ha, r, hs, hz => by
    cases r
    obtain ⟨its, rv, ⟨o, ho, hc, n, hd⟩, _⟩ := I.tuple hl
    have hzl : (tupleText (PyData.shownAll ds)).length ≤ sizeLine := by simpa only [PyData.shown] using hz
    obtain ⟨as, hr⟩ := DqAll.reads I its ha rv
    obtain ⟨bs, hb, hk⟩ := DqAll.shows I its ha rv (by simpa [PyData.showable] using hs) fun t ht => Nat.le_trans (tupleText_mem_le ht) hzl
    have rd : Reads s.heap (.ref a) (.tuple ds) _ := .tuple ho hc hd hr
    have deep : PyData.depthAll ds < (PyData.tuple ds).depth := by simp only [PyData.depth]; omega
    have out : a ∉ bs := not_mem_of_deeper rd deep hb
    refine ⟨a :: bs, ReadAtMost.cons rd (by simp only [PyData.depth]; omega) hb, ?_⟩
    simp only [PyData.depth, PyData.shown]
    exact ReprK.tuple ho hc hd out hk
  | _, _, _, @Dq.dct _ _ a kvs ds ha h1 h2, r, hs, hz => by
    cases r
    obtain ⟨_, sys, vs, kv, o, es, ep, ho, hx, hd, _, pr, _⟩ := dk_of I.hok ha
    obtain ⟨p1, p2⟩ := pairs_vals pr kv
    have hzl : (dictText (PyData.shownKv ds)).length ≤ sizeLine := by simpa only [PyData.shown] using hz
    obtain ⟨s1, s2⟩ := PyData.showableKv_split ds (by simpa [PyData.showable] using hs)
    obtain ⟨as, q1⟩ := DqAll.reads I _ h1 p1
    obtain ⟨cs, q2⟩ := DqAll.reads I _ h2 p2
    obtain ⟨b1, hb1, k1⟩ := DqAll.shows I _ h1 p1 s1 fun t ht => by
      obtain ⟨p, hp, hl⟩ := PyData.shownKv_key_le ds t ht
      exact Nat.le_trans hl (Nat.le_trans (dictText_mem_le hp) hzl)
    obtain ⟨b2, hb2, k2⟩ := DqAll.shows I _ h2 p2 s2 fun t ht => by
      obtain ⟨p, hp, hl⟩ := PyData.shownKv_val_le ds t ht
      exact Nat.le_trans hl (Nat.le_trans (dictText_mem_le hp) hzl)
    have rd : Reads s.heap (.ref a) (.dict ds) _ := .dict ho hx.1 hd q1 q2
    have both : ReadAtMost s.heap (PyData.depthKv ds) (b1 ++ b2) := (hb1.mono (PyData.depthAll_keys_le ds)).append (hb2.mono (PyData.depthAll_vals_le ds))
    have deep : PyData.depthKv ds < (PyData.dict ds).depth := by simp only [PyData.depth]; omega
    have out : a ∉ b1 ++ b2 := not_mem_of_deeper rd deep both
    refine ⟨a :: (b1 ++ b2), ReadAtMost.cons rd (by simp only [PyData.depth]; omega) both, ?_⟩
    simp only [PyData.depth, PyData.shown, PyData.shownKv_eq]
    refine ReprK.dict ho hx.1 hd sys out (ReprEntriesK.of_two es.toList _ _ ?_ ?_)
    · exact k1.more_le (fun b hb => List.mem_append_left _ hb) (PyData.depthAll_keys_le ds)
    · exact k2.more_le (fun b hb => List.mem_append_right _ hb) (PyData.depthAll_vals_le ds)
theorem DqAll.shows (I : Inv X pins σ H s) : ∀ {vs : List V} {ds : List PyData} (us : List Value), DqAll X.K H vs ds → Vals vs us → PyData.showableAll ds = true → (∀ t ∈ PyData.shownAll ds, t.length ≤ sizeLine) →
    ∃ bs, ReadAtMost s.heap (PyData.depthAll ds) bs ∧ ReprAllK X.prog X.w bs s.heap (PyData.depthAll ds) us (PyData.shownAll ds)
  | _, _, _, .nil, r, _, _ => by cases r; exact ⟨[], (fun _ h => nomatch h), by simp only [PyData.shownAll]; exact .nil⟩
  | _, _, _, @DqAll.cons _ _ v vs d ds h1 h2, r, hs, hz => by
    cases r with
    | cons r1 r2 =>
      have hs' : d.showable = true ∧ PyData.showableAll ds = true := by simpa [PyData.showableAll] using hs
      have z1 := hz _ (by simp only [PyData.shownAll]; exact List.mem_cons_self ..)
      obtain ⟨b1, hb1, k1⟩ := Dq.shows I _ h1 r1 hs'.1 z1
      obtain ⟨b2, hb2, k2⟩ := DqAll.shows I _ h2 r2 hs'.2 fun t ht => hz t (by simp only [PyData.shownAll]; exact List.mem_cons_of_mem _ ht)
      have l1 : d.depth ≤ PyData.depthAll (d :: ds) := by simp only [PyData.depthAll]; exact Nat.le_max_left _ _
      have l2 : PyData.depthAll ds ≤ PyData.depthAll (d :: ds) := by simp only [PyData.depthAll]; exact Nat.le_max_right _ _
      refine ⟨b1 ++ b2, (hb1.mono l1).append (hb2.mono l2), ?_⟩
      have e : PyData.shownAll (d :: ds) = d.shown :: PyData.shownAll ds := by simp only [PyData.shownAll]
      rw [e]
      exact .cons ((k1.more fun b hb => List.mem_append_left _ hb).level_le l1) (k2.more_le (fun b hb => List.mem_append_right _ hb) l2)
end
end
section
variable {X : Cx}
/-- repr(x), of data at any depth -/
def rReprA (K : PySem.W.Frag) : List V → Hp → VK → Prop := fun xs H Q => ∃ (x : V) (d : PyData), xs = [x] ∧ Dq K H x d ∧ d.showable = true ∧ d.shown.length ≤ sizeLine ∧ d.depth ≤ 50 ∧ Q (.str d.shown) H
theorem cr_reprA (hg : X.A.guards = some []) (hu : X.A.units + 64 < cLine) : CallR X (.builtin "repr") (rReprA X.K) := by
  intro pins s σ H xs us Q I r h
  obtain ⟨x, d, rfl, hd, hs, hz, hdep, q⟩ := h
  obtain ⟨u, rfl, rx⟩ := vals1 r
  have fin : ∀ (h' : Heap) (t : Tok) (tk : Nat), (∀ b o, s.heap.get? b = some o → h'.get? b = some o) → EP X pins σ Q (.str d.shown t) { s with heap := h', toks := tk } :=
    fun h' t tk k => ⟨.str d.shown, H, I.kept (t' := tk) k, ⟨t, rfl⟩, q⟩
  have same : EP X pins σ Q (.str d.shown s.toks) { s with toks := s.toks + 1 } := fin s.heap s.toks (s.toks + 1) fun _ _ e => e
  cases hd with
  | non => cases rx; exact PySem.P.repr_of_none same
  | bl b => cases rx; exact PySem.P.repr_of_bool same
  | int i =>
    obtain ⟨t, rfl⟩ := rx
    exact PySem.P.repr_of_int (of_decide_eq_true hs) same
  | str y =>
    obtain ⟨t, rfl⟩ := rx
    exact PySem.P.repr_of_str same hz
  | @lst a xs ds hl ha =>
    cases rx
    obtain ⟨its, rv, ⟨o, n, ho, hc, _, hd⟩, _⟩ := I.list hl
    have hzl : (listText (PyData.shownAll ds)).length ≤ sizeLine := by simpa only [PyData.shown] using hz
    obtain ⟨as, hr⟩ := DqAll.reads I its ha rv
    obtain ⟨bs, hb, hk⟩ := DqAll.shows I its ha rv (by simpa [PyData.showable] using hs) fun t ht => Nat.le_trans (listText_mem_le ht) hzl
    have out : a ∉ bs := not_mem_of_deeper (.list ho hc hd hr) (by simp only [PyData.depth]; omega) hb
    simp only [PyData.depth] at hdep
    simp only [PyData.shown] at fin
    refine call_repr_slot (by omega) ⟨o, ho, hc⟩ PySem.F.slot_list_repr.toG ?_
    cases its with
    | nil =>
      cases hr
      simp only [PyData.shownAll, listText_nil] at fin
      exact call_list_repr_empty ⟨o, ho, hc⟩ ho hd ⟨_, _, rfl, fin s.heap _ _ fun _ _ e => e⟩
    | cons y l =>
      exact call_list_reprK ho hc hd out (by simpa using hk.length_eq) (fun i y e => hk.item i y (by simpa using e)) hg (fun b _ => Clear.nil b) (by show X.A.units + 1 + _ < _; omega) (fun _ _ e => e) (fun h' t tk k => ⟨_, _, rfl, fin h' t tk k⟩) hzl
  | @tup a xs ds hl ha =>
    cases rx
    obtain ⟨its, rv, ⟨o, ho, hc, n, hd⟩, _⟩ := I.tuple hl
    have hzl : (tupleText (PyData.shownAll ds)).length ≤ sizeLine := by simpa only [PyData.shown] using hz
    obtain ⟨as, hr⟩ := DqAll.reads I its ha rv
    obtain ⟨bs, hb, hk⟩ := DqAll.shows I its ha rv (by simpa [PyData.showable] using hs) fun t ht => Nat.le_trans (tupleText_mem_le ht) hzl
    have out : a ∉ bs := not_mem_of_deeper (.tuple ho hc hd hr) (by simp only [PyData.depth]; omega) hb
    simp only [PyData.depth] at hdep
    simp only [PyData.shown] at fin
    refine call_repr_slot (by omega) ⟨o, ho, hc⟩ PySem.F.slot_tuple_repr ?_
    exact call_tuple_reprK ho hc hd out hk hg (fun b _ => Clear.nil b) (by show X.A.units + 1 + _ < _; omega) (fun _ _ e => e) (fun h' t tk k => ⟨_, _, rfl, fin h' t tk k⟩) hzl
  | @dct a kvs ds ha h1 h2 =>
    cases rx
    have full : Dq X.K H (.ref a) (.dict ds) := .dct ha h1 h2
    obtain ⟨_, sys, vs, kv, o, es, ep, ho, hx, hd, _, pr, _⟩ := dk_of I.hok ha
    obtain ⟨p1, p2⟩ := pairs_vals pr kv
    have hzl : (dictText (PyData.shownKv ds)).length ≤ sizeLine := by simpa only [PyData.shown] using hz
    obtain ⟨s1, s2⟩ := PyData.showableKv_split ds (by simpa [PyData.showable] using hs)
    obtain ⟨as, q1⟩ := DqAll.reads I _ h1 p1
    obtain ⟨cs, q2⟩ := DqAll.reads I _ h2 p2
    obtain ⟨b1, hb1, k1⟩ := DqAll.shows I _ h1 p1 s1 fun t ht => by
      obtain ⟨p, hp, hl⟩ := PyData.shownKv_key_le ds t ht
      exact Nat.le_trans hl (Nat.le_trans (dictText_mem_le hp) hzl)
    obtain ⟨b2, hb2, k2⟩ := DqAll.shows I _ h2 p2 s2 fun t ht => by
      obtain ⟨p, hp, hl⟩ := PyData.shownKv_val_le ds t ht
      exact Nat.le_trans hl (Nat.le_trans (dictText_mem_le hp) hzl)
    have both : ReadAtMost s.heap (PyData.depthKv ds) (b1 ++ b2) := (hb1.mono (PyData.depthAll_keys_le ds)).append (hb2.mono (PyData.depthAll_vals_le ds))
    have out : a ∉ b1 ++ b2 := not_mem_of_deeper (.dict ho hx.1 hd q1 q2) (by simp only [PyData.depth]; omega) both
    simp only [PyData.depth] at hdep
    simp only [PyData.shown, PyData.shownKv_eq] at fin
    refine call_repr_slot (by omega) ⟨o, ho, hx.1⟩ PySem.F.slot_dict_repr ?_
    have e1 := k1.more_le (fun b hb => List.mem_append_left b2 hb) (PyData.depthAll_keys_le ds)
    have e2 := k2.more_le (fun b hb => List.mem_append_right b1 hb) (PyData.depthAll_vals_le ds)
    exact call_dict_reprK ho hx.1 hd sys out (ReprEntriesK.of_two es.toList _ _ e1 e2) hg (fun b _ => Clear.nil b) (by show X.A.units + 1 + _ < _; omega) (fun _ _ e => e) (fun h' t tk k => ⟨_, _, rfl, fin h' t tk k⟩) (by rw [← PyData.shownKv_eq]; exact hzl)
end
end Ami

set_option Elab.async false
set_option linter.all false
/-! Two lists, item by item. -/
namespace Ami
open PySem PySem.Spec PyProof.Rows L2
inductive All2 {α β : Type} (R : α → β → Prop) : List α → List β → Prop
  | nil : All2 R [] []
  | cons {a : α} {b : β} {as : List α} {bs : List β} : R a b → All2 R as bs → All2 R (a :: as) (b :: bs)
section
variable {α β : Type} {R S : α → β → Prop}
theorem All2.imp (h : ∀ a b, R a b → S a b) : ∀ {as : List α} {bs : List β}, All2 R as bs → All2 S as bs
  | _, _, .nil => .nil
  | _, _, .cons r t => .cons (h _ _ r) (t.imp h)
theorem All2.app {cs : List α} {ds : List β} : ∀ {as : List α} {bs : List β}, All2 R as bs → All2 R cs ds → All2 R (as ++ cs) (bs ++ ds)
  | _, _, .nil, k => k
  | _, _, .cons r t, k => .cons r (t.app k)
theorem All2.len : ∀ {as : List α} {bs : List β}, All2 R as bs → as.length = bs.length
  | _, _, .nil => rfl
  | _, _, .cons _ t => congrArg (· + 1) t.len
theorem All2.at : ∀ {as : List α} {bs : List β} {i : Nat} {a : α}, All2 R as bs → as[i]? = some a → ∃ b, bs[i]? = some b ∧ R a b
  | _, _, _, _, .nil, e => nomatch e
  | _, _, 0, _, .cons r t, e => by cases e; exact ⟨_, rfl, r⟩
  | _, _, i + 1, _, .cons r t, e => t.at (i := i) e
theorem All2.at' : ∀ {as : List α} {bs : List β} {i : Nat} {b : β}, All2 R as bs → bs[i]? = some b → ∃ a, as[i]? = some a ∧ R a b
  | _, _, _, _, .nil, e => nomatch e
  | _, _, 0, _, .cons r t, e => by cases e; exact ⟨_, rfl, r⟩
  | _, _, i + 1, _, .cons r t, e => t.at' (i := i) e
theorem All2.take (n : Nat) : ∀ {as : List α} {bs : List β}, All2 R as bs → All2 R (as.take n) (bs.take n)
  | _, _, .nil => by rw [List.take_nil, List.take_nil]; exact .nil
  | _, _, .cons r t => by
    cases n with
    | zero => exact .nil
    | succ n => exact .cons r (t.take n)
theorem All2.rep {as : List α} {bs : List β} (h : All2 R as bs) : ∀ n, All2 R (List.replicate n as).flatten (List.replicate n bs).flatten
  | 0 => .nil
  | n + 1 => by
    rw [List.replicate_succ, List.replicate_succ, List.flatten_cons, List.flatten_cons]
    exact h.app (h.rep n)
end
theorem All2.map {α β γ : Type} {R : α → β → Prop} (f : γ → α) (g : γ → β) : ∀ {l : List γ}, (∀ x ∈ l, R (f x) (g x)) → All2 R (l.map f) (l.map g)
  | [], _ => .nil
  | x :: l, h => .cons (h x List.mem_cons_self) (All2.map f g fun y hy => h y (List.mem_cons_of_mem _ hy))
theorem All2.drop {α β : Type} {R : α → β → Prop} (n : Nat) : ∀ {as : List α} {bs : List β}, All2 R as bs → All2 R (as.drop n) (bs.drop n)
  | _, _, .nil => by rw [List.drop_nil, List.drop_nil]; exact .nil
  | _, _, .cons r t => by
    cases n with
    | zero => exact .cons r t
    | succ n => exact t.drop n
theorem All2.mem1 {α β : Type} {R : α → β → Prop} {as : List α} {bs : List β} (h : All2 R as bs) {a : α} (ha : a ∈ as) : ∃ b ∈ bs, R a b := by
  obtain ⟨i, hi, rfl⟩ := List.getElem_of_mem ha
  obtain ⟨b, hb, r⟩ := h.at (List.getElem?_eq_getElem hi)
  exact ⟨b, List.mem_of_getElem? hb, r⟩
theorem All2.mem2 {α β : Type} {R : α → β → Prop} {as : List α} {bs : List β} (h : All2 R as bs) {b : β} (hb : b ∈ bs) : ∃ a ∈ as, R a b := by
  obtain ⟨i, hi, rfl⟩ := List.getElem_of_mem hb
  obtain ⟨a, ha, r⟩ := h.at' (List.getElem?_eq_getElem hi)
  exact ⟨a, List.mem_of_getElem? ha, r⟩
theorem keep_put {H H' : Hp} {a : Addr} {o : HO} (h : Same H H') (ha : H a = none) : Same H (upd H' a o) := fun b p hb => by
  have ne : b ≠ a := fun e => by rw [e, ha] at hb; exact nomatch hb
  rw [upd_ne ne]
  exact h b p hb
theorem take_snoc {α : Type} {l : List α} {i : Nat} {c : α} (h : l[i]? = some c) : l.take (i + 1) = l.take i ++ [c] := by rw [List.take_succ, h]; rfl
end Ami

set_option Elab.async false
set_option linter.all false
set_option maxRecDepth 100000
set_option maxHeartbeats 2000000
/-! Sets of tuples of ints, texts and such tuples: what is asked of a member. -/
namespace Ami
open PySem PySem.Spec PyProof.Rows L2
/-- the tuple at b is k -/
abbrev Nst (P : Program) (w : World) (h : Heap) (b : Addr) (k : NestedKey) : Prop := (nestedKind P w).is h k b
/-- the question is answered so, at no cost -/
def Says (P : Program) (w : World) (m : Sem Bool) (b : Bool) (s : Shared) : Prop := ∀ (A : Around) (E : Value → Shared → Prop) (Q : Bool → Shared → Prop), Q b s → wpAny (model P w) A m Q E s
/-- the question is answered, at no cost -/
def Tells (P : Program) (w : World) (m : Sem Bool) (s : Shared) : Prop := ∀ (A : Around) (E : Value → Shared → Prop) (Q : Bool → Shared → Prop), (∀ b, Q b s) → wpAny (model P w) A m Q E s
section
variable {P : Program} {w : World}
theorem cls_plain {n : Nat} {v : Value} {s : Shared} (h : ∀ b, v ≠ .ref b) : Says P w (ofAClassStatement n v) false s := fun A E Q q => by
  have e : ofAClassStatement n v = pure false := by
    cases v with
    | ref b => exact absurd rfl (h b)
    | _ => cases n <;> rfl
  rw [e]
  exact wpAny_pure q
theorem cls_tup {n : Nat} {b : Addr} {o : Obj} {vs : Array Value} {m : Nat} {s : Shared} (ho : s.heap.get? b = some o) (hc : o.cls = .type "tuple") (hd : o.data = .seq vs m) (all : ∀ v ∈ vs.toList, Says P w (ofAClassStatement n v) false s) :
    Says P w (ofAClassStatement (n + 1) (.ref b)) false s := fun A E Q q => by
  have ty : s.TypeIs (.ref b) "tuple" := ⟨o, ho, hc⟩
  unfold ofAClassStatement
  refine wpAny_bind (wpAny_typeOf ty ?_)
  have e : (("tuple" : String) == "tuple") = true := by decide
  simp only [e, if_true, Bool.not_true, Bool.false_eq_true, if_false]
  try refine wpAny_bind (wpAny_pure ?_)
  try simp only [Bool.not_true, Bool.false_eq_true, if_false]
  refine wpAny_bind (wpAny_seqItems ho hd (wpAny_bind ?_))
  show wpAny _ _ (forIn vs _ _) _ _ s
  rw [← Array.forIn_toList]
  refine wpAny_forIn_list _ (fun left r s1 => s1 = s ∧ r.1 = none ∧ ∀ v ∈ left, v ∈ vs.toList) _ (fun v left r s1 z => ?_) (fun r s1 z => ?_) _ _ ⟨rfl, rfl, fun v hv => hv⟩
  · obtain ⟨rfl, hr, hl⟩ := z
    refine wpAny_bind (all v (hl v List.mem_cons_self) _ _ _ ?_)
    simp only [Bool.false_eq_true, if_false]
    exact wpAny_pure ⟨rfl, rfl, fun u hu => hl u (List.mem_cons_of_mem _ hu)⟩
  · obtain ⟨r1, r2⟩ := r
    obtain ⟨rfl, hr, _⟩ := z
    simp only at hr
    subst hr
    exact wpAny_pure q
mutual
theorem cls_nst : ∀ (k : NestedKey) (v : Value) (n : Nat) (s : Shared), NestedIs s.heap k v → k.depth ≤ n → Says P w (ofAClassStatement n v) false s
  | .none, _, _, _, x, _ => by cases x; exact cls_plain fun _ z => nomatch z
  | .num _, _, _, _, x, _ => by cases x <;> exact cls_plain fun _ z => nomatch z
  | .text _, _, _, _, x, _ => by cases x; exact cls_plain fun _ z => nomatch z
  | .tup ks, _, n, s, x, hn => by
    cases x with
    | tup ho hc hd hk =>
      have hn : NestedKey.depthAll ks + 1 ≤ n := hn
      obtain ⟨m, rfl⟩ : ∃ m, n = m + 1 := ⟨n - 1, by omega⟩
      exact cls_tup ho hc hd (cls_nsts ks _ m s hk (by omega))
theorem cls_nsts : ∀ (ks : List NestedKey) (vs : List Value) (n : Nat) (s : Shared), NestedAll s.heap ks vs → NestedKey.depthAll ks ≤ n → ∀ v ∈ vs, Says P w (ofAClassStatement n v) false s
  | [], _, _, _, x, _ => by cases x; exact fun v hv => nomatch hv
  | k :: ks, _, n, s, x, hn => by
    cases x with
    | cons x1 x2 =>
      have hn : max k.depth (NestedKey.depthAll ks) ≤ n := hn
      intro v hv
      rcases List.mem_cons.mp hv with e | hv
      · rw [e]; exact cls_nst k _ n s x1 (by omega)
      · exact cls_nsts ks _ n s x2 (by omega) v hv
end
theorem byv_tup {n : Nat} {b : Addr} {o : Obj} {vs : Array Value} {m : Nat} {s : Shared} (ho : s.heap.get? b = some o) (hc : o.cls = .type "tuple") (hd : o.data = .seq vs m) (all : ∀ v ∈ vs.toList, Tells P w (hashByValue n v) s) :
    Tells P w (hashByValue (n + 1) (.ref b)) s := fun A E Q q => by
  have ty : s.TypeIs (.ref b) "tuple" := ⟨o, ho, hc⟩
  unfold hashByValue
  refine wpAny_bind (wpAny_specialOf ty F.slot_tuple_hash.lookup ?_)
  show wpAny _ _ (seqItems? (.ref b) >>= _) _ _ s
  refine wpAny_bind (wpAny_seqItems ho hd (wpAny_bind ?_))
  show wpAny _ _ (forIn vs _ _) _ _ s
  rw [← Array.forIn_toList]
  refine wpAny_forIn_list _ (fun left r s1 => s1 = s ∧ r.1 = none ∧ ∀ v ∈ left, v ∈ vs.toList) _ (fun v left r s1 z => ?_) (fun r s1 z => ?_) _ _ ⟨rfl, rfl, fun v hv => hv⟩
  · obtain ⟨rfl, hr, hl⟩ := z
    refine wpAny_bind (all v (hl v List.mem_cons_self) _ _ _ fun b' => ?_)
    cases b' with
    | true =>
      simp only [Bool.not_true, Bool.false_eq_true, if_false]
      exact wpAny_pure ⟨rfl, rfl, fun u hu => hl u (List.mem_cons_of_mem _ hu)⟩
    | false =>
      simp only [Bool.not_false, if_true]
      exact wpAny_pure (wpAny_pure (q _))
  · obtain ⟨r1, r2⟩ := r
    obtain ⟨rfl, hr, _⟩ := z
    simp only at hr
    subst hr
    exact wpAny_pure (q _)
mutual
theorem byv_nst : ∀ (k : NestedKey) (v : Value) (n : Nat) (s : Shared), NestedIs s.heap k v → Tells P w (hashByValue n v) s
  | .none, _, n, _, x => by cases x; exact fun A E Q q => by cases n <;> exact wpAny_pure (q _)
  | .num _, _, n, _, x => by cases x <;> exact fun A E Q q => by cases n <;> exact wpAny_pure (q _)
  | .text _, _, n, _, x => by cases x; exact fun A E Q q => by cases n <;> exact wpAny_pure (q _)
  | .tup ks, _, 0, s, x => by cases x with | tup ho hc hd hk => exact fun A E Q q => wpAny_pure (q _)
  | .tup ks, _, n + 1, s, x => by cases x with | tup ho hc hd hk => exact byv_tup ho hc hd (byv_nsts ks _ n s hk)
theorem byv_nsts : ∀ (ks : List NestedKey) (vs : List Value) (n : Nat) (s : Shared), NestedAll s.heap ks vs → ∀ v ∈ vs, Tells P w (hashByValue n v) s
  | [], _, _, _, x => by cases x; exact fun v hv => nomatch hv
  | k :: ks, _, n, s, x => by
    cases x with
    | cons x1 x2 =>
      intro v hv
      rcases List.mem_cons.mp hv with e | hv
      · rw [e]; exact byv_nst k _ n s x1
      · exact byv_nsts ks _ n s x2 v hv
end
/-- a search among such tuples shows nothing -/
theorem unseen {k : NestedKey} {b : Addr} {s : Shared} (hk : Nst P w s.heap b k) {ys : List Value} (hy : ∀ y ∈ ys, ∃ k' c, y = Value.ref c ∧ Nst P w s.heap c k') : Says P w (searchCouldBeSeen (.ref b) ys) false s := fun A E Q q => by
  unfold searchCouldBeSeen
  refine wpAny_bind ?_
  refine wpAny_forIn_list _ (fun left r s1 => s1 = s ∧ r.1 = none ∧ ∀ y ∈ left, y ∈ ys) _ (fun v left r s1 z => ?_) (fun r s1 z => ?_) _ _ ⟨rfl, rfl, fun v hv => hv⟩
  · obtain ⟨rfl, hr, hl⟩ := z
    obtain ⟨k', c, rfl, hc⟩ := hy v (hl v List.mem_cons_self)
    have on : ∀ u ∈ left, u ∈ ys := fun u hu => hl u (List.mem_cons_of_mem _ hu)
    dsimp only
    by_cases same : (b == c || (carriedByValue (.ref b) && carriedByValue (.ref c))) = true
    · exact wp_if_pos same (wpAny_pure ⟨rfl, rfl, on⟩)
    · refine wp_if_neg same ?_
      refine wpAny_bind ((nestedKind P w).quiet hk ?_)
      simp only [Bool.not_true, Bool.false_eq_true, if_false]
      refine wpAny_bind ((nestedKind P w).quiet hc ?_)
      simp only [Bool.not_true, Bool.false_eq_true, if_false]
      refine wpAny_bind (cls_nst k _ 8 _ hk.1 hk.2 _ _ _ ?_)
      simp only [Bool.false_eq_true, if_false]
      refine wpAny_bind (cls_nst k' _ 8 _ hc.1 hc.2 _ _ _ ?_)
      simp only [Bool.false_eq_true, if_false]
      exact wpAny_pure ⟨rfl, rfl, on⟩
  · obtain ⟨r1, r2⟩ := r
    obtain ⟨rfl, hr, _⟩ := z
    simp only at hr
    subst hr
    exact wpAny_pure q
end
end Ami

set_option Elab.async false
set_option linter.all false
set_option maxRecDepth 100000
set_option maxHeartbeats 2000000
/-! Sets of such tuples: the search. -/
namespace Ami
open PySem PySem.Spec PyProof.Rows L2
abbrev nhash (w : World) (k : NestedKey) : Int := k.hash w
/-- a member's row -/
def nrow (w : World) (p : Addr × NestedKey) : Int × Value := (nhash w p.2, .ref p.1)
/-- the set at a has the rows L -/
structure NSet (P : Program) (w : World) (h : Heap) (a : Addr) (L : List (Addr × NestedKey)) (es : Array (Int × Value)) (ep : Nat) (t : SetTable) : Prop where
  ob : ∃ o, h.get? a = some o ∧ o.ExactSet ∧ o.data = .set es ep t
  rows : es.toList = L.map (nrow w)
  tab : TabOk t (L.map fun p => nhash w p.2)
  nd : (L.map (·.2)).Nodup
  led : w.params.followText "set-order" = true ∨ t.led = true
  room : L.length * 5 < t.mask * 3
  few : L.length < 64
/-- the members stand -/
def Mems (P : Program) (w : World) (h : Heap) (L : List (Addr × NestedKey)) : Prop := ∀ p ∈ L, Nst P w h p.1 p.2
section
variable {P : Program} {w : World} {A : Around} {E : Value → Shared → Prop} {s : Shared} {a : Addr} {L : List (Addr × NestedKey)} {es : Array (Int × Value)} {ep : Nat} {t : SetTable}
theorem rows_size (h : es.toList = L.map (nrow w)) : es.size = L.length := by
  rw [← Array.length_toList, h, List.length_map]
theorem rows_at (h : es.toList = L.map (nrow w)) {i : Nat} {p : Addr × NestedKey} (hp : L[i]? = some p) : es[i]? = some (nhash w p.2, .ref p.1) := by
  rw [← Array.getElem?_toList, h, List.getElem?_map, hp]; rfl
theorem fits_of (h : es.toList = L.map (nrow w)) (hs : t.place.size = L.length) (hd : t.dummies = #[]) (hm : L.length ≤ t.mask) : t.fits es.size = true := by
  unfold SetTable.fits SetTable.fill
  rw [hd, rows_size h, Bool.and_eq_true, beq_iff_eq, decide_eq_true_eq]
  exact ⟨hs, by rw [hs]; exact hm⟩
theorem NSet.size (R : NSet P w s.heap a L es ep t) : t.place.size = L.length := R.tab.sz.trans (List.length_map ..)
theorem NSet.fits (R : NSet P w s.heap a L es ep t) : t.fits es.size = true := fits_of R.rows R.size R.tab.dm (by have := R.room; omega)
theorem NSet.stays (R : NSet P w s.heap a L es ep t) : ¬ t.gaveWay = true := by
  unfold SetTable.gaveWay
  rw [mask_odd R.tab.mok]
  decide
theorem no_dummy (m : Nat) : ∀ (n : Nat) (p : SetTable.Probe), p.dummy = none → (nth m p n).dummy = none
  | 0, _, h => h
  | n + 1, p, h => no_dummy m n (adv m p) (by unfold adv; split <;> exact h)
/-- from the c-th step on, where none of the steps ahead holds k -/
theorem n_from (R : NSet P w s.heap a L es ep t) (M : Mems P w s.heap L) {x : Addr} {k : NestedKey} (hx : Nst P w s.heap x k) (hu : A.units + 8 < cLine) {K : Nat} (hKf : K < 10 * SetTable.turns t.mask)
    (hK : way t.mask (nhash w k) K ∉ t.place.toList) (hb : ∀ c, c < K → way t.mask (nhash w k) c ∈ t.place.toList) {Q : SetFound → Shared → Prop}
    (yes : k ∈ L.map (·.2) → Q (.there none) s) (no : k ∉ L.map (·.2) → Q (.free (way t.mask (nhash w k) K) false) s) :
    ∀ (f c : Nat) (stand : Option SetTable.Probe), stand.getD (t.probeStart (nhash w k)) = nth t.mask (t.probeStart (nhash w k)) c → c ≤ K → K < c + f →
      (∀ (c' i : Nat) (p : Addr × NestedKey), c' < c → t.place.toList[i]? = some (way t.mask (nhash w k) c') → L[i]? = some p → p.2 ≠ k) → wpAny (model P w) A (setSearchFrom a (.ref x) (nhash w k) true f stand) Q E s := by
  intro f
  induction f with
  | zero => intro c stand _ h1 h2; omega
  | succ f ih =>
    intro c stand st c1 c2 past
    obtain ⟨o, ho, _, hd⟩ := R.ob
    have sh : ∀ q, nth t.mask (nth t.mask (t.probeStart (nhash w k)) c) q = nth t.mask (t.probeStart (nhash w k)) (c + q) := fun q => (nth_add t.mask c _ q).symm
    have at' : ∀ q, (nth t.mask (nth t.mask (t.probeStart (nhash w k)) c) q).j = way t.mask (nhash w k) (c + q) := fun q => congrArg SetTable.Probe.j (sh q)
    have key : ∀ (i : Nat) (p : Addr × NestedKey), L[i]? = some p → (es[i]?.map (·.1)).getD 0 = nhash w p.2 := fun i p hp => by rw [rows_at R.rows hp]; rfl
    rw [setSearchFrom_succ]
    refine wpAny_bind (wpAny_setState_of ho hd R.fits ?_)
    dsimp only
    refine wp_if_neg R.stays ?_
    try refine wpAny_bind (wpAny_pure ?_)
    rw [st]
    have end' : c + (K - c) = K := by omega
    rcases go_spec t R.tab.ris R.tab.dm (fun i => (es[i]?.map (·.1)).getD 0) (nhash w k) (10 * SetTable.turns t.mask) (K - c) (nth t.mask (t.probeStart (nhash w k)) c) (no_dummy t.mask c _ rfl) (by omega)
      (fun q hq => by rw [at']; exact hb _ (by omega)) (by rw [at', end']; exact hK) with ⟨q, i, hq, hi, hh, ahead, pr⟩ | ⟨ahead, pr⟩
    · rw [at'] at hi
      have pr' : t.probe (fun i => (es[i]?.map (·.1)).getD 0) (nhash w k) (nth t.mask (t.probeStart (nhash w k)) c) = some (.candidate (way t.mask (nhash w k) (c + q)) i (nth t.mask (t.probeStart (nhash w k)) (c + (q + 1)))) := by
        rw [← at', ← sh]; exact pr
      rw [pr']
      dsimp only
      obtain ⟨p, hp⟩ : ∃ p, L[i]? = some p := by
        have h1 : i < t.place.toList.length := (List.getElem?_eq_some_iff.mp hi).1
        rw [Array.length_toList, R.size] at h1
        exact ⟨_, List.getElem?_eq_getElem h1⟩
      have pm : p ∈ L := List.mem_of_getElem? hp
      have live : t.slot (way t.mask (nhash w k) (c + q)) = .live i := slot_live R.tab.ris hi
      have rest : wpAny (model P w) A (searchRest a (.ref x) (nhash w k) true f es t (way t.mask (nhash w k) (c + q)) i (nth t.mask (t.probeStart (nhash w k)) (c + (q + 1)))) Q E s := by
        unfold searchRest
        rw [rows_at R.rows hp]
        refine wpAny_bind (wpAny_holding ((nestedKind P w).eqBool hu (M p pm) hx (wpAny_bind (wpAny_setState_of ho hd R.fits ?_))))
        dsimp only
        by_cases hk : p.2 = k
        · exact wp_if_pos (by simp [hk]) (wpAny_pure (yes (List.mem_map.mpr ⟨p, pm, hk⟩)))
        refine wp_if_neg (by simp [hk]) ?_
        try refine wpAny_bind (wpAny_pure ?_)
        rw [sameMem]
        simp only [if_true, live, rows_at R.rows hp]
        refine wpAny_bind (wpAny_isSame_ref_self (wpAny_bind (wpAny_pure ?_)))
        simp only [if_true]
        refine wp_if_neg (by simp [hk]) (ih (c + (q + 1)) _ rfl (by omega) (by omega) fun c' j r hc hj hr e => ?_)
        rcases Nat.lt_trichotomy c' (c + q) with z | z | z
        · rcases Nat.lt_or_ge c' c with y | y
          · exact past c' j r y hj hr e
          · refine ahead (c' - c) j (by omega) (by rw [at', show c + (c' - c) = c' by omega]; exact hj) ?_
            show (es[j]?.map (·.1)).getD 0 = _
            rw [key j r hr, e]
        · rw [z] at hj
          have l2 := slot_live R.tab.ris hj
          rw [live] at l2
          injection l2 with l2
          rw [← l2, hp] at hr
          exact hk ((congrArg Prod.snd (Option.some.inj hr)).trans e)
        · omega
      by_cases hl : t.led = true
      · refine wp_if_neg (by simp [hl]) ?_
        try refine wpAny_bind (wpAny_pure ?_)
        exact rest
      · refine wp_if_pos (by simp [hl]) (wpAny_bind (unseen hx (fun y hy => ?_) _ _ _ ?_))
        · obtain ⟨e, he, rfl⟩ := List.mem_map.mp hy
          have he1 : e ∈ es ∧ e.1 = nhash w k := by simpa using he
          have he2 : e ∈ es.toList := by simpa using he1.1
          rw [R.rows] at he2
          obtain ⟨r, hr, rfl⟩ := List.mem_map.mp he2
          exact ⟨r.2, r.1, rfl, M r hr⟩
        · refine wp_if_neg (by decide) ?_
          try refine wpAny_bind (wpAny_pure ?_)
          exact rest
    · have pr' : t.probe (fun i => (es[i]?.map (·.1)).getD 0) (nhash w k) (nth t.mask (t.probeStart (nhash w k)) c) = some (.empty (way t.mask (nhash w k) K) none) := by
        rw [← end', ← at']; exact pr
      rw [pr']
      refine wpAny_pure (no fun hm => ?_)
      obtain ⟨r, hr, e⟩ := List.mem_map.mp hm
      obtain ⟨i, hi, hri⟩ := List.getElem_of_mem hr
      have h1 : L[i]? = some r := by rw [List.getElem?_eq_getElem hi, hri]
      have h2 : i < t.place.toList.length := by rw [Array.length_toList, R.size]; exact hi
      have hj := List.getElem?_eq_getElem h2
      obtain ⟨c', hc, z⟩ := R.tab.before (h := nhash w k) hK (by rw [List.getElem?_map, h1, ← e]; rfl) hj
      rw [← z] at hj
      rcases Nat.lt_or_ge c' c with y | y
      · exact past c' i r y hj h1 e
      · refine ahead (c' - c) i (by omega) (by rw [at', show c + (c' - c) = c' by omega]; exact hj) ?_
        show (es[i]?.map (·.1)).getD 0 = _
        rw [key i r h1, e]
/-- the search as adding asks for it -/
theorem n_search (R : NSet P w s.heap a L es ep t) (M : Mems P w s.heap L) {x : Addr} {k : NestedKey} (hx : Nst P w s.heap x k) (hu : A.units + 8 < cLine) {Q : SetFound → Shared → Prop} (yes : k ∈ L.map (·.2) → Q (.there none) s)
    (no : ∀ K, k ∉ L.map (·.2) → way t.mask (nhash w k) K ∉ t.place.toList → (∀ c, c < K → way t.mask (nhash w k) c ∈ t.place.toList) → Q (.free (way t.mask (nhash w k) K) false) s) :
    wpAny (model P w) A (setSearch a (.ref x) (nhash w k) true) Q E s := by
  have room := R.room
  obtain ⟨K, h1, h2, h3⟩ := R.tab.first (by rw [List.length_map]; omega) (nhash w k)
  have big : 10 * SetTable.turns t.mask ≤ 1420 := by
    unfold SetTable.turns
    rcases R.tab.mok with e | e | e <;> omega
  unfold setSearch
  exact n_from R M hx hu h1 h2 h3 yes (fun h => no K h h2 h3) 100000 0 none rfl (Nat.zero_le _) (by omega) fun c' i p hc => absurd hc (Nat.not_lt_zero _)
end
end Ami

set_option Elab.async false
set_option linter.all false
set_option maxRecDepth 100000
set_option maxHeartbeats 2000000
/-! Sets of such tuples: one more. -/
namespace Ami
open PySem PySem.Spec PyProof.Rows L2
theorem fm_map {α β : Type} {g : α → Option β} {f : α → β} : ∀ {l : List α}, (∀ i ∈ l, g i = some (f i)) → l.filterMap g = l.map f
  | [], _ => rfl
  | i :: l, h => by
    rw [List.filterMap_cons_some (h i List.mem_cons_self), List.map_cons, fm_map fun j hj => h j (List.mem_cons_of_mem _ hj)]
theorem range_getD {α : Type} (L : List α) (d : α) : (List.range L.length).map (fun i => L.getD i d) = L := by
  refine List.ext_getElem (by rw [List.length_map, List.length_range]) fun i h1 h2 => ?_
  rw [List.getElem_map, List.getElem_range, List.getD_eq_getElem?_getD, List.getElem?_eq_getElem h2]; rfl
section
variable {P : Program} {w : World} {A : Around} {E : Value → Shared → Prop} {s : Shared} {a : Addr} {L : List (Addr × NestedKey)} {es : Array (Int × Value)} {ep : Nat} {t : SetTable}
theorem nst_same {h h' : Heap} {b : Addr} {k : NestedKey} {o : Obj} (x : Nst P w h b k) (ho : h.get? a = some o) (hd : o.data = .set es ep t) (sb : Heap.SameBut a h h') : Nst P w h' b k := by
  refine ⟨NestedIs.at (fun c oc vs n hc hv => ?_) k _ x.1, x.2⟩
  refine (sb.2 c fun e => ?_).trans hc
  rw [e, ho] at hc
  rw [← Option.some.inj hc, hd] at hv
  exact nomatch hv
theorem nst_keep {h h' : Heap} {b : Addr} {k : NestedKey} (x : Nst P w h b k) (kp : ∀ c o, h.get? c = some o → h'.get? c = some o) : Nst P w h' b k := ⟨NestedIs.at (fun c o _ _ hc _ => kp c o hc) k _ x.1, x.2⟩
/-- the table laid anew, larger -/
theorem n_relay {o : Obj} (ho : s.heap.get? a = some o) (hex : o.ExactSet) (hd : o.data = .set es ep t) (rows : es.toList = L.map (nrow w)) (fits : t.fits es.size = true) (nd : (L.map (·.2)).Nodup)
    (led : w.params.followText "set-order" = true ∨ t.led = true) (few : L.length < 64) {wanted M : Nat} (hw : SetTable.sizeAbove wanted - 1 = M) (hM : MaskOk M) (small : SetTable.sizeAbove wanted ≤ 128) (room : L.length * 5 < M * 3) {Q : Unit → Shared → Prop}
    (q : ∀ h' L' es' ep' t', Heap.SameBut a s.heap h' → NSet P w h' a L' es' ep' t' → L'.Perm L → Q () { s with heap := h' }) : wpAny (model P w) A (setRelay a wanted) Q E s := by
  have sz := rows_size rows
  obtain ⟨t', order, e1, pm, T, em, el, _, _⟩ := relaid_ok t (hs := es.map (·.1)) (wanted := wanted) hw hM (by rw [Array.size_map, sz]; omega)
  rw [Array.size_map, sz] at pm
  have lt : ∀ i ∈ order.toList, i < L.length := fun i hi => List.mem_range.mp (pm.mem_iff.mp hi)
  generalize hd0 : ((0 : Nat), NestedKey.none) = d0
  have ent : ∀ i ∈ order.toList, es[i]? = some (nrow w (L.getD i d0)) := fun i hi => by
    rw [← Array.getElem?_toList, rows, List.getElem?_map, List.getD_eq_getElem?_getD, List.getElem?_eq_getElem (lt i hi)]; rfl
  have rows2 : (order.filterMap (es[·]?)).toList = (order.toList.map fun i => L.getD i d0).map (nrow w) := by
    rw [Array.toList_filterMap, fm_map ent, List.map_map]; rfl
  have pm2 : (order.toList.map fun i => L.getD i d0).Perm L := by
    have := pm.map fun i => L.getD i d0
    rw [range_getD] at this
    exact this
  have hash2 : (order.toList.map fun i => (es.map (·.1)).getD i 0) = (order.toList.map fun i => L.getD i d0).map fun p => nhash w p.2 := by
    rw [List.map_map]
    refine List.map_congr_left fun i hi => ?_
    have e5 : (es.map (·.1))[i]? = some (nhash w (L.getD i d0).2) := by rw [Array.getElem?_map, ent i hi]; rfl
    simp [Array.getD_eq_getD_getElem?, e5]
  rw [hash2] at T
  have sz2 := (rows_size rows2).trans pm2.length_eq
  rw [setRelay_eq]
  refine wpAny_bind (wpAny_setState_of ho hd fits ?_)
  dsimp only
  refine wp_if_neg (by rw [sizeLine_eq]; omega) ?_
  try refine wpAny_bind (wpAny_pure ?_)
  rw [e1]
  refine wpAny_bind (wp_if_neg (by rw [sz2, sz]; simp) ?_)
  try refine wpAny_bind (wpAny_pure ?_)
  refine wpAny_pure (wpAny_storeSet_of ho hd ?_ (by rw [sz2, sizeLine_eq]; omega))
  exact q _ _ _ (ep + 1) t' (Heap.SameBut.update ..) ⟨⟨_, store_at ho hd, ⟨hex.1, hex.2.1, hex.2.2⟩, rfl⟩, rows2, T, (pm2.map (·.2)).nodup_iff.mpr nd, by rw [el]; exact led, by rw [pm2.length_eq, em]; exact room, by rw [pm2.length_eq]; exact few⟩ pm2
theorem tab_plain {t : SetTable} {hs : List Int} (T : TabOk t hs) (b : Bool) : TabOk { t with plain := b } hs := ⟨T.ris, T.dm, T.sz, T.mok, T.bd, T.reach⟩
/-- one more -/
theorem n_add (R : NSet P w s.heap a L es ep t) (M : Mems P w s.heap L) {x : Addr} {k : NestedKey} (hx : Nst P w s.heap x k) (hu : A.units + 8 < cLine) (room : L.length + 1 < 64) {Q : Bool → Shared → Prop}
    (q : ∀ b h' L' es' ep' t', Heap.SameBut a s.heap h' → NSet P w h' a L' es' ep' t' → (k ∈ L.map (·.2) → L' = L) → (k ∉ L.map (·.2) → L'.Perm ((x, k) :: L)) → Q b { s with heap := h' }) :
    wpAny (model P w) A (setAddHashed a (.ref x) (nhash w k)) Q E s := by
  obtain ⟨o, ho, hex, hd⟩ := R.ob
  unfold setAddHashed
  refine wpAny_holding ?_
  rw [show (100000 : Nat) = 99999 + 1 from rfl, setAddHashedIn_succ]
  refine wpAny_bind (wpAny_setState_of ho hd R.fits ?_)
  dsimp only
  refine wp_if_neg (by simp [byScan, Value.scannable]) ?_
  try refine wpAny_bind (wpAny_pure ?_)
  refine wpAny_bind (n_search R M hx hu (fun hm => ?_) fun K hm hK hb => ?_)
  · exact wpAny_pure (q false s.heap L es ep t (Heap.SameBut.refl a s.heap) R (fun _ => rfl) fun z => absurd hm z)
  dsimp only
  refine wpAny_bind (wpAny_setState_of ho hd R.fits ?_)
  dsimp only
  obtain ⟨p1, p2, T1, p4, p5, p6, p7, p8, p9⟩ := R.tab.put hK hb
  generalize hpt : t.put (way t.mask (nhash w k) K) = pt at p1 T1 p4 p5 p6 p7 p8 p9 ⊢
  obtain ⟨t1, p⟩ := pt
  dsimp only at p1 T1 p4 p5 p6 p7 p8 p9 ⊢
  subst p1
  have pm : (L.take (SetTable.below t.place (way t.mask (nhash w k) K)) ++ (x, k) :: L.drop (SetTable.below t.place (way t.mask (nhash w k) K))).Perm ((x, k) :: L) := put_perm L _ (x, k)
  have rows1 : (SetTable.insertAt es (SetTable.below t.place (way t.mask (nhash w k) K)) (nhash w k, Value.ref x)).toList = (L.take (SetTable.below t.place (way t.mask (nhash w k) K)) ++ (x, k) :: L.drop (SetTable.below t.place (way t.mask (nhash w k) K))).map (nrow w) := by
    rw [SetTable.toList_insertAt, R.rows, List.map_append, List.map_cons, List.map_take, List.map_drop]; rfl
  have T2 : TabOk t1 ((L.take (SetTable.below t.place (way t.mask (nhash w k) K)) ++ (x, k) :: L.drop (SetTable.below t.place (way t.mask (nhash w k) K))).map fun p => nhash w p.2) := by
    rw [List.map_append, List.map_cons, List.map_take, List.map_drop]; exact T1
  generalize SetTable.insertAt es (SetTable.below t.place (way t.mask (nhash w k) K)) (nhash w k, Value.ref x) = es1 at rows1 ⊢
  generalize L.take (SetTable.below t.place (way t.mask (nhash w k) K)) ++ (x, k) :: L.drop (SetTable.below t.place (way t.mask (nhash w k) K)) = L1 at pm rows1 T2
  have len1 : L1.length = L.length + 1 := pm.length_eq
  have nd1 : (L1.map (·.2)).Nodup := by
    refine (pm.map (·.2)).nodup_iff.mpr ?_
    rw [List.map_cons]
    exact List.nodup_cons.mpr ⟨hm, R.nd⟩
  have was := R.room
  rw [List.length_map] at p9
  -- whatever is told of its being plain
  have on : ∀ t3 : SetTable, TabOk t3 (L1.map fun p => nhash w p.2) → t3.mask = t.mask → t3.led = t.led → t3.fill = L.length + 1 → wpAny (model P w) A (do
      storeSet a es1 t3
      if (!false && t3.tooFull) = true then do
        setRelay a (SetTable.grown (es.size + 1))
        pure true
      else pure true) Q E s := fun t3 T3 mask3 led3' fill3 => by
    have full : t3.tooFull = decide ((L.length + 1) * 5 ≥ t.mask * 3) := by
      show decide (t3.fill * 5 ≥ t3.mask * 3) = _
      rw [fill3, mask3]
    have led3 : w.params.followText "set-order" = true ∨ t3.led = true := by
      rw [led3']; exact R.led
    refine wpAny_bind (wpAny_storeSet_of ho hd ?_ (by rw [rows_size rows1, len1, sizeLine_eq]; omega))
    have sb : Heap.SameBut a s.heap (s.heap.update a (Obj.putSet es1 t3)) := Heap.SameBut.update ..
    have ho1 := store_at (es' := es1) (t' := t3) ho hd
    generalize s.heap.update a (Obj.putSet es1 t3) = h1 at sb ho1 ⊢
    by_cases hf : (L.length + 1) * 5 ≥ t.mask * 3
    · rw [decide_eq_true hf] at full
      first
        | (refine wpAny_bind ?_; refine wp_if_pos (by simp [full]) ?_)
        | (refine wp_if_pos (by simp [full]) ?_; refine wpAny_bind ?_)
      have two : (t.mask = 7 ∧ L.length = 4) ∨ (t.mask = 31 ∧ L.length = 18) := by
        rcases R.tab.mok with e | e | e
        · exact .inl ⟨e, by omega⟩
        · exact .inr ⟨e, by omega⟩
        · omega
      have fits3 : t3.fits es1.size = true := fits_of rows1 (by rw [T3.sz, List.length_map]) T3.dm (by rw [len1, mask3]; rcases two with ⟨e, e2⟩ | ⟨e, e2⟩ <;> omega)
      rw [rows_size R.rows]
      have go : ∀ M', SetTable.sizeAbove (SetTable.grown (L.length + 1)) - 1 = M' → MaskOk M' → SetTable.sizeAbove (SetTable.grown (L.length + 1)) ≤ 128 → (L.length + 1) * 5 < M' * 3 →
          wpAny (model P w) A (setRelay a (SetTable.grown (L.length + 1))) (fun _ s' => wpAny (model P w) A (pure true) Q E s') E { s with heap := h1 } := fun M' g1 g2 g3 g4 =>
        n_relay (s := { s with heap := h1 }) ho1 ⟨hex.1, hex.2.1, hex.2.2⟩ rfl rows1 fits3 nd1 led3 (by rw [len1]; exact room) g1 g2 g3 (by rw [len1]; exact g4) fun h2 L2 es2 ep2 t2 sb2 R2 pm2 =>
          wpAny_pure (q true h2 L2 es2 ep2 t2 (sb.trans sb2) R2 (fun z => absurd z hm) fun _ => pm2.trans pm)
      rcases two with ⟨_, e⟩ | ⟨_, e⟩
      · exact go 31 (by rw [e, size_20]) (.inr (.inl rfl)) (by rw [e, size_20]; decide) (by omega)
      · exact go 127 (by rw [e, size_76]) (.inr (.inr rfl)) (by rw [e, size_76]; decide) (by omega)
    · rw [decide_eq_false hf] at full
      first
        | refine wp_if_neg (by simp [full]) ?_
        | (refine wpAny_bind ?_; refine wp_if_neg (by simp [full]) ?_; refine wpAny_pure ?_)
      refine wpAny_pure (q true h1 L1 es1 (ep + 1) t3 sb ⟨⟨_, ho1, ⟨hex.1, hex.2.1, hex.2.2⟩, rfl⟩, rows1, T3, nd1, led3, by rw [len1, mask3]; omega, by rw [len1]; exact room⟩ (fun z => absurd z hm) fun _ => pm)
  by_cases pl : t1.plain = true
  · refine wp_if_pos pl (wpAny_bind (byv_nst k _ 8 s hx.1 _ _ _ fun b => ?_))
    cases b with
    | true => exact on t1 T2 p4 p5 p9
    | false => exact on { t1 with plain := false } (tab_plain T2 false) p4 p5 p9
  · refine wp_if_neg pl (wpAny_bind (wpAny_pure ?_))
    exact on t1 T2 p4 p5 p9
end
end Ami

set_option Elab.async false
set_option linter.all false
set_option maxRecDepth 100000
set_option maxHeartbeats 2000000
/-! sorted of texts, any number of them -/
namespace Ami
open PySem PySem.Spec PyProof.Rows L2
def txtV : Value → Str
  | .str x _ => x
  | _ => Str.empty
def ltV (v u : Value) : Bool := decide ((txtV v).cps.toList < (txtV u).cps.toList)
theorem swo_txt : SrtO.Swo ltV := by
  refine ⟨fun x y h => ?_, fun x y z h1 h2 => ?_⟩
  · have a := of_decide_eq_true (p := (txtV x).cps.toList < (txtV y).cps.toList) h
    exact decide_eq_false (p := (txtV y).cps.toList < (txtV x).cps.toList) (List.lt_asymm a)
  · have a := of_decide_eq_false (p := (txtV y).cps.toList < (txtV x).cps.toList) h1
    have b := of_decide_eq_false (p := (txtV z).cps.toList < (txtV y).cps.toList) h2
    have c : (txtV x).cps.toList ≤ (txtV z).cps.toList := List.le_trans (List.not_lt.mp a) (List.not_lt.mp b)
    exact decide_eq_false (p := (txtV z).cps.toList < (txtV x).cps.toList) (List.not_lt.mpr c)
theorem txt_mem : ∀ {vs : List Value} {ss : List Str}, StrsAre vs ss → ∀ v ∈ vs, ∃ x t, v = Value.str x t
  | _, _, .nil, v, h => absurd h (by simp)
  | _, _, .cons n t r, v, h => by
    rcases List.mem_cons.mp h with e | h
    · exact ⟨n, t, e⟩
    · exact txt_mem r v h
theorem txt_of : ∀ {vs : List Value}, (∀ v ∈ vs, ∃ x t, v = Value.str x t) → StrsAre vs (vs.map txtV)
  | [], _ => .nil
  | v :: vs, h => by
    obtain ⟨x, t, e⟩ := h v List.mem_cons_self
    subst e
    exact .cons x t (txt_of fun u hu => h u (List.mem_cons_of_mem _ hu))
theorem of_txt : ∀ {vs : List Value} {ss : List Str}, StrsAre vs ss → vs.map txtV = ss
  | _, _, .nil => rfl
  | _, _, .cons x t r => congrArg (x :: ·) (of_txt r)
section
variable {prog : Program} {w : World} {A : Around} {E : Value → Shared → Prop} {s : Shared}
theorem txt_cmp {vs : List Value} {ss : List Str} (hS : StrsAre vs ss) : SrtO.Cmp prog w A s oneType' (fun p => p.1 ∈ vs) (SrtO.lt2 ltV) := by
  intro p q hm hm'
  obtain ⟨a, t, e⟩ := txt_mem hS _ hm
  obtain ⟨b, u, e'⟩ := txt_mem hS _ hm'
  show wpAny (model prog w) A (keyLt' oneType' p.1 q.1) (fun r s' => s' = s ∧ r = ltV p.1 q.1) (fun _ _ => False) s
  rw [e, e', keyLt'_oneType]
  exact oneLt_str ⟨rfl, rfl⟩
theorem txt_sortable {a : Addr} {vs : List Value} {ss : List Str} (hS : StrsAre vs ss) (h2 : 2 ≤ vs.length) : SrtO.SortableO prog w A s a vs ltV := by
  intro h' _
  refine ⟨oneType', fun Q E hq => ?_, txt_cmp hS⟩
  match vs, hS, h2 with
  | v1 :: v2 :: rest, hS, _ =>
    rw [keyKind_strs hS]
    exact wpAny_pure hq
  | [], _, h => exact absurd h (by decide)
  | [v], _, h => exact absurd h (by simp)
end
/-- ascending, equal ones beside one another -/
def Up (ss : List Str) : Prop := ss.Pairwise fun a b => ¬ b.cps.toList < a.cps.toList
theorem txt_out {vs out : List Value} {ss : List Str} (hS : StrsAre vs ss) (hs : SrtO.Srtd ltV out) (hb : SrtO.Stb ltV out vs) : StrsAre out (out.map txtV) ∧ (out.map txtV).Perm ss ∧ Up (out.map txtV) := by
  refine ⟨txt_of fun v hv => txt_mem hS v (hb.perm.mem_iff.mp hv), ?_, ?_⟩
  · have q := hb.perm.map txtV
    rw [of_txt hS] at q
    exact q
  · exact List.pairwise_map.mpr (hs.imp fun {x y} h => of_decide_eq_false (p := (txtV y).cps.toList < (txtV x).cps.toList) h)
/-- texts that ascend are told by their members and how often each is there -/
theorem up_uniq : ∀ {xs ys : List Str}, Up xs → Up ys → xs.Perm ys → xs = ys
  | [], ys, _, _, p => (List.nil_perm.mp p).symm
  | x :: xs, [], _, _, p => nomatch List.perm_nil.mp p
  | x :: xs, y :: ys, hx, hy, p => by
    obtain ⟨x1, x2⟩ := List.pairwise_cons.mp hx
    obtain ⟨y1, y2⟩ := List.pairwise_cons.mp hy
    have e : x = y := by
      have mx : x ∈ y :: ys := p.mem_iff.mp List.mem_cons_self
      have my : y ∈ x :: xs := p.mem_iff.mpr List.mem_cons_self
      rcases List.mem_cons.mp mx with h | h
      · exact h
      · rcases List.mem_cons.mp my with h' | h'
        · exact h'.symm
        · have a := x1 y h'
          have b := y1 x h
          have c : x.cps.toList = y.cps.toList := List.le_antisymm (List.not_lt.mp a) (List.not_lt.mp b)
          obtain ⟨⟨lx⟩⟩ := x
          obtain ⟨⟨ly⟩⟩ := y
          exact congrArg (fun l => (⟨⟨l⟩⟩ : Str)) c
    subst e
    rw [up_uniq x2 y2 (List.Perm.cons_inv p)]
section
variable {X : Cx}
/-- sorted(xs), texts, any number of them -/
def rSortedT (K : PySem.W.Frag) : List V → Hp → VK → Prop := fun vs H Q => ∃ (a : Addr) (ss : List Str), vs = [V.ref a] ∧ SqL K H a (ss.map V.str) ∧
  ∀ (ys : List Str) (p : Addr), ys.Perm ss → Up ys → H p = none → Q (.ref p) (upd H p (.lst (ys.map V.str)))
theorem strs_of : ∀ {ss : List Str} {us : List Value}, Vals (ss.map V.str) us → StrsAre us ss
  | [], _, .nil => .nil
  | x :: ss, u :: us, .cons r t => by
    obtain ⟨k, e⟩ := r
    subst e
    exact .cons x k (strs_of t)
theorem cr_sortedT : CallR X (.builtin "sorted") (rSortedT X.K) := by
  intro pins s σ H vs us Q I r h
  obtain ⟨a, ss, rfl, hs, q⟩ := h
  obtain ⟨its, rv, hl, hz⟩ := I.list hs
  rw [Vals.ref1 r]
  have hS := strs_of rv
  refine SrtO.sorted_ord swo_txt hl.isList (by rw [← rv.length]; exact hz) (fun h2 h₁ a' _ _ => txt_sortable hS h2) fun out h1 h2 => ?_
  obtain ⟨k1, k2, k3⟩ := txt_out hS h1 h2
  obtain ⟨ep, he'⟩ := PyProof.Rows.sortedAll_at s.heap its out.toArray
  have hlen : ((out.map txtV).map V.str).length ≤ sizeLine := by
    rw [List.length_map, k2.length_eq]
    rw [List.length_map] at hz
    exact hz
  have J : Inv X pins σ (upd H (s.heap.objs.size + 1) (.lst ((out.map txtV).map V.str))) _ := I.laid (t' := s.toks) (fun _ _ => PyProof.Rows.sortedAll_old) (Nat.le_succ _) ⟨hlen, out, ep, vals_of_strs k1, he'⟩
  exact ⟨.ref _, _, J, rfl, q _ _ k2 k3 (I.hok.fresh (Nat.le_succ _))⟩
end
end Ami

set_option Elab.async false
set_option linter.all false
set_option maxRecDepth 100000
set_option maxHeartbeats 4000000
/-! Sets of such tuples: set(xs), sorted of a list and of a set, one < other. -/
namespace Ami
open PySem PySem.Spec PyProof.Rows L2
section
variable {P : Program} {w : World} {A : Around} {E : Value → Shared → Prop} {s : Shared} {a : Addr}
theorem nset_keep {h h' : Heap} {L : List (Addr × NestedKey)} {es : Array (Int × Value)} {ep : Nat} {t : SetTable} (R : NSet P w h a L es ep t) (k : ∀ o, h.get? a = some o → h'.get? a = some o) : NSet P w h' a L es ep t := by
  obtain ⟨o, ho, r⟩ := R.ob
  exact ⟨⟨o, k o ho, r⟩, R.rows, R.tab, R.nd, R.led, R.room, R.few⟩
theorem nset_fresh {h : Heap} {led : Bool} (ho : h.get? a = some { cls := .type "set", dict := none, data := .set #[] 0 (.fresh 0 0 led) }) (hl : w.params.followText "set-order" = true ∨ led = true) : NSet P w h a [] #[] 0 (.fresh 0 0 led) where
  ob := ⟨_, ho, ⟨rfl, rfl, rfl⟩, rfl⟩
  rows := rfl
  tab := ⟨List.Pairwise.nil, rfl, rfl, .inl rfl, (fun x hx => nomatch hx), fun i h j hi => by simp at hi⟩
  nd := List.nodup_nil
  led := hl
  room := by show 0 * 5 < 7 * 3; decide
  few := by show 0 < 64; decide
/-- what the first i of ks leave -/
structure GotN (ks : List (Addr × NestedKey)) (i : Nat) (L : List (Addr × NestedKey)) : Prop where
  sub : ∀ p ∈ L, p ∈ ks
  all : ∀ j p, j < i → ks[j]? = some p → p.2 ∈ L.map (·.2)
  len : L.length ≤ i
/-- the loop that fills it -/
theorem loop_n {I : Addr} {fp : List Addr} {n : Nat} {Pv : Nat → Value → Prop} {St : Nat → Heap → Prop} (W : Walks P w A.in1 I fp [I] n Pv St) (haf : a ∉ fp) (hfI : I ∈ fp) (ks : List (Addr × NestedKey)) (hn : n = ks.length) (few : ks.length < 64)
    (val : ∀ i v, i < n → Pv i v → ∃ p, ks[i]? = some p ∧ v = .ref p.1) (h0 : Heap) (hk : Mems P w h0 ks) (ha0 : h0.get? a = none) (hI0 : h0.get? I = none) (hu : A.in1.units + 8 < cLine) {R : Result → Shared → Prop} :
    ∀ (m i : Nat) (L : List (Addr × NestedKey)) (s : Shared), n - i = m → i ≤ n → (∃ es ep t, NSet P w s.heap a L es ep t) → GotN ks i L → St i s.heap → (∀ b o, h0.get? b = some o → s.heap.get? b = some o) →
    (∀ (h' : Heap) (tk : Nat) (L' : List (Addr × NestedKey)), (∀ b o, b ≠ a → b ≠ I → s.heap.get? b = some o → h'.get? b = some o) → (∃ es ep t, NSet P w h' a L' es ep t) → GotN ks n L' → R (.ok (.ret .none)) { s with heap := h', toks := tk }) →
    codeAny (model P w) A (.builtin "set.update.loop" ⟨[.ref a, .ref I], []⟩) R s := by
  have haI : a ≠ I := fun e => haf (e ▸ hfI)
  intro m
  induction m with
  | zero =>
    intro i L s hm hi hS g hst hkp h
    obtain rfl : i = n := by omega
    refine codeAny_builtin PyProof.Rows.F.entry_set_update_loop ?_
    rw [Around.under_plainId PyProof.Rows.F.plain_set_update_loop _]
    show wpAny _ A.in1 (pyNext (.ref I) >>= _) _ _ s
    refine wpAny_bind (W.done s _ _ hst fun h' tk hk' => ?_)
    show wpAny _ A.in1 (ret Value.none) _ _ _
    obtain ⟨es, ep, t, R0⟩ := hS
    exact wpAny_pure (h h' tk L (fun b o _ hb e => hk' b o (by simpa using hb) e) ⟨es, ep, t, nset_keep R0 fun o e => hk' a o (by simpa using haI) e⟩ g)
  | succ m ih =>
    intro i L s hm hi hS g hst hkp h
    have hlt : i < n := by omega
    refine codeAny_builtin PyProof.Rows.F.entry_set_update_loop ?_
    rw [Around.under_plainId PyProof.Rows.F.plain_set_update_loop _]
    show wpAny _ A.in1 (pyNext (.ref I) >>= _) _ _ s
    refine wpAny_bind (W.item i s _ _ hlt hst fun v h1 tk hP hst1 hk1 => ?_)
    obtain ⟨p, hp, rfl⟩ := val i v hlt hP
    have hkp1 : ∀ b o, h0.get? b = some o → h1.get? b = some o := fun b o e => hk1 b o (by
      rw [List.mem_singleton]
      rintro rfl
      rw [hI0] at e
      exact nomatch e) (hkp b o e)
    have pk : p ∈ ks := List.mem_of_getElem? hp
    obtain ⟨es, ep, t, R0⟩ := hS
    have R1 := nset_keep R0 fun o e => hk1 a o (by simpa using haI) e
    show wpAny _ A.in1 (holding [Value.ref p.1] (setAdd a (.ref p.1)) >>= _) _ _ _
    refine wpAny_bind (wpAny_holding ?_)
    unfold setAdd
    refine wpAny_holding (wpAny_bind ((nestedKind P w).pyHash (k := p.2) hu (nst_keep (hk p pk) hkp1) ?_))
    refine n_add (s := { s with heap := h1, toks := tk + NestedKey.draws p.2 }) R1 (fun q hq => nst_keep (hk q (g.sub q hq)) hkp1) (nst_keep (hk p pk) hkp1) hu (by have := g.len; omega) fun b h2 L2 es2 ep2 t2 sb R2 c1 c2 => ?_
    have g2 : GotN ks (i + 1) L2 := by
      rcases Classical.em (p.2 ∈ L.map (·.2)) with c | c
      · rw [c1 c]
        refine ⟨g.sub, fun j q hj hq => ?_, Nat.le_succ_of_le g.len⟩
        rcases Nat.lt_or_ge j i with z | z
        · exact g.all j q z hq
        · obtain rfl : j = i := by omega
          rw [hp] at hq
          rw [← Option.some.inj hq]; exact c
      · have pm := c2 c
        refine ⟨fun q hq => ?_, fun j q hj hq => ?_, by rw [pm.length_eq]; exact Nat.succ_le_succ g.len⟩
        · rcases List.mem_cons.mp (pm.mem_iff.mp hq) with e | e
          · rw [e]; exact pk
          · exact g.sub q e
        · refine (pm.map (·.2)).mem_iff.mpr ?_
          rcases Nat.lt_or_ge j i with z | z
          · exact List.mem_cons_of_mem _ (g.all j q z hq)
          · obtain rfl : j = i := by omega
            rw [hp] at hq
            rw [← Option.some.inj hq]; exact List.mem_cons_self
    have hst2 : St (i + 1) h2 := W.frame _ _ _ hst1 fun c hc o e => (sb.2 c fun z => haf (z ▸ hc)).trans e
    have hkp2 : ∀ b o, h0.get? b = some o → h2.get? b = some o := fun b o e => (sb.2 b (fun z => by rw [z, ha0] at e; exact nomatch e)).trans (hkp1 b o e)
    refine wpAny_pure ⟨plainId_quiet PyProof.Rows.F.plain_set_update_loop _, ih (i + 1) L2 { s with heap := h2, toks := tk + NestedKey.draws p.2 } (by omega) hlt ⟨es2, ep2, t2, R2⟩ g2 hst2 hkp2 fun h3 tk3 L3 k3 R3 g3 => ?_⟩
    exact h h3 tk3 L3 (fun c o hc1 hc2 e => k3 c o hc1 hc2 ((sb.2 c hc1).trans (hk1 c o (by simpa using hc2) e))) R3 g3
end
end Ami

set_option Elab.async false
set_option linter.all false
set_option maxRecDepth 100000
set_option maxHeartbeats 4000000
namespace Ami
open PySem PySem.Spec PyProof.Rows L2
section
variable {P : Program} {w : World} {A : Around} {E : Value → Shared → Prop} {s : Shared} {a : Addr}
/-- set(v): what is needed of v and its walk over the members ks -/
structure FillsN (P : Program) (w : World) (h : Heap) (v : Value) (T : String) (ks : List (Addr × NestedKey)) : Prop where
  ty : ∀ s' : Shared, (∀ b o, h.get? b = some o → s'.heap.get? b = some o) → s'.TypeIs v T
  s1 : isSubtype (.type T) (.type "set") = pure false
  s2 : isSubtype (.type T) (.type "frozenset") = pure false
  nd : (Value.type T == Value.type "dict") = false
  it : ∀ (A : Around) (E : Value → Shared → Prop) (s' : Shared) (Q : Value → Shared → Prop), (∀ b o, h.get? b = some o → s'.heap.get? b = some o) →
    (∀ (h' : Heap) (I : Addr) (fp : List Addr) (Pv : Nat → Value → Prop) (St : Nat → Heap → Prop), (∀ b o, s'.heap.get? b = some o → h'.get? b = some o) → s'.heap.objs.size ≤ I → I ∈ fp → (∀ b ∈ fp, b = I ∨ ∃ o, h.get? b = some o) →
      (∀ A2 : Around, A2.handled = none → Walks P w A2 I fp [I] ks.length Pv St) → St 0 h' → (∀ i v, i < ks.length → Pv i v → ∃ p, ks[i]? = some p ∧ v = .ref p.1) → Q (.ref I) { s' with heap := h' }) → wpAny (model P w) A (pyIter v) Q E s'
set_option maxHeartbeats 4000000 in
theorem call_set_n {v : Value} {T : String} (ks : List (Addr × NestedKey)) {Q : Value → Shared → Prop} (hh : A.handled = none) (few : ks.length < 64) (F : FillsN P w s.heap v T ks) (hk0 : Mems P w s.heap ks) (hu : A.units + 16 < cLine)
    (h : ∀ (h' : Heap) (tk : Nat) (L : List (Addr × NestedKey)), (∀ b o, s.heap.get? b = some o → h'.get? b = some o) → (∃ es ep t, NSet P w h' s.heap.objs.size L es ep t) → GotN ks ks.length L → Q (.ref s.heap.objs.size) { s with heap := h', toks := tk }) :
    wpAny (model P w) A (call (.type "set") [v]) Q E s := by
  obtain ⟨c, tl, hmro⟩ := PySem.F.called_set.mro
  have hmade := PySem.F.called_set.made
  have hsub := PySem.F.called_set.sub
  have keep0 : ∀ b o, s.heap.get? b = some o → (s.heap.push { cls := .type "set", dict := none, data := .set #[] 0 (.fresh 0 0 (!w.params.followText "set-order")) }).get? b = some o := fun b o e => Heap.get?_push_of_some _ e
  refine wpAny_call (codeAny_of_tree ?_)
  show wpAny _ _ (callAny (.type "set") _) _ _ _
  refine wpAny_pure ⟨Code.quiet_builtin _ (by decide +kernel), codeAny_builtin PySem.F.entry_type_call ?_⟩
  rw [Around.under_plain (weight_type_call_type "set" [v] []) rfl]
  have h1 := PySem.F.called_set.notType
  have h2 := PySem.F.called_set.canCreate
  have hct := PySem.F.typeCall_set_1 v
  repeat (any_goals (first | assumption | wp_step))
  refine codeAny_mono (new_led v (E := E) (Q₁ := fun obj s₁ => obj = .ref s.heap.objs.size ∧ s₁ = { s with heap := s.heap.push { cls := .type "set", dict := none, data := .set #[] 0 (.fresh 0 0 (!w.params.followText "set-order")) } }) ⟨rfl, rfl⟩) fun r s₁ hr => ?_
  cases r with
  | error e => exact hr
  | ok fl =>
    cases fl with
    | ret obj =>
      obtain ⟨rfl, rfl⟩ := hr
      have hS : (s.heap.push { cls := .type "set", dict := none, data := .set #[] 0 (.fresh 0 0 (!w.params.followText "set-order")) }).get? s.heap.objs.size = some { cls := .type "set", dict := none, data := .set #[] 0 (.fresh 0 0 (!w.params.followText "set-order")) } := Heap.get?_push_size _ rfl
      have hT : Shared.TypeIs { s with heap := s.heap.push { cls := .type "set", dict := none, data := .set #[] 0 (.fresh 0 0 (!w.params.followText "set-order")) } } (.ref s.heap.objs.size) "set" := ⟨_, hS, rfl⟩
      have hli := PySem.F.called_set.init.lookup
      have hbi := PySem.F.called_set.init.bind (.ref s.heap.objs.size)
      repeat (any_goals (first | assumption | wp_step))
      refine codeAny_mono (codeAny_call_builtin (R := wants (fun r s₂ => r = .none ∧ ∃ h' tk l, s₂ = { s with heap := h', toks := tk } ∧ (∀ b o, s.heap.get? b = some o → h'.get? b = some o) ∧ (∃ es ep t, NSet P w h' s.heap.objs.size l es ep t) ∧ GotN ks ks.length l) E) PySem.F.called_set.init.plain PySem.F.entry_set_init (PySem.check_set_init_1 hT ?_)) fun r₂ s₂ hr₂ => ?_
      · have hTv := F.ty { s with heap := s.heap.push { cls := .type "set", dict := none, data := .set #[] 0 (.fresh 0 0 (!w.params.followText "set-order")) } } keep0
        have q1 := F.s1
        have q2 := F.s2
        have q3 := F.nd
        unfold Builtin.«set.__init__» noKeywords Builtin.Frozenset.updateFrom
        generalize hPI : pyIter = PI
        wp_walk
        subst hPI
        refine F.it _ _ _ _ keep0 fun h1' I fp Pv St k1 hI hfI hfp W st hkey => ?_
        have hI' : s.heap.objs.size + 1 ≤ I := by
          have z := hI
          simp only [Heap.size_push] at z
          exact z
        have haf : s.heap.objs.size ∉ fp := fun m => by
          rcases hfp _ m with z | ⟨o, z⟩
          · exact absurd hI' (by rw [← z]; exact Nat.not_succ_le_self _)
          · exact absurd (Heap.lt_size z) (Nat.lt_irrefl _)
        refine wpAny_bind (wpAny_runValue ?_)
        have gone : ∀ b, s.heap.objs.size ≤ b → s.heap.get? b = none := fun b hb => by
          cases q : s.heap.get? b with
          | none => rfl
          | some o => exact absurd (Nat.lt_of_lt_of_le (Heap.lt_size q) hb) (Nat.lt_irrefl _)
        refine loop_n (A := A.in1.in1) (W _ (by simp [hh])) haf hfI ks rfl few hkey s.heap hk0 (gone _ (Nat.le_refl _)) (gone _ (Nat.le_of_succ_le hI')) (by show A.units + 1 + 1 + 1 + 8 < cLine; omega) ks.length 0 [] _ (Nat.sub_zero _) (Nat.zero_le _) ⟨_, _, _, nset_fresh (k1 _ _ (Heap.get?_push_size _ rfl)) ?_⟩ ⟨(fun p hp => nomatch hp), (fun j p hj => absurd hj (Nat.not_lt_zero _)), Nat.le_refl _⟩ st (fun b o e => k1 b o (keep0 b o e)) fun h2 tk L2 k2 R2 g2 => ?_
        · cases w.params.followText "set-order"
          · exact .inr rfl
          · exact .inl rfl
        · refine wpAny_pure ?_
          show wpAny _ _ (ret Value.none) _ _ _
          refine wpAny_pure ⟨rfl, h2, tk, L2, rfl, fun b o e => ?_, R2, g2⟩
          have hb := Heap.lt_size e
          exact k2 b o (Nat.ne_of_lt hb) (Nat.ne_of_lt (Nat.lt_of_lt_of_le hb (Nat.le_of_succ_le hI'))) (k1 b o (keep0 b o e))
      · cases r₂ with
        | error e => exact hr₂
        | ok fl₂ =>
          cases fl₂ with
          | ret r =>
            obtain ⟨rfl, h', tk, l, rfl, hk', hS', hm'⟩ := hr₂
            repeat (any_goals (first | assumption | wp_step))
            exact h _ _ l hk' hS' hm'
          | _ => exact hr₂.elim
    | _ => exact hr.elim

theorem fillsN_tup {h : Heap} {l : Addr} {ks : List (Addr × NestedKey)} (hl : h.IsTuple l (ks.map fun p => Value.ref p.1).toArray) : FillsN P w h (.ref l) "tuple" ks where
  ty := fun s' k => by
    obtain ⟨o, ho, hc, _⟩ := hl
    exact ⟨o, k _ _ ho, hc⟩
  s1 := by rw [isSubtype_type]; kernel_rfl
  s2 := by rw [isSubtype_type]; kernel_rfl
  nd := by decide
  it := fun A E s' Q k hq => by
    have hl' : s'.heap.IsTuple l (ks.map fun p => Value.ref p.1).toArray := by
      obtain ⟨o, ho, r⟩ := hl
      exact ⟨o, k _ _ ho, r⟩
    have hlt : l < s'.heap.objs.size := by
      obtain ⟨o, ho, _⟩ := hl'
      exact Heap.lt_size ho
    refine wpAny_pyIter_tuple hl' ?_
    refine hq _ s'.heap.objs.size [s'.heap.objs.size, l] (fun i v => (ks.map fun p => Value.ref p.1).toArray[i]? = some v) (fun i h => h.IsTupleIter s'.heap.objs.size l i ∧ h.IsTuple l (ks.map fun p => Value.ref p.1).toArray) (fun b o e => Heap.get?_push_of_some _ e) (Nat.le_refl _) List.mem_cons_self
      (fun b hb => by
        rcases List.mem_cons.mp hb with e | e
        · exact .inl e
        · obtain ⟨o, ho, _⟩ := hl
          exact .inr ⟨o, by rw [List.mem_singleton.mp e]; exact ho⟩)
      (fun A2 h2 => by
        have q := Walks.tuple (prog := P) (w := w) h2 s'.heap.objs.size l (Nat.ne_of_lt hlt) (ks.map fun p => Value.ref p.1).toArray
        have e : (ks.map fun p => Value.ref p.1).toArray.size = ks.length := by rw [List.size_toArray, List.length_map]
        rw [e] at q
        exact q) ⟨⟨_, Heap.get?_push_size _ rfl, rfl, rfl⟩, hl'.push _⟩ fun i v _ hv => ?_
    have q : (ks.map fun p => Value.ref p.1)[i]? = some v := by simpa using hv
    rw [List.getElem?_map] at q
    cases e : ks[i]? with
    | none => rw [e] at q; exact nomatch q
    | some p => rw [e] at q; exact ⟨p, rfl, (Option.some.inj q).symm⟩
theorem fillsN_lst {h : Heap} {l : Addr} {ks : List (Addr × NestedKey)} (hl : h.IsList l (ks.map fun p => Value.ref p.1).toArray) : FillsN P w h (.ref l) "list" ks where
  ty := fun s' k => by
    obtain ⟨o, ho, hc, _⟩ := hl
    exact ⟨o, k _ _ ho, hc⟩
  s1 := by rw [isSubtype_type]; kernel_rfl
  s2 := by rw [isSubtype_type]; kernel_rfl
  nd := by decide
  it := fun A E s' Q k hq => by
    have hl' : s'.heap.IsList l (ks.map fun p => Value.ref p.1).toArray := by
      obtain ⟨o, ho, r⟩ := hl
      exact ⟨o, k _ _ ho, r⟩
    have hlt : l < s'.heap.objs.size := by
      obtain ⟨o, ho, _⟩ := hl'
      exact Heap.lt_size ho
    refine wpAny_pyIter_list hl' ?_
    refine hq _ s'.heap.objs.size [s'.heap.objs.size, l] (fun i v => (ks.map fun p => Value.ref p.1).toArray[i]? = some v) (fun i h => h.IsListIter s'.heap.objs.size l i ∧ h.IsList l (ks.map fun p => Value.ref p.1).toArray) (fun b o e => Heap.get?_push_of_some _ e) (Nat.le_refl _) List.mem_cons_self
      (fun b hb => by
        rcases List.mem_cons.mp hb with e | e
        · exact .inl e
        · obtain ⟨o, ho, _⟩ := hl
          exact .inr ⟨o, by rw [List.mem_singleton.mp e]; exact ho⟩)
      (fun A2 h2 => by
        have q := Walks.list (prog := P) (w := w) h2 s'.heap.objs.size l (Nat.ne_of_lt hlt) (ks.map fun p => Value.ref p.1).toArray
        have e : (ks.map fun p => Value.ref p.1).toArray.size = ks.length := by rw [List.size_toArray, List.length_map]
        rw [e] at q
        exact q) ⟨⟨_, Heap.get?_push_size _ rfl, rfl, rfl⟩, hl'.push _⟩ fun i v _ hv => ?_
    have q : (ks.map fun p => Value.ref p.1)[i]? = some v := by simpa using hv
    rw [List.getElem?_map] at q
    cases e : ks[i]? with
    | none => rw [e] at q; exact nomatch q
    | some p => rw [e] at q; exact ⟨p, rfl, (Option.some.inj q).symm⟩
end
end Ami

set_option Elab.async false
set_option linter.all false
set_option maxRecDepth 100000
set_option maxHeartbeats 4000000
/-! The rules of it over readings. -/
namespace Ami
open PySem PySem.Spec PyProof.Rows L2
mutual
/-- the value is the key: an int, a text, a tuple of such -/
inductive Nv (K : PySem.W.Frag) (H : Hp) : V → NestedKey → Prop
  | int (i : Int) : Nv K H (.int i) (.num i)
  | str (x : Str) : Nv K H (.str x) (.text x)
  | tup {a : Addr} {xs : List V} {ks : List NestedKey} : SqT K H a xs → NvAll K H xs ks → Nv K H (.ref a) (.tup ks)
inductive NvAll (K : PySem.W.Frag) (H : Hp) : List V → List NestedKey → Prop
  | nil : NvAll K H [] []
  | cons {v : V} {k : NestedKey} {vs : List V} {ks : List NestedKey} : Nv K H v k → NvAll K H vs ks → NvAll K H (v :: vs) (k :: ks)
end
mutual
/-- tuples stay -/
theorem Nv.keep {K : PySem.W.Frag} {H H' : Hp} (t : ∀ a xs, SqT K H a xs → SqT K H' a xs) : ∀ {v : V} {k : NestedKey}, Nv K H v k → Nv K H' v k
  | _, _, .int i => .int i
  | _, _, .str x => .str x
  | _, _, .tup h r => .tup (t _ _ h) (NvAll.keep t r)
theorem NvAll.keep {K : PySem.W.Frag} {H H' : Hp} (t : ∀ a xs, SqT K H a xs → SqT K H' a xs) : ∀ {vs : List V} {ks : List NestedKey}, NvAll K H vs ks → NvAll K H' vs ks
  | _, _, .nil => .nil
  | _, _, .cons h r => .cons (h.keep t) (NvAll.keep t r)
end
mutual
theorem Nv.dp {K : PySem.W.Frag} {H : Hp} : ∀ {v : V} {k : NestedKey}, Nv K H v k → Dp K H v k.data
  | _, _, .int i => .int i
  | _, _, .str x => .str x
  | _, _, .tup h r => .tup h (NvAll.dp r)
theorem NvAll.dp {K : PySem.W.Frag} {H : Hp} : ∀ {vs : List V} {ks : List NestedKey}, NvAll K H vs ks → DpAll K H vs (NestedKey.datas ks)
  | _, _, .nil => .nil
  | _, _, .cons h r => .cons h.dp (NvAll.dp r)
end
section
variable {X : Cx} {pins : List (Addr × Obj)} {σ : L2.St} {H : Hp} {s : Shared}
mutual
theorem Nv.is (I : Inv X pins σ H s) : ∀ {v : V} {k : NestedKey} (u : Value), Nv X.K H v k → RelV v u → NestedIs s.heap k u
  | _, _, u, .int i, r => by
    obtain ⟨t, rfl⟩ := r
    exact .int i t
  | _, _, u, .str x, r => by
    obtain ⟨t, rfl⟩ := r
    exact .text x t
  | _, _, u, .tup (a := a) h q, r => by
    obtain rfl : u = Value.ref a := r
    obtain ⟨its, rv, ⟨o, ho, hc, n, hd⟩, _⟩ := I.tuple h
    exact .tup ho hc hd (NvAll.is I _ q (by simpa using rv))
theorem NvAll.is (I : Inv X pins σ H s) : ∀ {vs : List V} {ks : List NestedKey} (us : List Value), NvAll X.K H vs ks → Vals vs us → NestedAll s.heap ks us
  | _, _, us, .nil, r => by cases r; exact .nil
  | _, _, us, .cons h t, r => by
    cases r with
    | cons r1 r2 => exact .cons (Nv.is I _ h r1) (NvAll.is I _ t r2)
end
/-- a member: its address and what it is -/
def Memb (K : PySem.W.Frag) (H : Hp) (p : Addr × NestedKey) : Prop := Nv K H (.ref p.1) p.2 ∧ p.2.depth ≤ 8
theorem mems_of (I : Inv X pins σ H s) {ks : List (Addr × NestedKey)} (h : ∀ p ∈ ks, Memb X.K H p) : Mems X.prog X.w s.heap ks := fun p hp => ⟨(h p hp).1.is I (.ref p.1) rfl, (h p hp).2⟩
/-- the set at a -/
def NSO (P : Program) (w : World) (a : Addr) (L : List (Addr × NestedKey)) : HO := .ext fun h => ∃ es ep t, NSet P w h a L es ep t
theorem nso_new {P : Program} {w : World} {H : Hp} {h : Heap} {a : Addr} {L : List (Addr × NestedKey)} (R : ∃ es ep t, NSet P w h a L es ep t) : ObjOk P w H h a (NSO P w a L) := by
  have ⟨es, ep, t, R1⟩ := R
  have ⟨o, ho, _⟩ := R1.ob
  exact ⟨R, ⟨o, ho⟩, fun h1 h2 ⟨es, ep, t, R2⟩ k => ⟨es, ep, t, nset_keep R2 k⟩⟩
theorem refs_of : ∀ {ks : List (Addr × NestedKey)} {us : List Value}, Vals (ks.map fun p => V.ref p.1) us → us = ks.map fun p => Value.ref p.1
  | [], _, .nil => rfl
  | p :: ks, _, .cons r t => by
    cases r
    rw [refs_of t]; rfl
theorem vals_refs : ∀ ks : List (Addr × NestedKey), Vals (ks.map fun p => V.ref p.1) (ks.map fun p => Value.ref p.1)
  | [] => .nil
  | p :: ks => .cons rfl (vals_refs ks)
end
section
variable {X : Cx}
/-- set(xs), a list or a tuple of such tuples -/
def rSetN (K : PySem.W.Frag) (P : Program) (w : World) : List V → Hp → VK → Prop := fun vs H Q => ∃ (l : Addr) (ks : List (Addr × NestedKey)), vs = [V.ref l] ∧ (SqL K H l (ks.map fun p => V.ref p.1) ∨ SqT K H l (ks.map fun p => V.ref p.1)) ∧ (∀ p ∈ ks, Memb K H p) ∧ ks.length < 64 ∧
  ∀ a L, H a = none → (∀ p ∈ L, p ∈ ks) → (∀ p ∈ ks, p.2 ∈ L.map (·.2)) → (L.map (·.2)).Nodup → Q (.ref a) (upd H a (NSO P w a L))
theorem cr_setN {K0 : PySem.W.Frag} {P0 : Program} {w0 : World} (hK : X.K = K0) (hP : X.prog = P0) (hw : X.w = w0) (hc : X.calm = true) (hu : X.A.units + 64 < cLine) : CallR X (.type "set") (rSetN K0 P0 w0) := by
  subst hK hP hw
  intro pins s σ H vs us Q I r h
  obtain ⟨l, ks, rfl, hs, hk, few, q⟩ := h
  rw [Vals.ref1 r]
  have fin : ∀ (h' : Heap) (tk : Nat) (L : List (Addr × NestedKey)), (∀ b o, s.heap.get? b = some o → h'.get? b = some o) → (∃ es ep t, NSet X.prog X.w h' s.heap.objs.size L es ep t) → GotN ks ks.length L → EP X pins σ Q (.ref s.heap.objs.size) { s with heap := h', toks := tk } :=
    fun h' tk L k R g => by
      refine ⟨.ref s.heap.objs.size, _, I.laid (t' := tk) k (Nat.le_refl _) (nso_new R), rfl, q _ L (I.hok.fresh (Nat.le_refl _)) g.sub (fun p hp => ?_) ?_⟩
      · obtain ⟨j, hj, e⟩ := List.getElem_of_mem hp
        exact g.all j p hj (by rw [List.getElem?_eq_getElem hj, e])
      · obtain ⟨es, ep, t, R1⟩ := R
        exact R1.nd
  rcases hs with hs | hs
  · obtain ⟨its, rv, pl, _⟩ := I.list hs
    have e := refs_of rv
    subst e
    exact call_set_n ks (I.ok.hd hc) few (fillsN_lst pl.isList) (mems_of I hk) (by omega) fin
  · obtain ⟨its, rv, pl, _⟩ := I.tuple hs
    have e := refs_of rv
    subst e
    exact call_set_n ks (I.ok.hd hc) few (fillsN_tup pl) (mems_of I hk) (by omega) fin
end
end Ami

set_option Elab.async false
set_option linter.all false
set_option maxRecDepth 100000
set_option maxHeartbeats 2000000
/-! A set of texts by a comprehension, and sorted of it, however many there are. -/
namespace Ami
open PySem PySem.Spec PyProof.Rows L2
/-- one more text in a row without doubles -/
def ins (x : Str) (ss : List Str) : List Str := if x ∈ ss then ss else x :: ss
theorem mem_ins {x y : Str} {ss : List Str} : y ∈ ins x ss ↔ y ∈ ss ∨ y = x := by
  unfold ins
  by_cases h : x ∈ ss
  · rw [if_pos h]; exact ⟨.inl, fun z => z.elim id fun e => e ▸ h⟩
  · rw [if_neg h, List.mem_cons]; exact Or.comm
theorem ins_nodup {x : Str} {ss : List Str} (n : ss.Nodup) : (ins x ss).Nodup := by
  unfold ins
  by_cases h : x ∈ ss
  · rw [if_pos h]; exact n
  · rw [if_neg h]; exact List.nodup_cons.mpr ⟨h, n⟩
theorem ins_len {x : Str} {ss : List Str} : (ins x ss).length ≤ ss.length + 1 := by
  unfold ins
  by_cases h : x ∈ ss
  · rw [if_pos h]; omega
  · rw [if_neg h, List.length_cons]; omega
theorem inr_mem {x : Str} {ss : List Str} : (Sum.inr x : Key) ∈ ss.map Sum.inr ↔ x ∈ ss := by
  rw [List.mem_map]
  exact ⟨fun ⟨y, h, e⟩ => by cases e; exact h, fun h => ⟨x, h, rfl⟩⟩
section
variable {P : Program} {w : World} {A : Around} {E : Value → Shared → Prop} {s : Shared} {a : Addr}
theorem add_key {l : List Key} {k : Key} {v : Value} {Q : Value → Shared → Prop} (R : SetW w s.heap a l) (hk : keyIs k v = true) (room : l.length + 1 < scanBound)
    (hQ : ∀ h' l', Heap.SameBut a s.heap h' → SetW w h' a l' → (k ∈ l → l' = l) → (k ∉ l → l' = k :: l) → Q .none { s with heap := h', toks := s.toks + 1 }) :
    wpAny (model P w) A (call (.builtin "set.add") [.ref a, v]) Q E s := by
  have ty : s.TypeIs (.ref a) "set" := by
    obtain ⟨o, es, ep, tt, ho, hx, _⟩ := R
    exact ⟨o, ho, hx.1⟩
  refine wpAny_call_entry F.slot_set_add ty F.entry_set_add ?_ (F.args_set_add_2 _ _)
  unfold Builtin.«set.add» Builtin.Frozenset.oneOther
  simp only [List.isEmpty_nil, bind_assoc]
  unfold Builtin.Frozenset.addrOf setAdd
  refine wpAny_bind (wpAny_pure ?_)
  try dsimp only
  refine wpAny_bind (wpAny_pure ?_)
  try dsimp only
  refine wpAny_bind ?_
  refine wpAny_holding ?_
  refine wpAny_bind ((mixKind P w).pyHash (k := k) hk ?_)
  refine add_w (s := { s with toks := s.toks + 1 }) R hk room fun b h' l' sb R' q1 q2 => ?_
  show wpAny _ _ (ret Value.none) _ _ _
  exact wpAny_pure ⟨_, rfl, hQ h' l' sb R' q1 q2⟩
theorem add_txt {ss : List Str} {x : Str} {t : Tok} {Q : Value → Shared → Prop} (R : SetW w s.heap a (ss.map Sum.inr)) (room : ss.length + 1 < scanBound)
    (hQ : ∀ h', Heap.SameBut a s.heap h' → SetW w h' a ((ins x ss).map Sum.inr) → Q .none { s with heap := h', toks := s.toks + 1 }) :
    wpAny (model P w) A (call (.builtin "set.add") [.ref a, .str x t]) Q E s := by
  refine add_key (k := .inr x) R (beq_self_eq_true x) (by rw [List.length_map]; exact room) fun h' l' sb R' q1 q2 => hQ h' sb ?_
  have e : l' = (ins x ss).map Sum.inr := by
    unfold ins
    by_cases h : x ∈ ss
    · rw [if_pos h]; exact q1 (inr_mem.mpr h)
    · rw [if_neg h]; exact q2 fun z => h (inr_mem.mp z)
  exact e ▸ R'
end
section
variable {X : Cx}
theorem addT_ok {pins : List (Addr × Obj)} {σ : L2.St} {H : Hp} {s : Shared} {E : Value → Shared → Prop} {D : Addr} {ss : List Str} {x : Str} {t : Tok} {Q : Value → Shared → Prop} (I : Inv X pins σ H s) (hD : H D = some (SW X.w D (ss.map Sum.inr))) (room : ss.length + 1 < scanBound)
    (h : ∀ s', Inv X pins σ (upd H D (SW X.w D ((ins x ss).map Sum.inr))) s' → Q .none s') : wpAny (model X.prog X.w) X.A (call (.builtin "set.add") [.ref D, .str x t]) Q E s := by
  refine add_txt (sw_get I hD) room fun h' sb new => h _ ?_
  obtain ⟨o, es, ep, tt, ho, _⟩ := id new
  exact I.write (e := D) (t' := s.toks + 1) (by rw [hD]; trivial) (.inl rfl) (fun b u hb hu => (sb.2 b hb).trans hu) ⟨o, ho⟩ (sw_new new)
end
section
variable {P : Program} {w : World} {A : Around} {E : Value → Shared → Prop} {s : Shared} {a : Addr}
/-- the texts that keys stand for -/
def txtK : Key → Str
  | .inr x => x
  | .inl _ => Str.empty
theorem txtK_inr (l : List Str) : (l.map (Sum.inr : Str → Key)).map txtK = l := by
  rw [List.map_map]
  conv => rhs; rw [← List.map_id l]
  exact List.map_congr_left fun _ _ => rfl
theorem sorted_wT {ss : List Str} {Q : Value → Shared → Prop} (R : SetW w s.heap a (ss.map Sum.inr)) (hh : A.handled = none)
    (hQ : ∀ s' p (out : List Value) (c : Nat) (ys : List Str), (∀ b o, s.heap.get? b = some o → s'.heap.get? b = some o) → s'.gens = s.gens → s'.os = s.os → s.heap.objs.size ≤ p →
      s'.heap.get? p = some (seqObj "list" out.toArray c) → StrsAre out ys → ys.Perm ss → Up ys → ys.length ≤ sizeLine → Q (.ref p) s') :
    wpAny (model P w) A (call (.builtin "sorted") [.ref a]) Q E s := by
  obtain ⟨o, es, ep, t, ho, hx, hd, g, nd, m, hb, hf, hr, hl⟩ := R
  have hes : ss.length = es.size := by
    have := m.length_eq
    rw [List.length_map, List.length_map, Array.length_toList] at this
    exact this
  have hb' : ss.length ≤ sizeLine := by rw [hes]; exact Nat.le_trans (Nat.le_of_lt hb) (by decide)
  refine Calls.call_function_entry kind_sorted plain_sorted entry_sorted (args_sorted1 _) ?_
  unfold Builtin.«sorted»
  refine wpAny_bind (m := checkCount "sorted" 1 1 _) (wpAny_pure ?_)
  refine wpAny_bind (collect_set (A := A.in1) hh ⟨o, ho, hx.1, hd⟩ hf hb hr hl fun s1 vs k1 hz g1 o1 pm => ?_)
  have all : ∀ v ∈ vs, keyIs (kOf v) v = true := fun v hv => by
    obtain ⟨e, he, q⟩ := List.mem_map.mp (pm.mem_iff.mp hv)
    rw [← q]
    exact (g e he).1
  have pk : (vs.map kOf).Perm (ss.map Sum.inr) := by
    have q := pm.map kOf
    rw [List.map_map] at q
    exact q.trans m.symm
  have pt : ((vs.map kOf).map txtK).Perm ss := by
    have q := pk.map txtK
    rw [txtK_inr] at q
    exact q
  have et : vs.map kOf = ((vs.map kOf).map txtK).map Sum.inr := by
    rw [List.map_map]
    conv => lhs; rw [← List.map_id (vs.map kOf)]
    refine List.map_congr_left fun k hk => ?_
    obtain ⟨x, _, e⟩ := List.mem_map.mp (pk.mem_iff.mp hk)
    rw [← e]; rfl
  have hS : StrsAre vs ((vs.map kOf).map txtK) := strs_of_keys et all
  have hvl : vs.length ≤ sizeLine := by
    have := pk.length_eq
    rw [List.length_map, List.length_map] at this
    rw [this]; exact hb'
  refine wpAny_bind (wpAny_newList ?_ hvl)
  have hoL : (s1.heap.push (seqObj "list" vs.toArray 0)).get? s1.heap.objs.size = some (seqObj "list" vs.toArray 0) := Heap.get?_push_size _ rfl
  refine wpAny_bind (wpAny_holding (wpAny_call_entry slot_list_sort ⟨_, hoL, rfl⟩ entry_list_sort
    (SrtO.list_sort_ord swo_txt hoL hvl (fun h2 => txt_sortable hS h2) fun out hs hb2 => ⟨_, rfl, ?_⟩) (args_list_sort _)))
  obtain ⟨q1, q2, q3⟩ := txt_out hS hs hb2
  obtain ⟨c, hc⟩ := sortedHeap_at (vs := vs) (out := out.toArray) hoL
  refine wpAny_pure ⟨_, rfl, hQ _ s1.heap.objs.size out c (out.map txtV) (fun b u e => ?_) g1 o1 hz hc q1 (q2.trans pt) q3 ?_⟩
  · have q := k1 b u e
    have hlt := Heap.lt_size q
    show (sortedHeap (s1.heap.push (seqObj "list" vs.toArray 0)) s1.heap.objs.size vs out.toArray).get? b = some u
    rw [sortedHeap_old (Nat.ne_of_lt hlt) (by rw [Heap.size_push]; exact Nat.lt_succ_of_lt hlt)]
    exact Heap.get?_push_of_some _ q
  · rw [(q2.trans pt).length_eq]; exact hb'
end
section
variable {X : Cx}
/-- sorted of a set of texts, any number of them -/
theorem cr_sortedWT (hc : X.calm = true) : CallR X (.builtin "sorted") (fun vs H Q => ∃ (a : Addr) (ss : List Str), vs = [.ref a] ∧ H a = some (SW X.w a (ss.map Sum.inr)) ∧
    ∀ ys p, ys.Perm ss → Up ys → H p = none → Q (.ref p) (upd H p (.lst (ys.map V.str)))) := by
  intro pins s σ H vs us Q I r h
  obtain ⟨a, ss, rfl, ha, q⟩ := h
  rw [Vals.ref1 r]
  refine sorted_wT (sw_get I ha) (I.ok.hd hc) fun s' p out c ys k g o hp hg hs hpm hso hlen => ?_
  have hn : H p = none := I.hok.fresh hp
  have J : Inv X pins σ (upd H p (.lst (ys.map V.str))) { s with heap := s'.heap, gens := s'.gens, drawn := s'.drawn, toks := s'.toks } :=
    I.call (ch := []) (Un.laid k hp hn) (I.hok.laid k hp ⟨by rw [List.length_map]; exact hlen, out, c, vals_of_strs hs, hg⟩) (by rw [g]; exact I.bare) (fun _ z => nomatch z)
  have e : s' = { s with heap := s'.heap, gens := s'.gens, drawn := s'.drawn, toks := s'.toks } := by
    cases s'
    cases s
    cases o
    rfl
  rw [e]
  exact ⟨.ref p, _, J, rfl, q ys p hpm hso hn⟩
end
end Ami

set_option Elab.async false
set_option linter.all false
set_option maxRecDepth 100000
set_option maxHeartbeats 4000000
/-! Sorted of such tuples, and one < other. -/
namespace Ami
open PySem PySem.Spec PyProof.Rows L2
open PySem.W (alike alikeAll dataLt dataLe AllAlike Sortable)
mutual
theorem depth_data : ∀ k : NestedKey, k.data.depth = k.depth
  | .none => rfl
  | .num _ => rfl
  | .text _ => rfl
  | .tup ks => by
    show PyData.depthAll (NestedKey.datas ks) + 1 = NestedKey.depthAll ks + 1
    rw [depths_data ks]
theorem depths_data : ∀ ks : List NestedKey, PyData.depthAll (NestedKey.datas ks) = NestedKey.depthAll ks
  | [] => rfl
  | k :: ks => by
    show max k.data.depth (PyData.depthAll (NestedKey.datas ks)) = max k.depth (NestedKey.depthAll ks)
    rw [depth_data k, depths_data ks]
end
abbrev nd (p : Addr × NestedKey) : PyData := p.2.data
/-- the order -/
def NUp (L : List (Addr × NestedKey)) : Prop := L.Pairwise fun p q => dataLt (nd q) (nd p) = false
/-- they can be compared -/
structure Comp (L : List (Addr × NestedKey)) : Prop where
  al : ∀ p ∈ L, ∀ q ∈ L, alike (nd p) (nd q) = true
  tup : ∀ p ∈ L, ∃ k r, p.2 = .tup (k :: r)
theorem Comp.alike (h : Comp L) : AllAlike (L.map nd) := fun d hd d' hd' => by
  obtain ⟨p, hp, rfl⟩ := List.mem_map.mp hd
  obtain ⟨q, hq, rfl⟩ := List.mem_map.mp hd'
  exact h.al p hp q hq
theorem Comp.sortable (h : Comp L) : Sortable (L.map nd) := .inl fun d hd => by
  obtain ⟨p, hp, rfl⟩ := List.mem_map.mp hd
  obtain ⟨k, r, e⟩ := h.tup p hp
  exact ⟨k.data, NestedKey.datas r, by show p.2.data = _; rw [e]; rfl⟩
theorem Comp.sub {L L' : List (Addr × NestedKey)} (h : Comp L) (s : ∀ p ∈ L', p ∈ L) : Comp L' := ⟨fun p hp q hq => h.al p (s p hp) q (s q hq), fun p hp => h.tup p (s p hp)⟩
theorem nup_sort (L : List (Addr × NestedKey)) : NUp (L.mergeSort (dataLe false nd)) := by
  refine (PySem.W.sort_pairwise (PySem.W.sortLe_total _ false _) L).imp fun {p q} h => ?_
  have : (!dataLt (nd q) (nd p)) = true := h
  simpa using this
def asRef (v : Value) (p : Addr × NestedKey) : Prop := v = .ref p.1
theorem each_refs : ∀ ks : List (Addr × NestedKey), PySem.W.EachIs asRef (ks.map fun p => Value.ref p.1) ks
  | [] => .nil
  | p :: ks => .cons rfl (each_refs ks)
theorem refs_each : ∀ {vs : List Value} {ks : List (Addr × NestedKey)}, PySem.W.EachIs asRef vs ks → vs = ks.map fun p => Value.ref p.1
  | _, _, .nil => rfl
  | _, _, .cons r t => by
    rw [r, refs_each t]; rfl
theorem each_reads {h : Heap} : ∀ {ks : List (Addr × NestedKey)}, (∀ p ∈ ks, ∃ as, Reads h (.ref p.1) (nd p) as) → PySem.W.EachIs (fun v b => ∃ as, Reads h v (nd b) as) (ks.map fun p => Value.ref p.1) ks
  | [], _ => .nil
  | p :: ks, h => .cons (h p List.mem_cons_self) (each_reads fun q hq => h q (List.mem_cons_of_mem _ hq))
section
variable {X : Cx}
/-- sorted(xs), a list of such tuples, however many -/
def rSortN (K : PySem.W.Frag) : List V → Hp → VK → Prop := fun vs H Q => ∃ (l : Addr) (ks : List (Addr × NestedKey)), vs = [V.ref l] ∧ SqL K H l (ks.map fun p => V.ref p.1) ∧ (∀ p ∈ ks, Memb K H p) ∧ Comp ks ∧
  ∀ ks' p, ks'.Perm ks → NUp ks' → H p = none → Q (.ref p) (upd H p (.lst (ks'.map fun p => V.ref p.1)))
theorem cr_sortN {K0 : PySem.W.Frag} (hK : X.K = K0) (hu : X.A.units + 64 < cLine) : CallR X (.builtin "sorted") (rSortN K0) := by
  subst hK
  intro pins s σ H vs us Q I r h
  obtain ⟨l, ks, rfl, hs, hk, hc, q⟩ := h
  rw [Vals.ref1 r]
  obtain ⟨its, rv, pl, hz⟩ := I.list hs
  have e := refs_of rv
  subst e
  have hz' : ks.length ≤ sizeLine := by rw [List.length_map] at hz; exact hz
  refine PySem.W.sorted_data (enc := nd) (bs := ks) (R := asRef) pl.isList (each_refs ks) (each_reads fun p hp => Dp.reads I _ _ _ (hk p hp).1.dp rfl) hc.alike hc.sortable hz' (fun p hp => ?_) fun out h1 h2 => ?_
  · have := (hk p hp).2
    show X.A.units + 2 + p.2.data.depth < cLine
    rw [depth_data]; omega
  obtain rfl := refs_each h2
  obtain ⟨ep, he'⟩ := PyProof.Rows.sortedAll_at s.heap (ks.map fun p => Value.ref p.1) ((ks.mergeSort (dataLe false nd)).map fun p => Value.ref p.1).toArray
  have pm : (ks.mergeSort (dataLe false nd)).Perm ks := List.mergeSort_perm ..
  have hlen : ((ks.mergeSort (dataLe false nd)).map fun p => V.ref p.1).length ≤ sizeLine := by rw [List.length_map, pm.length_eq]; exact hz'
  have J : Inv X pins σ (upd H (s.heap.objs.size + 1) (.lst ((ks.mergeSort (dataLe false nd)).map fun p => V.ref p.1))) _ := I.laid (t' := s.toks) (fun _ _ => PyProof.Rows.sortedAll_old) (Nat.le_succ _) ⟨hlen, _, ep, vals_refs _, he'⟩
  exact ⟨.ref _, _, J, rfl, q _ _ pm (nup_sort ks) (I.hok.fresh (Nat.le_succ _))⟩
end
section
variable {P : Program} {w : World} {A : Around} {E : Value → Shared → Prop} {s : Shared} {a : Addr}
theorem sorted_n {L : List (Addr × NestedKey)} {es : Array (Int × Value)} {ep : Nat} {t : SetTable} {Q : Value → Shared → Prop} (R : NSet P w s.heap a L es ep t) (hh : A.handled = none) (hc : Comp L) (rd : ∀ p ∈ L, ∃ as, Reads s.heap (.ref p.1) (nd p) as) (hd : ∀ p ∈ L, p.2.depth ≤ 8) (one : ∀ p ∈ L, ∀ q ∈ L, p.1 = q.1 → p = q) (hu : A.units + 64 < cLine)
    (hQ : ∀ s' p (out : Array Value) (c : Nat) (L' : List (Addr × NestedKey)), (∀ b o, s.heap.get? b = some o → s'.heap.get? b = some o) → s'.gens = s.gens → s'.os = s.os → s.heap.objs.size ≤ p →
      s'.heap.get? p = some (seqObj "list" out c) → out.toList = L'.map (fun q => Value.ref q.1) → L'.Perm L → NUp L' → Q (.ref p) s') :
    wpAny (model P w) A (call (.builtin "sorted") [.ref a]) Q E s := by
  obtain ⟨o, ho, hex, hdt⟩ := R.ob
  have few := R.few
  refine Calls.call_function_entry kind_sorted plain_sorted entry_sorted (args_sorted1 _) ?_
  unfold Builtin.«sorted»
  refine wpAny_bind (m := checkCount "sorted" 1 1 _) (wpAny_pure ?_)
  refine wpAny_bind (collect_set (A := A.in1) hh ⟨o, ho, hex.1, hdt⟩ R.fits (by rw [rows_size R.rows]; exact Nat.lt_trans few (by decide)) R.tab.ris R.led fun s1 vs k1 hz g1 o1 pm => ?_)
  have er : es.toList.map (·.2) = L.map fun q => Value.ref q.1 := by
    rw [R.rows, List.map_map]; rfl
  rw [er] at pm
  -- the values are those of the rows, in some order
  obtain ⟨L1, rfl, pm1⟩ : ∃ L1 : List (Addr × NestedKey), vs = L1.map (fun q => Value.ref q.1) ∧ L1.Perm L := by
    have h := pm
    clear er
    have : ∀ (vs : List Value) (L : List (Addr × NestedKey)), vs.Perm (L.map fun q => Value.ref q.1) → ∃ L1 : List (Addr × NestedKey), vs = L1.map (fun q => Value.ref q.1) ∧ L1.Perm L := by
      intro vs
      induction vs with
      | nil =>
        intro L h
        have := h.length_eq
        rw [List.length_map] at this
        exact ⟨[], rfl, by rw [List.length_eq_zero_iff.mp this.symm]⟩
      | cons v vs ih =>
        intro L h
        obtain ⟨p, hp, e⟩ := List.mem_map.mp (h.mem_iff.mp List.mem_cons_self)
        obtain ⟨l1, l2, rfl⟩ := List.append_of_mem hp
        have h2 : (v :: vs).Perm (Value.ref p.1 :: ((l1 ++ l2).map fun q => Value.ref q.1)) := by
          refine h.trans ?_
          rw [List.map_append, List.map_cons, List.map_append]
          exact List.perm_middle
        rw [← e] at h2
        obtain ⟨L1, e1, p1⟩ := ih (l1 ++ l2) h2.cons_inv
        exact ⟨p :: L1, by rw [List.map_cons, e, e1], (p1.cons p).trans List.perm_middle.symm⟩
    exact this vs L h
  have mem1 : ∀ p ∈ L1, p ∈ L := fun p hp => pm1.mem_iff.mp hp
  have l1 : (L1.map fun q => Value.ref q.1).length ≤ sizeLine := by rw [List.length_map, pm1.length_eq, sizeLine_eq]; omega
  refine wpAny_bind (wpAny_newList ?_ l1)
  have hoL : (s1.heap.push (seqObj "list" (L1.map fun q => Value.ref q.1).toArray 0)).get? s1.heap.objs.size = some (seqObj "list" (L1.map fun q => Value.ref q.1).toArray 0) := Heap.get?_push_size _ rfl
  have none1 : s1.heap.get? s1.heap.objs.size = none := by
    cases q : s1.heap.get? s1.heap.objs.size with
    | none => rfl
    | some o => exact absurd (Heap.lt_size q) (Nat.lt_irrefl _)
  refine wpAny_bind (wpAny_holding (PySem.W.list_sort_data (s := { s1 with heap := s1.heap.push (seqObj "list" (L1.map fun q => Value.ref q.1).toArray 0) }) (enc := nd) (bs := L1) (R := asRef) hoL (each_refs L1) ?_ (hc.sub mem1).alike (hc.sub mem1).sortable (by rw [List.length_map] at l1; exact l1) (fun p hp => ?_) fun out h1 h2 => ?_))
  · have go : ∀ K : List (Addr × NestedKey), (∀ p ∈ K, p ∈ L) → PySem.W.EachIs (fun v b => ∃ as, Reads (s1.heap.push (seqObj "list" (L1.map fun q => Value.ref q.1).toArray 0)) v (nd b) as ∧ s1.heap.objs.size ∉ as) (K.map fun q => Value.ref q.1) K := by
      intro K
      induction K with
      | nil => exact fun _ => .nil
      | cons p K ih =>
        intro h
        obtain ⟨as, r⟩ := rd p (h p List.mem_cons_self)
        refine .cons ⟨as, PyProof.Rows.Reads.keeps (fun b o e => Heap.get?_push_of_some _ (k1 b o e)) r, fun hm => ?_⟩ (ih fun q hq => h q (List.mem_cons_of_mem _ hq))
        obtain ⟨o, e⟩ := PyProof.On.reads_mem_get r _ hm
        exact absurd (Heap.lt_size (k1 _ _ e)) (Nat.lt_irrefl _)
    exact go L1 mem1
  · have := hd p (mem1 p hp)
    show A.in1.units + 1 + p.2.data.depth < cLine
    rw [depth_data]
    show A.units + 1 + 1 + _ < cLine
    omega
  obtain rfl := refs_each h2
  obtain ⟨c, hcc⟩ := sortedHeap_at (vs := L1.map fun q => Value.ref q.1) (out := ((L1.mergeSort (dataLe false nd)).map fun p => Value.ref p.1).toArray) hoL
  have pm2 : (L1.mergeSort (dataLe false nd)).Perm L1 := List.mergeSort_perm ..
  refine wpAny_pure ⟨_, rfl, hQ _ s1.heap.objs.size _ c (L1.mergeSort (dataLe false nd)) (fun b u e => ?_) g1 o1 hz hcc rfl (pm2.trans pm1) (nup_sort L1)⟩
  have q := k1 b u e
  have hlt := Heap.lt_size q
  show (sortedHeap (s1.heap.push (seqObj "list" (L1.map fun q => Value.ref q.1).toArray 0)) s1.heap.objs.size _ _).get? b = some u
  rw [sortedHeap_old (Nat.ne_of_lt hlt) (by rw [Heap.size_push]; exact Nat.lt_succ_of_lt hlt)]
  exact Heap.get?_push_of_some _ q
end
section
variable {X : Cx}
/-- sorted(set) -/
def rSortSN (K : PySem.W.Frag) (P : Program) (w : World) : List V → Hp → VK → Prop := fun vs H Q => ∃ (a : Addr) (L : List (Addr × NestedKey)), vs = [V.ref a] ∧ H a = some (NSO P w a L) ∧ (∀ p ∈ L, Memb K H p) ∧ Comp L ∧
  ∀ L' p, L'.Perm L → NUp L' → (L'.map (·.2)).Nodup → H p = none → Q (.ref p) (upd H p (.lst (L'.map fun p => V.ref p.1)))
theorem nested_one {h : Heap} {L : List (Addr × NestedKey)} {P : Program} {w : World} (M : Mems P w h L) : ∀ p ∈ L, ∀ q ∈ L, p.1 = q.1 → p = q := fun p hp q hq e => by
  have a := (M p hp).1
  have b := (M q hq).1
  rw [← e] at b
  exact Prod.ext e (NestedIs.inj _ _ _ a b)
theorem cr_sortSN {K0 : PySem.W.Frag} {P0 : Program} {w0 : World} (hK : X.K = K0) (hP : X.prog = P0) (hw : X.w = w0) (hc : X.calm = true) (hu : X.A.units + 64 < cLine) : CallR X (.builtin "sorted") (rSortSN K0 P0 w0) := by
  subst hK hP hw
  intro pins s σ H vs us Q I r h
  obtain ⟨a, L, rfl, ha, hk, hcm, q⟩ := h
  obtain ⟨es, ep, t, R⟩ : ∃ es ep t, NSet X.prog X.w s.heap a L es ep t := (I.hok a _ ha).1
  rw [Vals.ref1 r]
  refine sorted_n R (I.ok.hd hc) hcm (fun p hp => Dp.reads I _ _ _ (hk p hp).1.dp rfl) (fun p hp => (hk p hp).2) (nested_one (mems_of I hk)) hu fun s' p out c L' k g o hp hg hout pm up => ?_
  have hlen : (L'.map fun q => V.ref q.1).length ≤ sizeLine := by
    have := R.few
    rw [List.length_map, pm.length_eq, sizeLine_eq]; omega
  have hn : H p = none := I.hok.fresh hp
  have hv : Vals (L'.map fun q => V.ref q.1) out.toList := by rw [hout]; exact vals_refs L'
  have J : Inv X pins σ (upd H p (.lst (L'.map fun q => V.ref q.1))) { s with heap := s'.heap, gens := s'.gens, drawn := s'.drawn, toks := s'.toks } :=
    I.call (ch := []) (Un.laid k hp hn) (I.hok.laid k hp ⟨hlen, out.toList, c, hv, hg⟩) (by rw [g]; exact I.bare) (fun _ z => nomatch z)
  have e : s' = { s with heap := s'.heap, gens := s'.gens, drawn := s'.drawn, toks := s'.toks } := by
    cases s'
    cases s
    cases o
    rfl
  rw [e]
  exact ⟨.ref p, _, J, rfl, q L' p pm up ((pm.map (·.2)).nodup_iff.mpr R.nd) hn⟩
/-- one < other -/
def rLtN (K : PySem.W.Frag) : R2 := fun x y H Q => ∃ k j : NestedKey, Nv K H x k ∧ Nv K H y j ∧ alike k.data j.data = true ∧ k.depth ≤ 8 ∧ Q (.bl (dataLt k.data j.data)) H
theorem op_ltN {K0 : PySem.W.Frag} (hK : X.K = K0) (hu : X.A.units + 64 < cLine) : OpR X (compareOp .Lt) (rLtN K0) := by
  subst hK
  intro pins s σ H x y v u Q I rx ry h
  obtain ⟨k, j, hk, hj, ha, hd, q⟩ := h
  obtain ⟨as, r1⟩ := Dp.reads I _ _ _ hk.dp rx
  obtain ⟨bs, r2⟩ := Dp.reads I _ _ _ hj.dp ry
  have nn : k.data ≠ .none := by cases hk <;> exact fun z => nomatch z
  refine PySem.W.rcLt_alike _ _ X.A s _ _ _ _ r1 r2 ha nn ?_ _ _ _ _ ⟨.bl _, H, I, rfl, q⟩
  have := Nat.min_le_left k.data.depth j.data.depth
  rw [depth_data] at this
  rw [depth_data]
  omega
end
end Ami

set_option Elab.async false
set_option linter.all false
set_option maxRecDepth 100000
set_option maxHeartbeats 2000000
/-! d.setdefault(k, x), where keys are tuples. -/
namespace Ami
open PySem PySem.Spec PyProof.Rows L2
section
variable {X : Cx} {pins : List (Addr × Obj)} {σ : L2.St} {H : Hp} {s : Shared} {a : Addr} {A : Around} {E : Value → Shared → Prop}
theorem d_setdT {kvs : List (List Key × V)} {k : List Key} {b : Addr} {d : V} {r : Value} {Q : Value → Shared → Prop} (hu : A.units + 1 < cLine) (I : Inv X pins σ H s) (e : H a = some (.dT kvs)) (eb : H b = some (.tup (k.map kV))) (rd : RelV d r) (hl : kvs.length < sizeLine)
    (h1 : ∀ v, valV kvs k = some v → ∀ (w' : Value) (s' : Shared), Inv X pins σ H s' → RelV v w' → Q w' s') (h2 : valV kvs k = none → ∀ (w' : Value) (s' : Shared), Inv X pins σ (upd H a (.dT (putK kvs k d))) s' → RelV d w' → Q w' s') :
    wpAny (model X.prog X.w) A (call (.builtin "dict.setdefault") [.ref a, .ref b, r]) Q E s := by
  obtain ⟨z, hd, xs, rel, dd⟩ := dt_of I.hok e
  have hz : xs.length ≤ sizeLine := by rw [← Paired.length rel]; exact z
  have val := rel.val k
  refine call_setdefault_heap (hsz := hz) (tupleKind_room_in1 hu) (key_of I.hok eb) hd dd (fun p hp => ?_) fun hn h' dd' hs => ?_
  · rw [hp] at val
    cases q : valV kvs k with
    | none => rw [q] at val; exact (show False from val).elim
    | some v => rw [q] at val; exact h1 v q _ _ (I.tok _) val
  · rw [hn] at val
    cases q : valV kvs k with
    | some v => rw [q] at val; exact (show False from val).elim
    | none =>
      have hl2 : (putK kvs k d).length ≤ sizeLine := by have := length_putK kvs k d; omega
      obtain ⟨o, es, ep, hq, g2, g3, g4, _, g5⟩ := dd'
      refine h2 q _ _ (d_write I (by rw [e]; exact True.intro) hs ⟨o, hq⟩ ⟨hl2, hd, _, (rel.put k eb rd).keeps fun c ys ec => ?_, o, es, ep, hq, g2, g3, g4, g5⟩) rd
      rw [upd_ne (ne_of ec e (fun z => nomatch z))]
      exact ec
end
/-- d.setdefault((..), z) -/
def tDSetdT (td ty tx : TE) : TE := fun σ H Q => td σ H fun x H1 => ∃ a, x = .ref a ∧ IsD H1 a ∧ ty σ H1 fun y H2 => tx σ H2 fun z H3 => ∃ (kvs : List (List Key × V)) (k : List Key) (b : Addr), H3 a = some (.dT kvs) ∧ y = .ref b ∧ H3 b = some (.tup (k.map kV)) ∧ kvs.length < sizeLine ∧
  (∀ v, valV kvs k = some v → Q v H3) ∧ (valV kvs k = none → Q z (upd H3 a (.dT (putK kvs k z))))
section
variable {X : Cx} {o e f : Expr} {td ty tx : TE} {apos cpos : Pos}
theorem pe_dsetdT (hu : X.A.units + 2 < cLine) (ho : PE X o td) (he : PE X e ty) (hf : PE X f tx) (m : M2 X o "setdefault" apos e f cpos) : PE X (.Call (.Attribute o "setdefault" apos) [e, f] [] cpos) (tDSetdT td ty tx) := by
  refine ⟨fun pins s σ H Q I h => ?_⟩
  refine wpAny_Call_method m.base m.few m.line PySem.F.plainAttrs_dict PySem.F.slot_dict_setdefault PySem.F.type_dict_setdefault (thn (ho.run pins s σ H _ I h) fun u s1 ⟨x, H1, I1, rx, a, ex, d, q1⟩ => ?_)
  subst ex
  obtain rfl : u = Value.ref a := rx
  obtain ⟨t1, t2, _⟩ := isD_at I1 d
  refine ⟨t1, t2, ?_⟩
  rw [m.trees]
  refine Calls.callWith_builtin rfl (Calls.evalArgs_plain (Calls.spliced_cons (thn (he.run pins s1 σ H1 _ I1 q1) fun iv s2 ⟨y, H2, I2, ry, q2⟩ =>
    Calls.spliced_cons (thn (hf.run pins s2 σ H2 _ I2 q2) fun fv s3 ⟨z, H3, I3, rz, kvs, k, b, ea, ey, eb, hl, q3, q4⟩ => Calls.spliced_nil ?_))))
  subst ey
  obtain rfl : iv = Value.ref b := ry
  exact d_setdT (by omega) I3 ea eb rz hl (fun v hv w' s4 I4 rw' => ⟨v, _, I4, rw', q3 v hv⟩) fun hn w' s4 I4 rw' => ⟨z, _, I4, rw', q4 hn⟩
end
end Ami

set_option Elab.async false
set_option linter.all false
set_option maxRecDepth 100000
set_option maxHeartbeats 2000000
/-! AmiA3: t[::-1] of a tuple. -/
namespace Ami
open PySem PySem.Spec PyProof.Rows L2 HT
theorem fm_congr {α β : Type} {f g : α → Option β} : ∀ L : List α, (∀ m ∈ L, f m = g m) → L.filterMap f = L.filterMap g
  | [], _ => rfl
  | a :: L, h => by
    rw [List.filterMap_cons, List.filterMap_cons, h a (List.mem_cons_self ..), fm_congr L fun m hm => h m (List.mem_cons_of_mem _ hm)]
theorem sliceAppliedB {prog : Program} {w : World} {A : Around} {E : Value → Shared → Prop} {s : Shared} {sl : Addr} {vl vu vs : Value} {n : Nat} {Q : Int × Int × Nat → Shared → Prop} (hs : s.heap.IsSliceOf sl vl vu vs) (pl : IsPart vl none) (pu : IsPart vu none) (ps : IsPart vs (some (-1)))
    (h : Q ((n : Int) - 1, -1, n) s) : wpAny (model prog w) A (Builtin.Slice.sliceApplied (.ref sl) (pure (n : Int))) Q E s := by
  obtain ⟨os, hos, hcs, hds⟩ := id hs
  unfold Builtin.Slice.sliceApplied Builtin.Slice.sliceFields
  refine wpAny_bind (wpAny_bind (wpAny_field hos hds (x := vl) rfl (wpAny_bind (wpAny_field hos hds (x := vu) rfl (wpAny_bind (wpAny_field hos hds (x := vs) rfl (wpAny_pure ?_)))))))
  refine wpAny_bind (slicePart_ ps ?_)
  show wpAny _ _ (if ((-1 : Int) == 0) = true then _ else _) _ _ s
  rw [if_neg (by decide)]
  refine wpAny_bind (slicePart_ pl (wpAny_bind (slicePart_ pu (wpAny_bind (wpAny_pure ?_)))))
  have e : Builtin.Slice.sliceAdjust none none (-1) (n : Int) = ((n : Int) - 1, -1) := rfl
  show wpAny _ _ (match Builtin.Slice.sliceAdjust none none (-1) (n : Int) with | (lo, hi) => pure (lo, (-1 : Int), Builtin.Slice.slicePlaces lo hi (-1))) _ _ s
  rw [e]
  have e2 : Builtin.Slice.slicePlaces ((n : Int) - 1) (-1) (-1) = n := by
    unfold Builtin.Slice.slicePlaces
    have h0 : ¬ ((-1 : Int) > 0) := by decide
    have h1 : (- -1 : Int) = 1 := by decide
    rw [if_neg h0, h1, Int.ediv_one]
    split <;> omega
  show wpAny _ _ (pure ((n : Int) - 1, (-1 : Int), Builtin.Slice.slicePlaces ((n : Int) - 1) (-1) (-1))) _ _ s
  rw [e2]
  exact wpAny_pure h
theorem pick_back (xs : Array Value) : ((List.range xs.size).filterMap fun (m : Nat) => xs[((xs.size : Int) - 1 + (m : Int) * (-1)).toNat]?).toArray = xs.toList.reverse.toArray := by
  obtain ⟨l⟩ := xs
  congr 1
  have e : (List.range l.length).filterMap (fun (m : Nat) => (List.toArray l)[((l.length : Int) - 1 + (m : Int) * (-1)).toNat]?) = (List.range l.length).filterMap (fun m => l.reverse[m]?) := by
    refine fm_congr _ fun m hm => ?_
    have hm' : m < l.length := List.mem_range.mp hm
    have : ((l.length : Int) - 1 + (m : Int) * (-1)).toNat = l.length - 1 - m := by omega
    rw [this, List.getElem?_reverse hm', List.getElem?_toArray]
  show (List.range l.length).filterMap (fun (m : Nat) => (List.toArray l)[((l.length : Int) - 1 + (m : Int) * (-1)).toNat]?) = l.reverse
  rw [e, ← List.length_reverse]
  generalize l.reverse = r
  have : ∀ r : List Value, (List.range r.length).filterMap (fun m => r[m]?) = r := by
    intro r
    have g : (List.range r.length).filterMap (fun m => r[m]?) = (List.range' 0 r.length).filterMap (fun m => r[m]?) := by rw [List.range_eq_range']
    rw [g]
    have : ∀ (q p : List Value), (List.range' p.length q.length).filterMap (fun m => (p ++ q)[m]?) = q := by
      intro q
      induction q with
      | nil => intro p; rfl
      | cons a q ih =>
        intro p
        have h := ih (p ++ [a])
        rw [List.append_assoc, List.length_append] at h
        rw [List.length_cons, List.range'_succ, List.filterMap_cons, List.getElem?_append_right (Nat.le_refl _), Nat.sub_self]
        show a :: _ = _
        exact congrArg (a :: ·) h
    exact this r []
  exact this r
theorem getItem_tuple_back {prog : Program} {w : World} {A : Around} {E : Value → Shared → Prop} {s : Shared} {t sl : Addr} {items : Array Value} {vl vu vs : Value} {Q : Value → Shared → Prop} (ht : IsTup s.heap t items) (hs : s.heap.IsSliceOf sl vl vu vs) (pl : IsPart vl none) (pu : IsPart vu none) (ps : IsPart vs (some (-1)))
    (h : Q (.ref s.heap.objs.size) { s with heap := s.heap.push { cls := .type "tuple", data := .seq items.toList.reverse.toArray } })
    (hsz : items.size ≤ sizeLine) : wpAny (model prog w) A (getItem (.ref t) (.ref sl)) Q E s := by
  have htake : sizeOk (.seq items.toList.reverse.toArray) := by
    show items.toList.reverse.toArray.size ≤ sizeLine
    rw [List.size_toArray, List.length_reverse, Array.length_toList]
    omega
  obtain ⟨os, hos, hcs, hds⟩ := id hs
  have hTs : s.TypeIs (.ref sl) "slice" := ⟨os, hos, hcs⟩
  unfold getItem
  try with_reducible refine wpAny_holding ?_
  first | refine wpAny_bind (wpAny_pure ?_) | skip
  refine wpAny_bind (wpAny_sequenceKey ht.typeIs (by decide) ?_)
  refine wpAny_bind (wpAny_callSpecial?_slot (name := Str.ofString "__getitem__") ht.typeIs PyProof.Rows.slot_tuple_getitem
    (wpAny_call_entry PyProof.Rows.slot_tuple_getitem ht.typeIs entry_tuple_getitem ?_ (args_tuple_getitem _ _)))
  show wpAny _ _ (Builtin.Tuple.tupleItemsOf (.ref t) >>= _) _ _ s
  refine wpAny_bind (tupleItemsOf_ ht ?_)
  refine wpAny_bind (wpAny_typeOf hTs ?_)
  rw [if_pos (by decide)]
  refine wpAny_bind (sliceAppliedB hs pl pu ps ?_)
  have hno : ¬ (((((items.size : Nat) : Int) - 1) == 0 && (-1 : Int) == 1 && items.size == items.size) = true) := by
    intro q
    rw [Bool.and_eq_true, Bool.and_eq_true] at q
    exact absurd (eq_of_beq q.1.2) (by decide)
  show wpAny _ _ (if ((((items.size : Nat) : Int) - 1) == 0 && (-1 : Int) == 1 && items.size == items.size) = true then _ else _) _ _ s
  rw [if_neg hno, pick_back]
  first
    | exact wpAny_bind (m := Builtin.Tuple.tupleExact _) (wpAny_newObj_type (wpAny_pure ⟨_, rfl, wpAny_pure h⟩) htake)
    | exact wpAny_bind (m := Builtin.Tuple.tupleExact _) (wpAny_newObj_type (wpAny_bind (wpAny_pure (wpAny_pure ⟨_, rfl, wpAny_pure h⟩))) htake)
    | exact wpAny_bind (wpAny_bind (m := Builtin.Tuple.tupleExact _) (wpAny_newObj_type (wpAny_pure (wpAny_pure ⟨_, rfl, wpAny_pure h⟩)) htake))
    | exact wpAny_bind (wpAny_bind (m := Builtin.Tuple.tupleExact _) (wpAny_newObj_type (wpAny_pure ⟨_, rfl, wpAny_pure h⟩) htake))
section
variable {X : Cx}
def tRevT (K : PySem.W.Frag) (te : TE) : TE := fun σ H Q => te σ H fun x H1 => ∃ a xs, x = .ref a ∧ SqT K H1 a xs ∧ ∀ p, H1 p = none → Q (.ref p) (upd H1 p (.tup xs.reverse))
theorem pe_revT {e : Expr} {te : TE} {k : Nat} {p1 p2 p3 pos : Pos} (he : PE X e te) : PE X (.Subscript e (.Slice none none (some (.UnaryOp .USub (.Constant (.int 1) k p1) p2)) p3) pos) (tRevT X.K te) := by
  refine ⟨fun pins s σ H Q I h => ?_⟩
  refine Subscript_ (thn (he.run pins s σ H _ I h) fun v s1 ⟨x, H1, I1, r1, q1⟩ => ?_)
  obtain ⟨a, xs, ex, hx, q⟩ := q1
  subst ex
  cases r1
  have hst : PO X (some (.UnaryOp .USub (.Constant (.int 1) k p1) p2)) (tPart (tUn (rU fun i => .int (-i)) (tC (.int 1)))) := po_some (pe_un un_neg pe_int)
  refine wpAny_Slice (thn (po_none.run pins s1 σ H1 (fun o H2 => o = none ∧ H2 = H1) I1 ⟨rfl, rfl⟩) fun vl s2 ⟨l, H2, I2, pl, el, e2⟩ => ?_)
  subst el e2
  refine thn (po_none.run pins s2 σ H2 (fun o H3 => o = none ∧ H3 = H2) I2 ⟨rfl, rfl⟩) fun vu s3 ⟨u, H3, I3, pu, eu, e3⟩ => ?_
  subst eu e3
  refine thn (hst.run pins s3 σ H3 (fun o H4 => o = some (-1) ∧ H4 = H3) I3 ⟨1, rfl, -1, rfl, rfl, rfl⟩) fun vs s4 ⟨o, H4, I4, ps, eo, e4⟩ => ?_
  subst eo e4
  have I5 : Inv X pins σ H4 { s4 with heap := s4.heap.push { cls := .type "slice", data := .fields #[vl, vu, vs] } } := I4.kept (t' := s4.toks) fun b ob q => Heap.get?_push_of_some _ q
  obtain ⟨its, r, ht, hz⟩ := I5.tuple hx
  have hlen := r.length
  show wpAny (model X.prog X.w) X.A (subscriptTail e (.Slice none none (some (.UnaryOp .USub (.Constant (.int 1) k p1) p2)) p3) (.ref a) (.ref s4.heap.objs.size)) (EP X pins σ Q) X.xe { s4 with heap := s4.heap.push { cls := .type "slice", data := .fields #[vl, vu, vs] } }
  refine tail_any (ops := [.ref a, .ref s4.heap.objs.size]) ht.typeIs (PyProof.Rows.slot_tuple_getitem.lookup) ?_ (by with_unfolding_all rfl)
  refine getItem_tuple_back ht (Heap.IsSliceOf.new _ vl vu vs) pl pu ps ?_ (by rw [List.size_toArray]; omega)
  refine ⟨.ref _, _, I5.laid (t' := s4.toks) (o := .tup xs.reverse) (fun b ob q => Heap.get?_push_of_some _ q) (Nat.le_refl _) ?_, rfl, q _ (I5.hok.fresh (Nat.le_refl _))⟩
  exact ⟨by rw [List.length_reverse]; exact hz, _, r.reverse, ⟨_, Heap.get?_push_size _ rfl, rfl, 0, rfl⟩⟩
end
end Ami

set_option Elab.async false
set_option linter.all false
set_option maxRecDepth 100000
set_option maxHeartbeats 4000000
/-! AmiA4: set(xs) of a list of ints, and sorted of it (fewer than 64). -/
namespace Ami
open PySem PySem.Spec PyProof.Rows L2
def intK : Key → Int
  | .inl k => k
  | .inr _ => 0
theorem inl_mem {x : Int} {ns : List Int} : (Sum.inl x : Key) ∈ ns.map Sum.inl ↔ x ∈ ns := by
  rw [List.mem_map]
  exact ⟨fun ⟨y, hy, e⟩ => by cases e; exact hy, fun h => ⟨x, h, rfl⟩⟩
theorem ints_vals : ∀ {ns : List Int} {us : List Value}, Vals (ns.map V.int) us → IntsAre us ns
  | [], _, r => by cases r; exact .nil
  | n :: ns, _, r => by
    cases r with
    | cons a t =>
      obtain ⟨tk, rfl⟩ := a
      exact .cons n tk (ints_vals t)
section
variable {P : Program} {w : World} {h : Heap}
theorem at_int {its : List Value} {ns : List Int} (hS : IntsAre its ns) : ∀ (i : Nat) (v : Value), its[i]? = some v → keyIs (.inl (ns.getD i 0)) v = true := by
  induction hS with
  | nil => intro i v hv; exact nomatch hv
  | cons x t r ih =>
    intro i v hv
    cases i with
    | zero => cases hv; exact keyIs_int _ _
    | succ i => exact ih i v hv
theorem fills_lstI {l : Addr} {its : List Value} {ns : List Int} (hl : h.IsList l its.toArray) (hS : IntsAre its ns) : Fills P w h (.ref l) "list" its.length (fun i => .inl (ns.getD i 0)) where
  ty := fun s' k => by
    obtain ⟨o, ho, hc, _⟩ := hl
    exact ⟨o, k _ _ ho, hc⟩
  s1 := by rw [isSubtype_type]; kernel_rfl
  s2 := by rw [isSubtype_type]; kernel_rfl
  nd := by decide
  it := fun A E s' Q k hq => by
    have hl' : s'.heap.IsList l its.toArray := by
      obtain ⟨o, ho, r⟩ := hl
      exact ⟨o, k _ _ ho, r⟩
    have hlt : l < s'.heap.objs.size := by
      obtain ⟨o, ho, _⟩ := hl'
      exact Heap.lt_size ho
    refine wpAny_pyIter_list hl' ?_
    exact hq _ s'.heap.objs.size [s'.heap.objs.size, l] (fun i v => its.toArray[i]? = some v) (fun i h => h.IsListIter s'.heap.objs.size l i ∧ h.IsList l its.toArray) (fun b o e => Heap.get?_push_of_some _ e) (Nat.le_refl _) List.mem_cons_self
      (fun b hb => by
        rcases List.mem_cons.mp hb with e | e
        · exact .inl e
        · obtain ⟨o, ho, _⟩ := hl
          exact .inr ⟨o, by rw [List.mem_singleton.mp e]; exact ho⟩)
      (fun A2 h2 => Walks.list h2 _ l (Nat.ne_of_lt hlt) its.toArray) ⟨⟨_, Heap.get?_push_size _ rfl, rfl, rfl⟩, hl'.push _⟩ fun i v _ hv => at_int hS i v (by simpa using hv)
end
section
variable {P : Program} {w : World} {A : Around} {E : Value → Shared → Prop} {s : Shared} {a : Addr}
theorem sorted_wI {ms : List Int} {Q : Value → Shared → Prop} (R : SetW w s.heap a (ms.map Sum.inl)) (hh : A.handled = none) (h64 : ms.length < 64)
    (hQ : ∀ s' p (out : Array Value) (c : Nat) (ys : List Int), (∀ b o, s.heap.get? b = some o → s'.heap.get? b = some o) → s'.gens = s.gens → s'.os = s.os → s.heap.objs.size ≤ p →
      s'.heap.get? p = some (seqObj "list" out c) → IntsAre out.toList ys → ys.Perm ms → ys.Pairwise (· ≤ ·) → Q (.ref p) s') :
    wpAny (model P w) A (call (.builtin "sorted") [.ref a]) Q E s := by
  obtain ⟨o, es, ep, t, ho, hx, hd, g, nd, m, hb, hf, hr, hl⟩ := R
  refine Calls.call_function_entry kind_sorted plain_sorted entry_sorted (args_sorted1 _) ?_
  unfold Builtin.«sorted»
  refine wpAny_bind (m := checkCount "sorted" 1 1 _) (wpAny_pure ?_)
  refine wpAny_bind (collect_set (A := A.in1) hh ⟨o, ho, hx.1, hd⟩ hf hb hr hl fun s1 vs k1 hz g1 o1 pm => ?_)
  have pk : (vs.map kOf).Perm (ms.map Sum.inl) := by
    have q := pm.map kOf
    rw [List.map_map] at q
    exact q.trans m.symm
  obtain ⟨ts, et, pt⟩ : ∃ ts : List Int, vs.map kOf = ts.map Sum.inl ∧ ts.Perm ms := by
    refine ⟨(vs.map kOf).map intK, ?_, ?_⟩
    · rw [List.map_map]
      have : ∀ k ∈ vs.map kOf, k = (Sum.inl ∘ intK) k := fun k hk => by
        obtain ⟨x, _, e⟩ := List.mem_map.mp (pk.mem_iff.mp hk)
        rw [← e]; rfl
      conv => lhs; rw [← List.map_id (vs.map kOf)]
      exact List.map_congr_left this
    · have q := pk.map intK
      rw [List.map_map (l := ms)] at q
      have e : ms.map (intK ∘ Sum.inl) = ms := by
        conv => rhs; rw [← List.map_id ms]
        exact List.map_congr_left fun _ _ => rfl
      rw [e] at q
      exact q
  have sh : ∀ v ∈ vs, keyIs (kOf v) v = true := fun v hv => by
    obtain ⟨e, he, q⟩ := List.mem_map.mp (pm.mem_iff.mp hv)
    rw [← q]
    exact (g e he).1
  have hI : IntsAre vs ts := by
    have : ∀ (vs : List Value) (ts : List Int), vs.map kOf = ts.map Sum.inl → (∀ v ∈ vs, keyIs (kOf v) v = true) → IntsAre vs ts := by
      intro vs
      induction vs with
      | nil =>
        intro ts e _
        cases ts with
        | nil => exact .nil
        | cons _ _ => cases e
      | cons v vs ih =>
        intro ts e k
        cases ts with
        | nil => cases e
        | cons x ts =>
          rw [List.map_cons, List.map_cons] at e
          obtain ⟨e1, e2⟩ := List.cons.inj e
          have h1 := k v List.mem_cons_self
          rw [e1] at h1
          obtain ⟨t, rfl⟩ : ∃ t, v = .int x t := by
            rcases keyIs_shape h1 with ⟨i, t, h, h2⟩ | ⟨y, t, h, h2⟩
            · cases h; exact ⟨t, h2⟩
            · cases h
          exact .cons x t (ih ts e2 fun u hu => k u (List.mem_cons_of_mem _ hu))
    exact this vs ts et sh
  have hvl : vs.length = ms.length := by
    have := pk.length_eq
    rw [List.length_map, List.length_map] at this
    exact this
  refine wpAny_bind (wpAny_newList ?_ (by rw [hvl, sizeLine_eq]; omega))
  have hoL : (s1.heap.push (seqObj "list" vs.toArray 0)).get? s1.heap.objs.size = some (seqObj "list" vs.toArray 0) := Heap.get?_push_size _ rfl
  refine wpAny_bind (wpAny_holding (wpAny_call_entry slot_list_sort ⟨_, hoL, rfl⟩ entry_list_sort (list_sort_tree hoL hI (by rw [hvl]; exact h64) fun out ns' a1 a2 a3 => ⟨_, rfl, ?_⟩) (args_list_sort _)))
  obtain ⟨c, hc⟩ := sortedHeap_at (vs := vs) (out := out) hoL
  refine wpAny_pure ⟨_, rfl, hQ _ s1.heap.objs.size out c ns' (fun b u e => ?_) g1 o1 hz hc a1 (a2.trans pt) a3⟩
  have q := k1 b u e
  have hlt := Heap.lt_size q
  show (sortedHeap (s1.heap.push (seqObj "list" vs.toArray 0)) s1.heap.objs.size vs out).get? b = some u
  rw [sortedHeap_old (Nat.ne_of_lt hlt) (by rw [Heap.size_push]; exact Nat.lt_succ_of_lt hlt)]
  exact Heap.get?_push_of_some _ q
end
section
variable {X : Cx}
/-- set(xs) of a list of ints -/
def rSetIL (K : PySem.W.Frag) (w : World) : List V → Hp → VK → Prop := fun vs H Q => ∃ (a : Addr) (ns : List Int), vs = [V.ref a] ∧ SqL K H a (ns.map V.int) ∧ ns.length < scanBound ∧
  ∀ (p : Addr) (l : List Int), H p = none → l.Nodup → (∀ x, x ∈ l ↔ x ∈ ns) → Q (.ref p) (upd H p (SW w p (l.map Sum.inl)))
theorem cr_setIL {K0 : PySem.W.Frag} {w0 : World} (hK : X.K = K0) (hw : X.w = w0) (hc : X.calm = true) : CallR X (.type "set") (rSetIL K0 w0) := by
  subst hK hw
  intro pins s σ H vs us Q I r h
  obtain ⟨a, ns, rfl, hs, hb, q⟩ := h
  rw [Vals.ref1 r]
  have fin : ∀ (h' : Heap) (tk : Nat) (l : List Key), (∀ b o, s.heap.get? b = some o → h'.get? b = some o) → SetW X.w h' s.heap.objs.size l → (∀ k, k ∈ l ↔ ∃ j, j < ns.length ∧ k = Sum.inl (ns.getD j 0)) → EP X pins σ Q (.ref s.heap.objs.size) { s with heap := h', toks := tk } := fun h' tk l k R m => by
    have hm : ∀ k, k ∈ l ↔ ∃ x ∈ ns, k = Sum.inl x := fun k => by
      rw [m k]
      constructor
      · rintro ⟨j, hj, e⟩
        refine ⟨_, ?_, e⟩
        rw [List.getD_eq_getElem?_getD, List.getElem?_eq_getElem hj]
        exact List.getElem_mem hj
      · rintro ⟨x, hx, e⟩
        obtain ⟨j, hj, e3⟩ := List.getElem_of_mem hx
        refine ⟨j, hj, ?_⟩
        rw [e, List.getD_eq_getElem?_getD, List.getElem?_eq_getElem hj, e3]; rfl
    have el : l = (l.map intK).map Sum.inl := by
      rw [List.map_map]
      conv => lhs; rw [← List.map_id l]
      refine List.map_congr_left fun k hk => ?_
      obtain ⟨x, _, e⟩ := (hm k).mp hk
      rw [e]; rfl
    have nd := R.nodup
    rw [el] at R nd hm
    have mm : ∀ x, x ∈ l.map intK ↔ x ∈ ns := fun x => by
      have := hm (.inl x)
      rw [inl_mem] at this
      rw [this]
      exact ⟨fun ⟨y, hy, e⟩ => by cases e; exact hy, fun hy => ⟨x, hy, rfl⟩⟩
    exact ⟨.ref s.heap.objs.size, _, I.laid (t' := tk) k (Nat.le_refl _) (sw_new R), rfl, q _ _ (I.hok.fresh (Nat.le_refl _)) ((List.pairwise_map.mp nd).imp fun h e => h (congrArg _ e)) mm⟩
  obtain ⟨its, rv, hl, _⟩ := I.list hs
  have e : its.length = ns.length := by rw [← rv.length, List.length_map]
  exact call_set_w (I.ok.hd hc) (by rw [e]; exact hb) (fills_lstI (its := its) hl.isList (ints_vals rv)) fun h' tk l k R m => fin h' tk l k R fun x => by rw [m x, e]
/-- sorted of such a set of ints -/
theorem cr_sortedWI {w0 : World} (hw : X.w = w0) (hc : X.calm = true) : CallR X (.builtin "sorted") (fun vs H Q => ∃ (a : Addr) (ms : List Int), vs = [.ref a] ∧ H a = some (SW w0 a (ms.map Sum.inl)) ∧ ms.length < 64 ∧
    ∀ (ys : List Int) (p : Addr), ys.Perm ms → ys.Pairwise (· ≤ ·) → H p = none → Q (.ref p) (upd H p (.lst (ys.map V.int)))) := by
  subst hw
  intro pins s σ H vs us Q I r h
  obtain ⟨a, ss, rfl, ha, h64, q⟩ := h
  rw [Vals.ref1 r]
  refine sorted_wI (sw_get I ha) (I.ok.hd hc) h64 fun s' p out c ys k g o hp hg hs hpm hso => ?_
  have hlen : (ys.map V.int).length ≤ sizeLine := by rw [List.length_map, hpm.length_eq, sizeLine_eq]; omega
  have hn : H p = none := I.hok.fresh hp
  have J : Inv X pins σ (upd H p (.lst (ys.map V.int))) { s with heap := s'.heap, gens := s'.gens, drawn := s'.drawn, toks := s'.toks } :=
    I.call (ch := []) (Un.laid k hp hn) (I.hok.laid k hp ⟨hlen, out.toList, c, vals_of_ints hs, hg⟩) (by rw [g]; exact I.bare) (fun _ z => nomatch z)
  have e : s' = { s with heap := s'.heap, gens := s'.gens, drawn := s'.drawn, toks := s'.toks } := by
    cases s'
    cases s
    cases o
    rfl
  rw [e]
  exact ⟨.ref p, _, J, rfl, q ys p hpm hso hn⟩
end
end Ami

set_option Elab.async false
set_option linter.all false
set_option maxRecDepth 100000
set_option maxHeartbeats 400000
/-! AmiV7: the set of the ints and texts that a comprehension gives. -/
namespace Ami
open PySem PySem.Spec PyProof.Rows L2 PpSet
open Classical in
/-- one more key in a row without doubles -/
noncomputable def insK (k : Key) (l : List Key) : List Key := if k ∈ l then l else k :: l
theorem mem_insK {x y : Key} {l : List Key} : y ∈ insK x l ↔ y ∈ l ∨ y = x := by
  unfold insK
  by_cases h : x ∈ l
  · rw [if_pos h]
    exact ⟨.inl, fun e => e.elim id fun e => e ▸ h⟩
  · rw [if_neg h, List.mem_cons]
    exact ⟨fun e => e.elim .inr .inl, fun e => e.elim .inr .inl⟩
theorem insK_len {x : Key} {l : List Key} : (insK x l).length ≤ l.length + 1 := by
  unfold insK
  split
  · omega
  · exact Nat.le_refl _
theorem rel_key {k : Key} {z : Value} (r : RelV (kV k) z) : keyIs k z = true := by
  cases k with
  | inl i =>
    obtain ⟨t, rfl⟩ : ∃ t, z = Value.int i t := r
    exact keyIs_int _ _
  | inr x =>
    obtain ⟨t, rfl⟩ : ∃ t, z = Value.str x t := r
    exact keyIs_str _ _
section
variable {X : Cx}
theorem addK_ok {pins : List (Addr × Obj)} {σ : L2.St} {H : Hp} {s : Shared} {E : Value → Shared → Prop} {D : Addr} {l : List Key} {k : Key} {z : Value} {Q : Value → Shared → Prop} (I : Inv X pins σ H s) (hD : H D = some (SW X.w D l)) (rz : RelV (kV k) z) (room : l.length + 1 < scanBound)
    (h : ∀ s', Inv X pins σ (upd H D (SW X.w D (insK k l))) s' → Q .none s') : wpAny (model X.prog X.w) X.A (call (.builtin "set.add") [.ref D, z]) Q E s := by
  refine add_key (k := k) (sw_get I hD) (rel_key rz) room fun h' l' sb R' q1 q2 => ?_
  have e : l' = insK k l := by
    unfold insK
    by_cases h : k ∈ l
    · rw [if_pos h]; exact q1 h
    · rw [if_neg h]; exact q2 h
  subst e
  obtain ⟨o, es, ep, tt, ho, _⟩ := id R'
  exact h _ (I.write (e := D) (t' := s.toks + 1) (by rw [hD]; trivial) (.inl rfl) (fun b u hb hu => (sb.2 b hb).trans hu) ⟨o, ho⟩ (sw_new R'))
/-- what a turn that adds the key y to the set at D has to find and to leave -/
def gainK (w : World) (D : Addr) (Nx : Hp → Prop) : V → Hp → Prop := fun y H => ∃ (k : Key) (l : List Key), y = kV k ∧ H D = some (SW w D l) ∧ l.length + 1 < scanBound ∧ Nx (upd H D (SW w D (insK k l)))
/-- the turns of a comprehension into a set of texts at D -/
def TurnsK (w : World) (J : It) (g : TG) (tt : TT) (te : TE) (vs : List Nat) (σ : L2.St) (D : Addr) (Qd : Hp → Prop) (H0 : Hp) : Prop :=
  ∃ W : Nat → Nat → Hp → Prop, (∃ m, W 0 m H0) ∧ ∀ i m H, W i m H →
    (J.stop i H ∧ Qd H) ∨ (J.go i H ∧ ∃ Nx : Hp → Prop, (∀ H', Nx H' → ∃ m', m' < m ∧ W (i + 1) m' H') ∧ ∀ x H', J.yld i H x H' → g x (wipe σ vs) H' fun σ2 H2 => wipe σ2 vs = wipe σ vs ∧ tt σ2 H2 fun b H3 =>
      if b = true then te σ2 H3 (gainK w D Nx) else Nx H3)
/-- {text for target in iter if ..} -/
def tStK (w : World) (wi : TI) (g : TG) (tt : TT) (te : TE) (vs : List Nat) : TE := fun σ H Q => wi σ H fun J H1 => ∀ D, H1 D = none → TurnsK w J g tt te vs σ D (fun H => Q (.ref D) H) (upd H1 D (SW w D []))
theorem pe_stK {elt tg iter : Expr} {ifs : List Expr} {scope : Scope} {own : List (PySem.Str × Nat)} {pos : Pos} {wi : TI} {g : TG} {tt : TT} {te : TE} (hc : X.calm = true) (hN : X.N.Nodup) (hi : PI X tg iter wi) (ok : BlkOk X.N X.env.scope scope own)
    (hg : ∀ (s : Shared) (H : Hp) (C : Addr) (cl : List (PySem.Str × Addr)) (fp : List Addr), PG (X.blk s H scope (compEnvC scope cl C X.env) fp) tg g)
    (ht : ∀ (s : Shared) (H : Hp) (C : Addr) (cl : List (PySem.Str × Addr)) (fp : List Addr), PTs (X.blk s H scope (compEnvC scope cl C X.env) fp) ifs tt)
    (he : ∀ (s : Shared) (H : Hp) (C : Addr) (cl : List (PySem.Str × Addr)) (fp : List Addr), PE (X.blk s H scope (compEnvC scope cl C X.env) fp) elt te)
    (hs : ∀ x, foldedSetIterable iter X.env x = pure x := by intro _; rfl) : PE X (.SetComp elt [⟨tg, iter, ifs, 0⟩] scope pos) (tStK X.w wi g tt te (own.map (·.2))) := by
  refine ⟨fun pins s σ H Q I h => ?_⟩
  rw [eval_SetComp]
  have known : ∀ y ∈ scope.names, y.2 = .free → ∃ c, X.env.cells.lookup y.1 = some c := fun y hy e =>
    (ok.free y hy e).elim (fun k => I.ok.has _ (.inl k)) fun k => I.ok.has _ (.inr k)
  refine wpAny_comprehension_free rfl hs (closure_ok known) ok.kind (fun y hy e => by rw [ok.uniq y hy, e])
    (thn (hi.run pins s σ H _ I h) fun xv s1 hx => thn hx fun itv s2 ⟨it, fp, tn, J, H2, e, I2, T, st2, f2, q⟩ => ?_)
  subst e
  refine newSet_ok (newEnv_comp ?_)
  -- the new set, at the end of the heap
  obtain ⟨D, hD⟩ : ∃ D, s2.heap.objs.size = D := ⟨_, rfl⟩
  rw [hD]
  obtain ⟨W, ⟨m0, w0⟩, turn⟩ := q D (I2.hok.fresh (Nat.le_of_eq hD))
  obtain ⟨H3, hH3⟩ : ∃ H3, upd H2 D (SW X.w D []) = H3 := ⟨_, rfl⟩
  rw [hH3] at w0
  obtain ⟨s3, hs3⟩ : ∃ s3 : Shared, ({ s2 with heap := s2.heap.push { cls := .type "set", dict := none, data := .set #[] 0 (.fresh 0 0 (!X.w.params.followText "set-order")) } } : Shared) = s3 := ⟨_, rfl⟩
  have led : X.w.params.followText "set-order" = true ∨ (!X.w.params.followText "set-order") = true := by
    cases X.w.params.followText "set-order"
    · exact .inr rfl
    · exact .inl rfl
  have grown : ∀ b o, s2.heap.get? b = some o → s3.heap.get? b = some o := fun b o e => by
    rw [← hs3]; exact Heap.get?_push_of_some _ e
  have I3 : Inv X pins σ H3 s3 := by
    rw [← hs3, ← hH3]
    refine I2.laid (t' := s2.toks) (fun b o e => Heap.get?_push_of_some _ e) (Nat.le_of_eq hD) ?_
    rw [← hD]
    exact sw_new (setW_fresh X.w _ led)
  have sz3 : s3.heap.objs.size = s2.heap.objs.size + 1 := by
    rw [← hs3]; exact Heap.size_push _ _
  have young : ∀ b ∈ fp, b < s2.heap.objs.size := fun b hb => by
    obtain ⟨o, e, _⟩ := T.obj _ _ st2 b hb
    exact Heap.lt_size e
  have f3 : ∀ b ∈ fp, FpOk X pins H3 b ∧ b < s3.heap.objs.size := fun b hb => by
    have hlt := young b hb
    refine ⟨⟨?_, (f2 b hb).2⟩, by rw [sz3]; exact Nat.lt_succ_of_lt hlt⟩
    rw [← hH3, upd_ne (by rw [← hD]; exact Nat.ne_of_lt hlt)]
    exact (f2 b hb).1
  have st3 : tn 0 s3.heap := T.keep _ _ _ st2 fun b _ o e => grown b o e
  -- the block
  have I4 := block_start I3 ok hN f3
  have pg := hg s3 H3 s3.heap.objs.size (cellsFrom (s3.heap.objs.size + 1) scope.names (cloFrom X.env.cells scope.names [])) fp
  have pt := ht s3 H3 s3.heap.objs.size (cellsFrom (s3.heap.objs.size + 1) scope.names (cloFrom X.env.cells scope.names [])) fp
  have pe := he s3 H3 s3.heap.objs.size (cellsFrom (s3.heap.objs.size + 1) scope.names (cloFrom X.env.cells scope.names [])) fp
  have away : ∀ b ∈ fp, H3 b = none := fun b hb => (f3 b hb).1.1
  subst hD
  show codeAny _ _ (.compStart (.SetComp elt [⟨tg, iter, ifs, 0⟩] scope pos) 0 (.ref it) (.ref s2.heap.objs.size) (compEnvC scope (cellsFrom (({ s2 with heap := s2.heap.push { cls := .type "set", dict := none, data := .set #[] 0 (.fresh 0 0 (!X.w.params.followText "set-order")) } } : Shared).heap.objs.size + 1) scope.names (cloFrom X.env.cells scope.names [])) ({ s2 with heap := s2.heap.push { cls := .type "set", dict := none, data := .set #[] 0 (.fresh 0 0 (!X.w.params.followText "set-order")) } } : Shared).heap.objs.size X.env)) (compPost (model X.prog X.w) X.A X.xe none _ (.ref s2.heap.objs.size) ({ s2 with heap := s2.heap.push { cls := .type "set", dict := none, data := .set #[] 0 (.fresh 0 0 (!X.w.params.followText "set-order")) } } : Shared).heap.objs.size) { ({ s2 with heap := s2.heap.push { cls := .type "set", dict := none, data := .set #[] 0 (.fresh 0 0 (!X.w.params.followText "set-order")) } } : Shared) with heap := pushCells (({ s2 with heap := s2.heap.push { cls := .type "set", dict := none, data := .set #[] 0 (.fresh 0 0 (!X.w.params.followText "set-order")) } } : Shared).heap.push { cls := .type "dict", data := .dict #[] }) scope.names }
  rw [hs3]
  generalize s2.heap.objs.size = D at *
  show codeAny _ _ (.compStart _ 0 (.ref it) (.ref D) (compEnvC scope (cellsFrom (s3.heap.objs.size + 1) scope.names (cloFrom X.env.cells scope.names [])) s3.heap.objs.size X.env)) (compPost (model X.prog X.w) X.A X.xe none (EP X pins σ Q) (.ref D) s3.heap.objs.size) { s3 with heap := pushCells (s3.heap.push { cls := .type "dict", data := .dict #[] }) scope.names }
  obtain ⟨ce, hce⟩ : ∃ ce, compEnvC scope (cellsFrom (s3.heap.objs.size + 1) scope.names (cloFrom X.env.cells scope.names [])) s3.heap.objs.size X.env = ce := ⟨_, rfl⟩
  have cL : ce.locals = s3.heap.objs.size := by rw [← hce]; rfl
  rw [hce] at I4 pg pt pe ⊢
  have st4 : tn 0 ({ s3 with heap := pushCells (s3.heap.push { cls := .type "dict", data := .dict #[] }) scope.names } : Shared).heap := T.keep _ _ _ st3 fun b _ o e => pushCells_keeps _ _ _ _ (Heap.get?_push_of_some _ e)
  revert I4 st4
  generalize ({ s3 with heap := pushCells (s3.heap.push { cls := .type "dict", data := .dict #[] }) scope.names } : Shared) = s4
  intro I4 st4
  -- the iterator's own objects, as the block sees them
  have own_ok : ∀ {σ' : L2.St} {H' : Hp} {s' : Shared}, Inv (X.blk s3 H3 scope ce fp) [] σ' H' s' → (∀ b ∈ fp, H' b = none) → ∀ b ∈ fp, FpOk (X.blk s3 H3 scope ce fp) [] H' b := fun {σ' H' s'} I' hn b hb =>
    ⟨hn b hb, (I'.ok.exf b hb).1, I'.ok.exfs b hb, .inl hb, fun x c e => (I'.ok.exf b hb).2 x c e, fun p hp => absurd (show p ∈ ([] : List (Addr × Obj)) ++ [] from hp) (by simp)⟩
  have loop : codeAny (model X.prog X.w) X.A (.compLoop (.SetComp elt [⟨tg, iter, ifs, 0⟩] scope pos) 0 (.ref it) (.ref D) ce) (compPost (model X.prog X.w) X.A X.xe none (EP X pins σ Q) (.ref D) s3.heap.objs.size) s4 := by
    refine compLoopS_any (fun n s' => ∃ i H', Inv (X.blk s3 H3 scope ce fp) [] (wipe σ (own.map (·.2))) H' s' ∧ tn i s'.heap ∧ (∀ b ∈ fp, H' b = none) ∧ W i n H') ?_ m0 ⟨0, H3, I4, st4, away, w0⟩
    rintro n s5 ⟨i, H5, I5, st5, n5, w5⟩
    rcases turn i n H5 w5 with ⟨stop, qq⟩ | ⟨go, Nx, hNx, step⟩
    · refine thnF (T.done (X.blk s3 H3 scope ce fp) rfl rfl rfl hc i [] s5 _ H5 (fun _ _ => False) I5 (own_ok I5 n5) st5 stop) fun r s6 ⟨hr, I6⟩ => ?_
      subst hr
      have back : Inv X pins σ H5 s6 := I3.call' (ch := fp) I6.os I6.base I6.hok I6.bare fun b hb => by
        obtain ⟨⟨_, z1, z2, z3, z4, z5⟩, _⟩ := f3 b hb
        exact ⟨z3, z1, z4, z5⟩
      have nC : H5 s3.heap.objs.size = none := cL ▸ (show H5 ce.locals = none from I6.free)
      obtain ⟨m, hn, _⟩ := I6.loc
      have hn' : s6.heap.Ns s3.heap.objs.size m := cL ▸ (show s6.heap.Ns ce.locals m from hn)
      obtain ⟨f0, f1, f2', f3', f4, f5⟩ := I3.fpOk (Nat.le_refl _) nC
      refine ⟨m, hn', fun h'' sb => ?_⟩
      exact ⟨.ref D, H5, back.turned (t' := s6.toks) (fun b o hb e => (sb.2 b hb).trans e) f0 f1 f3' f4 f5, rfl, qq⟩
    · refine thnF (T.item (X.blk s3 H3 scope ce fp) rfl rfl rfl hc i [] s5 _ H5 (fun _ _ => False) I5 (own_ok I5 n5) st5 go) fun r s6 ⟨u, hr, h6⟩ => ?_
      subst hr
      refine thnF h6 fun _ s7 ⟨x, H7, I7, r7, y7, st7, n7⟩ => ?_
      refine thnF (pg.run _ s7 _ H7 x u _ (I7.pinned (own_ok I7 n7) (T.obj _ _ st7)) r7 (step x H7 y7)) fun _ s8 ⟨σ8, H8, I8, hw8, q8⟩ => ?_
      refine thnF (pt.run _ s8 σ8 H8 _ I8 q8) fun b s9 ⟨H9, I9, q9⟩ => ?_
      -- one turn less
      have next : ∀ {s' : Shared} {H' : Hp}, Inv (X.blk s3 H3 scope ce fp) ([] ++ pinsAt fp s7.heap) σ8 H' s' → Nx H' → ∃ m, m < n ∧ ∃ i H', Inv (X.blk s3 H3 scope ce fp) [] (wipe σ (own.map (·.2))) H' s' ∧ tn i s'.heap ∧ (∀ b ∈ fp, H' b = none) ∧ W i m H' := fun {s' H'} I' nx => by
        obtain ⟨m', hm, w'⟩ := hNx H' nx
        have still : ∀ b ∈ fp, ∀ o, s7.heap.get? b = some o → s'.heap.get? b = some o ∧ H' b = none := fun b hb o e => by
          have z := I'.pin (b, o) (List.mem_append_right _ (List.mem_append_right _ (mem_pinsAt hb e)))
          exact ⟨z.1, z.2.1⟩
        have hl : (wipe σ (own.map (·.2))).length = σ8.length := by rw [← hw8, wipe_length]
        refine ⟨m', hm, i + 1, H', (I'.unpinned (pins := [])).weak hl (fun j v e => (wipe_some (hw8 ▸ e)).1), T.keep _ _ _ st7 fun b hb o e => (still b hb o e).1, fun b hb => ?_, w'⟩
        obtain ⟨o, e, _⟩ := T.obj _ _ st7 b hb
        exact (still b hb o e).2
      cases b with
      | false =>
        simp only [Bool.false_eq_true, if_false] at q9 ⊢
        exact next I9 q9
      | true =>
        simp only [if_true] at q9 ⊢
        refine thnF (pe.run _ s9 σ8 H9 _ I9 q9) fun z s10 ⟨yv, H10, I10, r10, k0, l0, ey, hD10, room, nx⟩ => ?_
        subst ey
        exact addK_ok (X := X.blk s3 H3 scope ce fp) I10 hD10 r10 room fun s11 I11 => next I11 nx
  exact codeAny_compStart_set loop (T.self X.A 0 _ _ _ st4 loop)
end
/-- over a walk -/
theorem st_it {w : World} {J : It} {n : Nat} {G : Hp → Prop} {Y : Nat → Hp → V → Hp → Prop} (wk : Walk J n G Y) {g : TG} {tt : TT} {te : TE} {vs : List Nat} {σ : L2.St} {H0 : Hp} {D : Addr} {Qd : Hp → Prop} (Pv : Nat → Hp → Prop) (h0 : Pv 0 H0) (hG : ∀ i H, i ≤ n → Pv i H → G H)
    (hs : ∀ i x H H', i < n → Pv i H → Y i H x H' → g x (wipe σ vs) H' fun σ2 H2 => wipe σ2 vs = wipe σ vs ∧ tt σ2 H2 fun b H3 => if b = true then te σ2 H3 (gainK w D (Pv (i + 1))) else Pv (i + 1) H3) (hd : ∀ H, Pv n H → Qd H) :
    TurnsK w J g tt te vs σ D Qd H0 := by
  refine ⟨fun i m H => i + m = n ∧ Pv i H, ⟨n, by omega, h0⟩, fun i m H ⟨hm, p⟩ => ?_⟩
  have q := hG i H (by omega) p
  cases m with
  | zero =>
    obtain rfl : i = n := by omega
    exact .inl ⟨wk.stops H q, hd H p⟩
  | succ m =>
    have hi : i < n := by omega
    exact .inr ⟨wk.goes i H hi q, Pv (i + 1), fun H' p' => ⟨m, by omega, by omega, p'⟩, fun x H' y => hs i x H H' hi p (wk.yields i H x H' hi q y)⟩
end Ami

set_option Elab.async false
set_option linter.all false
set_option maxRecDepth 100000
set_option maxHeartbeats 400000
/-! Dict comprehensions of two clauses. -/
namespace Ami
open PySem PySem.Spec PyProof.Rows L2
/-- the comprehension of two clauses that this file speaks of -/
abbrev dc2 (kx vx t0 i0 : Expr) (ifs0 : List Expr) (t1 i1 : Expr) (ifs1 : List Expr) (scope : Scope) (pos : Pos) : Expr := .DictComp kx vx [⟨t0, i0, ifs0, 0⟩, ⟨t1, i1, ifs1, 0⟩] scope pos
section
variable {kx vx t0 i0 t1 i1 : Expr} {ifs0 ifs1 : List Expr} {scope : Scope} {pos : Pos} {it : Value} {D : Addr} {env : Env}
/-- the tests of a clause, one behind the other -/
abbrev tested (env : Env) (ifs : List Expr) : Sem Bool := forIn ifs true fun c r => if r = true then do let ok ← isTrue c env (eval c env); pure (ForInStep.yield ok) else pure (ForInStep.yield r)
theorem turn_out : compTurn (dc2 kx vx t0 i0 ifs0 t1 i1 ifs1 scope pos) 0 it (.ref D) env = (do
    standAt i0.pos
    match ← pyNext it with
    | none => pure (.done .next)
    | some v =>
      letOwnedTupleGo t0 it v
      assign t0 env v
      if ← tested env ifs0 then
        let x ← eval i1 env
        standAt i1.pos
        let x ← foldedSetIterable i1 env x
        let _ ← runOwn (.compStart (dc2 kx vx t0 i0 ifs0 t1 i1 ifs1 scope pos) 1 (← holding [x] (pyIter x)) (.ref D) env) env
      again (.compLoop (dc2 kx vx t0 i0 ifs0 t1 i1 ifs1 scope pos) 0 it (.ref D) env)) := by rfl
theorem turn_in : compTurn (dc2 kx vx t0 i0 ifs0 t1 i1 ifs1 scope pos) 1 it (.ref D) env = (do
    standAt i1.pos
    match ← pyNext it with
    | none => pure (.done .next)
    | some v =>
      letOwnedTupleGo t1 it v
      assign t1 env v
      if ← tested env ifs1 then
        (do let kv ← eval kx env
            let vv ← holding [kv] (eval vx env)
            standAt { kx.pos with endLine := vx.pos.endLine, endCol := vx.pos.endCol }
            holding [kv, vv] (dictSet D kv vv))
      again (.compLoop (dc2 kx vx t0 i0 ifs0 t1 i1 ifs1 scope pos) 1 it (.ref D) env)) := by rfl
end
section
variable {prog : Program} {w : World} {A : Around} {R : Result → Shared → Prop} {s : Shared} {kx vx t0 i0 t1 i1 : Expr} {ifs0 ifs1 : List Expr} {scope : Scope} {pos : Pos} {it : Value} {D : Addr} {env : Env}
/-- where a raised error goes -/
abbrev lost (prog : Program) (w : World) (A : Around) (env : Env) (R : Result → Shared → Prop) : Value → Shared → Prop := notedBy (model prog w) A env fun e s' => R (.error e) s'
/-- one step of work, of which an error is lost -/
abbrev does {α : Type} (prog : Program) (w : World) (A : Around) (env : Env) (R : Result → Shared → Prop) (t : Sem α) (Q : α → Shared → Prop) (s : Shared) : Prop := wpAny (model prog w) A t Q (lost prog w A env R) s
theorem loop_out (hs : ∀ x, foldedSetIterable i1 env x = pure x) (I : Nat → Shared → Prop)
    (turn : ∀ n s, I n s → does prog w A env R (pyNext it) (fun r s₁ => match r with
      | none => R (.ok .next) s₁
      | some v => does prog w A env R (letOwnedTupleGo t0 it v) (fun _ s₂ => does prog w A env R (assign t0 env v) (fun _ s₃ => does prog w A env R (tested env ifs0) (fun ok s₄ =>
          if ok = true then does prog w A env R (eval i1 env) (fun x s₅ => does prog w A env R (pyIter x) (fun it1 s₆ =>
            codeAny (model prog w) A (.compStart (dc2 kx vx t0 i0 ifs0 t1 i1 ifs1 scope pos) 1 it1 (.ref D) env) (fun r s' => match r with
              | .ok _ => ∃ m, m < n ∧ I m s'
              | .error _ => False) s₆) s₅) s₄
          else ∃ m, m < n ∧ I m s₄) s₃) s₂) s₁) s)
    (n : Nat) (h : I n s) : codeAny (model prog w) A (.compLoop (dc2 kx vx t0 i0 ifs0 t1 i1 ifs1 scope pos) 0 it (.ref D) env) R s := by
  refine codeAny_loop rfl I (fun n s hI => ?_) n h
  show wpAny _ A ((compTurn (dc2 kx vx t0 i0 ifs0 t1 i1 ifs1 scope pos) 0 it (.ref D) env).onRaise (fun x => do noteFrame x env; theTreesLotGoes x)) _ _ s
  refine wpAny_noted ?_
  rw [turn_out]
  refine wpAny_bind (wpAny_standAt (wpAny_bind (wpAny_mono (turn n s hI) (fun r s₁ h₁ => ?_) fun _ _ z => z)))
  cases r with
  | none => exact wpAny_pure h₁
  | some v =>
    refine wpAny_bind (wpAny_mono h₁ (fun _ s₂ h₂ => wpAny_bind (wpAny_mono h₂ (fun _ s₃ h₃ => wpAny_bind (wpAny_mono h₃ (fun ok s₄ h₄ => ?_) fun _ _ z => z)) fun _ _ z => z)) fun _ _ z => z)
    cases ok with
    | false => exact wpAny_pure ⟨rfl, h₄⟩
    | true =>
      refine wpAny_bind (wpAny_mono h₄ (fun x s₅ h₅ => ?_) fun _ _ z => z)
      refine wpAny_bind (wpAny_standAt (wpAny_bind (wpAny_of_eq (hs x) (wpAny_bind (wpAny_holding (wpAny_mono h₅ (fun it1 s₆ h₆ => ?_) fun _ _ z => z))))))
      refine wpAny_bind (wpAny_runOwn ?_)
      rw [Around.mark_none]
      refine codeAny_mono h₆ fun r s' hr => ?_
      cases r with
      | ok f =>
        first
          | exact wpAny_pure ⟨rfl, hr⟩
          | exact wpAny_bind (wpAny_pure (wpAny_pure ⟨rfl, hr⟩))
      | error e => exact hr.elim
theorem loop_in (I : Nat → Shared → Prop)
    (turn : ∀ n s, I n s → does prog w A env R (pyNext it) (fun r s₁ => match r with
      | none => R (.ok .next) s₁
      | some v => does prog w A env R (letOwnedTupleGo t1 it v) (fun _ s₂ => does prog w A env R (assign t1 env v) (fun _ s₃ => does prog w A env R (tested env ifs1) (fun ok s₄ =>
          if ok = true then does prog w A env R (eval kx env) (fun k s₅ => does prog w A env R (eval vx env) (fun y s₆ => does prog w A env R (dictSet D k y) (fun _ s₇ => ∃ m, m < n ∧ I m s₇) s₆) s₅) s₄
          else ∃ m, m < n ∧ I m s₄) s₃) s₂) s₁) s)
    (n : Nat) (h : I n s) : codeAny (model prog w) A (.compLoop (dc2 kx vx t0 i0 ifs0 t1 i1 ifs1 scope pos) 1 it (.ref D) env) R s := by
  refine codeAny_loop rfl I (fun n s hI => ?_) n h
  show wpAny _ A ((compTurn (dc2 kx vx t0 i0 ifs0 t1 i1 ifs1 scope pos) 1 it (.ref D) env).onRaise (fun x => do noteFrame x env; theTreesLotGoes x)) _ _ s
  refine wpAny_noted ?_
  rw [turn_in]
  refine wpAny_bind (wpAny_standAt (wpAny_bind (wpAny_mono (turn n s hI) (fun r s₁ h₁ => ?_) fun _ _ z => z)))
  cases r with
  | none => exact wpAny_pure h₁
  | some v =>
    refine wpAny_bind (wpAny_mono h₁ (fun _ s₂ h₂ => wpAny_bind (wpAny_mono h₂ (fun _ s₃ h₃ => wpAny_bind (wpAny_mono h₃ (fun ok s₄ h₄ => ?_) fun _ _ z => z)) fun _ _ z => z)) fun _ _ z => z)
    cases ok with
    | false => exact wpAny_pure ⟨rfl, h₄⟩
    | true =>
      refine wpAny_bind (wpAny_bind (wpAny_mono h₄ (fun k s₅ h₅ => wpAny_bind (wpAny_holding (wpAny_mono h₅ (fun y s₆ h₆ => ?_) fun _ _ z => z))) fun _ _ z => z))
      exact wpAny_bind (wpAny_standAt (wpAny_holding (wpAny_mono h₆ (fun _ s₇ h₇ => wpAny_pure ⟨rfl, h₇⟩) fun _ _ z => z)))
/-- the second clause begins -/
theorem start_in (h0 : codeAny (model prog w) A (.compLoop (dc2 kx vx t0 i0 ifs0 t1 i1 ifs1 scope pos) 1 it (.ref D) env) R s)
    (h : wpAny (model prog w) A (pyIter it) (fun it' s' => codeAny (model prog w) A (.compLoop (dc2 kx vx t0 i0 ifs0 t1 i1 ifs1 scope pos) 1 it' (.ref D) env) R s') (lost prog w A env R) s) :
    codeAny (model prog w) A (.compStart (dc2 kx vx t0 i0 ifs0 t1 i1 ifs1 scope pos) 1 it (.ref D) env) R s := by
  refine codeAny_of_tree ?_
  show wpAny _ _ ((compStart (dc2 kx vx t0 i0 ifs0 t1 i1 ifs1 scope pos) 1 it (.ref D) env).onRaise (fun x => do noteFrame x env; standAt theWindowsPlace)) _ _ s
  refine wpAny_notedAt ?_
  unfold compStart
  show wpAny _ _ (ask >>= _) _ _ s
  refine wpAny_bind (wpAny_askSetting (wpAny_ite ?_))
  split
  · first
      | exact wpAny_bind (wpAny_pure (wpAny_pure (And.intro rfl h0)))
      | exact wpAny_pure (And.intro rfl h0)
  · first
      | exact wpAny_bind (wpAny_rule (wpAny_bind (wpAny_standAt (wpAny_bind (wpAny_mono h (fun it' s' z => wpAny_pure (And.intro rfl z)) fun _ _ x => x)))))
      | (refine wpAny_bind (wpAny_rule ?_); show wpAny _ _ (standAt i1.pos >>= _) _ _ s; exact wpAny_bind (wpAny_standAt (wpAny_bind (wpAny_mono h (fun it' s' z => wpAny_pure (And.intro rfl z)) fun _ _ x => x))))
end
section
variable {X : Cx}
/-- what a turn that stores into the dict at D has to find and to leave -/
def sto (D : Addr) (Nx : Hp → Prop) (y z : V) (H : Hp) : Prop := ∃ kvs k, y = kV k ∧ H D = some (.dK kvs) ∧ kvs.length < sizeLine ∧ Nx (upd H D (.dK (putK kvs k z)))
/-- the second clause's turns, from H0 on, to Nx -/
def TurnsIn (J : It) (g : TG) (tt : TT) (tk tv : TE) (vs : List Nat) (σ : L2.St) (D : Addr) (Nx : Hp → Prop) (H0 : Hp) : Prop :=
  ∃ W : Nat → Nat → Hp → Prop, (∃ m, W 0 m H0) ∧ ∀ j k H, W j k H → (J.stop j H ∧ Nx H) ∨ (J.go j H ∧ ∃ N1 : Hp → Prop, (∀ H', N1 H' → ∃ k', k' < k ∧ W (j + 1) k' H') ∧
    ∀ x H', J.yld j H x H' → g x (wipe σ vs) H' fun σ3 H5 => wipe σ3 vs = wipe σ vs ∧ tt σ3 H5 fun b H6 => if b = true then tk σ3 H6 fun y H7 => tv σ3 H7 fun z H8 => sto D N1 y z H8 else N1 H6)
/-- the first clause's turns, from H0 on, to Qd -/
def TurnsOut (J : It) (g : TG) (tt : TT) (wi1 : TI) (g1 : TG) (tt1 : TT) (tk tv : TE) (vs vs1 : List Nat) (σ : L2.St) (D : Addr) (Qd : Hp → Prop) (H0 : Hp) : Prop :=
  ∃ W : Nat → Nat → Hp → Prop, (∃ m, W 0 m H0) ∧ ∀ i m H, W i m H → (J.stop i H ∧ Qd H) ∨ (J.go i H ∧ ∃ Nx : Hp → Prop, (∀ H', Nx H' → ∃ m', m' < m ∧ W (i + 1) m' H') ∧
    ∀ x H', J.yld i H x H' → g x (wipe σ vs) H' fun σ2 H2 => wipe σ2 vs = wipe σ vs ∧ tt σ2 H2 fun b H3 => if b = true then wi1 σ2 H3 fun J1 H4 => TurnsIn J1 g1 tt1 tk tv vs1 σ2 D Nx H4 else Nx H3)
/-- {k: v for t in i if .. for t1 in i1 if ..} -/
def tDc2 (wi : TI) (g : TG) (tt : TT) (wi1 : TI) (g1 : TG) (tt1 : TT) (tk tv : TE) (vs vs1 : List Nat) : TE := fun σ H Q => wi σ H fun J H1 => ∀ D, H1 D = none → TurnsOut J g tt wi1 g1 tt1 tk tv vs vs1 σ D (fun H => Q (.ref D) H) (upd H1 D (.dK []))
theorem pe_dc2 {kx vx tg iter tg1 iter1 : Expr} {ifs ifs1 : List Expr} {scope : Scope} {own : List (PySem.Str × Nat)} {vs1 : List Nat} {pos : Pos} {wi wi1 : TI} {g g1 : TG} {tt tt1 : TT} {tk tv : TE}
    (hc : X.calm = true) (hN : X.N.Nodup) (hi : PI X tg iter wi) (ok : BlkOk X.N X.env.scope scope own) (hv : ∀ i ∈ vs1, i ∈ own.map (·.2))
    (hg : ∀ (s : Shared) (H : Hp) (C : Addr) (cl : List (PySem.Str × Addr)) (fp : List Addr), PG (X.blk s H scope (compEnvC scope cl C X.env) fp) tg g)
    (ht : ∀ (s : Shared) (H : Hp) (C : Addr) (cl : List (PySem.Str × Addr)) (fp : List Addr), PTs (X.blk s H scope (compEnvC scope cl C X.env) fp) ifs tt)
    (hi1 : ∀ (s : Shared) (H : Hp) (C : Addr) (cl : List (PySem.Str × Addr)) (fp : List Addr), PI (X.blk s H scope (compEnvC scope cl C X.env) fp) tg1 iter1 wi1)
    (hg1 : ∀ (s : Shared) (H : Hp) (C : Addr) (cl : List (PySem.Str × Addr)) (fp : List Addr), PG (X.blk s H scope (compEnvC scope cl C X.env) fp) tg1 g1)
    (ht1 : ∀ (s : Shared) (H : Hp) (C : Addr) (cl : List (PySem.Str × Addr)) (fp : List Addr), PTs (X.blk s H scope (compEnvC scope cl C X.env) fp) ifs1 tt1)
    (hk : ∀ (s : Shared) (H : Hp) (C : Addr) (cl : List (PySem.Str × Addr)) (fp : List Addr), PE (X.blk s H scope (compEnvC scope cl C X.env) fp) kx tk)
    (he : ∀ (s : Shared) (H : Hp) (C : Addr) (cl : List (PySem.Str × Addr)) (fp : List Addr), PE (X.blk s H scope (compEnvC scope cl C X.env) fp) vx tv)
    (hs : ∀ x, foldedSetIterable iter X.env x = pure x := by intro _; rfl) (hs1 : ∀ env x, foldedSetIterable iter1 env x = pure x := by intro _ _; rfl) :
    PE X (.DictComp kx vx [⟨tg, iter, ifs, 0⟩, ⟨tg1, iter1, ifs1, 0⟩] scope pos) (tDc2 wi g tt wi1 g1 tt1 tk tv (own.map (·.2)) vs1) := by
  refine ⟨fun pins s σ H Q I h => ?_⟩
  rw [arm_eval_DictComp]
  have known : ∀ y ∈ scope.names, y.2 = .free → ∃ c, X.env.cells.lookup y.1 = some c := fun y hy e =>
    (ok.free y hy e).elim (fun k => I.ok.has _ (.inl k)) fun k => I.ok.has _ (.inr k)
  refine wpAny_comprehension_free rfl hs (closure_ok known) ok.kind (fun y hy e => by rw [ok.uniq y hy, e])
    (thn (hi.run pins s σ H _ I h) fun xv s1 hx => thn hx fun itv s2 ⟨it, fp, tn, J, H2, e, I2, T, st2, f2, q⟩ => ?_)
  subst e
  refine wpAny_newObj_type (newEnv_comp ?_)
  -- the new dict, at the end of the heap
  obtain ⟨D, hD⟩ : ∃ D, s2.heap.objs.size = D := ⟨_, rfl⟩
  rw [hD]
  obtain ⟨W, ⟨m0, w0⟩, turn⟩ := q D (I2.hok.fresh (Nat.le_of_eq hD))
  obtain ⟨H3, hH3⟩ : ∃ H3, upd H2 D (.dK []) = H3 := ⟨_, rfl⟩
  rw [hH3] at w0
  obtain ⟨s3, hs3⟩ : ∃ s3 : Shared, ({ s2 with heap := s2.heap.push { cls := .type "dict", data := .dict #[] } } : Shared) = s3 := ⟨_, rfl⟩
  have grown : ∀ b o, s2.heap.get? b = some o → s3.heap.get? b = some o := fun b o e => by
    rw [← hs3]; exact Heap.get?_push_of_some _ e
  have I3 : Inv X pins σ H3 s3 := by
    rw [← hs3, ← hH3]
    refine I2.laid (t' := s2.toks) (fun b o e => Heap.get?_push_of_some _ e) (Nat.le_of_eq hD) ?_
    rw [← hD]
    exact dk_empty s2.heap I2.big
  have sz3 : s3.heap.objs.size = s2.heap.objs.size + 1 := by
    rw [← hs3]; exact Heap.size_push _ _
  have young : ∀ b ∈ fp, b < s2.heap.objs.size := fun b hb => by
    obtain ⟨o, e, _⟩ := T.obj _ _ st2 b hb
    exact Heap.lt_size e
  have f3 : ∀ b ∈ fp, FpOk X pins H3 b ∧ b < s3.heap.objs.size := fun b hb => by
    have hlt := young b hb
    refine ⟨⟨?_, (f2 b hb).2⟩, by rw [sz3]; exact Nat.lt_succ_of_lt hlt⟩
    rw [← hH3, upd_ne (by rw [← hD]; exact Nat.ne_of_lt hlt)]
    exact (f2 b hb).1
  have st3 : tn 0 s3.heap := T.keep _ _ _ st2 fun b _ o e => grown b o e
  -- the block
  have I4 := block_start I3 ok hN f3
  have pg := hg s3 H3 s3.heap.objs.size (cellsFrom (s3.heap.objs.size + 1) scope.names (cloFrom X.env.cells scope.names [])) fp
  have pt := ht s3 H3 s3.heap.objs.size (cellsFrom (s3.heap.objs.size + 1) scope.names (cloFrom X.env.cells scope.names [])) fp
  have pi1 := hi1 s3 H3 s3.heap.objs.size (cellsFrom (s3.heap.objs.size + 1) scope.names (cloFrom X.env.cells scope.names [])) fp
  have pg1 := hg1 s3 H3 s3.heap.objs.size (cellsFrom (s3.heap.objs.size + 1) scope.names (cloFrom X.env.cells scope.names [])) fp
  have pt1 := ht1 s3 H3 s3.heap.objs.size (cellsFrom (s3.heap.objs.size + 1) scope.names (cloFrom X.env.cells scope.names [])) fp
  have pk := hk s3 H3 s3.heap.objs.size (cellsFrom (s3.heap.objs.size + 1) scope.names (cloFrom X.env.cells scope.names [])) fp
  have pe := he s3 H3 s3.heap.objs.size (cellsFrom (s3.heap.objs.size + 1) scope.names (cloFrom X.env.cells scope.names [])) fp
  have away : ∀ b ∈ fp, H3 b = none := fun b hb => (f3 b hb).1.1
  subst hD
  show codeAny _ _ (.compStart (dc2 kx vx tg iter ifs tg1 iter1 ifs1 scope pos) 0 (.ref it) (.ref s2.heap.objs.size) (compEnvC scope (cellsFrom (({ s2 with heap := s2.heap.push { cls := .type "dict", data := .dict #[] } } : Shared).heap.objs.size + 1) scope.names (cloFrom X.env.cells scope.names [])) ({ s2 with heap := s2.heap.push { cls := .type "dict", data := .dict #[] } } : Shared).heap.objs.size X.env)) (compPost (model X.prog X.w) X.A X.xe none _ (.ref s2.heap.objs.size) ({ s2 with heap := s2.heap.push { cls := .type "dict", data := .dict #[] } } : Shared).heap.objs.size) { ({ s2 with heap := s2.heap.push { cls := .type "dict", data := .dict #[] } } : Shared) with heap := pushCells (({ s2 with heap := s2.heap.push { cls := .type "dict", data := .dict #[] } } : Shared).heap.push { cls := .type "dict", data := .dict #[] }) scope.names }
  rw [hs3]
  generalize s2.heap.objs.size = D at *
  show codeAny _ _ (.compStart _ 0 (.ref it) (.ref D) (compEnvC scope (cellsFrom (s3.heap.objs.size + 1) scope.names (cloFrom X.env.cells scope.names [])) s3.heap.objs.size X.env)) (compPost (model X.prog X.w) X.A X.xe none (EP X pins σ Q) (.ref D) s3.heap.objs.size) { s3 with heap := pushCells (s3.heap.push { cls := .type "dict", data := .dict #[] }) scope.names }
  obtain ⟨ce, hce⟩ : ∃ ce, compEnvC scope (cellsFrom (s3.heap.objs.size + 1) scope.names (cloFrom X.env.cells scope.names [])) s3.heap.objs.size X.env = ce := ⟨_, rfl⟩
  have cL : ce.locals = s3.heap.objs.size := by rw [← hce]; rfl
  rw [hce] at I4 pg pt pi1 pg1 pt1 pk pe ⊢
  have st4 : tn 0 ({ s3 with heap := pushCells (s3.heap.push { cls := .type "dict", data := .dict #[] }) scope.names } : Shared).heap := T.keep _ _ _ st3 fun b _ o e => pushCells_keeps _ _ _ _ (Heap.get?_push_of_some _ e)
  revert I4 st4
  generalize ({ s3 with heap := pushCells (s3.heap.push { cls := .type "dict", data := .dict #[] }) scope.names } : Shared) = s4
  intro I4 st4
  -- the iterator's own objects, as the block sees them
  have own_ok : ∀ {σ' : L2.St} {H' : Hp} {s' : Shared}, Inv (X.blk s3 H3 scope ce fp) [] σ' H' s' → (∀ b ∈ fp, H' b = none) → ∀ b ∈ fp, FpOk (X.blk s3 H3 scope ce fp) [] H' b := fun {σ' H' s'} I' hn b hb =>
    ⟨hn b hb, (I'.ok.exf b hb).1, I'.ok.exfs b hb, .inl hb, fun x c e => (I'.ok.exf b hb).2 x c e, fun p hp => absurd (show p ∈ ([] : List (Addr × Obj)) ++ [] from hp) (by simp)⟩
  have loop : codeAny (model X.prog X.w) X.A (.compLoop (dc2 kx vx tg iter ifs tg1 iter1 ifs1 scope pos) 0 (.ref it) (.ref D) ce) (compPost (model X.prog X.w) X.A X.xe none (EP X pins σ Q) (.ref D) s3.heap.objs.size) s4 := by
    refine loop_out (hs1 ce) (fun n s' => ∃ i H', Inv (X.blk s3 H3 scope ce fp) [] (wipe σ (own.map (·.2))) H' s' ∧ tn i s'.heap ∧ (∀ b ∈ fp, H' b = none) ∧ W i n H') ?_ m0 ⟨0, H3, I4, st4, away, w0⟩
    rintro n s5 ⟨i, H5, I5, st5, n5, w5⟩
    rcases turn i n H5 w5 with ⟨stop, qq⟩ | ⟨go, Nx, hNx, step⟩
    · refine thnF (T.done (X.blk s3 H3 scope ce fp) rfl rfl rfl hc i [] s5 _ H5 (fun _ _ => False) I5 (own_ok I5 n5) st5 stop) fun r s6 ⟨hr, I6⟩ => ?_
      subst hr
      have back : Inv X pins σ H5 s6 := I3.call' (ch := fp) I6.os I6.base I6.hok I6.bare fun b hb => by
        obtain ⟨⟨_, z1, z2, z3, z4, z5⟩, _⟩ := f3 b hb
        exact ⟨z3, z1, z4, z5⟩
      have nC : H5 s3.heap.objs.size = none := cL ▸ (show H5 ce.locals = none from I6.free)
      obtain ⟨m, hn, _⟩ := I6.loc
      have hn' : s6.heap.Ns s3.heap.objs.size m := cL ▸ (show s6.heap.Ns ce.locals m from hn)
      obtain ⟨f0, f1, f2', f3', f4, f5⟩ := I3.fpOk (Nat.le_refl _) nC
      refine ⟨m, hn', fun h'' sb => ?_⟩
      exact ⟨.ref D, H5, back.turned (t' := s6.toks) (fun b o hb e => (sb.2 b hb).trans e) f0 f1 f3' f4 f5, rfl, qq⟩
    · refine thnF (T.item (X.blk s3 H3 scope ce fp) rfl rfl rfl hc i [] s5 _ H5 (fun _ _ => False) I5 (own_ok I5 n5) st5 go) fun r s6 ⟨u, hr, h6⟩ => ?_
      subst hr
      refine thnF h6 fun _ s7 ⟨x, H7, I7, r7, y7, st7, n7⟩ => ?_
      refine thnF (pg.run _ s7 _ H7 x u _ (I7.pinned (own_ok I7 n7) (T.obj _ _ st7)) r7 (step x H7 y7)) fun _ s8 ⟨σ8, H8, I8, hw8, q8⟩ => ?_
      refine thnF (pt.run _ s8 σ8 H8 _ I8 q8) fun b s9 ⟨H9, I9, q9⟩ => ?_
      -- one turn less, whatever the second clause left in its own slots
      have next : ∀ {σ9 : L2.St} {s' : Shared} {H' : Hp}, Inv (X.blk s3 H3 scope ce fp) ([] ++ pinsAt fp s7.heap) σ9 H' s' → σ9.length = σ8.length → (∀ (j : Nat) v, (wipe σ (own.map (·.2)))[j]? = some (some v) → σ9[j]? = some (some v)) → Nx H' →
          ∃ m, m < n ∧ ∃ i H', Inv (X.blk s3 H3 scope ce fp) [] (wipe σ (own.map (·.2))) H' s' ∧ tn i s'.heap ∧ (∀ b ∈ fp, H' b = none) ∧ W i m H' := fun {σ9 s' H'} I' hl hk nx => by
        obtain ⟨m', hm, w'⟩ := hNx H' nx
        have still : ∀ b ∈ fp, ∀ o, s7.heap.get? b = some o → s'.heap.get? b = some o ∧ H' b = none := fun b hb o e => by
          have z := I'.pin (b, o) (List.mem_append_right _ (List.mem_append_right _ (mem_pinsAt hb e)))
          exact ⟨z.1, z.2.1⟩
        have hl' : (wipe σ (own.map (·.2))).length = σ9.length := by rw [hl, ← wipe_length σ8 (own.map (·.2)), hw8]
        refine ⟨m', hm, i + 1, H', (I'.unpinned (pins := [])).weak hl' hk, T.keep _ _ _ st7 fun b hb o e => (still b hb o e).1, fun b hb => ?_, w'⟩
        obtain ⟨o, e, _⟩ := T.obj _ _ st7 b hb
        exact (still b hb o e).2
      have hk8 : ∀ (j : Nat) v, (wipe σ (own.map (·.2)))[j]? = some (some v) → σ8[j]? = some (some v) := fun j v e => (wipe_some (hw8 ▸ e)).1
      cases b with
      | false =>
        simp only [Bool.false_eq_true, if_false] at q9 ⊢
        exact next I9 rfl hk8 q9
      | true =>
        simp only [if_true] at q9 ⊢
        refine thnF (pi1.run _ s9 σ8 H9 _ I9 q9) fun xv s10 hx => thnF hx fun itv s11 ⟨it1, fp1, tn1, J1, H11, e1, I11, T1, st11, f11, W1, ⟨m1, w1⟩, turn1⟩ => ?_
        subst e1
        have own1 : ∀ {H' : Hp}, (∀ b ∈ fp1, H' b = none) → ∀ b ∈ fp1, FpOk (X.blk s3 H3 scope ce fp) ([] ++ pinsAt fp s7.heap) H' b := fun hn b hb => ⟨hn b hb, (f11 b hb).2⟩
        have hk9 : ∀ (j : Nat) v, (wipe σ (own.map (·.2)))[j]? = some (some v) → (wipe σ8 vs1)[j]? = some (some v) := fun j v e => by
          obtain ⟨e1, e2⟩ := wipe_some (hw8 ▸ e)
          rw [wipe_out fun z => e2 (hv j z)]
          exact e1
        have loop1 : codeAny (model X.prog X.w) X.A (.compLoop (dc2 kx vx tg iter ifs tg1 iter1 ifs1 scope pos) 1 (.ref it1) (.ref D) ce)
            (fun r s' => match r with
              | .ok _ => ∃ m, m < n ∧ ∃ i H', Inv (X.blk s3 H3 scope ce fp) [] (wipe σ (own.map (·.2))) H' s' ∧ tn i s'.heap ∧ (∀ b ∈ fp, H' b = none) ∧ W i m H'
              | .error _ => False) s11 := by
          refine loop_in (fun k s' => ∃ j H', Inv (X.blk s3 H3 scope ce fp) ([] ++ pinsAt fp s7.heap) (wipe σ8 vs1) H' s' ∧ tn1 j s'.heap ∧ (∀ b ∈ fp1, H' b = none) ∧ W1 j k H') ?_ m1 ⟨0, H11, I11.weak (wipe_length _ _) (fun j v e => (wipe_some e).1), st11, fun b hb => (f11 b hb).1, w1⟩
          rintro k s12 ⟨j, H12, I12, st12, n12, w12⟩
          rcases turn1 j k H12 w12 with ⟨stop1, nx1⟩ | ⟨go1, Nx1, hNx1, step1⟩
          · refine thnF (T1.done (X.blk s3 H3 scope ce fp) rfl rfl rfl hc j _ s12 (wipe σ8 vs1) H12 (fun _ _ => False) I12 (own1 n12) st12 stop1) fun r s13 ⟨hr, I13⟩ => ?_
            subst hr
            exact next I13 (wipe_length σ8 vs1) hk9 nx1
          · refine thnF (T1.item (X.blk s3 H3 scope ce fp) rfl rfl rfl hc j _ s12 (wipe σ8 vs1) H12 (fun _ _ => False) I12 (own1 n12) st12 go1) fun r s13 ⟨u1, hr, h13⟩ => ?_
            subst hr
            refine thnF h13 fun _ s14 ⟨x1, H14, I14, r14, y14, st14, n14⟩ => ?_
            refine thnF (pg1.run _ s14 (wipe σ8 vs1) H14 x1 u1 _ (I14.pinned (own1 n14) (T1.obj _ _ st14)) r14 (step1 x1 H14 y14)) fun _ s15 ⟨σ15, H15, I15, hw15, q15⟩ => ?_
            refine thnF (pt1.run _ s15 σ15 H15 _ I15 q15) fun b1 s16 ⟨H16, I16, q16⟩ => ?_
            have next1 : ∀ {s' : Shared} {H' : Hp}, Inv (X.blk s3 H3 scope ce fp) (([] ++ pinsAt fp s7.heap) ++ pinsAt fp1 s14.heap) σ15 H' s' → Nx1 H' → ∃ m, m < k ∧ ∃ j H', Inv (X.blk s3 H3 scope ce fp) ([] ++ pinsAt fp s7.heap) (wipe σ8 vs1) H' s' ∧ tn1 j s'.heap ∧ (∀ b ∈ fp1, H' b = none) ∧ W1 j m H' := fun {s' H'} I' nx => by
              obtain ⟨m', hm, w'⟩ := hNx1 H' nx
              have still : ∀ b ∈ fp1, ∀ o, s14.heap.get? b = some o → s'.heap.get? b = some o ∧ H' b = none := fun b hb o e => by
                have z := I'.pin (b, o) (List.mem_append_right _ (List.mem_append_right _ (mem_pinsAt hb e)))
                exact ⟨z.1, z.2.1⟩
              refine ⟨m', hm, j + 1, H', I'.unpinned.weak (by rw [← hw15, wipe_length]) (fun j v e => (wipe_some (hw15 ▸ e)).1), T1.keep _ _ _ st14 fun b hb o e => (still b hb o e).1, fun b hb => ?_, w'⟩
              obtain ⟨o, e, _⟩ := T1.obj _ _ st14 b hb
              exact (still b hb o e).2
            cases b1 with
            | false =>
              simp only [Bool.false_eq_true, if_false] at q16 ⊢
              exact next1 I16 q16
            | true =>
              simp only [if_true] at q16 ⊢
              refine thnF (pk.run _ s16 σ15 H16 _ I16 q16) fun z s17 ⟨yk, H17, I17, r17, q17⟩ => ?_
              refine thnF (pe.run _ s17 σ15 H17 _ I17 q17) fun z2 s18 ⟨yv, H18, I18, r18, kvs, k, ek, hD18, hz18, nx⟩ => ?_
              subst ek
              exact d_dictSet (X := X.blk s3 H3 scope ce fp) I18 hD18 hz18 r17 r18 fun s19 I19 => next1 I19 nx
        exact start_in loop1 (T1.self X.A 0 _ _ _ st11 loop1)
  exact codeAny_compStart_dict loop (T.self X.A 0 _ _ _ st4 loop)
end
/-- the first clause over a tuple that stays -/
theorem out_tup {K : PySem.W.Frag} {a : Addr} {xs : List V} {g : TG} {tt : TT} {wi1 : TI} {g1 : TG} {tt1 : TT} {tk tv : TE} {vs vs1 : List Nat} {σ : L2.St} {H0 : Hp} {D : Addr} {Qd : Hp → Prop} (Pv : Nat → Hp → Prop) (h0 : Pv 0 H0) (hl : ∀ i H, i ≤ xs.length → Pv i H → SqT K H a xs)
    (hs : ∀ i x H, xs[i]? = some x → Pv i H → g x (wipe σ vs) H fun σ2 H2 => wipe σ2 vs = wipe σ vs ∧ tt σ2 H2 fun b H3 => if b = true then wi1 σ2 H3 fun J1 H4 => TurnsIn J1 g1 tt1 tk tv vs1 σ2 D (Pv (i + 1)) H4 else Pv (i + 1) H3) (hd : ∀ H, Pv xs.length H → Qd H) :
    TurnsOut (Itt K a) g tt wi1 g1 tt1 tk tv vs vs1 σ D Qd H0 := by
  refine ⟨fun i m H => m = xs.length - i ∧ i ≤ xs.length ∧ Pv i H, ⟨xs.length, by simp, Nat.zero_le _, h0⟩, ?_⟩
  rintro i m H ⟨rfl, hi, p⟩
  have q := hl i H hi p
  by_cases hlt : i < xs.length
  · refine .inr ⟨⟨xs, xs[i], q, by simp [hlt]⟩, Pv (i + 1), fun H' p' => ⟨xs.length - (i + 1), by omega, rfl, hlt, p'⟩, fun x H' ⟨e, y⟩ => ?_⟩
    subst e
    exact hs i x _ (y xs q) p
  · have e : i = xs.length := by omega
    subst e
    exact .inl ⟨⟨xs, q, Nat.le_refl _⟩, hd H p⟩
/-- the second clause over the numbers lo, lo + 1, .. (n of them) -/
theorem in_range {lo : Int} {n : Nat} {g : TG} {tt : TT} {tk tv : TE} {vs : List Nat} {σ : L2.St} {H0 : Hp} {D : Addr} {Nx : Hp → Prop} (Pv : Nat → Hp → Prop) (h0 : Pv 0 H0)
    (hs : ∀ i H, i < n → Pv i H → g (.int (lo + i)) (wipe σ vs) H fun σ2 H2 => wipe σ2 vs = wipe σ vs ∧ tt σ2 H2 fun b H3 => if b = true then tk σ2 H3 fun y H4 => tv σ2 H4 fun z H5 => sto D (Pv (i + 1)) y z H5 else Pv (i + 1) H3) (hd : ∀ H, Pv n H → Nx H) :
    TurnsIn (Itr lo n) g tt tk tv vs σ D Nx H0 := by
  refine ⟨fun i m H => m = n - i ∧ i ≤ n ∧ Pv i H, ⟨n, by simp, Nat.zero_le _, h0⟩, ?_⟩
  rintro i m H ⟨rfl, hi, p⟩
  by_cases hlt : i < n
  · refine .inr ⟨hlt, Pv (i + 1), fun H' p' => ⟨n - (i + 1), by omega, rfl, hlt, p'⟩, fun x H' ⟨e1, e2⟩ => ?_⟩
    subst e1 e2
    exact hs i H' hlt p
  · have e : i = n := by omega
    subst e
    exact .inl ⟨Nat.le_refl _, hd H p⟩
end Ami

set_option Elab.async false
set_option linter.all false
set_option maxRecDepth 100000
set_option maxHeartbeats 400000
/-! How a list comprehension of two clauses is read. -/
namespace Ami
open PySem PySem.Spec PyProof.Rows L2
/-- what a turn that adds y to the list at D has to find and to leave -/
def app (D : Addr) (Nx : Hp → Prop) (y : V) (H : Hp) : Prop := ∃ acc, H D = some (.lst acc) ∧ acc.length < sizeLine ∧ Nx (upd H D (.lst (acc ++ [y])))
def LIn (J : It) (g : TG) (tt : TT) (te : TE) (vs : List Nat) (σ : L2.St) (D : Addr) (Nx : Hp → Prop) (H0 : Hp) : Prop :=
  ∃ W : Nat → Nat → Hp → Prop, (∃ m, W 0 m H0) ∧ ∀ j k H, W j k H → (J.stop j H ∧ Nx H) ∨ (J.go j H ∧ ∃ N1 : Hp → Prop, (∀ H', N1 H' → ∃ k', k' < k ∧ W (j + 1) k' H') ∧
    ∀ x H', J.yld j H x H' → g x (wipe σ vs) H' fun σ3 H5 => wipe σ3 vs = wipe σ vs ∧ tt σ3 H5 fun b H6 => if b = true then te σ3 H6 (app D N1) else N1 H6)
def LOut (J : It) (g : TG) (tt : TT) (wi1 : TI) (g1 : TG) (tt1 : TT) (te : TE) (vs vs1 : List Nat) (σ : L2.St) (D : Addr) (Qd : Hp → Prop) (H0 : Hp) : Prop :=
  ∃ W : Nat → Nat → Hp → Prop, (∃ m, W 0 m H0) ∧ ∀ i m H, W i m H → (J.stop i H ∧ Qd H) ∨ (J.go i H ∧ ∃ Nx : Hp → Prop, (∀ H', Nx H' → ∃ m', m' < m ∧ W (i + 1) m' H') ∧
    ∀ x H', J.yld i H x H' → g x (wipe σ vs) H' fun σ2 H2 => wipe σ2 vs = wipe σ vs ∧ tt σ2 H2 fun b H3 => if b = true then wi1 σ2 H3 fun J1 H4 => LIn J1 g1 tt1 te vs1 σ2 D Nx H4 else Nx H3)
/-- the reading of pe_lc2, by these words -/
theorem lc2_is {wi : TI} {g : TG} {tt : TT} {wi1 : TI} {g1 : TG} {tt1 : TT} {te : TE} {vs vs1 : List Nat} {σ : L2.St} {H : Hp} {Q : VK}
    (h : wi σ H fun J H1 => ∀ D, H1 D = none → LOut J g tt wi1 g1 tt1 te vs vs1 σ D (fun H => Q (.ref D) H) (upd H1 D (.lst []))) : tLc2 wi g tt wi1 g1 tt1 te vs vs1 σ H Q := h
/-- the first clause over a tuple that stays -/
theorem lout_tup {K : PySem.W.Frag} {a : Addr} {xs : List V} {g : TG} {tt : TT} {wi1 : TI} {g1 : TG} {tt1 : TT} {te : TE} {vs vs1 : List Nat} {σ : L2.St} {H0 : Hp} {D : Addr} {Qd : Hp → Prop} (Pv : Nat → Hp → Prop) (h0 : Pv 0 H0) (hl : ∀ i H, i ≤ xs.length → Pv i H → SqT K H a xs)
    (hs : ∀ i x H, xs[i]? = some x → Pv i H → g x (wipe σ vs) H fun σ2 H2 => wipe σ2 vs = wipe σ vs ∧ tt σ2 H2 fun b H3 => if b = true then wi1 σ2 H3 fun J1 H4 => LIn J1 g1 tt1 te vs1 σ2 D (Pv (i + 1)) H4 else Pv (i + 1) H3) (hd : ∀ H, Pv xs.length H → Qd H) :
    LOut (Itt K a) g tt wi1 g1 tt1 te vs vs1 σ D Qd H0 := by
  refine ⟨fun i m H => m = xs.length - i ∧ i ≤ xs.length ∧ Pv i H, ⟨xs.length, by simp, Nat.zero_le _, h0⟩, ?_⟩
  rintro i m H ⟨rfl, hi, p⟩
  have q := hl i H hi p
  by_cases hlt : i < xs.length
  · refine .inr ⟨⟨xs, xs[i], q, by simp [hlt]⟩, Pv (i + 1), fun H' p' => ⟨xs.length - (i + 1), by omega, rfl, hlt, p'⟩, fun x H' ⟨e, y⟩ => ?_⟩
    subst e
    exact hs i x _ (y xs q) p
  · have e : i = xs.length := by omega
    subst e
    exact .inl ⟨⟨xs, q, Nat.le_refl _⟩, hd H p⟩
/-- the second clause over the numbers lo, lo + 1, .. (n of them) -/
theorem lin_range {lo : Int} {n : Nat} {g : TG} {tt : TT} {te : TE} {vs : List Nat} {σ : L2.St} {H0 : Hp} {D : Addr} {Nx : Hp → Prop} (Pv : Nat → Hp → Prop) (h0 : Pv 0 H0)
    (hs : ∀ i H, i < n → Pv i H → g (.int (lo + i)) (wipe σ vs) H fun σ2 H2 => wipe σ2 vs = wipe σ vs ∧ tt σ2 H2 fun b H3 => if b = true then te σ2 H3 (app D (Pv (i + 1))) else Pv (i + 1) H3) (hd : ∀ H, Pv n H → Nx H) :
    LIn (Itr lo n) g tt te vs σ D Nx H0 := by
  refine ⟨fun i m H => m = n - i ∧ i ≤ n ∧ Pv i H, ⟨n, by simp, Nat.zero_le _, h0⟩, ?_⟩
  rintro i m H ⟨rfl, hi, p⟩
  by_cases hlt : i < n
  · refine .inr ⟨hlt, Pv (i + 1), fun H' p' => ⟨n - (i + 1), by omega, rfl, hlt, p'⟩, fun x H' ⟨e1, e2⟩ => ?_⟩
    subst e1 e2
    exact hs i H' hlt p
  · have e : i = n := by omega
    subst e
    exact .inl ⟨Nat.le_refl _, hd H p⟩
end Ami

set_option Elab.async false
set_option linter.all false
set_option maxRecDepth 100000
set_option maxHeartbeats 400000
/-! The set of the texts that a comprehension gives. -/
namespace Ami
open PySem PySem.Spec PyProof.Rows L2 PpSet
section
variable {X : Cx}
/-- what a turn that adds the text y to the set at D has to find and to leave -/
def gain (w : World) (D : Addr) (Nx : Hp → Prop) : V → Hp → Prop := fun y H => ∃ (x : Str) (ss : List Str), y = .str x ∧ H D = some (SW w D (ss.map Sum.inr)) ∧ ss.length + 1 < scanBound ∧ Nx (upd H D (SW w D ((ins x ss).map Sum.inr)))
/-- the turns of a comprehension into a set of texts at D -/
def Turns (w : World) (J : It) (g : TG) (tt : TT) (te : TE) (vs : List Nat) (σ : L2.St) (D : Addr) (Qd : Hp → Prop) (H0 : Hp) : Prop :=
  ∃ W : Nat → Nat → Hp → Prop, (∃ m, W 0 m H0) ∧ ∀ i m H, W i m H →
    (J.stop i H ∧ Qd H) ∨ (J.go i H ∧ ∃ Nx : Hp → Prop, (∀ H', Nx H' → ∃ m', m' < m ∧ W (i + 1) m' H') ∧ ∀ x H', J.yld i H x H' → g x (wipe σ vs) H' fun σ2 H2 => wipe σ2 vs = wipe σ vs ∧ tt σ2 H2 fun b H3 =>
      if b = true then te σ2 H3 (gain w D Nx) else Nx H3)
/-- {text for target in iter if ..} -/
def tSt (w : World) (wi : TI) (g : TG) (tt : TT) (te : TE) (vs : List Nat) : TE := fun σ H Q => wi σ H fun J H1 => ∀ D, H1 D = none → Turns w J g tt te vs σ D (fun H => Q (.ref D) H) (upd H1 D (SW w D []))
theorem pe_st {elt tg iter : Expr} {ifs : List Expr} {scope : Scope} {own : List (PySem.Str × Nat)} {pos : Pos} {wi : TI} {g : TG} {tt : TT} {te : TE} (hc : X.calm = true) (hN : X.N.Nodup) (hi : PI X tg iter wi) (ok : BlkOk X.N X.env.scope scope own)
    (hg : ∀ (s : Shared) (H : Hp) (C : Addr) (cl : List (PySem.Str × Addr)) (fp : List Addr), PG (X.blk s H scope (compEnvC scope cl C X.env) fp) tg g)
    (ht : ∀ (s : Shared) (H : Hp) (C : Addr) (cl : List (PySem.Str × Addr)) (fp : List Addr), PTs (X.blk s H scope (compEnvC scope cl C X.env) fp) ifs tt)
    (he : ∀ (s : Shared) (H : Hp) (C : Addr) (cl : List (PySem.Str × Addr)) (fp : List Addr), PE (X.blk s H scope (compEnvC scope cl C X.env) fp) elt te)
    (hs : ∀ x, foldedSetIterable iter X.env x = pure x := by intro _; rfl) : PE X (.SetComp elt [⟨tg, iter, ifs, 0⟩] scope pos) (tSt X.w wi g tt te (own.map (·.2))) := by
  refine ⟨fun pins s σ H Q I h => ?_⟩
  rw [eval_SetComp]
  have known : ∀ y ∈ scope.names, y.2 = .free → ∃ c, X.env.cells.lookup y.1 = some c := fun y hy e =>
    (ok.free y hy e).elim (fun k => I.ok.has _ (.inl k)) fun k => I.ok.has _ (.inr k)
  refine wpAny_comprehension_free rfl hs (closure_ok known) ok.kind (fun y hy e => by rw [ok.uniq y hy, e])
    (thn (hi.run pins s σ H _ I h) fun xv s1 hx => thn hx fun itv s2 ⟨it, fp, tn, J, H2, e, I2, T, st2, f2, q⟩ => ?_)
  subst e
  refine newSet_ok (newEnv_comp ?_)
  -- the new set, at the end of the heap
  obtain ⟨D, hD⟩ : ∃ D, s2.heap.objs.size = D := ⟨_, rfl⟩
  rw [hD]
  obtain ⟨W, ⟨m0, w0⟩, turn⟩ := q D (I2.hok.fresh (Nat.le_of_eq hD))
  obtain ⟨H3, hH3⟩ : ∃ H3, upd H2 D (SW X.w D []) = H3 := ⟨_, rfl⟩
  rw [hH3] at w0
  obtain ⟨s3, hs3⟩ : ∃ s3 : Shared, ({ s2 with heap := s2.heap.push { cls := .type "set", dict := none, data := .set #[] 0 (.fresh 0 0 (!X.w.params.followText "set-order")) } } : Shared) = s3 := ⟨_, rfl⟩
  have led : X.w.params.followText "set-order" = true ∨ (!X.w.params.followText "set-order") = true := by
    cases X.w.params.followText "set-order"
    · exact .inr rfl
    · exact .inl rfl
  have grown : ∀ b o, s2.heap.get? b = some o → s3.heap.get? b = some o := fun b o e => by
    rw [← hs3]; exact Heap.get?_push_of_some _ e
  have I3 : Inv X pins σ H3 s3 := by
    rw [← hs3, ← hH3]
    refine I2.laid (t' := s2.toks) (fun b o e => Heap.get?_push_of_some _ e) (Nat.le_of_eq hD) ?_
    rw [← hD]
    exact sw_new (setW_fresh X.w _ led)
  have sz3 : s3.heap.objs.size = s2.heap.objs.size + 1 := by
    rw [← hs3]; exact Heap.size_push _ _
  have young : ∀ b ∈ fp, b < s2.heap.objs.size := fun b hb => by
    obtain ⟨o, e, _⟩ := T.obj _ _ st2 b hb
    exact Heap.lt_size e
  have f3 : ∀ b ∈ fp, FpOk X pins H3 b ∧ b < s3.heap.objs.size := fun b hb => by
    have hlt := young b hb
    refine ⟨⟨?_, (f2 b hb).2⟩, by rw [sz3]; exact Nat.lt_succ_of_lt hlt⟩
    rw [← hH3, upd_ne (by rw [← hD]; exact Nat.ne_of_lt hlt)]
    exact (f2 b hb).1
  have st3 : tn 0 s3.heap := T.keep _ _ _ st2 fun b _ o e => grown b o e
  -- the block
  have I4 := block_start I3 ok hN f3
  have pg := hg s3 H3 s3.heap.objs.size (cellsFrom (s3.heap.objs.size + 1) scope.names (cloFrom X.env.cells scope.names [])) fp
  have pt := ht s3 H3 s3.heap.objs.size (cellsFrom (s3.heap.objs.size + 1) scope.names (cloFrom X.env.cells scope.names [])) fp
  have pe := he s3 H3 s3.heap.objs.size (cellsFrom (s3.heap.objs.size + 1) scope.names (cloFrom X.env.cells scope.names [])) fp
  have away : ∀ b ∈ fp, H3 b = none := fun b hb => (f3 b hb).1.1
  subst hD
  show codeAny _ _ (.compStart (.SetComp elt [⟨tg, iter, ifs, 0⟩] scope pos) 0 (.ref it) (.ref s2.heap.objs.size) (compEnvC scope (cellsFrom (({ s2 with heap := s2.heap.push { cls := .type "set", dict := none, data := .set #[] 0 (.fresh 0 0 (!X.w.params.followText "set-order")) } } : Shared).heap.objs.size + 1) scope.names (cloFrom X.env.cells scope.names [])) ({ s2 with heap := s2.heap.push { cls := .type "set", dict := none, data := .set #[] 0 (.fresh 0 0 (!X.w.params.followText "set-order")) } } : Shared).heap.objs.size X.env)) (compPost (model X.prog X.w) X.A X.xe none _ (.ref s2.heap.objs.size) ({ s2 with heap := s2.heap.push { cls := .type "set", dict := none, data := .set #[] 0 (.fresh 0 0 (!X.w.params.followText "set-order")) } } : Shared).heap.objs.size) { ({ s2 with heap := s2.heap.push { cls := .type "set", dict := none, data := .set #[] 0 (.fresh 0 0 (!X.w.params.followText "set-order")) } } : Shared) with heap := pushCells (({ s2 with heap := s2.heap.push { cls := .type "set", dict := none, data := .set #[] 0 (.fresh 0 0 (!X.w.params.followText "set-order")) } } : Shared).heap.push { cls := .type "dict", data := .dict #[] }) scope.names }
  rw [hs3]
  generalize s2.heap.objs.size = D at *
  show codeAny _ _ (.compStart _ 0 (.ref it) (.ref D) (compEnvC scope (cellsFrom (s3.heap.objs.size + 1) scope.names (cloFrom X.env.cells scope.names [])) s3.heap.objs.size X.env)) (compPost (model X.prog X.w) X.A X.xe none (EP X pins σ Q) (.ref D) s3.heap.objs.size) { s3 with heap := pushCells (s3.heap.push { cls := .type "dict", data := .dict #[] }) scope.names }
  obtain ⟨ce, hce⟩ : ∃ ce, compEnvC scope (cellsFrom (s3.heap.objs.size + 1) scope.names (cloFrom X.env.cells scope.names [])) s3.heap.objs.size X.env = ce := ⟨_, rfl⟩
  have cL : ce.locals = s3.heap.objs.size := by rw [← hce]; rfl
  rw [hce] at I4 pg pt pe ⊢
  have st4 : tn 0 ({ s3 with heap := pushCells (s3.heap.push { cls := .type "dict", data := .dict #[] }) scope.names } : Shared).heap := T.keep _ _ _ st3 fun b _ o e => pushCells_keeps _ _ _ _ (Heap.get?_push_of_some _ e)
  revert I4 st4
  generalize ({ s3 with heap := pushCells (s3.heap.push { cls := .type "dict", data := .dict #[] }) scope.names } : Shared) = s4
  intro I4 st4
  -- the iterator's own objects, as the block sees them
  have own_ok : ∀ {σ' : L2.St} {H' : Hp} {s' : Shared}, Inv (X.blk s3 H3 scope ce fp) [] σ' H' s' → (∀ b ∈ fp, H' b = none) → ∀ b ∈ fp, FpOk (X.blk s3 H3 scope ce fp) [] H' b := fun {σ' H' s'} I' hn b hb =>
    ⟨hn b hb, (I'.ok.exf b hb).1, I'.ok.exfs b hb, .inl hb, fun x c e => (I'.ok.exf b hb).2 x c e, fun p hp => absurd (show p ∈ ([] : List (Addr × Obj)) ++ [] from hp) (by simp)⟩
  have loop : codeAny (model X.prog X.w) X.A (.compLoop (.SetComp elt [⟨tg, iter, ifs, 0⟩] scope pos) 0 (.ref it) (.ref D) ce) (compPost (model X.prog X.w) X.A X.xe none (EP X pins σ Q) (.ref D) s3.heap.objs.size) s4 := by
    refine compLoopS_any (fun n s' => ∃ i H', Inv (X.blk s3 H3 scope ce fp) [] (wipe σ (own.map (·.2))) H' s' ∧ tn i s'.heap ∧ (∀ b ∈ fp, H' b = none) ∧ W i n H') ?_ m0 ⟨0, H3, I4, st4, away, w0⟩
    rintro n s5 ⟨i, H5, I5, st5, n5, w5⟩
    rcases turn i n H5 w5 with ⟨stop, qq⟩ | ⟨go, Nx, hNx, step⟩
    · refine thnF (T.done (X.blk s3 H3 scope ce fp) rfl rfl rfl hc i [] s5 _ H5 (fun _ _ => False) I5 (own_ok I5 n5) st5 stop) fun r s6 ⟨hr, I6⟩ => ?_
      subst hr
      have back : Inv X pins σ H5 s6 := I3.call' (ch := fp) I6.os I6.base I6.hok I6.bare fun b hb => by
        obtain ⟨⟨_, z1, z2, z3, z4, z5⟩, _⟩ := f3 b hb
        exact ⟨z3, z1, z4, z5⟩
      have nC : H5 s3.heap.objs.size = none := cL ▸ (show H5 ce.locals = none from I6.free)
      obtain ⟨m, hn, _⟩ := I6.loc
      have hn' : s6.heap.Ns s3.heap.objs.size m := cL ▸ (show s6.heap.Ns ce.locals m from hn)
      obtain ⟨f0, f1, f2', f3', f4, f5⟩ := I3.fpOk (Nat.le_refl _) nC
      refine ⟨m, hn', fun h'' sb => ?_⟩
      exact ⟨.ref D, H5, back.turned (t' := s6.toks) (fun b o hb e => (sb.2 b hb).trans e) f0 f1 f3' f4 f5, rfl, qq⟩
    · refine thnF (T.item (X.blk s3 H3 scope ce fp) rfl rfl rfl hc i [] s5 _ H5 (fun _ _ => False) I5 (own_ok I5 n5) st5 go) fun r s6 ⟨u, hr, h6⟩ => ?_
      subst hr
      refine thnF h6 fun _ s7 ⟨x, H7, I7, r7, y7, st7, n7⟩ => ?_
      refine thnF (pg.run _ s7 _ H7 x u _ (I7.pinned (own_ok I7 n7) (T.obj _ _ st7)) r7 (step x H7 y7)) fun _ s8 ⟨σ8, H8, I8, hw8, q8⟩ => ?_
      refine thnF (pt.run _ s8 σ8 H8 _ I8 q8) fun b s9 ⟨H9, I9, q9⟩ => ?_
      -- one turn less
      have next : ∀ {s' : Shared} {H' : Hp}, Inv (X.blk s3 H3 scope ce fp) ([] ++ pinsAt fp s7.heap) σ8 H' s' → Nx H' → ∃ m, m < n ∧ ∃ i H', Inv (X.blk s3 H3 scope ce fp) [] (wipe σ (own.map (·.2))) H' s' ∧ tn i s'.heap ∧ (∀ b ∈ fp, H' b = none) ∧ W i m H' := fun {s' H'} I' nx => by
        obtain ⟨m', hm, w'⟩ := hNx H' nx
        have still : ∀ b ∈ fp, ∀ o, s7.heap.get? b = some o → s'.heap.get? b = some o ∧ H' b = none := fun b hb o e => by
          have z := I'.pin (b, o) (List.mem_append_right _ (List.mem_append_right _ (mem_pinsAt hb e)))
          exact ⟨z.1, z.2.1⟩
        have hl : (wipe σ (own.map (·.2))).length = σ8.length := by rw [← hw8, wipe_length]
        refine ⟨m', hm, i + 1, H', (I'.unpinned (pins := [])).weak hl (fun j v e => (wipe_some (hw8 ▸ e)).1), T.keep _ _ _ st7 fun b hb o e => (still b hb o e).1, fun b hb => ?_, w'⟩
        obtain ⟨o, e, _⟩ := T.obj _ _ st7 b hb
        exact (still b hb o e).2
      cases b with
      | false =>
        simp only [Bool.false_eq_true, if_false] at q9 ⊢
        exact next I9 q9
      | true =>
        simp only [if_true] at q9 ⊢
        refine thnF (pe.run _ s9 σ8 H9 _ I9 q9) fun z s10 ⟨yv, H10, I10, r10, x0, ss, ey, hD10, room, nx⟩ => ?_
        subst ey
        obtain ⟨t, rfl⟩ : ∃ t, z = Value.str x0 t := r10
        exact addT_ok (X := X.blk s3 H3 scope ce fp) I10 hD10 room fun s11 I11 => next I11 nx
  exact codeAny_compStart_set loop (T.self X.A 0 _ _ _ st4 loop)
end
/-- over the numbers lo, lo + 1, .. (n of them) -/
theorem st_range {w : World} {lo : Int} {n : Nat} {g : TG} {tt : TT} {te : TE} {vs : List Nat} {σ : L2.St} {H0 : Hp} {D : Addr} {Qd : Hp → Prop} (Pv : Nat → Hp → Prop) (h0 : Pv 0 H0)
    (hs : ∀ i H, i < n → Pv i H → g (.int (lo + i)) (wipe σ vs) H fun σ2 H2 => wipe σ2 vs = wipe σ vs ∧ tt σ2 H2 fun b H3 => if b = true then te σ2 H3 (gain w D (Pv (i + 1))) else Pv (i + 1) H3) (hd : ∀ H, Pv n H → Qd H) :
    Turns w (Itr lo n) g tt te vs σ D Qd H0 := by
  refine ⟨fun i m H => m = n - i ∧ i ≤ n ∧ Pv i H, ⟨n, by simp, Nat.zero_le _, h0⟩, ?_⟩
  rintro i m H ⟨rfl, hi, p⟩
  by_cases hlt : i < n
  · refine .inr ⟨hlt, Pv (i + 1), fun H' p' => ⟨n - (i + 1), by omega, rfl, hlt, p'⟩, fun x H' ⟨e1, e2⟩ => ?_⟩
    subst e1 e2
    exact hs i H' hlt p
  · have e : i = n := by omega
    subst e
    exact .inl ⟨Nat.le_refl _, hd H p⟩
end Ami

set_option Elab.async false
set_option linter.all false
set_option maxRecDepth 100000
set_option maxHeartbeats 4000000
/-! the least of a list of alike data: one of them. -/
namespace Ami
open PySem PySem.Spec PyProof.Rows L2
theorem vals_at : ∀ {vs : List V} {us : List Value} {i : Nat} {u : Value}, Vals vs us → us[i]? = some u → ∃ v, vs[i]? = some v ∧ RelV v u
  | _, _, _, _, .nil, e => nomatch e
  | _, _, 0, _, .cons r t, e => by cases e; exact ⟨_, rfl, r⟩
  | _, _, i + 1, _, .cons r t, e => vals_at (i := i) t e
section
variable {X : Cx}
def rMinD (K : PySem.W.Frag) : List V → Hp → VK → Prop := fun vs H Q => ∃ (a : Addr) (xs : List V) (ds : List PyData), vs = [V.ref a] ∧ SqL K H a xs ∧ DpAll K H xs ds ∧ ds ≠ [] ∧ PySem.W.AlikeAll ds ∧ PyData.depthAll ds ≤ 50 ∧ ∀ v, v ∈ xs → Q v H
theorem cr_minD (hc : X.calm = true) (hu : X.A.units + 64 < cLine) : CallR X (.builtin "min") (rMinD X.K) := by
  intro pins s σ H vs us Q I r h
  obtain ⟨a, xs, ds, rfl, hs, hd, hne, hal, hdep, q⟩ := h
  obtain ⟨its, rv, hl, _⟩ := I.list hs
  obtain ⟨as, hr⟩ := Dp.readsAll I ds xs its hd rv
  rw [Vals.ref1 r]
  cases ds with
  | nil => exact absurd rfl hne
  | cons x ds =>
    refine PySem.W.min_list_data (vs := its.toArray) (I.ok.hd hc) hl.isList hr hal (by omega) fun i v h' tk bs hv _ hk => ?_
    obtain ⟨w, hw, rw'⟩ := vals_at rv (by simpa using hv)
    exact ⟨w, H, I.kept hk, rw', q w (List.mem_of_getElem? hw)⟩
end
end Ami

set_option Elab.async false
set_option linter.all false
set_option maxRecDepth 100000
set_option maxHeartbeats 4000000
/-! the least of a list of texts; sorted of a tuple of texts; sets of the texts of a list or a tuple -/
namespace Ami
open PySem PySem.Spec PyProof.Rows L2
theorem min_txt : ∀ (ps : List Str) (p : Str), ∃ r, r ∈ p :: ps ∧ PySem.W.minD (.str p) (ps.map PyData.str) = .str r ∧ ∀ q ∈ p :: ps, ¬ q.cps.toList < r.cps.toList
  | [], p => ⟨p, List.mem_cons_self, rfl, fun q hq => by rw [List.mem_singleton.mp hq]; exact List.lt_irrefl _⟩
  | q :: ps, p => by
    have e : PySem.W.minD (.str p) ((q :: ps).map PyData.str) = PySem.W.minD (.str (if PySem.W.dataLt (.str q) (.str p) = true then q else p)) (ps.map PyData.str) := by
      unfold PySem.W.minD
      rw [List.map_cons, List.foldl_cons]
      split <;> rfl
    obtain ⟨r, hr, er, hm⟩ := min_txt ps (if PySem.W.dataLt (.str q) (.str p) = true then q else p)
    rw [e, er]
    have tr : ∀ {a b c : List Nat}, ¬ b < a → ¬ c < b → ¬ c < a := fun {a b c} h1 h2 => List.not_lt.mpr (List.le_trans (List.not_lt.mp h1) (List.not_lt.mp h2))
    by_cases hq : PySem.W.dataLt (.str q) (.str p) = true
    · rw [if_pos hq] at hr hm
      rw [PySem.W.dataLt_str, decide_eq_true_eq] at hq
      refine ⟨r, ?_, rfl, fun y hy => ?_⟩
      · rcases List.mem_cons.mp hr with h | h
        · rw [h]; simp
        · simp [h]
      · rcases List.mem_cons.mp hy with rfl | hy
        · exact tr (hm q List.mem_cons_self) (List.lt_asymm hq)
        · exact hm y hy
    · rw [if_neg hq] at hr hm
      rw [PySem.W.dataLt_str, decide_eq_true_eq] at hq
      refine ⟨r, ?_, rfl, fun y hy => ?_⟩
      · rcases List.mem_cons.mp hr with h | h
        · rw [h]; simp
        · simp [h]
      · rcases List.mem_cons.mp hy with rfl | hy
        · exact hm _ List.mem_cons_self
        · rcases List.mem_cons.mp hy with rfl | hy
          · exact tr (hm p List.mem_cons_self) hq
          · exact hm y (List.mem_cons_of_mem _ hy)
theorem dp_txts {K : PySem.W.Frag} {H : Hp} : ∀ ss : List Str, DpAll K H (ss.map V.str) (ss.map PyData.str)
  | [] => .nil
  | s :: ss => .cons (.str s) (dp_txts ss)
theorem dep_txts : ∀ ss : List Str, PyData.depthAll (ss.map PyData.str) = 0
  | [] => rfl
  | s :: ss => by
    show max 0 (PyData.depthAll (ss.map PyData.str)) = 0
    rw [dep_txts ss]; rfl
section
variable {X : Cx}
def rMinT (K : PySem.W.Frag) : List V → Hp → VK → Prop := fun vs H Q => ∃ (a : Addr) (ss : List Str), vs = [V.ref a] ∧ SqL K H a (ss.map V.str) ∧ ss ≠ [] ∧ ∀ y, y ∈ ss → (∀ x ∈ ss, ¬ x.cps.toList < y.cps.toList) → Q (.str y) H
theorem cr_minT {K0 : PySem.W.Frag} (hK : X.K = K0) (hc : X.calm = true) (hu : X.A.units + 64 < cLine) : CallR X (.builtin "min") (rMinT K0) := by
  subst hK
  intro pins s σ H vs us Q I r h
  obtain ⟨a, ss, rfl, hs, hne, q⟩ := h
  obtain ⟨its, rv, hl, _⟩ := I.list hs
  obtain ⟨as, hr⟩ := Dp.readsAll I (ss.map PyData.str) _ its (dp_txts ss) rv
  rw [Vals.ref1 r]
  cases ss with
  | nil => exact absurd rfl hne
  | cons x ss =>
    have hdep : PyData.depthAll (.str x :: ss.map PyData.str) = 0 := dep_txts (x :: ss)
    have hal : PySem.W.AlikeAll ((x :: ss).map PyData.str) := by
      refine ⟨fun a ha b hb => ?_, fun a ha => ?_⟩
      · obtain ⟨p, _, rfl⟩ := List.mem_map.mp ha
        obtain ⟨q, _, rfl⟩ := List.mem_map.mp hb
        rfl
      · obtain ⟨p, _, rfl⟩ := List.mem_map.mp ha
        exact fun z => nomatch z
    refine PySem.W.min_list_data (x := .str x) (xs := ss.map PyData.str) (vs := its.toArray) (I.ok.hd hc) hl.isList hr hal (by omega) fun i v h' tk bs hv rd hk => ?_
    obtain ⟨m, hm, em, hleast⟩ := min_txt ss x
    rw [em] at rd
    cases rd with
    | str _ t => exact ⟨.str m, H, I.kept hk, ⟨t, rfl⟩, q m hm hleast⟩
end
section
variable {prog : Program} {w : World} {A : Around} {E : Value → Shared → Prop} {s : Shared}
theorem collect_tupT {l : Addr} {vs : List Value} {Q : List Value → Shared → Prop} (hl : s.heap.IsTuple l vs.toArray) (hsz : vs.length ≤ sizeLine)
    (h : Q vs { s with heap := (s.heap.push (seqObj "list" #[] 0)).update s.heap.objs.size (Obj.mapSeq (· ++ vs.toArray)) }) : wpAny (model prog w) A (collect (.ref l)) Q E s := by
  obtain ⟨o, ho, hc, n, hd⟩ := id hl
  have ho' : (s.heap.push (seqObj "list" #[] 0)).get? l = some o ∧ (Value.type "tuple" == Value.type "tuple") = true := ⟨Heap.get?_push_of_some _ ho, by rfl⟩
  have hn : (s.heap.push (seqObj "list" #[] 0)).get? s.heap.objs.size = some (seqObj "list" #[] 0) := Heap.get?_push_size _ rfl
  unfold collect
  refine wpAny_bind (wpAny_runValue (codeAny_builtin entry_proto_collect' (?_ : wpAny _ _ (do again (.builtin "list.__iadd__" ⟨[← newList [], .ref l], []⟩)) _ _ s)))
  refine wpAny_bind (wpAny_newList (wpAny_pure ⟨Code.quiet_builtin _ (by decide +kernel), codeAny_builtin entry_list_iadd' (?_ : wpAny _ _ (Builtin.List.listExtendWith (.ref s.heap.objs.size) (.ref l) (.ref s.heap.objs.size)) _ _ { s with heap := s.heap.push (seqObj "list" #[] 0) })⟩))
  unfold Builtin.List.listExtendWith
  refine wpAny_bind (wpAny_typeOf (T := "tuple") ⟨o, ho'.1, hc⟩ (?_ : _))
  rw [if_pos (by rw [ho'.2, Bool.or_true])]
  refine wpAny_bind (listItems_at ho'.1 hd (wpAny_bind (listItems_at (xs := #[]) (n := 0) hn rfl ?_)))
  rw [if_neg (by intro z; exact nomatch z)]
  have room : ((#[] : Array Value) ++ vs.toArray).size ≤ sizeLine + 1 := by
    simp only [Array.size_append, List.size_toArray, List.length_nil]; omega
  refine wpAny_bind (listUpdate_at (xs := #[]) (n := 0) hn rfl (wpAny_pure ?_) (Nat.zero_le _) room)
  have fin : wpAny (model prog w) A (pure ((#[] : Array Value) ++ vs.toArray).toList) Q E { s with heap := (s.heap.push (seqObj "list" #[] 0)).update s.heap.objs.size (Obj.mapSeq (· ++ vs.toArray)) } := by
    have e : ((#[] : Array Value) ++ vs.toArray).toList = vs := by simp
    rw [e]; exact wpAny_pure h
  exact wpAny_bind (wpAny_load (get?_update_seq hn _) fin)
/-- sorted(t) of a tuple of texts -/
theorem sorted_tupT {l : Addr} {vs : List Value} {ss : List Str} {Q : Value → Shared → Prop} (hl : s.heap.IsTuple l vs.toArray) (hS : StrsAre vs ss) (hz : vs.length ≤ sizeLine)
    (h : ∀ out : List Value, SrtO.Srtd ltV out → SrtO.Stb ltV out vs → Q (.ref (s.heap.objs.size + 1)) { s with heap := sortedAll s.heap vs out.toArray }) : wpAny (model prog w) A (call (.builtin "sorted") [.ref l]) Q E s := by
  refine Calls.call_function_entry kind_sorted plain_sorted entry_sorted (args_sorted1 _) ?_
  unfold Builtin.«sorted»
  generalize hB : (s.heap.push (seqObj "list" #[] 0)).update s.heap.objs.size (Obj.mapSeq (· ++ vs.toArray)) = B
  refine wpAny_bind (m := checkCount "sorted" 1 1 _) (wpAny_pure (wpAny_bind (collect_tupT hl hz (wpAny_bind (wpAny_newList ?_ hz)))))
  rw [hB]
  have hsz : B.objs.size = s.heap.objs.size + 1 := by rw [← hB, Heap.size_update, Heap.size_push]
  have hoL : (B.push (seqObj "list" vs.toArray 0)).get? B.objs.size = some (seqObj "list" vs.toArray 0) := Heap.get?_push_size _ rfl
  have post : ∀ out : List Value, SrtO.Srtd ltV out → SrtO.Stb ltV out vs → Q (.ref B.objs.size) { s with heap := sortedHeap (B.push (seqObj "list" vs.toArray 0)) B.objs.size vs out.toArray } := fun out h1 h2 => by
    have q := h out h1 h2
    unfold sortedAll at q
    rw [hB, ← hsz] at q
    exact q
  exact wpAny_bind (wpAny_holding (wpAny_call_entry slot_list_sort ⟨_, hoL, rfl⟩ entry_list_sort (SrtO.list_sort_ord swo_txt hoL hz (fun h2 => txt_sortable hS h2) fun out hs hb => ⟨_, rfl, wpAny_pure ⟨_, rfl, post out hs hb⟩⟩) (args_list_sort _)))
end
section
variable {X : Cx}
def rSortedTT (K : PySem.W.Frag) : List V → Hp → VK → Prop := fun vs H Q => ∃ (a : Addr) (ss : List Str), vs = [V.ref a] ∧ SqT K H a (ss.map V.str) ∧
  ∀ (ys : List Str) (p : Addr), ys.Perm ss → Up ys → H p = none → Q (.ref p) (upd H p (.lst (ys.map V.str)))
theorem cr_sortedTT : CallR X (.builtin "sorted") (rSortedTT X.K) := by
  intro pins s σ H vs us Q I r h
  obtain ⟨a, ss, rfl, hs, q⟩ := h
  obtain ⟨its, rv, hl, hz⟩ := I.tuple hs
  rw [Vals.ref1 r]
  have hS := strs_of rv
  have hz' : its.length ≤ sizeLine := by rw [← rv.length]; exact hz
  refine sorted_tupT (vs := its) hl hS hz' fun out h1 h2 => ?_
  obtain ⟨k1, k2, k3⟩ := txt_out hS h1 h2
  obtain ⟨ep, he'⟩ := PyProof.Rows.sortedAll_at s.heap its out.toArray
  have hlen : ((out.map txtV).map V.str).length ≤ sizeLine := by
    rw [List.length_map] at hz ⊢
    rw [k2.length_eq]; exact hz
  have J : Inv X pins σ (upd H (s.heap.objs.size + 1) (.lst ((out.map txtV).map V.str))) { s with heap := PyProof.Rows.sortedAll s.heap its out.toArray } :=
    I.laid (t' := s.toks) (fun _ _ => PyProof.Rows.sortedAll_old) (Nat.le_succ _) ⟨hlen, out, ep, vals_of_strs k1, he'⟩
  exact ⟨V.ref (s.heap.objs.size + 1), _, J, rfl, q _ _ k2 k3 (I.hok.fresh (Nat.le_succ _))⟩
end
section
variable {P : Program} {w : World} {h : Heap}
theorem at_txt {its : List Value} {ss : List Str} (hS : StrsAre its ss) : ∀ (i : Nat) (v : Value), its[i]? = some v → keyIs (.inr (ss.getD i Str.empty)) v = true := by
  induction hS with
  | nil => intro i v hv; exact nomatch hv
  | cons x t r ih =>
    intro i v hv
    cases i with
    | zero => cases hv; exact keyIs_str _ _
    | succ i => exact ih i v hv
theorem fills_tup {l : Addr} {its : List Value} {ss : List Str} (hl : h.IsTuple l its.toArray) (hS : StrsAre its ss) : Fills P w h (.ref l) "tuple" its.length (fun i => .inr (ss.getD i Str.empty)) where
  ty := fun s' k => by
    obtain ⟨o, ho, hc, _⟩ := hl
    exact ⟨o, k _ _ ho, hc⟩
  s1 := by rw [isSubtype_type]; kernel_rfl
  s2 := by rw [isSubtype_type]; kernel_rfl
  nd := by decide
  it := fun A E s' Q k hq => by
    have hl' : s'.heap.IsTuple l its.toArray := by
      obtain ⟨o, ho, r⟩ := hl
      exact ⟨o, k _ _ ho, r⟩
    have hlt : l < s'.heap.objs.size := by
      obtain ⟨o, ho, _⟩ := hl'
      exact Heap.lt_size ho
    refine wpAny_pyIter_tuple hl' ?_
    exact hq _ s'.heap.objs.size [s'.heap.objs.size, l] (fun i v => its.toArray[i]? = some v) (fun i h => h.IsTupleIter s'.heap.objs.size l i ∧ h.IsTuple l its.toArray) (fun b o e => Heap.get?_push_of_some _ e) (Nat.le_refl _) List.mem_cons_self
      (fun b hb => by
        rcases List.mem_cons.mp hb with e | e
        · exact .inl e
        · obtain ⟨o, ho, _⟩ := hl
          exact .inr ⟨o, by rw [List.mem_singleton.mp e]; exact ho⟩)
      (fun A2 h2 => Walks.tuple h2 _ l (Nat.ne_of_lt hlt) its.toArray) ⟨⟨_, Heap.get?_push_size _ rfl, rfl, rfl⟩, hl'.push _⟩ fun i v _ hv => at_txt hS i v (by simpa using hv)
theorem fills_lst {l : Addr} {its : List Value} {ss : List Str} (hl : h.IsList l its.toArray) (hS : StrsAre its ss) : Fills P w h (.ref l) "list" its.length (fun i => .inr (ss.getD i Str.empty)) where
  ty := fun s' k => by
    obtain ⟨o, ho, hc, _⟩ := hl
    exact ⟨o, k _ _ ho, hc⟩
  s1 := by rw [isSubtype_type]; kernel_rfl
  s2 := by rw [isSubtype_type]; kernel_rfl
  nd := by decide
  it := fun A E s' Q k hq => by
    have hl' : s'.heap.IsList l its.toArray := by
      obtain ⟨o, ho, r⟩ := hl
      exact ⟨o, k _ _ ho, r⟩
    have hlt : l < s'.heap.objs.size := by
      obtain ⟨o, ho, _⟩ := hl'
      exact Heap.lt_size ho
    refine wpAny_pyIter_list hl' ?_
    exact hq _ s'.heap.objs.size [s'.heap.objs.size, l] (fun i v => its.toArray[i]? = some v) (fun i h => h.IsListIter s'.heap.objs.size l i ∧ h.IsList l its.toArray) (fun b o e => Heap.get?_push_of_some _ e) (Nat.le_refl _) List.mem_cons_self
      (fun b hb => by
        rcases List.mem_cons.mp hb with e | e
        · exact .inl e
        · obtain ⟨o, ho, _⟩ := hl
          exact .inr ⟨o, by rw [List.mem_singleton.mp e]; exact ho⟩)
      (fun A2 h2 => Walks.list h2 _ l (Nat.ne_of_lt hlt) its.toArray) ⟨⟨_, Heap.get?_push_size _ rfl, rfl, rfl⟩, hl'.push _⟩ fun i v _ hv => at_txt hS i v (by simpa using hv)
end
section
variable {X : Cx}
/-- set(xs) of a list or a tuple of texts -/
def rSetTx (K : PySem.W.Frag) (w : World) : List V → Hp → VK → Prop := fun vs H Q => ∃ (a : Addr) (ss : List Str), vs = [V.ref a] ∧ (SqL K H a (ss.map V.str) ∨ SqT K H a (ss.map V.str)) ∧ ss.length < scanBound ∧
  ∀ (p : Addr) (l : List Str), H p = none → l.Nodup → (∀ x, x ∈ l ↔ x ∈ ss) → Q (.ref p) (upd H p (SW w p (l.map Sum.inr)))
theorem cr_setTx (hc : X.calm = true) : CallR X (.type "set") (rSetTx X.K X.w) := by
  intro pins s σ H vs us Q I r h
  obtain ⟨a, ss, rfl, hs, hb, q⟩ := h
  rw [Vals.ref1 r]
  have fin : ∀ (h' : Heap) (tk : Nat) (l : List Key), (∀ b o, s.heap.get? b = some o → h'.get? b = some o) → SetW X.w h' s.heap.objs.size l → (∀ k, k ∈ l ↔ ∃ j, j < ss.length ∧ k = Sum.inr (ss.getD j Str.empty)) → EP X pins σ Q (.ref s.heap.objs.size) { s with heap := h', toks := tk } := fun h' tk l k R m => by
    have hm : ∀ k, k ∈ l ↔ ∃ x ∈ ss, k = Sum.inr x := fun k => by
      rw [m k]
      constructor
      · rintro ⟨j, hj, e⟩
        refine ⟨_, ?_, e⟩
        rw [List.getD_eq_getElem?_getD, List.getElem?_eq_getElem hj]
        exact List.getElem_mem hj
      · rintro ⟨x, hx, e⟩
        obtain ⟨j, hj, e3⟩ := List.getElem_of_mem hx
        refine ⟨j, hj, ?_⟩
        rw [e, List.getD_eq_getElem?_getD, List.getElem?_eq_getElem hj, e3]; rfl
    have el : l = (l.map txtK).map Sum.inr := by
      rw [List.map_map]
      conv => lhs; rw [← List.map_id l]
      refine List.map_congr_left fun k hk => ?_
      obtain ⟨x, _, e⟩ := (hm k).mp hk
      rw [e]; rfl
    have nd := R.nodup
    rw [el] at R nd hm
    have mm : ∀ x, x ∈ l.map txtK ↔ x ∈ ss := fun x => by
      have := hm (.inr x)
      rw [inr_mem] at this
      rw [this]
      exact ⟨fun ⟨y, hy, e⟩ => by cases e; exact hy, fun hy => ⟨x, hy, rfl⟩⟩
    exact ⟨.ref s.heap.objs.size, _, I.laid (t' := tk) k (Nat.le_refl _) (sw_new R), rfl, q _ _ (I.hok.fresh (Nat.le_refl _)) ((List.pairwise_map.mp nd).imp fun h e => h (congrArg _ e)) mm⟩
  rcases hs with hs | hs
  · obtain ⟨its, rv, hl, _⟩ := I.list hs
    have e : its.length = ss.length := by rw [← rv.length, List.length_map]
    exact call_set_w (I.ok.hd hc) (by rw [e]; exact hb) (fills_lst (its := its) hl.isList (strs_of rv)) fun h' tk l k R m => fin h' tk l k R fun x => by rw [m x, e]
  · obtain ⟨its, rv, hl, _⟩ := I.tuple hs
    have e : its.length = ss.length := by rw [← rv.length, List.length_map]
    exact call_set_w (I.ok.hd hc) (by rw [e]; exact hb) (fills_tup (its := its) hl (strs_of rv)) fun h' tk l k R m => fin h' tk l k R fun x => by rw [m x, e]
/-- len of a set of texts -/
theorem cr_lenW : CallR X (.builtin "len") (fun vs H Q => ∃ (a : Addr) (ss : List Str), vs = [V.ref a] ∧ H a = some (SW X.w a (ss.map Sum.inr)) ∧ Q (.int (ss.length : Nat)) H) := by
  intro pins s σ H vs us Q I r h
  obtain ⟨a, ss, rfl, ha, q⟩ := h
  rw [Vals.ref1 r]
  obtain ⟨o, es, ep, t, ho, hex, hd, _, _, hp, hb, hf, _⟩ := sw_get I ha
  have hn : es.size = ss.length := by
    have := hp.length_eq
    rw [List.length_map] at this
    unfold keysIn at this
    rw [List.length_map, Array.length_toList] at this
    exact this.symm
  have hb' : es.size < 2 ^ 62 := Nat.lt_trans hb (by decide)
  exact call_len_set ho hex hd hf (by omega) ⟨.int (ss.length : Nat), H, I.tok _, ⟨_, by rw [hn]⟩, q⟩
end
end Ami

set_option Elab.async false
set_option linter.all false
set_option maxRecDepth 100000
set_option maxHeartbeats 4000000
/-! Sorted of a dict whose keys are tuples of ints and texts. -/
namespace Ami
open PySem PySem.Spec PyProof.Rows L2
open PySem.W (alike alikeAll dataLt dataLe AllAlike Sortable)
def nkK : Key → NestedKey
  | .inl i => .num i
  | .inr x => .text x
def nkKs (k : List Key) : NestedKey := .tup (k.map nkK)
theorem nv_key {K : PySem.W.Frag} {H : Hp} : ∀ k : List Key, NvAll K H (k.map kV) (k.map nkK)
  | [] => .nil
  | .inl i :: k => .cons (.int i) (nv_key k)
  | .inr x :: k => .cons (.str x) (nv_key k)
theorem depth_keys : ∀ k : List Key, NestedKey.depthAll (k.map nkK) = 0
  | [] => rfl
  | .inl i :: k => by
    show max 0 (NestedKey.depthAll (k.map nkK)) = 0
    rw [depth_keys k]; rfl
  | .inr x :: k => by
    show max 0 (NestedKey.depthAll (k.map nkK)) = 0
    rw [depth_keys k]; rfl
theorem depth_nkKs (k : List Key) : (nkKs k).depth = 1 := by
  show NestedKey.depthAll (k.map nkK) + 1 = 1
  rw [depth_keys]
theorem perm_of_map {α β : Type} (g : α → β) : ∀ {M : List β} {L : List α}, M.Perm (L.map g) → ∃ L' : List α, M = L'.map g ∧ L'.Perm L
  | [], L, h => by
    have := h.length_eq
    rw [List.length_map] at this
    exact ⟨[], rfl, by rw [List.length_eq_zero_iff.mp this.symm]⟩
  | v :: M, L, h => by
    obtain ⟨p, hp, e⟩ := List.mem_map.mp (h.mem_iff.mp List.mem_cons_self)
    obtain ⟨l1, l2, rfl⟩ := List.append_of_mem hp
    have h2 : (v :: M).Perm (g p :: ((l1 ++ l2).map g)) := by
      refine h.trans ?_
      rw [List.map_append, List.map_cons, List.map_append]
      exact List.perm_middle
    rw [← e] at h2
    obtain ⟨L1, e1, p1⟩ := perm_of_map g h2.cons_inv
    exact ⟨p :: L1, by rw [List.map_cons, e, e1], (p1.cons p).trans List.perm_middle.symm⟩
theorem kt_keys {H : Hp} {kvs : List (List Key × V)} {xs : List (List Key × Addr × Value)} (r : KT H kvs xs) : xs.map (·.1) = kvs.map (·.1) ∧ ∀ x ∈ xs, H x.2.1 = some (.tup (x.1.map kV)) := by
  unfold KT at r
  induction r with
  | nil => exact ⟨rfl, fun x hx => nomatch hx⟩
  | @cons p q ps qs hq _ ih =>
    refine ⟨by rw [List.map_cons, List.map_cons, ih.1, hq.1], fun x hx => ?_⟩
    rcases List.mem_cons.mp hx with rfl | hx
    · rw [← hq.1]; exact hq.2.1
    · exact ih.2 x hx
/-- an address with its key -/
def nkP (x : Addr × List Key) : Addr × NestedKey := (x.1, nkKs x.2)
section
variable {X : Cx}
def rSortDT : List V → Hp → VK → Prop := fun vs H Q => ∃ (d : Addr) (kvs : List (List Key × V)), vs = [V.ref d] ∧ H d = some (.dT kvs) ∧ (∀ p ∈ kvs, ∀ q ∈ kvs, alike (nkKs p.1).data (nkKs q.1).data = true) ∧ (∀ p ∈ kvs, p.1 ≠ []) ∧
  ∀ (L : List (Addr × List Key)) p, (L.map (·.2)).Perm (kvs.map (·.1)) → L.Pairwise (fun x y => dataLt (nkKs y.2).data (nkKs x.2).data = false) → (∀ x ∈ L, H x.1 = some (.tup (x.2.map kV))) → H p = none → Q (.ref p) (upd H p (.lst (L.map fun x => V.ref x.1)))
theorem cr_sortDT (hc : X.calm = true) (hu : X.A.units + 64 < cLine) : CallR X (.builtin "sorted") rSortDT := by
  intro pins s σ H vs us Q I r h
  obtain ⟨d, kvs, rfl, hd, hal, hne, q⟩ := h
  rw [Vals.ref1 r]
  obtain ⟨z, hs, ks, pr, o, es, ep, ho, hx, hdt, he, hn⟩ := (show ObjOk X.prog X.w H s.heap d (.dT kvs) from I.hok d _ hd)
  have l1 : es.size = ks.length := size_of_entries he
  have l2 : kvs.length = ks.length := Paired.length pr
  refine Calls.call_function_entry kind_sorted plain_sorted entry_sorted (args_sorted1 _) ?_
  unfold Builtin.«sorted»
  refine wpAny_bind (m := checkCount "sorted" 1 1 _) (wpAny_pure ?_)
  refine wpAny_bind (PySem.W.kdu_collect (A := X.A.in1) (kdl_raw hs hx hdt) (I.ok.hd hc) ho (by omega) fun h' tk acc kp it => ?_)
  have ea : acc.toList = ks.map fun x => Value.ref x.2.1 := by
    have hl : acc.toList.length = ks.length := by rw [Array.length_toList, it.1]; exact l1
    refine List.ext_getElem? fun j => ?_
    rw [List.getElem?_map]
    cases hb : ks[j]? with
    | none =>
      have h2 := List.getElem?_eq_none_iff.mp hb
      exact List.getElem?_eq_none (by omega)
    | some b =>
      have hj : j < acc.toList.length := by rw [hl]; exact (List.getElem?_eq_some_iff.mp hb).1
      have hv0 : acc.toList[j]? = some (acc.toList[j]) := List.getElem?_eq_getElem hj
      obtain ⟨en, hen, hv⟩ := it.2 j _ (by rw [← Array.getElem?_toList]; exact hv0)
      have qe := entry_at he j
      rw [hen, hb] at qe
      obtain rfl : en = entryOfKey (tupleKind (mixKind X.prog X.w)) b := Option.some.inj qe
      rw [hv0, hv]; rfl
  -- the keys, by their addresses
  obtain ⟨L0, hL0⟩ : ∃ L0 : List (Addr × List Key), L0 = ks.map fun x => (x.2.1, x.1) := ⟨_, rfl⟩
  have eL : (ks.map fun x => Value.ref x.2.1) = (L0.map nkP).map fun q => Value.ref q.1 := by rw [hL0, List.map_map, List.map_map]; rfl
  have keys0 : L0.map (·.2) = kvs.map (·.1) := by
    rw [hL0, List.map_map]
    exact (kt_keys pr).1
  have tups0 : ∀ x ∈ L0, H x.1 = some (.tup (x.2.map kV)) := fun x hx => by
    rw [hL0] at hx
    obtain ⟨y, hy, rfl⟩ := List.mem_map.mp hx
    exact (kt_keys pr).2 y hy
  have key0 : ∀ x ∈ L0, ∃ p ∈ kvs, p.1 = x.2 := fun x hx => by
    have : x.2 ∈ kvs.map (·.1) := by rw [← keys0]; exact List.mem_map.mpr ⟨x, hx, rfl⟩
    obtain ⟨p, hp, e⟩ := List.mem_map.mp this
    exact ⟨p, hp, e⟩
  have hcm : Comp (L0.map nkP) := by
    refine ⟨fun p hp q hq => ?_, fun p hp => ?_⟩
    · obtain ⟨x, hx, rfl⟩ := List.mem_map.mp hp
      obtain ⟨y, hy, rfl⟩ := List.mem_map.mp hq
      obtain ⟨a, ha, e1⟩ := key0 x hx
      obtain ⟨b, hb, e2⟩ := key0 y hy
      have := hal a ha b hb
      rw [e1, e2] at this
      exact this
    · obtain ⟨x, hx, rfl⟩ := List.mem_map.mp hp
      obtain ⟨a, ha, e1⟩ := key0 x hx
      have := hne a ha
      rw [e1] at this
      show ∃ k r, NestedKey.tup (x.2.map nkK) = .tup (k :: r)
      cases hk : x.2 with
      | nil => exact absurd hk this
      | cons k r => exact ⟨_, _, rfl⟩
  have I1 : Inv X pins σ H { s with heap := h', toks := tk } := I.kept kp
  have l0 : L0.length = ks.length := by rw [hL0, List.length_map]
  have lv : ((L0.map nkP).map fun q => Value.ref q.1).length ≤ sizeLine := by rw [List.length_map, List.length_map]; omega
  rw [ea, eL]
  refine wpAny_bind (wpAny_newList ?_ lv)
  have hoL : (h'.push (seqObj "list" ((L0.map nkP).map fun q => Value.ref q.1).toArray 0)).get? h'.objs.size = some (seqObj "list" ((L0.map nkP).map fun q => Value.ref q.1).toArray 0) := Heap.get?_push_size _ rfl
  show wpAny _ _ _ _ _ { s with heap := h'.push (seqObj "list" ((L0.map nkP).map fun q => Value.ref q.1).toArray 0), toks := tk }
  refine wpAny_bind (wpAny_holding (PySem.W.list_sort_data (s := { s with heap := h'.push (seqObj "list" ((L0.map nkP).map fun q => Value.ref q.1).toArray 0), toks := tk }) (enc := nd) (bs := L0.map nkP) (R := asRef) hoL (each_refs (L0.map nkP)) ?_ hcm.alike hcm.sortable (by rw [List.length_map] at lv; exact lv) (fun p hp => ?_) fun out h1 h2 => ?_))
  · have go : ∀ K : List (Addr × List Key), (∀ x ∈ K, x ∈ L0) → PySem.W.EachIs (fun v b => ∃ as, Reads (h'.push (seqObj "list" ((L0.map nkP).map fun q => Value.ref q.1).toArray 0)) v (nd b) as ∧ h'.objs.size ∉ as) ((K.map nkP).map fun q => Value.ref q.1) (K.map nkP) := by
      intro K
      induction K with
      | nil => exact fun _ => .nil
      | cons x K ih =>
        intro h
        have nv : Nv X.K H (.ref x.1) (nkKs x.2) := .tup (SqT.of (tups0 x (h x List.mem_cons_self))) (nv_key x.2)
        obtain ⟨as, r⟩ := Dp.reads I1 _ _ _ nv.dp rfl
        refine .cons ⟨as, PyProof.Rows.Reads.keeps (fun b o e => Heap.get?_push_of_some _ e) r, fun hm => ?_⟩ (ih fun q hq => h q (List.mem_cons_of_mem _ hq))
        obtain ⟨o, e⟩ := PyProof.On.reads_mem_get r _ hm
        exact absurd (Heap.lt_size e) (Nat.lt_irrefl _)
    exact go L0 fun _ h => h
  · obtain ⟨x, hx, rfl⟩ := List.mem_map.mp hp
    show X.A.units + 1 + 1 + (nkKs x.2).data.depth < cLine
    rw [depth_data, depth_nkKs]
    omega
  obtain rfl := refs_each h2
  obtain ⟨c, hcc⟩ := sortedHeap_at (vs := (L0.map nkP).map fun q => Value.ref q.1) (out := (((L0.map nkP).mergeSort (dataLe false nd)).map fun p => Value.ref p.1).toArray) hoL
  have pm2 : ((L0.map nkP).mergeSort (dataLe false nd)).Perm (L0.map nkP) := List.mergeSort_perm ..
  have up2 := nup_sort (L0.map nkP)
  obtain ⟨L, eL', pm⟩ := perm_of_map nkP pm2
  rw [eL'] at up2 hcc
  rw [eL']
  have eV : ((L.map nkP).map fun q => V.ref q.1) = L.map fun x => V.ref x.1 := by rw [List.map_map]; rfl
  have hlen : (L.map fun x => V.ref x.1).length ≤ sizeLine := by rw [List.length_map, pm.length_eq]; omega
  refine wpAny_pure ⟨_, rfl, .ref h'.objs.size, upd H h'.objs.size (.lst (L.map fun x => V.ref x.1)), I1.laid (t' := tk) (fun b u e => ?_) (Nat.le_refl _)
    (show ObjOk X.prog X.w _ _ _ (.lst (L.map fun x => V.ref x.1)) from ⟨hlen, (L.map nkP).map (fun p => Value.ref p.1), c, by rw [← eV]; exact vals_refs _, hcc⟩), rfl, q L _ ((pm.map (·.2)).trans (by rw [keys0])) (List.pairwise_map.mp up2) (fun x hx => tups0 x (pm.mem_iff.mp hx)) (I1.hok.fresh (Nat.le_refl _))⟩
  have hb : b < h'.objs.size := Heap.lt_size e
  rw [sortedHeap_old (Nat.ne_of_lt hb) (by rw [Heap.size_push]; exact Nat.lt_succ_of_lt hb)]
  exact Heap.get?_push_of_some _ e
end
end Ami

set_option Elab.async false
set_option linter.all false
set_option maxRecDepth 100000
set_option maxHeartbeats 400000
/-! AmiL3: the dict that a comprehension gives, its keys tuples of ints and texts. -/
namespace Ami
open PySem PySem.Spec PyProof.Rows L2
section
variable {X : Cx}
theorem dict_putT {pins : List (Addr × Obj)} {σ : L2.St} {H : Hp} {s : Shared} {E : Value → Shared → Prop} {D b : Addr} {kvs : List (List Key × V)} {k : List Key} {v : V} {r : Value} {Q : Unit → Shared → Prop} (hu : X.A.units + 1 < cLine) (I : Inv X pins σ H s) (hD : H D = some (.dT kvs)) (few : kvs.length < sizeLine)
    (hb : H b = some (.tup (k.map kV))) (rv : RelV v r) (h : ∀ s', Inv X pins σ (upd H D (.dT (putK kvs k v))) s' → Q () s') : wpAny (model X.prog X.w) X.A (dictSet D (.ref b) r) Q E s := by
  obtain ⟨z, hd, xs, rel, dd⟩ := dt_of I.hok hD
  have room : xs.length ≤ sizeLine := by rw [← Paired.length rel]; exact z
  have size' : (putK kvs k v).length ≤ sizeLine := by
    have := length_putK kvs k v
    omega
  refine wpAny_dictSet_heap (hsz := room) (show X.A.units < cLine by omega) (key_of I.hok hb) dd fun h' dd' hs => h _ ?_
  obtain ⟨q, es, ep, hq, g2, g3, g4, _, g5⟩ := dd'
  have other : ∀ c ys, H c = some (.tup ys) → upd H D (.dT (putK kvs k v)) c = some (.tup ys) := fun c ys ec => by
    rw [upd_ne (ne_of ec hD (fun z => nomatch z))]
    exact ec
  exact d_write I (by rw [hD]; exact True.intro) hs ⟨q, hq⟩ ⟨size', hd, _, (rel.put k hb rv).keeps other, q, es, ep, hq, g2, g3, g4, g5⟩
/-- what a turn that puts z at the key y into the dict at D has to find and to leave -/
def gainT (D : Addr) (Nx : Hp → Prop) : V → V → Hp → Prop := fun y z H => ∃ (b : Addr) (k : List Key) (kvs : List (List Key × V)), y = .ref b ∧ H b = some (.tup (k.map kV)) ∧ H D = some (.dT kvs) ∧ kvs.length < sizeLine ∧ Nx (upd H D (.dT (putK kvs k z)))
/-- the turns of a comprehension into such a dict at D -/
def TurnsT (J : It) (g : TG) (tt : TT) (tk tv : TE) (vs : List Nat) (σ : L2.St) (D : Addr) (Qd : Hp → Prop) (H0 : Hp) : Prop :=
  ∃ W : Nat → Nat → Hp → Prop, (∃ m, W 0 m H0) ∧ ∀ i m H, W i m H →
    (J.stop i H ∧ Qd H) ∨ (J.go i H ∧ ∃ Nx : Hp → Prop, (∀ H', Nx H' → ∃ m', m' < m ∧ W (i + 1) m' H') ∧ ∀ x H', J.yld i H x H' → g x (wipe σ vs) H' fun σ2 H2 => wipe σ2 vs = wipe σ vs ∧ tt σ2 H2 fun b H3 =>
      if b = true then tk σ2 H3 fun y H4 => tv σ2 H4 fun z H5 => gainT D Nx y z H5 else Nx H3)
/-- {(..): z for target in iter if ..} -/
def tDcT (wi : TI) (g : TG) (tt : TT) (tk tv : TE) (vs : List Nat) : TE := fun σ H Q => wi σ H fun J H1 => ∀ D, H1 D = none → TurnsT J g tt tk tv vs σ D (fun H => Q (.ref D) H) (upd H1 D (.dT []))
theorem dct_core {pins : List (Addr × Obj)} {s : Shared} {σ : L2.St} {H : Hp} {Q : VK} {kx vx tg iter : Expr} {ifs : List Expr} {scope : Scope} {own : List (PySem.Str × Nat)} {pos pos' : Pos} {wi : TI} {g : TG} {tt : TT} {tk tv : TE} {use : Option (Value → Sem Unit)} {Qf : Value → Shared → Prop} (hu : X.A.units + 1 < cLine) (hc : X.calm = true) (hN : X.N.Nodup) (hi : PI X tg iter wi) (ok : BlkOk X.N X.env.scope scope own)
    (hg : ∀ (s : Shared) (H : Hp) (C : Addr) (cl : List (PySem.Str × Addr)) (fp : List Addr), PG (X.blk s H scope (compEnvC scope cl C X.env) fp) tg g)
    (ht : ∀ (s : Shared) (H : Hp) (C : Addr) (cl : List (PySem.Str × Addr)) (fp : List Addr), PTs (X.blk s H scope (compEnvC scope cl C X.env) fp) ifs tt)
    (hk : ∀ (s : Shared) (H : Hp) (C : Addr) (cl : List (PySem.Str × Addr)) (fp : List Addr), PE (X.blk s H scope (compEnvC scope cl C X.env) fp) kx tk)
    (he : ∀ (s : Shared) (H : Hp) (C : Addr) (cl : List (PySem.Str × Addr)) (fp : List Addr), PE (X.blk s H scope (compEnvC scope cl C X.env) fp) vx tv)
    (hs : ∀ x, foldedSetIterable iter X.env x = pure x) (I : Inv X pins σ H s) (h : tDcT wi g tt tk tv (own.map (·.2)) σ H Q)
    (fin : ∀ D C s' m H', Inv X pins σ H' s' → Q (.ref D) H' → s'.heap.Ns C m → FpOk X pins H' C → compPost (model X.prog X.w) X.A X.xe use Qf (.ref D) C (.ok .next) s') :
    wpAny (model X.prog X.w) X.A (comprehension (.DictComp kx vx [⟨tg, iter, ifs, 0⟩] scope pos) scope X.env pos' newDict false (eval iter X.env) use) Qf X.xe s := by
  have known : ∀ y ∈ scope.names, y.2 = .free → ∃ c, X.env.cells.lookup y.1 = some c := fun y hy e =>
    (ok.free y hy e).elim (fun k => I.ok.has _ (.inl k)) fun k => I.ok.has _ (.inr k)
  refine wpAny_comprehension_free (use := use) rfl hs (closure_ok known) ok.kind (fun y hy e => by rw [ok.uniq y hy, e])
    (thn (hi.run pins s σ H _ I h) fun xv s1 hx => thn hx fun itv s2 ⟨it, fp, tn, J, H2, e, I2, T, st2, f2, q⟩ => ?_)
  subst e
  refine wpAny_newObj_type (newEnv_comp ?_)
  -- the new dict, at the end of the heap
  obtain ⟨D, hD⟩ : ∃ D, s2.heap.objs.size = D := ⟨_, rfl⟩
  rw [hD]
  obtain ⟨W, ⟨m0, w0⟩, turn⟩ := q D (I2.hok.fresh (Nat.le_of_eq hD))
  obtain ⟨H3, hH3⟩ : ∃ H3, upd H2 D (.dT []) = H3 := ⟨_, rfl⟩
  rw [hH3] at w0
  obtain ⟨s3, hs3⟩ : ∃ s3 : Shared, ({ s2 with heap := s2.heap.push { cls := .type "dict", data := .dict #[] } } : Shared) = s3 := ⟨_, rfl⟩
  have grown : ∀ b o, s2.heap.get? b = some o → s3.heap.get? b = some o := fun b o e => by
    rw [← hs3]; exact Heap.get?_push_of_some _ e
  have I3 : Inv X pins σ H3 s3 := by
    rw [← hs3, ← hH3]
    refine I2.laid (t' := s2.toks) (fun b o e => Heap.get?_push_of_some _ e) (Nat.le_of_eq hD) ?_
    rw [← hD]
    exact dt_empty s2.heap I2.big
  have sz3 : s3.heap.objs.size = s2.heap.objs.size + 1 := by
    rw [← hs3]; exact Heap.size_push _ _
  have young : ∀ b ∈ fp, b < s2.heap.objs.size := fun b hb => by
    obtain ⟨o, e, _⟩ := T.obj _ _ st2 b hb
    exact Heap.lt_size e
  have f3 : ∀ b ∈ fp, FpOk X pins H3 b ∧ b < s3.heap.objs.size := fun b hb => by
    have hlt := young b hb
    refine ⟨⟨?_, (f2 b hb).2⟩, by rw [sz3]; exact Nat.lt_succ_of_lt hlt⟩
    rw [← hH3, upd_ne (by rw [← hD]; exact Nat.ne_of_lt hlt)]
    exact (f2 b hb).1
  have st3 : tn 0 s3.heap := T.keep _ _ _ st2 fun b _ o e => grown b o e
  -- the block
  have I4 := block_start I3 ok hN f3
  have pg := hg s3 H3 s3.heap.objs.size (cellsFrom (s3.heap.objs.size + 1) scope.names (cloFrom X.env.cells scope.names [])) fp
  have pt := ht s3 H3 s3.heap.objs.size (cellsFrom (s3.heap.objs.size + 1) scope.names (cloFrom X.env.cells scope.names [])) fp
  have pk := hk s3 H3 s3.heap.objs.size (cellsFrom (s3.heap.objs.size + 1) scope.names (cloFrom X.env.cells scope.names [])) fp
  have pe := he s3 H3 s3.heap.objs.size (cellsFrom (s3.heap.objs.size + 1) scope.names (cloFrom X.env.cells scope.names [])) fp
  have away : ∀ b ∈ fp, H3 b = none := fun b hb => (f3 b hb).1.1
  subst hD
  show codeAny _ _ (.compStart (.DictComp kx vx [⟨tg, iter, ifs, 0⟩] scope pos) 0 (.ref it) (.ref s2.heap.objs.size) (compEnvC scope (cellsFrom (({ s2 with heap := s2.heap.push { cls := .type "dict", data := .dict #[] } } : Shared).heap.objs.size + 1) scope.names (cloFrom X.env.cells scope.names [])) ({ s2 with heap := s2.heap.push { cls := .type "dict", data := .dict #[] } } : Shared).heap.objs.size X.env)) (compPost (model X.prog X.w) X.A X.xe use _ (.ref s2.heap.objs.size) ({ s2 with heap := s2.heap.push { cls := .type "dict", data := .dict #[] } } : Shared).heap.objs.size) { ({ s2 with heap := s2.heap.push { cls := .type "dict", data := .dict #[] } } : Shared) with heap := pushCells (({ s2 with heap := s2.heap.push { cls := .type "dict", data := .dict #[] } } : Shared).heap.push { cls := .type "dict", data := .dict #[] }) scope.names }
  rw [hs3]
  generalize s2.heap.objs.size = D at *
  show codeAny _ _ (.compStart _ 0 (.ref it) (.ref D) (compEnvC scope (cellsFrom (s3.heap.objs.size + 1) scope.names (cloFrom X.env.cells scope.names [])) s3.heap.objs.size X.env)) (compPost (model X.prog X.w) X.A X.xe use Qf (.ref D) s3.heap.objs.size) { s3 with heap := pushCells (s3.heap.push { cls := .type "dict", data := .dict #[] }) scope.names }
  obtain ⟨ce, hce⟩ : ∃ ce, compEnvC scope (cellsFrom (s3.heap.objs.size + 1) scope.names (cloFrom X.env.cells scope.names [])) s3.heap.objs.size X.env = ce := ⟨_, rfl⟩
  have cL : ce.locals = s3.heap.objs.size := by rw [← hce]; rfl
  rw [hce] at I4 pg pt pk pe ⊢
  have st4 : tn 0 ({ s3 with heap := pushCells (s3.heap.push { cls := .type "dict", data := .dict #[] }) scope.names } : Shared).heap := T.keep _ _ _ st3 fun b _ o e => pushCells_keeps _ _ _ _ (Heap.get?_push_of_some _ e)
  revert I4 st4
  generalize ({ s3 with heap := pushCells (s3.heap.push { cls := .type "dict", data := .dict #[] }) scope.names } : Shared) = s4
  intro I4 st4
  -- the iterator's own objects, as the block sees them
  have own_ok : ∀ {σ' : L2.St} {H' : Hp} {s' : Shared}, Inv (X.blk s3 H3 scope ce fp) [] σ' H' s' → (∀ b ∈ fp, H' b = none) → ∀ b ∈ fp, FpOk (X.blk s3 H3 scope ce fp) [] H' b := fun {σ' H' s'} I' hn b hb =>
    ⟨hn b hb, (I'.ok.exf b hb).1, I'.ok.exfs b hb, .inl hb, fun x c e => (I'.ok.exf b hb).2 x c e, fun p hp => absurd (show p ∈ ([] : List (Addr × Obj)) ++ [] from hp) (by simp)⟩
  have loop : codeAny (model X.prog X.w) X.A (.compLoop (.DictComp kx vx [⟨tg, iter, ifs, 0⟩] scope pos) 0 (.ref it) (.ref D) ce) (compPost (model X.prog X.w) X.A X.xe use Qf (.ref D) s3.heap.objs.size) s4 := by
    refine compLoop_anyD (fun n s' => ∃ i H', Inv (X.blk s3 H3 scope ce fp) [] (wipe σ (own.map (·.2))) H' s' ∧ tn i s'.heap ∧ (∀ b ∈ fp, H' b = none) ∧ W i n H') ?_ m0 ⟨0, H3, I4, st4, away, w0⟩
    rintro n s5 ⟨i, H5, I5, st5, n5, w5⟩
    rcases turn i n H5 w5 with ⟨stop, qq⟩ | ⟨go, Nx, hNx, step⟩
    · refine thnF (T.done (X.blk s3 H3 scope ce fp) rfl rfl rfl hc i [] s5 _ H5 (fun _ _ => False) I5 (own_ok I5 n5) st5 stop) fun r s6 ⟨hr, I6⟩ => ?_
      subst hr
      have back : Inv X pins σ H5 s6 := I3.call' (ch := fp) I6.os I6.base I6.hok I6.bare fun b hb => by
        obtain ⟨⟨_, z1, z2, z3, z4, z5⟩, _⟩ := f3 b hb
        exact ⟨z3, z1, z4, z5⟩
      have nC : H5 s3.heap.objs.size = none := cL ▸ (show H5 ce.locals = none from I6.free)
      obtain ⟨m, hn, _⟩ := I6.loc
      have hn' : s6.heap.Ns s3.heap.objs.size m := cL ▸ (show s6.heap.Ns ce.locals m from hn)
      exact fin D s3.heap.objs.size s6 m H5 back qq hn' (I3.fpOk (Nat.le_refl _) nC)
    · refine thnF (T.item (X.blk s3 H3 scope ce fp) rfl rfl rfl hc i [] s5 _ H5 (fun _ _ => False) I5 (own_ok I5 n5) st5 go) fun r s6 ⟨u, hr, h6⟩ => ?_
      subst hr
      refine thnF h6 fun _ s7 ⟨x, H7, I7, r7, y7, st7, n7⟩ => ?_
      refine thnF (pg.run _ s7 _ H7 x u _ (I7.pinned (own_ok I7 n7) (T.obj _ _ st7)) r7 (step x H7 y7)) fun _ s8 ⟨σ8, H8, I8, hw8, q8⟩ => ?_
      refine thnF (pt.run _ s8 σ8 H8 _ I8 q8) fun b s9 ⟨H9, I9, q9⟩ => ?_
      -- one turn less
      have next : ∀ {s' : Shared} {H' : Hp}, Inv (X.blk s3 H3 scope ce fp) ([] ++ pinsAt fp s7.heap) σ8 H' s' → Nx H' → ∃ m, m < n ∧ ∃ i H', Inv (X.blk s3 H3 scope ce fp) [] (wipe σ (own.map (·.2))) H' s' ∧ tn i s'.heap ∧ (∀ b ∈ fp, H' b = none) ∧ W i m H' := fun {s' H'} I' nx => by
        obtain ⟨m', hm, w'⟩ := hNx H' nx
        have still : ∀ b ∈ fp, ∀ o, s7.heap.get? b = some o → s'.heap.get? b = some o ∧ H' b = none := fun b hb o e => by
          have z := I'.pin (b, o) (List.mem_append_right _ (List.mem_append_right _ (mem_pinsAt hb e)))
          exact ⟨z.1, z.2.1⟩
        have hl : (wipe σ (own.map (·.2))).length = σ8.length := by rw [← hw8, wipe_length]
        refine ⟨m', hm, i + 1, H', (I'.unpinned (pins := [])).weak hl (fun j v e => (wipe_some (hw8 ▸ e)).1), T.keep _ _ _ st7 fun b hb o e => (still b hb o e).1, fun b hb => ?_, w'⟩
        obtain ⟨o, e, _⟩ := T.obj _ _ st7 b hb
        exact (still b hb o e).2
      cases b with
      | false =>
        simp only [Bool.false_eq_true, if_false] at q9 ⊢
        exact next I9 q9
      | true =>
        simp only [if_true] at q9 ⊢
        refine thnF (pk.run _ s9 σ8 H9 _ I9 q9) fun z s10 ⟨yk, H10, I10, r10, q10⟩ => ?_
        refine thnF (pe.run _ s10 σ8 H10 _ I10 q10) fun z2 s11 ⟨yv, H11, I11, r11, b1, k1, kvs, ek, hb1, hD11, few, nx⟩ => ?_
        subst ek
        obtain rfl : z = Value.ref b1 := r10
        exact dict_putT (X := X.blk s3 H3 scope ce fp) hu I11 hD11 few hb1 r11 fun s12 I12 => next I12 nx
  exact codeAny_compStart_dict loop (T.self X.A 0 _ _ _ st4 loop)
theorem pe_dcT {kx vx tg iter : Expr} {ifs : List Expr} {scope : Scope} {own : List (PySem.Str × Nat)} {pos : Pos} {wi : TI} {g : TG} {tt : TT} {tk tv : TE} (hu : X.A.units + 1 < cLine) (hc : X.calm = true) (hN : X.N.Nodup) (hi : PI X tg iter wi) (ok : BlkOk X.N X.env.scope scope own)
    (hg : ∀ (s : Shared) (H : Hp) (C : Addr) (cl : List (PySem.Str × Addr)) (fp : List Addr), PG (X.blk s H scope (compEnvC scope cl C X.env) fp) tg g)
    (ht : ∀ (s : Shared) (H : Hp) (C : Addr) (cl : List (PySem.Str × Addr)) (fp : List Addr), PTs (X.blk s H scope (compEnvC scope cl C X.env) fp) ifs tt)
    (hk : ∀ (s : Shared) (H : Hp) (C : Addr) (cl : List (PySem.Str × Addr)) (fp : List Addr), PE (X.blk s H scope (compEnvC scope cl C X.env) fp) kx tk)
    (he : ∀ (s : Shared) (H : Hp) (C : Addr) (cl : List (PySem.Str × Addr)) (fp : List Addr), PE (X.blk s H scope (compEnvC scope cl C X.env) fp) vx tv)
    (hs : ∀ x, foldedSetIterable iter X.env x = pure x := by intro _; rfl) : PE X (.DictComp kx vx [⟨tg, iter, ifs, 0⟩] scope pos) (tDcT wi g tt tk tv (own.map (·.2))) := by
  refine ⟨fun pins s σ H Q I h => ?_⟩
  rw [arm_eval_DictComp]
  refine dct_core hu hc hN hi ok hg ht hk he hs I h fun D C s' m H' I' q hn ⟨f0, f1, f2, f3, f4, f5⟩ => ⟨m, hn, fun h'' sb => ?_⟩
  exact ⟨.ref D, H', I'.turned (t' := s'.toks) (fun b o hb e => (sb.2 b hb).trans e) f0 f1 f3 f4 f5, rfl, q⟩
/-- name = {..} -/
theorem ps_setDcT {i : Nat} {y : PySem.Str} {py : Pos} {kx vx tg iter : Expr} {ifs : List Expr} {scope : Scope} {own : List (PySem.Str × Nat)} {pos spos : Pos} {wi : TI} {g : TG} {tt : TT} {tk tv : TE} (hy : X.N[i]? = some y) (hyl : X.env.scope.names.lookup y = some .local)
    (hsw : swapsWith (.DictComp kx vx [⟨tg, iter, ifs, 0⟩] scope pos) (some (.Name y py)) spos.line X.env = pure true) (hu : X.A.units + 1 < cLine) (hc : X.calm = true) (hN : X.N.Nodup) (hi : PI X tg iter wi) (ok : BlkOk X.N X.env.scope scope own)
    (hg : ∀ (s : Shared) (H : Hp) (C : Addr) (cl : List (PySem.Str × Addr)) (fp : List Addr), PG (X.blk s H scope (compEnvC scope cl C X.env) fp) tg g)
    (ht : ∀ (s : Shared) (H : Hp) (C : Addr) (cl : List (PySem.Str × Addr)) (fp : List Addr), PTs (X.blk s H scope (compEnvC scope cl C X.env) fp) ifs tt)
    (hk : ∀ (s : Shared) (H : Hp) (C : Addr) (cl : List (PySem.Str × Addr)) (fp : List Addr), PE (X.blk s H scope (compEnvC scope cl C X.env) fp) kx tk)
    (he : ∀ (s : Shared) (H : Hp) (C : Addr) (cl : List (PySem.Str × Addr)) (fp : List Addr), PE (X.blk s H scope (compEnvC scope cl C X.env) fp) vx tv)
    (hs : ∀ x, foldedSetIterable iter X.env x = pure x := by intro _; rfl) : PS X (.Assign [.Name y py] (.DictComp kx vx [⟨tg, iter, ifs, 0⟩] scope pos) spos) (tAsg (tDcT wi g tt tk tv (own.map (·.2))) (gName i)) := by
  refine ⟨fun pins s σ H D I h => ?_⟩
  rw [exec_Assign_Name_used _ _ _ _ hsw]
  refine wpAny_bind (wpAny_standAt (wpAny_bind ?_))
  show wpAny _ X.A (do let _ ← comprehension (.DictComp kx vx [⟨tg, iter, ifs, 0⟩] scope pos) scope X.env (firstIterPos [⟨tg, iter, ifs, 0⟩] pos) newDict false (eval iter X.env) (some (assign (.Name y py) X.env))) _ _ s
  have h : tDcT wi g tt tk tv (own.map (·.2)) σ H (fun x H1 => gName i x σ H1 D.nx) := h
  refine wpAny_bind (thn (dct_core (Qf := fun _ s' => SP X pins D .next s') hu hc hN hi ok hg ht hk he hs I h fun L C s' m H' I' q hn ⟨f0, f1, f2, f3, f4, f5⟩ => ?_) fun _ s' hq => wpAny_pure (wpAny_pure hq))
  show wpAny _ _ (assign (.Name y py) X.env (.ref L)) _ _ _
  refine wpAny_assign_Name (store_ok2 (v := V.ref L) I' hN hy (.inl hyl) rfl (fun s2 I2 ⟨a, sb, ha⟩ => ?_) (.inr hyl))
  have apart : C ≠ a := by
    rcases ha with z | z
    · rw [z]; exact f1
    · exact fun e => f4 y a z e.symm
  refine ⟨m, hn.sameBut sb apart, fun h3 sb3 => ?_⟩
  exact ⟨_, H', I2.turned (t' := s2.toks) (fun b o hb e => (sb3.2 b hb).trans e) f0 f1 f3 f4 f5, q⟩
end
/-- over a walk -/
theorem dct_it {J : It} {n : Nat} {G : Hp → Prop} {Y : Nat → Hp → V → Hp → Prop} (wk : Walk J n G Y) {g : TG} {tt : TT} {tk tv : TE} {vs : List Nat} {σ : L2.St} {H0 : Hp} {D : Addr} {Qd : Hp → Prop} (Pv : Nat → Hp → Prop) (h0 : Pv 0 H0) (hG : ∀ i H, i ≤ n → Pv i H → G H)
    (hs : ∀ i x H H', i < n → Pv i H → Y i H x H' → g x (wipe σ vs) H' fun σ2 H2 => wipe σ2 vs = wipe σ vs ∧ tt σ2 H2 fun b H3 => if b = true then tk σ2 H3 fun y H4 => tv σ2 H4 fun z H5 => gainT D (Pv (i + 1)) y z H5 else Pv (i + 1) H3) (hd : ∀ H, Pv n H → Qd H) :
    TurnsT J g tt tk tv vs σ D Qd H0 := by
  refine ⟨fun i m H => i + m = n ∧ Pv i H, ⟨n, by omega, h0⟩, fun i m H ⟨hm, p⟩ => ?_⟩
  have q := hG i H (by omega) p
  cases m with
  | zero =>
    obtain rfl : i = n := by omega
    exact .inl ⟨wk.stops H q, hd H p⟩
  | succ m =>
    have hi : i < n := by omega
    exact .inr ⟨wk.goes i H hi q, Pv (i + 1), fun H' p' => ⟨m, by omega, by omega, p'⟩, fun x H' y => hs i x H H' hi p (wk.yields i H x H' hi q y)⟩
end Ami

set_option Elab.async false
set_option linter.all false
set_option maxRecDepth 100000
set_option maxHeartbeats 2000000
/-! A class that a local name holds, called; a classmethod, called by keywords. -/
namespace Ami
open PySem PySem.Spec PyProof.Rows L2 ClX
/-- the i-th slot holds the class at C -/
def tMakeL (i : Nat) (C : Addr) (sp : Sp) (dvs : List V) (E : XK) (t : TA) : TE := fun σ H Q => σ[i]? = some (some (.ref C)) ∧ tMake C sp dvs E t σ H Q
/-- C.m(k = ..) -/
def tCMethK (C : Addr) (sp : Sp) (gV : List V → List V → List V) (E : XK) (ta : TE) (tk : TA) : TE := fun σ H Q => ta σ H fun x H1 => x = .ref C ∧ tk σ H1 fun zs H2 => sp (gV [.ref C] zs) H2 Q E
section
variable {X : Cx} {CX : CXT} {k i : Nat} {f C : Addr} {fd : FuncData} {ps : List Str} {sp : Sp} {dvs : List V} {ds : List Value} {E : XK} {x : Str} {p pos : Pos} {e : Expr} {es : List Expr} {t : TA}
theorem pe_makeL (M : Mk X.K C f) (F : FnOk X.prog X.w X.K X.mg X.base CX k f fd ps sp) (hr : Room (k + 1) X.A) (hN : X.N[i]? = some x) (hv : Vis X.env.scope x) (hb : Binds X.K fd ps ds) (hd : Vals dvs ds) (hx : Passes CX X E) (ha : PA X (e :: es) t)
    (hdb : (x == ("__debug__" : Str)) = false := by decide) (hcd : (x == ("__classdict__" : Str)) = false := by decide)
    (he : starEach (e :: es) X.env = (false, eval e X.env) :: starEach es X.env := by rfl) (hpl : (backTo pos (starEach es X.env)).any (·.1) = false := by rfl) : PE X (.Call (.Name x p) (e :: es) [] pos) (tMakeL i C sp dvs E t) := by
  refine ⟨fun pins s σ H Q I h => ?_⟩
  obtain ⟨hs, ht⟩ := h
  refine wpAny_Call_Name_kw (thn ((pe_var (pos := p) hN hv hdb hcd).run pins s σ H (fun v H1 => v = .ref C ∧ H1 = H) I ⟨.ref C, hs, rfl, rfl⟩) fun u s1 ⟨v, H1, I1, r1, q1⟩ => ?_)
  obtain ⟨rfl, rfl⟩ := q1
  cases r1
  refine PySem.W.callWith_K (h₀ := X.base) I.ok.mod.kin M.kp (thn (ha.run pos pins s1 σ _ _ I1 ht) fun us s2 ⟨vs, H2, I2, r, q⟩ => ⟨I2.kIn, ?_⟩) he hpl
  exact run_make M F hr hb hd hx I2 r q
end
section
variable {X : Cx} {CX : CXT} {k : Nat} {C q g : Addr} {mc : Value} {fd : FuncData} {ps ks : List Str} {sp : Sp} {E : XK} {o : Expr} {kws : List Keyword} {m : Str} {pos apos : Pos} {ta : TE} {tk : TA} {pl : Sem Bool} {gg : List Value → List Value → List Value} {gV : List V → List V → List V}
theorem pe_cmethK (he : PE X o ta) (r : CRead X.K C mc) (c : CMet X.K C mc m q g) (F : FnOk X.prog X.w X.K X.mg X.base CX k g fd ps sp) (hr : Room k X.A) (hb : KBinds X.K fd ps ks gg gV) (hx : Passes CX X E) (hkw : PK X kws tk)
    (hall : (backToKw pos (keywordEach kws X.env)).all (·.1.isSome) = true := by rfl) (hks : (backToKw pos (keywordEach kws X.env)).filterMap (·.1) = ks := by rfl)
    (hpl : ((backTo pos (starEach [] X.env)).any (·.1) || (backToKw pos (keywordEach kws X.env)).any (·.1.isNone)) = false := by rfl)
    (ht : eval (.Call (.Attribute o m apos) [] kws pos) X.env = (do
      let ov ← eval o X.env
      standAt apos.atName
      let (f, first) ← holding [ov] (getMethod ov m pl)
      callWith pos f first (backTo pos (starEach [] X.env)) (backToKw pos (keywordEach kws X.env))) := by rfl) :
    PE X (.Call (.Attribute o m apos) [] kws pos) (tCMethK C sp gV E ta tk) := by
  refine ⟨fun pins s σ H Q I h => ?_⟩
  refine PySem.W.methodCall_KW (pl := pl) (thn (he.run pins s σ H _ I h) fun u s1 ⟨x, H1, I1, rx, ex, q1⟩ => ?_) ht
  subst ex
  obtain rfl : u = Value.ref C := rx
  refine getmethcm_ok I1 r c fun s2 I2 => ?_
  refine PySem.W.callWith_of hpl (PySem.W.keeps_M c.fi) (evalArgs_kw2_nil hall (thn (hkw.run pos _ s2 σ H1 _ I2 q1) fun ws s3 ⟨zs, H2, I3, rz, q2⟩ => ⟨⟨pin_at I3, I3.kIn⟩, ?_⟩))
  rw [hks]
  have r1 : Vals [V.ref C] [Value.ref C] := .cons rfl .nil
  have r2 := hb.rel r1 rz
  have hl : (gg [Value.ref C] ws).length = ps.length := by rw [← r2.length]; exact F.len _ _ _ _ q2
  have z : wpAny (model X.prog X.w) X.A (call (.ref s1.heap.objs.size) [] (ks.zip ws)) (EP X ((s1.heap.objs.size, PySem.W.methodObj (.ref g) (.ref C)) :: pins) σ Q) X.xe s3 := by
    refine wpAny_call (PySem.W.method_call (pin_at I3) (codeAny_mono (F.run X.A X.stack s3 H2 ⟨[Value.ref C], ks.zip ws⟩ (gg [Value.ref C] ws) (gV [V.ref C] zs) Q E hr I3.env0 (hb.to s3 _ ws I3.kIn hl) r2 q2) fun r s' hq => ?_))
    cases r with
    | error e => exact hx _ σ H2 s3 e s' I3 hq
    | ok fl =>
      cases fl with
      | ret u => exact I3.after hq
      | next => exact False.elim hq
      | brk => exact False.elim hq
      | cont => exact False.elim hq
  exact thn z fun _ _ y => unpinE y
end
end Ami

set_option Elab.async false
set_option linter.all false
set_option maxRecDepth 100000
set_option maxHeartbeats 2000000
/-! x == y and x != y by the class's own ==, whatever it says. -/
namespace Ami
open PySem PySem.Spec PyProof.Rows L2
section
variable {M : Model} {prog : Program} {w : World} {A : Around} {E : Value → Shared → Prop} {s : Shared} {K : PySem.W.Frag} {x C f : Addr} {ox : Obj} {od : Option Obj} {b : Value}
theorem ifBound_objNe {args : List Value} {Q : Option Value → Shared → Prop} (X : K.In s.heap) (I : PySem.W.InstAt s.heap x ox C od) (hs : PySem.W.findIn K (.ref C) "__ne__" = some (some (.builtin "object.__ne__")))
    (h : wpAny M A (call (.builtin "object.__ne__") (.ref x :: args)) (fun v => Q (some v)) E s) : wpAny M A (callSpecialIfBound? (.ref x) "__ne__" args) Q E s := by
  simp only [callSpecialIfBound?, bindSpecialIfBound?]
  refine wpAny_holding (wpAny_bind (wpAny_bind (wpAny_bind (I.type.here ((PySem.W.looks_findIn X hs).here (wpAny_bind (wpAny_askSetting (wpAny_ite ?_))))))))
  have fin : wpAny M A (call (.builtin "object.__ne__") ([.ref x] ++ args) >>= fun v => pure (some v)) Q E s := wpAny_bind (wpAny_mono h (fun v s' h' => wpAny_pure h') fun _ _ h' => h')
  split
  · exact wpAny_bind (wpAny_of_eq (F.cmp_object.ne.bind _) (wpAny_pure (by exact fin)))
  · exact wpAny_tryCatch (wpAny_bind (wpAny_of_eq (F.cmp_object.ne.bind _) (wpAny_pure (by exact fin))))
theorem call_objNe {Q : Value → Shared → Prop} (X : K.In s.heap) (I : PySem.W.InstAt s.heap x ox C od) (hm : PySem.W.mroIn K C (.type "object") = some true) (hu : A.in1.units < cLine) (hs : PySem.W.findIn K (.ref C) "__eq__" = some (some (.ref f))) (hf : PySem.W.isFn K (.ref f) = true)
    (h : codeAny (model prog w) A.in1 (.call (.ref f) ⟨[.ref x, b], []⟩) (fun r s' => match r with | .ok (.ret v) => ∃ c, v = .bool c ∧ Q (.bool (!c)) s' | .ok _ => False | .error e => E e s') s) : wpAny (model prog w) A (call (.builtin "object.__ne__") [.ref x, b]) Q E s := by
  refine wpAny_call (codeAny_call_builtin F.cmp_object.ne.plain F.cmpEntry_ne (PySem.W.check_slot F.cmpKind_ne F.cmpSplit_ne (I.type.andThen (PySem.W.looks_mroIn X hm)) (F.cmpArgs_ne _ _) ?_))
  unfold Builtin.«object.__ne__»
  repeat (first | with_reducible refine wpAny_cRoomFor hu ?_ | with_reducible refine PySem.W.ifBound_K X I hs hf ?_ | wp_step)
  refine codeAny_mono h fun r s' hr => ?_
  cases r with
  | error e => exact hr
  | ok fl =>
    cases fl with
    | ret v =>
      obtain ⟨c, rfl, q⟩ := hr
      show wpAny _ _ (truthy (.bool c) >>= fun t => ret (Value.bool !t)) _ _ _
      refine wpAny_bind ?_
      show wpAny _ _ (pure c) _ _ _
      refine wpAny_pure ?_
      exact wpAny_pure q
    | _ => exact hr.elim
theorem rc_ne {tb : Value} {Q : Value → Shared → Prop} (hu : A.units + 1 < cLine) (X : K.In s.heap) (I : PySem.W.InstAt s.heap x ox C od) (hb : PySem.W.Looks (model prog w) s.heap (typeOf b) tb) (hn : PySem.W.notFirst K C tb = true)
    (hm : PySem.W.mroIn K C (.type "object") = some true) (h1 : PySem.W.findIn K (.ref C) "__ne__" = some (some (.builtin "object.__ne__"))) (hs : PySem.W.findIn K (.ref C) "__eq__" = some (some (.ref f))) (hf : PySem.W.isFn K (.ref f) = true)
    (h : codeAny (model prog w) A.in1 (.call (.ref f) ⟨[.ref x, b], []⟩) (fun r s' => match r with | .ok (.ret v) => ∃ c, v = .bool c ∧ Q (.bool (!c)) s' | .ok _ => False | .error e => E e s') s) :
    wpAny (model prog w) A (richCompare .NotEq (.ref x) b) Q E s := by
  have one : wpAny (model prog w) A (tryCompare (.ref x) (cmpInfo .NotEq).2.1 b) (fun r s' => ∃ v, r = some v ∧ Q v s') E s := by
    unfold tryCompare
    refine wpAny_bind (ifBound_objNe X I h1 (wpAny_mono (call_objNe (Q := fun v s' => ∃ c, v = .bool c ∧ Q v s') X I hm (by show A.units + 1 < cLine; exact hu) hs hf (codeAny_mono h fun r s' hr => ?_)) (fun v s' hv => ?_) fun _ _ e => e))
    · cases r with
      | error e => exact hr
      | ok fl =>
        cases fl with
        | ret v =>
          obtain ⟨c, rfl, q⟩ := hr
          exact ⟨c, rfl, _, rfl, q⟩
        | _ => exact hr.elim
    · obtain ⟨c, rfl, q⟩ := hv
      exact wpAny_pure ⟨_, rfl, q⟩
  unfold richCompare
  simp only [oneThing_ref]
  refine wpAny_holding (wpAny_bind (wpAny_cRoomFor (by omega) ?_))
  refine wpAny_bind (I.type.here (wpAny_bind (hb.here ?_)))
  split
  · rename_i q
    have e : PySem.W.subIn K tb (.ref C) = some false := by
      rcases Bool.or_eq_true_iff.mp hn with e | e
      · rw [beq_iff_eq.mp e] at q; simp at q
      · exact beq_iff_eq.mp e
    refine wpAny_bind ((PySem.W.looks_subIn X e).here ?_)
    simp only [Bool.false_eq_true, if_false]
    refine wpAny_bind (wpAny_mono one (fun r s' z => ?_) fun _ _ e => e)
    obtain ⟨v, rfl, hq⟩ := z
    exact wpAny_pure hq
  · refine wpAny_bind (wpAny_pure ?_)
    simp only [Bool.false_eq_true, if_false]
    refine wpAny_bind (wpAny_mono one (fun r s' z => ?_) fun _ _ e => e)
    obtain ⟨v, rfl, hq⟩ := z
    exact wpAny_pure hq
end
/-- two instances of the class at C, by its own == -/
def rEqO (g : Bool → Bool) (C : Addr) (sp : Sp) (E : XK) : R2 := fun x y H Q => ∃ a b dx dy fs gs, x = .ref a ∧ y = .ref b ∧ H a = some (.ins C dx fs) ∧ H b = some (.ins C dy gs) ∧ sp [.ref a, .ref b] H (fun v H' => ∃ c, v = .bl c ∧ Q (.bl (g c)) H') E
section
variable {X : Cx} {CX : CXT} {C f : Addr} {fd : FuncData} {ps : List Str} {sp : Sp} {E : XK} {n : Nat}
theorem op_eqO (F : FnOk X.prog X.w X.K X.mg X.base CX n f fd ps sp) (hr : Room n X.A) (hs : PySem.W.findIn X.K (.ref C) "__eq__" = some (some (.ref f))) (hf : PySem.W.isFn X.K (.ref f) = true) (hb : Binds X.K fd ps []) (hx : Passes CX X E) : OpR X (compareOp .Eq) (rEqO id C sp E) := by
  intro pins s σ H x y v u Q I rx ry d
  obtain ⟨a, b, dx, dy, fs, gs, rfl, rfl, ha, hb', hsp⟩ := d
  cases rx
  cases ry
  obtain ⟨mA, J, _⟩ := ins_get I.hok ha
  obtain ⟨mB, J', _⟩ := ins_get I.hok hb'
  obtain ⟨od, J, _⟩ := J.look
  obtain ⟨od', J', _⟩ := J'.look
  obtain ⟨m, hF⟩ := I.fr
  show wpAny (model X.prog X.w) X.A (richCompare .Eq _ _) (EP X pins σ Q) X.xe s
  refine PySem.W.cmp_K (op := .Eq) (tb := .ref C) hr.units0 hF I.ok.mod.kin J J'.type (by simp [PySem.W.notFirst]) hs hf ?_
  have hl := F.len _ _ _ _ hsp
  have r2 : Vals [V.ref a, V.ref b] [Value.ref a, Value.ref b] := .cons rfl (.cons rfl .nil)
  refine wpAny_call (codeAny_mono (F.run X.A X.stack s H ⟨[.ref a, .ref b], []⟩ [.ref a, .ref b] [.ref a, .ref b] _ E hr I.env0 (by
    have := hb s [.ref a, .ref b] I.kIn (by simpa using hl)
    simpa using this) r2 hsp) fun r s' hq => ?_)
  cases r with
  | error e => exact hx pins σ H s e s' I hq
  | ok fl =>
    cases fl with
    | ret w =>
      obtain ⟨z, H', I', rz, c, ez, q⟩ := I.after hq
      subst ez
      obtain rfl : w = Value.bool c := rz
      exact ⟨.bl c, H', I', rfl, q⟩
    | next => exact False.elim hq
    | brk => exact False.elim hq
    | cont => exact False.elim hq
theorem op_neO (F : FnOk X.prog X.w X.K X.mg X.base CX n f fd ps sp) (hr : Room (n + 1) X.A) (hu : X.A.units + 1 < cLine) (hm : PySem.W.mroIn X.K C (.type "object") = some true) (h1 : PySem.W.findIn X.K (.ref C) "__ne__" = some (some (.builtin "object.__ne__"))) (hs : PySem.W.findIn X.K (.ref C) "__eq__" = some (some (.ref f)))
    (hf : PySem.W.isFn X.K (.ref f) = true) (hb : Binds X.K fd ps []) (hx : Passes CX X E) : OpR X (compareOp .NotEq) (rEqO not C sp E) := by
  intro pins s σ H x y v u Q I rx ry d
  obtain ⟨a, b, dx, dy, fs, gs, rfl, rfl, ha, hb', hsp⟩ := d
  cases rx
  cases ry
  obtain ⟨mA, J, _⟩ := ins_get I.hok ha
  obtain ⟨mB, J', _⟩ := ins_get I.hok hb'
  obtain ⟨od, J, _⟩ := J.look
  obtain ⟨od', J', _⟩ := J'.look
  show wpAny (model X.prog X.w) X.A (richCompare .NotEq _ _) (EP X pins σ Q) X.xe s
  have hl := F.len _ _ _ _ hsp
  have r2 : Vals [V.ref a, V.ref b] [Value.ref a, Value.ref b] := .cons rfl (.cons rfl .nil)
  refine rc_ne (tb := .ref C) hu I.kIn J J'.type (by simp [PySem.W.notFirst]) hm h1 hs hf (codeAny_mono (F.run X.A.in1 X.stack s H ⟨[.ref a, .ref b], []⟩ [.ref a, .ref b] [.ref a, .ref b] _ E hr.in1 I.env0.in1 (by
    have := hb s [.ref a, .ref b] I.kIn (by simpa using hl)
    simpa using this) r2 hsp) fun r s' hq => ?_)
  cases r with
  | error e => exact hx pins σ H s e s' I hq
  | ok fl =>
    cases fl with
    | ret w =>
      obtain ⟨z, H', I', rz, c, ez, q⟩ := I.after hq
      subst ez
      obtain rfl : w = Value.bool c := rz
      exact ⟨c, rfl, .bl (!c), H', I', rfl, q⟩
    | next => exact False.elim hq
    | brk => exact False.elim hq
    | cont => exact False.elim hq
end
end Ami

set_option Elab.async false
set_option linter.all false
set_option maxRecDepth 100000
set_option maxHeartbeats 2000000
/-! AmiD5: x in an instance, by its class's own __contains__ (which gives a bool). -/
namespace Ami
open PySem PySem.Spec PyProof.Rows L2
def rInO (C : Addr) (sp : Sp) (E : XK) : R2 := fun x y H Q => ∃ a dx fs, y = .ref a ∧ H a = some (.ins C dx fs) ∧ sp [.ref a, x] H (fun v H' => ∃ c, v = .bl c ∧ Q (.bl c) H') E
section
variable {X : Cx} {CX : CXT} {C f : Addr} {fd : FuncData} {ps : List Str} {sp : Sp} {E : XK} {n : Nat}
theorem op_inO (F : FnOk X.prog X.w X.K X.mg X.base CX n f fd ps sp) (hr : Room n X.A) (hs : PySem.W.findIn X.K (.ref C) "__contains__" = some (some (.ref f))) (hf : PySem.W.isFn X.K (.ref f) = true) (hb : Binds X.K fd ps []) (hx : Passes CX X E) : OpR X (compareOp .In) (rInO C sp E) := by
  intro pins s σ H x y v u Q I rx ry d
  obtain ⟨a, dx, fs, rfl, ha, hsp⟩ := d
  cases ry
  obtain ⟨mA, J, _⟩ := ins_get I.hok ha
  obtain ⟨od, J, _⟩ := J.look
  obtain ⟨m, hF⟩ := I.fr
  refine PySem.W.in_K hF I.ok.mod.kin J hs hf ?_
  have hl := F.len _ _ _ _ hsp
  have r2 : Vals [V.ref a, x] [Value.ref a, v] := .cons rfl (.cons rx .nil)
  refine wpAny_call (codeAny_mono (F.run X.A X.stack s H ⟨[.ref a, v], []⟩ [.ref a, v] [.ref a, x] _ E hr I.env0 (by
    have := hb s [.ref a, v] I.kIn (by simpa using hl)
    simpa using this) r2 hsp) fun r s' hq => ?_)
  cases r with
  | error e => exact hx pins σ H s e s' I hq
  | ok fl =>
    cases fl with
    | ret w =>
      obtain ⟨z, H', I', rz, c, ez, q⟩ := I.after hq
      subst ez
      obtain rfl : w = Value.bool c := rz
      exact wpAny_pure ⟨.bl c, H', I', rfl, q⟩
    | next => exact False.elim hq
    | brk => exact False.elim hq
    | cont => exact False.elim hq
end
end Ami

set_option Elab.async false
set_option linter.all false
set_option maxRecDepth 100000
set_option maxHeartbeats 2000000
/-! AmiD7: a | b (or any operator) of two instances of one class, by the class's own method, which gives an object. -/
namespace Ami
open PySem PySem.Spec PyProof.Rows L2
section
variable {prog : Program} {w : World} {A : Around} {E : Value → Shared → Prop} {s : Shared} {K : PySem.W.Frag} {x y C f : Addr} {ox oy : Obj} {od oe : Option Obj}
theorem bin_same {op : Operator} {Q : Value → Shared → Prop} (X : K.In s.heap) (I : PySem.W.InstAt s.heap x ox C od) (J : PySem.W.InstAt s.heap y oy C oe) (hc : PySem.W.selfFirst K C = true)
    (hs : PySem.W.findIn K (.ref C) (PySem.dunder op.info.2) = some (some (.ref f))) (hf : PySem.W.isFn K (.ref f) = true)
    (h : wpAny (model prog w) A (call (.ref f) [.ref x, .ref y]) (PySem.W.CmpBack Q) E s) : wpAny (model prog w) A (binaryOp op (.ref x) (.ref y)) Q E s := by
  obtain ⟨cd, rest, hcd, hm⟩ := PySem.W.ksp_first hc
  rcases hi : op.info with ⟨sym, nm⟩
  rw [hi] at hs
  dsimp only at hs
  have one := PySem.W.ksp_try X I hs hf h
  obtain ⟨hh, g, d, tt, os⟩ := s
  have L1 : PySem.W.Looks (model prog w) hh (typeOf (.ref x)) (.ref C) := I.type
  have L2 : PySem.W.Looks (model prog w) hh (typeOf (.ref y)) (.ref C) := J.type
  have L3 : PySem.W.Looks (model prog w) hh (fillsNumberSlot (.ref C) nm) true := PySem.W.fills_K X hcd hm hs
  simp only [binaryOp, hi]
  refine wpAny_holding (wpAny_bind ?_)
  unfold binaryOp1
  refine wpAny_bind (L1.at (wpAny_bind (L2.at (wpAny_bind (L3.at ?_)))))
  simp only [beq_self_eq_true, if_true, pure_bind, Bool.and_false, Bool.false_and, Bool.false_eq_true, if_false]
  refine wpAny_bind (wpAny_mono one (fun r s' hr' => ?_) fun _ _ e => e)
  obtain ⟨v, rfl, hq⟩ := hr'
  exact wpAny_pure (wpAny_pure hq)
end
def rBinO (C : Addr) (sp : Sp) (E : XK) : R2 := fun x y H Q => ∃ a b dx dy fs gs, x = .ref a ∧ y = .ref b ∧ H a = some (.ins C dx fs) ∧ H b = some (.ins C dy gs) ∧ sp [.ref a, .ref b] H (fun v H' => ∃ r, v = .ref r ∧ Q v H') E
section
variable {X : Cx} {CX : CXT} {C f : Addr} {fd : FuncData} {ps : List Str} {sp : Sp} {E : XK} {n : Nat}
theorem op_binO {op : Operator} (F : FnOk X.prog X.w X.K X.mg X.base CX n f fd ps sp) (hr : Room n X.A) (hc : PySem.W.selfFirst X.K C = true) (hs : PySem.W.findIn X.K (.ref C) (PySem.dunder op.info.2) = some (some (.ref f))) (hf : PySem.W.isFn X.K (.ref f) = true) (hb : Binds X.K fd ps []) (hx : Passes CX X E) : OpR X (binaryOp op) (rBinO C sp E) := by
  intro pins s σ H x y v u Q I rx ry d
  obtain ⟨a, b, dx, dy, fs, gs, rfl, rfl, ha, hb', hsp⟩ := d
  cases rx
  cases ry
  obtain ⟨mA, J, _⟩ := ins_get I.hok ha
  obtain ⟨mB, J', _⟩ := ins_get I.hok hb'
  obtain ⟨od, J, _⟩ := J.look
  obtain ⟨od', J', _⟩ := J'.look
  refine bin_same I.kIn J J' hc hs hf ?_
  have hl := F.len _ _ _ _ hsp
  have r2 : Vals [V.ref a, V.ref b] [Value.ref a, Value.ref b] := .cons rfl (.cons rfl .nil)
  refine wpAny_call (codeAny_mono (F.run X.A X.stack s H ⟨[.ref a, .ref b], []⟩ [.ref a, .ref b] [.ref a, .ref b] _ E hr I.env0 (by
    have := hb s [.ref a, .ref b] I.kIn (by simpa using hl)
    simpa using this) r2 hsp) fun r s' hq => ?_)
  cases r with
  | error e => exact hx pins σ H s e s' I hq
  | ok fl =>
    cases fl with
    | ret w =>
      obtain ⟨z, H', I', rz, c, ez, q⟩ := I.after hq
      subst ez
      obtain rfl : w = Value.ref c := rz
      exact ⟨.ref c, H', I', rfl, q⟩
    | next => exact False.elim hq
    | brk => exact False.elim hq
    | cont => exact False.elim hq
end
end Ami

set_option Elab.async false
set_option linter.all false
set_option maxRecDepth 100000
set_option maxHeartbeats 2000000
/-! errors of one's own as values: made, their attributes, isinstance -/
namespace Ami
open PySem PySem.Spec PyProof.Rows L2
abbrev eTail : List Value := [.type "Exception", .type "BaseException", .type "object"]
/-- what is asked of a class of errors at C -/
def exB (K : PySem.W.Frag) (C : Addr) : Bool :=
  PySem.W.excInitIn K C eTail "Exception.__new__" && PySem.W.excOver K C eTail && PySem.W.hasDictIn K C && (PySem.W.clsIn K C).isSome &&
  decide (PySem.W.findIn K (.ref C) "__setattr__" = some (some (.builtin "object.__setattr__"))) &&
  decide (PySem.W.findIn K (.ref C) "__getattribute__" = some (some (.builtin "BaseException.__getattribute__"))) &&
  decide (PySem.W.findIn K (.ref C) "__getattr__" = some none) &&
  decide (PySem.W.subIn K (.ref C) (.type "BaseException") = some true) &&
  decide (PySem.W.typeIn K (.ref C) = some (.type "type")) && PySem.W.keepIn K (.ref C) &&
  decide (PySem.W.findIn K (.ref C) "__class__" = some (some (.builtin "object.__class__"))) &&
  decide (PySem.W.specialIn K (.builtin "object.__class__") "__get__" = some (some (.builtin "getset_descriptor.__get__"))) &&
  decide (PySem.W.takesIn K (.builtin "object.__class__") = some true) &&
  decide (PySem.W.mroIn K C (.type "object") = some true)
structure EX (K : PySem.W.Frag) (C : Addr) : Prop where
  ini : PySem.W.excInitIn K C eTail "Exception.__new__" = true
  ovr : PySem.W.excOver K C eTail = true
  hd : PySem.W.hasDictIn K C = true
  cl : (PySem.W.clsIn K C).isSome = true
  sa : PySem.W.findIn K (.ref C) "__setattr__" = some (some (.builtin "object.__setattr__"))
  ga : PySem.W.findIn K (.ref C) "__getattribute__" = some (some (.builtin "BaseException.__getattribute__"))
  gg : PySem.W.findIn K (.ref C) "__getattr__" = some none
  ex : PySem.W.subIn K (.ref C) (.type "BaseException") = some true
  ty : PySem.W.typeIn K (.ref C) = some (.type "type")
  kp : PySem.W.keepIn K (.ref C) = true
  cc : PySem.W.findIn K (.ref C) "__class__" = some (some (.builtin "object.__class__"))
  sn : PySem.W.specialIn K (.builtin "object.__class__") "__get__" = some (some (.builtin "getset_descriptor.__get__"))
  tk : PySem.W.takesIn K (.builtin "object.__class__") = some true
  mo : PySem.W.mroIn K C (.type "object") = some true
theorem ex_of {K : PySem.W.Frag} {C : Addr} (h : exB K C = true) : EX K C := by
  unfold exB at h
  simp only [Bool.and_eq_true, decide_eq_true_eq] at h
  obtain ⟨⟨⟨⟨⟨⟨⟨⟨⟨⟨⟨⟨⟨h1, h2⟩, h3⟩, h4⟩, h5⟩, h6⟩, h7⟩, h8⟩, h9⟩, h10⟩, h11⟩, h12⟩, h13⟩, h14⟩ := h
  exact ⟨h1, h2, h3, h4, h5, h6, h7, h8, h9, h10, h11, h12, h13, h14⟩
theorem taker_none {K : PySem.W.Frag} {C : Addr} {f : Str} (h : PySem.W.findIn K (.ref C) f = some none) : PySem.W.takerIn K C f = some none := by
  unfold PySem.W.takerIn
  rw [h]; rfl
/-- the abstract heap behind the first attribute -/
theorem un_first {fr : List Addr} {H : Hp} {h h' : Heap} {a C dx : Addr} {fs : List (Str × V)} {o' : Obj} (e : H a = some (exo a C none)) (hnd : H dx = none) (dn : h.objs.size ≤ dx)
    (k : ∀ b o, b ≠ a → h.get? b = some o → h'.get? b = some o) (hx : h'.get? a = some o') : Un fr [] H (upd (upd H dx (exd dx fs)) a (exo a C (some dx))) h h' := by
  have far : ∀ {b : Addr} {o : Obj}, h.get? b = some o → b ≠ dx := fun {b o} q z => by
    have := Heap.lt_size q
    rw [z] at this
    exact absurd this (Nat.not_lt.mpr dn)
  have off : ∀ {b : Addr}, H b = none → b ≠ a := fun {b} n z => by rw [z, e] at n; cases n
  have two : ∀ {b : Addr} {w : HO}, H b = some w → b ≠ a → upd (upd H dx (exd dx fs)) a (exo a C (some dx)) b = some w := fun {b w} q n => by
    rw [upd_ne n, upd_ne (ne_of_none q hnd)]; exact q
  refine ⟨fun b o q n _ _ => k b o (off n) q, fun b o q n _ _ => ⟨o.slots, k b o (off n) q⟩, fun b o q n _ => ?_, fun b o q _ => ?_, fun b xs q => two q (at_ne e q exo_tup), fun b o v q => two q (at_ne e q exo_frz), fun b ps q => ⟨#[], ?_⟩⟩
  · rw [upd_ne (off n), upd_ne (far q)]; exact n
  · by_cases hb : b = a
    · exact ⟨o', by rw [hb]; exact hx⟩
    · exact ⟨o, k b o hb q⟩
  · rw [two q (at_ne e q exo_tbl)]; simp
section
variable {X : Cx} {pins : List (Addr × Obj)} {σ : L2.St} {H : Hp} {s : Shared} {a C dx : Addr} {f : Str} {y : V} {u : Value} {fs : List (Str × V)} {A : Around}
/-- the first attribute of an error that is being made -/
theorem set_first {Q : Unit → Shared → Prop} {E : Value → Shared → Prop} (T : EX X.K C) (I : Inv X pins σ H s) (e : H a = some (exo a C none)) (hno : PySem.W.findIn X.K (.ref C) f = some none) (ry : RelV y u)
    (h : ∀ dx s', H dx = none → dx ≠ a → Inv X pins σ (upd (upd H dx (exd dx [(f, y)])) a (exo a C (some dx))) s' → Q () s') : wpAny (model X.prog X.w) A (setAttr (.ref a) f u) Q E s := by
  obtain ⟨t1, ho⟩ := exo_at I.hok e
  obtain ⟨cd, hc, hh⟩ := PySem.W.any_some T.hd
  have J : PySem.W.InstAt s.heap a { cls := .ref C, dict := none, data := .fields #[.ref t1, .none, .none, .none, .bool false, .none] } C none := ⟨ho, rfl, rfl, trivial⟩
  refine PySem.W.set_plain I.kIn J T.sa ?_
  obtain ⟨hp, g, d, t, os⟩ := s
  have ha : a ≠ hp.objs.size := Nat.ne_of_lt (Heap.lt_size ho)
  refine PySem.W.osa_openX (s := ⟨hp, g, d, t + 1, os⟩) PySem.F.store_Exception I.kIn J T.ovr (taker_none hno) fun b => ?_
  have Lc : PySem.W.Looks (model X.prog X.w) hp (classData C) cd := PySem.W.looks_clsIn I.kIn hc
  obtain ⟨nm, bs, mro, ns, qn, hd, sn, sb, ab, col, del⟩ := cd
  dsimp only at hh
  subst hh
  show wpAny _ _ (Builtin.ObjectAttr.storeInOwnDict (.ref a) (.ref C) (.str f t) f u b) _ _ _
  unfold Builtin.ObjectAttr.storeInOwnDict
  unfold Builtin.ObjectAttr.ownDictForStores
  repeat (first
    | with_reducible refine PySem.HandSPX.store_in_new ?_ ?_
    | with_reducible refine wpAny_loadPart_at ho ?_
    | with_reducible refine Lc.at ?_
    | wp_step)
  · exact ⟨_, #[], _, (Heap.get?_update_ne _ _ _ _ ha.symm).trans (Heap.get?_push_at rfl rfl), rfl, fun e he => absurd he (by simp), fun _ => rfl⟩
  · intro h' tk' hn hs
    have p1 : (hp.push { cls := .type "dict", data := .dict #[] }).get? a = some { cls := .ref C, dict := none, data := .fields #[.ref t1, .none, .none, .none, .bool false, .none] } := Heap.get?_push_of_some _ ho
    have hx : h'.get? a = some { cls := .ref C, dict := some hp.objs.size, data := .fields #[.ref t1, .none, .none, .none, .bool false, .none] } := (hs.2 a ha).trans (Heap.get?_update_self _ p1 rfl)
    have kk : ∀ b o, b ≠ a → hp.get? b = some o → h'.get? b = some o := fun b o hb q =>
      (hs.2 b (Nat.ne_of_lt (Heap.lt_size q))).trans ((Heap.get?_update_ne _ _ _ _ hb).trans (Heap.get?_push_of_some _ q))
    have hnd : H hp.objs.size = none := I.hok.fresh (Nat.le_refl _)
    refine h hp.objs.size _ hnd ha.symm (I.un (t' := tk') (un_first e hnd (Nat.le_refl _) kk hx) fun b o q => ?_)
    by_cases hb : b = a
    · rw [hb, upd_same] at q
      cases q
      rw [hb]
      exact exo_ok hx
    · rw [upd_ne hb] at q
      by_cases hq : b = hp.objs.size
      · rw [hq, upd_same] at q
        cases q
        rw [hq]
        exact exd_ok hn (relO_put (fs := []) ry fun g => True.intro)
      · rw [upd_ne hq] at q
        have own : ∀ {c : Addr}, H c = some (.own b) → c ≠ a := fun z => at_ne e z exo_own
        refine (I.hok b o q).stay (fun c v hc z => kk c v ?_ z) (fun c z => ?_) (fun c xs z => ?_)
        · rcases hc with hc | hc
          · rw [hc]; exact hb
          · exact own hc
        · rw [upd_ne (own z), upd_ne (ne_of_none z hnd)]; exact z
        · rw [upd_ne (at_ne e z exo_tup), upd_ne (ne_of_none z hnd)]; exact z
/-- a further attribute -/
theorem set_more {Q : Unit → Shared → Prop} {E : Value → Shared → Prop} (T : EX X.K C) (I : Inv X pins σ H s) (e : H a = some (exo a C (some dx))) (ed : H dx = some (exd dx fs)) (hl : fs.length ≤ 900) (hno : PySem.W.findIn X.K (.ref C) f = some none) (ry : RelV y u)
    (h : ∀ s', Inv X pins σ (upd H dx (exd dx ((f, y) :: fs))) s' → Q () s') : wpAny (model X.prog X.w) A (setAttr (.ref a) f u) Q E s := by
  obtain ⟨t1, ho⟩ := exo_at I.hok e
  obtain ⟨mA, hns, rel⟩ := exd_at I.hok ed
  have hw := within_of rel
  obtain ⟨cd, hc, hh⟩ := PySem.W.any_some T.hd
  obtain ⟨oD, esD, epD, hoD, hdD, hcD⟩ := hns.count hw
  have J : PySem.W.InstAt s.heap a { cls := .ref C, dict := some dx, data := .fields #[.ref t1, .none, .none, .none, .bool false, .none] } C (some oD) := ⟨ho, rfl, rfl, hoD⟩
  refine PySem.W.set_plain I.kIn J T.sa ?_
  obtain ⟨hp, g, d, t, os⟩ := s
  refine PySem.W.osa_openX (s := ⟨hp, g, d, t + 1, os⟩) PySem.F.store_Exception I.kIn J T.ovr (taker_none hno) fun b => ?_
  have Lc : PySem.W.Looks (model X.prog X.w) hp (classData C) cd := PySem.W.looks_clsIn I.kIn hc
  obtain ⟨nm, bs, mro, ns, qn, hd, sn, sb, ab, col, del⟩ := cd
  dsimp only at hh
  subst hh
  show wpAny _ _ (Builtin.ObjectAttr.storeInOwnDict (.ref a) (.ref C) (.str f t) f u b) _ _ _
  unfold Builtin.ObjectAttr.storeInOwnDict
  unfold Builtin.ObjectAttr.ownDictForStores
  repeat (first
    | with_reducible refine PySem.OEX.store_in_old hns hw (by rw [List.length_map]; omega) ?_
    | with_reducible refine wpAny_loadPart_at ho ?_
    | with_reducible refine Lc.at ?_
    | wp_step)
  intro h' tk' hn hs
  have hx : ∃ o, h'.get? dx = some o := by
    obtain ⟨o, _, _, z, _⟩ := hn
    exact ⟨o, z⟩
  exact h _ (I.write (t' := tk') (x := dx) (e := dx) (o := exd dx ((f, y) :: fs)) (by rw [ed]; exact True.intro) (.inl rfl) (fun b o hb q => (hs.2 b hb).trans q) hx (exd_ok hn (relO_put ry rel)))
end

/-- o.f = e within the making of an error -/
def tSet (K : PySem.W.Frag) (f : Str) (to te : TE) : TS := fun D σ H => te σ H fun y H1 => to σ H1 fun x H2 => ∃ a C : Addr, x = .ref a ∧ EX K C ∧ PySem.W.findIn K (.ref C) f = some none ∧
  ((H2 a = some (exo a C none) ∧ ∀ dx, H2 dx = none → dx ≠ a → D.nx σ (upd (upd H2 dx (exd dx [(f, y)])) a (exo a C (some dx)))) ∨
    ∃ (dx : Addr) (fs : List (Str × V)), H2 a = some (exo a C (some dx)) ∧ H2 dx = some (exd dx fs) ∧ fs.length ≤ 900 ∧ D.nx σ (upd H2 dx (exd dx ((f, y) :: fs))))
section
variable {X : Cx} {o e : Expr} {to te : TE} {f : Str} {p' pos : Pos}
theorem ps_set_err (ho : PE X o to) (he : PE X e te) (hs : swapsWith e (some (.Attribute o f p')) pos.line X.env = pure false := by rfl) : PS X (.Assign [.Attribute o f p'] e pos) (tSet X.K f to te) := by
  refine ⟨fun pins s σ H D I h => ?_⟩
  refine plainObj_wpAny_Assign_Attribute (thn (he.run pins s σ H _ I h) fun v s1 hv => ?_) hs
  obtain ⟨y, H1, I1, r1, q1⟩ := hv
  refine thn (ho.run pins s1 σ H1 _ I1 q1) fun w s2 hw => ?_
  obtain ⟨x, H2, I2, r2, a, C, rfl, T, hno, q⟩ := hw
  obtain rfl : w = Value.ref a := r2
  rcases q with ⟨ea, q⟩ | ⟨dx, fs, ea, ed, hl, q⟩
  · exact set_first T I2 ea hno r1 fun dx s' n ne J => ⟨σ, _, J, q dx n ne⟩
  · exact set_more T I2 ea ed hl hno r1 fun s' J => ⟨σ, _, J, q⟩
end
end Ami

set_option Elab.async false
set_option linter.all false
set_option maxRecDepth 100000
set_option maxHeartbeats 2000000
/-! errors of one's own, made by keywords too -/
namespace Ami
open PySem PySem.Spec PyProof.Rows L2
section
variable {prog : Program} {w : World} {A : Around} {E : Value → Shared → Prop} {R : Result → Shared → Prop} {h : Heap} {g : Array GenState} {d : Drawn} {t : Nat} {os : OsState}
variable {nm q : Str} {C N : Addr} {bs bm bmB : List Value} {hdct : Bool} {sn : List Str} {sub : List Value} {ab : Bool} {col : Option Bool} {dd : Option Addr} {k0 k1 k2 k3 k5 : Option Value} {B newId initId : String}
theorem kw_new_check {M : Model} (F : ExcBaseFacts B newId initId bmB) (hT : ∀ X : String, bm.contains (.type X) = bmB.contains (.type X)) {us : List Value} {kw : List (Str × Value)} {Q : Unit → Shared → Prop}
    (hC : h.get? C = some (excClassObj nm q C N bs bm hdct sn sub ab col dd k0 k1 k2 k3 k5 newId)) (hq : Q () ⟨h, g, d, t, os⟩) : wpAny M A (checkBuiltinCall newId ⟨.ref C :: us, kw⟩) Q E ⟨h, g, d, t, os⟩ := by
  have isB : (Value.ref C :: bm).contains (.type B) = true := by rw [List.contains_cons, hT, F.hasB, Bool.or_true]
  have noS := F.noStar
  simp only [checkBuiltinCall, F.newKind, F.newSplit, F.newRow]
  repeat (first
    | refine wpAny_loadPart_at hC ?_
    | (refine wpAny_isSubtype_exc hC ?_; rw [isB])
    | refine wpAny_staticBase_exc hC ?_
    | refine wpAny_madeBy_exc hC ?_
    | simp only [bne_self_eq_false, Bool.false_eq_true, if_false]
    | wp_step)
  exact hq
theorem kw_new (F : ExcBaseFacts B newId initId bmB) (hT : ∀ X : String, bm.contains (.type X) = bmB.contains (.type X)) {us : List Value} {kw : List (Str × Value)}
    (hC : h.get? C = some (excClassObj nm q C N bs bm hdct sn sub ab col dd k0 k1 k2 k3 k5 newId)) (hl : us.length ≤ sizeLine)
    (hq : R (.ok (.ret (.ref (h.objs.size + 1)))) ⟨(h.push (PySem.W.kdv_tup us)).push (PySem.HandSPX.excO C h.objs.size), g, d, t, os⟩) :
    codeAny (model prog w) A (.builtin newId ⟨.ref C :: us, kw⟩) R ⟨h, g, d, t, os⟩ := by
  have fin := F.ends
  have isB : (Value.ref C :: bm).contains (.type B) = true := by rw [List.contains_cons, hT, F.hasB, Bool.or_true]
  have isA : (Value.ref C :: bm).contains (.type "AttributeError") = false := by rw [List.contains_cons, hT, F.noAttr]; rfl
  have isN : (Value.ref C :: bm).contains (.type "NameError") = false := by rw [List.contains_cons, hT, F.noName]; rfl
  refine codeAny_builtinAt F.entry ?_
  unfold Builtin.«BaseException.__new__»
  refine PySem.wpAt_bind ?_
  show PySem.wpAt _ _ _ (stack >>= _) _ _ _
  refine PySem.wpAt_bind (PySem.wpAt_stack fun p below => PySem.wpAt_of_wpAny ?_)
  wp_walk
  refine PySem.wpAt_of_wpAny ?_
  rw [F.owner]
  repeat (first
    | with_reducible refine wpAny_madeHere_exc F.canon hC ?_
    | with_reducible refine wpAny_loadPart_at hC ?_
    | (with_reducible refine wpAny_isSubtype_exc hC ?_; first | rw [isB] | rw [isA] | rw [isN])
    | wp_step)
  show R _ _
  rw [Heap.size_push]
  exact hq
theorem kw_type_call (F : ExcBaseFacts B newId initId bmB) (hT : ∀ X : String, bm.contains (.type X) = bmB.contains (.type X)) {us : List Value} {kw : List (Str × Value)} {fI : Addr} {Q : Fin → Shared → Prop}
    (hC : h.get? C = some (excClassObj nm q C N bs bm hdct sn sub ab col dd k0 k1 k2 k3 k5 newId)) (hl : us.length ≤ sizeLine)
    (hi : PySem.W.Looks (model prog w) h (typeLookup (.ref C) "__init__") (some (.ref fI))) (hb : ∀ self, PySem.W.Looks (model prog w) h (bindSpecial (.ref fI) self) (.ref fI, [self]))
    (hq : codeAny (model prog w) A (.call (.ref fI) ⟨.ref (h.objs.size + 1) :: us, kw⟩)
      (fun r s' => match r with | .ok (.ret v) => v = .none ∧ Q (.done (.ret (.ref (h.objs.size + 1)))) s' | .ok _ => False | .error e => E e s')
      ⟨(h.push (PySem.W.kdv_tup us)).push (PySem.HandSPX.excO C h.objs.size), g, d, t, os⟩) :
    wpAny (model prog w) A (Builtin.«type.__call__» ⟨.ref C :: us, kw⟩) Q E ⟨h, g, d, t, os⟩ := by
  repeat (first
    | with_reducible refine wpAny_loadPart_at hC ?_
    | with_reducible refine wpAny_madeBy_exc hC ?_
    | wp_step)
  refine codeAny_call_builtin_code (Code.quiet_builtin _ F.quiet) (kw_new_check F hT hC ?_)
  refine kw_new F hT hC hl ?_
  show wpAny _ _ _ _ _ _
  have kk : ∀ b o, h.get? b = some o → ((h.push (PySem.W.kdv_tup us)).push (PySem.HandSPX.excO C h.objs.size)).get? b = some o := fun b o e => Heap.get?_push_of_some _ (Heap.get?_push_of_some _ e)
  have cK := kk _ _ hC
  have eK : ((h.push (PySem.W.kdv_tup us)).push (PySem.HandSPX.excO C h.objs.size)).get? (h.objs.size + 1) = some (PySem.HandSPX.excO C h.objs.size) := by heap_get
  have self : (Value.ref C :: bm).contains (.ref C) = true := by simp
  have iK := hi.keeps kk
  have bK := (hb (.ref (h.objs.size + 1))).keeps kk
  unfold isInstance
  repeat (first
    | with_reducible refine wpAny_loadPart_at eK ?_
    | (with_reducible refine wpAny_isSubtype_exc cK ?_; rw [self])
    | wp_step)
  show wpAny _ _ (typeLookup (.ref C) _) _ _ _
  refine iK.at ?_
  refine wpAny_holding (wpAny_bind (bK.at ?_))
  refine wpAny_bind (wpAny_call (codeAny_mono hq fun r s' z => ?_))
  rcases r with e | (v | _ | _ | _) <;> first | exact z | exact z.elim | skip
  obtain ⟨rfl, z⟩ := z
  first
    | exact wpAny_pure (wpAny_pure z)
    | (wp_walk; exact z)
end
end Ami

set_option Elab.async false
set_option linter.all false
set_option maxRecDepth 100000
set_option maxHeartbeats 2000000
/-! the call of a class of errors, and what is made of it -/
namespace Ami
open PySem PySem.Spec PyProof.Rows L2
section
variable {prog : Program} {w : World} {A : Around} {R : Result → Shared → Prop} {h : Heap} {g : Array GenState} {d : Drawn} {t : Nat} {os : OsState}
variable {nm q : Str} {C N : Addr} {bs bm bmB : List Value} {hdct : Bool} {sn : List Str} {sub : List Value} {ab : Bool} {col : Option Bool} {dd : Option Addr} {k0 k1 k2 k3 k5 : Option Value} {B newId initId : String}
theorem kw_check {M : Model} {E : Value → Shared → Prop} {us : List Value} {kw : List (Str × Value)} {Q : Unit → Shared → Prop} (hC : h.get? C = some (excClassObj nm q C N bs bm hdct sn sub ab col dd k0 k1 k2 k3 k5 newId))
    (hq : Q () ⟨h, g, d, t, os⟩) : wpAny M A (checkBuiltinCall "type.__call__" ⟨.ref C :: us, kw⟩) Q E ⟨h, g, d, t, os⟩ := by
  have sb := PySem.tc_sub
  have isT : (⟨h, g, d, t, os⟩ : Shared).TypeIs (.ref C) "type" := ⟨_, hC, rfl⟩
  simp only [checkBuiltinCall, PySem.tc_kind, PySem.tc_split]
  repeat (any_goals (first
    | assumption
    | with_reducible refine wpAny_loadPart_at hC ?_
    | with_reducible refine wpAny_onRaise ?_
    | with_reducible refine wpAny_map ?_
    | wp_step))
theorem kw_call (F : ExcBaseFacts B newId initId bmB) (hT : ∀ X : String, bm.contains (.type X) = bmB.contains (.type X)) {us : List Value} {kw : List (Str × Value)} {fI : Addr}
    (hC : h.get? C = some (excClassObj nm q C N bs bm hdct sn sub ab col dd k0 k1 k2 k3 k5 newId)) (hl : us.length ≤ sizeLine)
    (hi : PySem.W.Looks (model prog w) h (typeLookup (.ref C) "__init__") (some (.ref fI))) (hb : ∀ self, PySem.W.Looks (model prog w) h (bindSpecial (.ref fI) self) (.ref fI, [self]))
    (hq : codeAny (model prog w) (A.under (.builtin "type.__call__" ⟨.ref C :: us, kw⟩)) (.call (.ref fI) ⟨.ref (h.objs.size + 1) :: us, kw⟩) (PySem.W.InitBack (h.objs.size + 1) R)
      ⟨(h.push (PySem.W.kdv_tup us)).push (PySem.HandSPX.excO C h.objs.size), g, d, t, os⟩) :
    codeAny (model prog w) A (.call (.ref C) ⟨us, kw⟩) R ⟨h, g, d, t, os⟩ := by
  have f1 := PySem.tc_lookup
  have f2 := PySem.tc_bind (.ref C)
  have isT : (⟨h, g, d, t, os⟩ : Shared).TypeIs (.ref C) "type" := ⟨_, hC, rfl⟩
  refine codeAny_of_tree ?_
  show wpAny _ _ (callAny (.ref C) _) _ _ _
  repeat (any_goals (first
    | assumption
    | with_reducible refine wpAny_loadPart_at hC ?_
    | wp_step))
  refine ⟨rfl, ?_⟩
  refine codeAny_call_builtin_at (Code.quiet_builtin _ (by decide +kernel)) entry_typeCall ?_
  refine kw_check hC (kw_type_call F hT hC hl hi hb ?_)
  refine codeAny_mono hq fun r s' z => ?_
  rcases r with e | (v | _ | _ | _) <;> exact z
end
end Ami

set_option Elab.async false
set_option linter.all false
set_option maxRecDepth 100000
set_option maxHeartbeats 2000000
/-! an error made, as a value -/
namespace Ami
open PySem PySem.Spec PyProof.Rows L2
/-- behind the making of an object at a: what was not ours stands -/
theorem un_made {fr : List Addr} {H1 H2 : Hp} {h1 hm h2 : Heap} {a : Addr} {o : HO} (ha : h1.objs.size ≤ a) (hn : H1 a = none) (k : ∀ b u, h1.get? b = some u → hm.get? b = some u) (un : Un fr [] (upd H1 a o) H2 hm h2) : Un fr [] H1 H2 h1 h2 := by
  have off : ∀ {b : Addr} {u : Obj}, h1.get? b = some u → b ≠ a := fun {b u} q z => by
    have := Heap.lt_size q
    rw [z] at this
    exact absurd this (Nat.not_lt.mpr ha)
  have up : ∀ {b : Addr} {u : Obj}, h1.get? b = some u → H1 b = none → upd H1 a o b = none := fun q n => by rw [upd_ne (off q)]; exact n
  have st : ∀ {b : Addr} {w : HO}, H1 b = some w → upd H1 a o b = some w := fun q => by rw [upd_ne (ne_of_none q hn)]; exact q
  exact ⟨fun b u q n hf hx => un.keep b u (k b u q) (up q n) hf hx, fun b u q n hf hx => un.slot b u (k b u q) (up q n) hf hx, fun b u q n hx => un.free b u (k b u q) (up q n) hx,
    fun b u q hx => un.there b u (k b u q) hx, fun b xs q => un.tups b xs (st q), fun b u v q => un.frzs b u v (st q), fun b ps q => un.tbls b ps (st q)⟩
/-- C(..) of a class of errors, its own __init__ keeping sp -/
def tMade (C : Addr) (sp : Sp) (gV : List V → List V → List V) (t tk : TA) : TE := fun σ H Q => t σ H fun vs H1 => tk σ H1 fun zs H2 => vs.length ≤ 1000 ∧ ∀ a, H2 a = none →
  sp (gV (.ref a :: vs) zs) (upd H2 a (exo a C none)) (fun v H3 => v = .non ∧ (∃ od, H3 a = some (exo a C od)) ∧ Q (.ref a) H3) E0
section
variable {X : Cx} {CX : CXT} {C fI : Addr} {k : Nat} {fd : FuncData} {ps ks : List Str} {sp : Sp} {g : List Value → List Value → List Value} {gV : List V → List V → List V}
theorem run_made {pins : List (Addr × Obj)} {σ : L2.St} {H : Hp} {s : Shared} {Q : VK} {us ws : List Value} {vs zs : List V} (T : EX X.K C) (iC : PySem.W.findIn X.K (.ref C) "__init__" = some (some (.ref fI))) (tI : PySem.W.typeIn X.K (.ref fI) = some (.type "function"))
    (F1 : FnOk X.prog X.w X.K X.mg X.base CX k fI fd ps sp) (hr : Room (k + 1) X.A) (hb : KBinds X.K fd ps ks g gV) (hx : Passes CX X E0) (I1 : Inv X pins σ H s) (r1 : Vals vs us) (rz : Vals zs ws) (hl : vs.length ≤ 1000)
    (q1 : ∀ a, H a = none → sp (gV (.ref a :: vs) zs) (upd H a (exo a C none)) (fun v H3 => v = .non ∧ (∃ od, H3 a = some (exo a C od)) ∧ Q (.ref a) H3) E0) :
    wpAny (model X.prog X.w) X.A (call (.ref C) us (ks.zip ws)) (EP X pins σ Q) X.xe s := by
  obtain ⟨nm, N, qn, bs, bm, hdct, sn, sub, ab, col, dd, k0, k1, k2, k3, k5, hC, hT⟩ := PySem.W.excInit_of I1.kIn T.ini
  obtain ⟨hp, gn, dr, tk, os⟩ := s
  have hn : H (hp.objs.size + 1) = none := I1.hok.fresh (Nat.le_succ _)
  have hq := q1 (hp.objs.size + 1) hn
  have kk : ∀ b o, hp.get? b = some o → ((hp.push (PySem.W.kdv_tup us)).push (PySem.HandSPX.excO C hp.objs.size)).get? b = some o := fun b o e => Heap.get?_push_of_some _ (Heap.get?_push_of_some _ e)
  have hget : ((hp.push (PySem.W.kdv_tup us)).push (PySem.HandSPX.excO C hp.objs.size)).get? (hp.objs.size + 1) = some (PySem.HandSPX.excO C hp.objs.size) := by heap_get
  have I2 : Inv X pins σ (upd H (hp.objs.size + 1) (exo (hp.objs.size + 1) C none)) ⟨(hp.push (PySem.W.kdv_tup us)).push (PySem.HandSPX.excO C hp.objs.size), gn, dr, tk, os⟩ :=
    I1.laid (t' := tk) (a := hp.objs.size + 1) (o := exo (hp.objs.size + 1) C none) (h' := (hp.push (PySem.W.kdv_tup us)).push (PySem.HandSPX.excO C hp.objs.size)) kk (Nat.le_succ _) (exo_ok hget)
  have r2 : Vals (gV (V.ref (hp.objs.size + 1) :: vs) zs) (g (Value.ref (hp.objs.size + 1) :: us) ws) := hb.rel (.cons rfl r1) rz
  have hlen : (g (Value.ref (hp.objs.size + 1) :: us) ws).length = ps.length := by
    have e := r2.length
    rw [F1.len _ _ _ _ hq] at e
    exact e.symm
  have hus : us.length ≤ sizeLine := by
    rw [← Paired.length r1, sizeLine_eq]
    omega
  refine wpAny_call (kw_call PySem.F.excBase_Exception hT hC hus (PySem.W.looks_findIn I1.kIn iC) (fun self => PySem.W.bind_fn I1.kIn self tI)
    (codeAny_mono (F1.run _ X.stack _ _ ⟨Value.ref (hp.objs.size + 1) :: us, ks.zip ws⟩ _ _ _ E0 (hr.make C us (ks.zip ws)) (I2.env0.make C us (ks.zip ws)) (hb.to _ (Value.ref (hp.objs.size + 1) :: us) ws I2.kIn hlen) r2 hq) fun r s' hq' => ?_))
  cases r with
  | error er => exact hx pins σ _ _ er s' I2 hq'
  | ok fl =>
    cases fl with
    | ret u =>
      obtain ⟨v, H3, os3, bare3, un3, hok3, rv, ev, _, q3⟩ := hq'
      subst ev
      have J : Inv X pins σ H3 s' := I1.call' (ch := []) os3 (un_made (Nat.le_succ _) hn kk un3) hok3 bare3 (fun b z => absurd z (by simp))
      exact ⟨rv, .ref _, H3, J, rfl, q3⟩
    | next => exact False.elim hq'
    | brk => exact False.elim hq'
    | cont => exact False.elim hq'
variable {x : Str} {p pos : Pos} {kws : List Keyword} {e : Expr} {es : List Expr} {t tk : TA}
theorem pe_made (T : EX X.K C) (iC : PySem.W.findIn X.K (.ref C) "__init__" = some (some (.ref fI))) (tI : PySem.W.typeIn X.K (.ref fI) = some (.type "function")) (F1 : FnOk X.prog X.w X.K X.mg X.base CX k fI fd ps sp) (hr : Room (k + 1) X.A) (hb : KBinds X.K fd ps ks g gV) (hx : Passes CX X E0)
    (hm : X.mg x = some (.ref C)) (ha : PA X (e :: es) t) (hkw : PK X kws tk) (hg : Gl X x := by rfl) (hall : (backToKw pos (keywordEach kws X.env)).all (·.1.isSome) = true := by rfl) (hks : (backToKw pos (keywordEach kws X.env)).filterMap (·.1) = ks := by rfl)
    (hdb : (x == ("__debug__" : Str)) = false := by decide) (he : starEach (e :: es) X.env = (false, eval e X.env) :: starEach es X.env := by rfl)
    (hpl : ((backTo pos (starEach (e :: es) X.env)).any (·.1) || (backToKw pos (keywordEach kws X.env)).any (·.1.isNone)) = false := by rfl) : PE X (.Call (.Name x p) (e :: es) kws pos) (tMade C sp gV t tk) := by
  refine ⟨fun pins s σ H Q I h => ?_⟩
  refine wpAny_Call_Name_kw (ld_glob I hg hm ?_ hdb)
  refine PySem.W.callWith_KW (h₀ := X.base) I.ok.mod.kin T.kp hall (thn (ha.run pos pins s σ H _ I h) fun us s1 hv => ?_) hpl he
  obtain ⟨vs, H1, I1, r, q⟩ := hv
  refine thn (hkw.run pos pins s1 σ H1 _ I1 q) fun ws s2 hw => ?_
  obtain ⟨zs, H2, I2, rz, hl, q2⟩ := hw
  refine ⟨I2.kIn, ?_⟩
  rw [hks]
  exact run_made T iC tI F1 hr hb hx I2 r rz hl q2
theorem pe_madeK (T : EX X.K C) (iC : PySem.W.findIn X.K (.ref C) "__init__" = some (some (.ref fI))) (tI : PySem.W.typeIn X.K (.ref fI) = some (.type "function")) (F1 : FnOk X.prog X.w X.K X.mg X.base CX k fI fd ps sp) (hr : Room (k + 1) X.A) (hb : KBinds X.K fd ps ks g gV) (hx : Passes CX X E0)
    (hm : X.mg x = some (.ref C)) (hkw : PK X kws tk) (hg : Gl X x := by rfl) (hall : (backToKw pos (keywordEach kws X.env)).all (·.1.isSome) = true := by rfl) (hks : (backToKw pos (keywordEach kws X.env)).filterMap (·.1) = ks := by rfl)
    (hdb : (x == ("__debug__" : Str)) = false := by decide) (hpl : ((backTo pos (starEach [] X.env)).any (·.1) || (backToKw pos (keywordEach kws X.env)).any (·.1.isNone)) = false := by rfl) : PE X (.Call (.Name x p) [] kws pos) (tMade C sp gV tNil tk) := by
  refine ⟨fun pins s σ H Q I h => ?_⟩
  refine wpAny_Call_Name_kw (ld_glob I hg hm ?_ hdb)
  refine PySem.W.callWith_KW0 (h₀ := X.base) I.ok.mod.kin T.kp hall ?_ hpl
  refine thn (hkw.run pos pins s σ H _ I h) fun ws s2 hw => ?_
  obtain ⟨zs, H2, I2, rz, hl, q2⟩ := hw
  refine ⟨I2.kIn, ?_⟩
  rw [hks]
  exact run_made T iC tI F1 hr hb hx I2 .nil rz hl q2
end

/-! ### isinstance, attributes -/
section
variable {X : Cx}
/-- at a stands an error of the class at C, its dict (none | at d) -/
def ErrAt (H : Hp) (a C : Addr) (od : Option Addr) : Prop := ∃ φ : Heap → Prop, H a = some (.ext φ) ∧ ∀ h : Heap, φ h → ∃ ox : Obj, h.get? a = some ox ∧ ox.cls = .ref C ∧ PySem.W.notCls ox = true ∧ ox.dict = od
theorem ErrAt.same {H H' : Hp} {a C : Addr} {od : Option Addr} (s : Same H H') (h : ErrAt H a C od) : ErrAt H' a C od := by
  obtain ⟨φ, e, k⟩ := h
  exact ⟨φ, s _ _ e, k⟩
theorem exo_err {H : Hp} {a C : Addr} {od : Option Addr} (e : H a = some (exo a C od)) : ErrAt H a C od := ⟨_, e, fun h z => by
  obtain ⟨t, ho⟩ := z
  exact ⟨_, ho, rfl, rfl, rfl⟩⟩
theorem exO_err {H : Hp} {a C : Addr} (e : H a = some (ExO (.ref C) a)) : ErrAt H a C none := ⟨_, e, fun h z => by
  obtain ⟨oe, vs, ho, hz, hd, _⟩ := z
  exact ⟨oe, ho, hz.1, by unfold PySem.W.notCls; rw [hd] <;> rfl, hz.2⟩⟩
/-- the object at a is an error of the class at C -/
theorem inst_at {pins : List (Addr × Obj)} {σ : L2.St} {H : Hp} {s : Shared} {a C : Addr} {od : Option Addr} (I : Inv X pins σ H s) (e : ErrAt H a C od) (hd : ∀ d, od = some d → ∃ fs, H d = some (exd d fs)) : ∃ ox oo, PySem.W.InstAt s.heap a ox C oo ∧ ox.dict = od := by
  obtain ⟨φ, ea, hφ⟩ := e
  obtain ⟨ox, ho, hc, hn, hdi⟩ := hφ _ (I.hok a _ ea).1
  cases od with
  | none => exact ⟨ox, none, ⟨ho, hc, hn, by rw [hdi]; trivial⟩, hdi⟩
  | some d =>
    obtain ⟨fs, ed⟩ := hd d rfl
    obtain ⟨mA, ⟨o, es, ep, z, _⟩, rel⟩ := exd_at I.hok ed
    exact ⟨ox, some o, ⟨ho, hc, hn, by rw [hdi]; exact z⟩, hdi⟩
/-- isinstance(e, c), e an error that was made -/
def rIsX (K : PySem.W.Frag) : List V → Hp → VK → Prop := fun xs H Q => ∃ (a C : Addr) (od : Option Addr) (c : V) (cv : Value) (b : Bool), xs = [.ref a, c] ∧ EX K C ∧ ErrAt H a C od ∧ (∀ d, od = some d → ∃ fs, H d = some (exd d fs)) ∧ (∀ u, RelV c u → u = cv) ∧ PySem.W.kitOne K (.ref C) cv = some b ∧ Q (.bl b) H
theorem call_isX : CallR X (.builtin "isinstance") (rIsX X.K) := by
  intro pins s σ H xs us Q I r h
  obtain ⟨a, C, od, c, cv, b, rfl, T, ea, ed, hcv, hk, q⟩ := h
  obtain ⟨ox, oo, J, _⟩ := inst_at I ea ed
  cases r with
  | cons rx rr =>
    cases rr with
    | cons rc rr =>
      cases rr
      cases rx
      obtain rfl := hcv _ rc
      exact PySem.W.kia_one (PySem.W.kitx_exc T.cl T.ga T.gg T.ex T.cc T.sn T.tk T.mo) I.kIn J hk (fun z => nomatch z) fun tk => ⟨.bl b, H, I.kept (t' := tk) fun _ _ z => z, rfl, q⟩
/-- the types' names in a tuple -/
theorem tys_of : ∀ {ns : List String} {us : List Value}, Vals (ns.map fun n => V.ty n) us → us = ns.map fun n => Value.type n
  | [], _, .nil => rfl
  | n :: ns, u :: us, .cons r t => by
    have e : u = Value.type n := r
    rw [e, tys_of t]; rfl
/-- isinstance(e, (A, ..)) of built-in classes -/
def rIsXs (K : PySem.W.Frag) : List V → Hp → VK → Prop := fun xs H Q => ∃ (a C tp : Addr) (od : Option Addr) (ns : List String) (b : Bool), xs = [.ref a, .ref tp] ∧ EX K C ∧ ErrAt H a C od ∧ (∀ d, od = some d → ∃ fs, H d = some (exd d fs)) ∧
  H tp = some (.tup (ns.map fun n => V.ty n)) ∧ PySem.W.kitAny K (.ref C) (ns.map fun n => Value.type n) = some b ∧ Q (.bl b) H
theorem call_isXs : CallR X (.builtin "isinstance") (rIsXs X.K) := by
  intro pins s σ H xs us Q I r h
  obtain ⟨a, C, tp, od, ns, b, rfl, T, ea, ed, et, hk, q⟩ := h
  obtain ⟨ox, oo, J, _⟩ := inst_at I ea ed
  cases r with
  | cons rx rr =>
    cases rr with
    | cons rc rr =>
      cases rr
      cases rx
      cases rc
      obtain ⟨_, its, rv, o, ho, hc, n, hd⟩ := I.hok tp _ et
      have e := tys_of rv
      subst e
      obtain ⟨oc, odi, oda, osl⟩ := o
      dsimp only at hc hd
      subst hc hd
      exact PySem.W.kia_tup (PySem.W.kitx_exc T.cl T.ga T.gg T.ex T.cc T.sn T.tk T.mo) I.kIn J ho hk (fun z => nomatch z) fun tk => ⟨.bl b, H, I.kept (t' := tk) fun _ _ z => z, rfl, q⟩
/-- e.f, e an error that was made -/
def tXget (K : PySem.W.Frag) (f : Str) (te : TE) : TE := fun σ H Q => te σ H fun x H1 => ∃ (a C d : Addr) (fs : List (Str × V)) (v : V), x = .ref a ∧ EX K C ∧ H1 a = some (exo a C (some d)) ∧ H1 d = some (exd d fs) ∧ PySem.W.findIn K (.ref C) f = some none ∧ fs.lookup f = some v ∧ Q v H1
theorem pe_xget {e : Expr} {te : TE} {pos : Pos} {f : Str} (he : PE X e te) (hb : attributeBase e f X.env (eval e X.env) = eval e X.env := by rfl) : PE X (.Attribute e f pos) (tXget X.K f te) := by
  refine ⟨fun pins s σ H Q I h => ?_⟩
  refine attr_of hb (thn (he.run pins s σ H _ I h) fun u s1 hv => ?_)
  obtain ⟨x, H1, I1, rx, a, C, d, fs, v, rfl, T, ea, ed, hno, l, q⟩ := hv
  obtain rfl : u = Value.ref a := rx
  obtain ⟨t1, ho⟩ := exo_at I1.hok ea
  obtain ⟨mA, hns, rel⟩ := exd_at I1.hok ed
  obtain ⟨oo, hoo, hlk⟩ := lookIn_ns hns
  have g := rel f
  rw [l] at g
  cases hm : mA f with
  | none => rw [hm] at g; exact absurd g (fun z => z)
  | some w =>
    rw [hm] at g
    have rw' : RelV v w := g
    have J : PySem.W.InstAt s1.heap a { cls := .ref C, dict := some d, data := .fields #[.ref t1, .none, .none, .none, .bool false, .none] } C (some oo) := ⟨ho, rfl, rfl, hoo⟩
    exact PySem.HandSPX.exc_get I1.kIn J T.ga T.gg T.ex (PySem.W.findObj_own T.hd hno rfl (by rw [hlk, hm])) (handed_of rw') ⟨v, H1, I1.tok _, rw', q⟩
end
end Ami

set_option Elab.async false
set_option linter.all false
set_option maxRecDepth 100000
set_option maxHeartbeats 2000000
/-! raised and caught: a def that is asked about the error that is being handled -/
namespace Ami
open PySem PySem.Spec PyProof.Rows L2
/-- a promise of a def that runs while the error p is handled -/
structure FnP (P : Program) (w : World) (K : PySem.W.Frag) (mg : Str → Option Value) (base : Heap) (k : Nat) (f : Addr) (fd : FuncData) (ps : List Str) (p : Addr × Obj) (sp : Sp) : Prop where
  run : ∀ (A : Around) (outer : List Env) (s : Shared) (H : Hp) (args : Args) (us : List Value) (vs : List V) (Q : VK) (E : XK), L2H.RoomH k A → L2H.Hot1 A p → L2H.PinOk outer H s p → Env0 P w K mg base A outer s H → BindsTo s fd args (ps.zip us) → Vals vs us → vs.length = ps.length → sp vs H Q E →
    codeAny (model P w) A (.call (.ref f) args) (CR CX0 outer P w H s Q E) s
section
variable {P : Program} {w : World} {K : PySem.W.Frag} {mg : Str → Option Value} {base : Heap}
theorem Fun.okP {x qual : Str} {st : Stmt} {f : Addr} {fd : FuncData} {N ps : List Str} {k : Nat} {p : Addr × Obj} {sp : Sp} (F : Fun K x qual st f fd) (S : FnScope N ps (defScope st))
    (hbody : ∀ (cdv : Value) (A : Around) (outer : List Env) (s : Shared) (H : Hp) (vs : List V) (Q : VK) (E : XK), L2H.Hot1 A p → sp vs H Q E →
      ∃ t, PSs (L2H.cxH CX0 P w K mg base N qual (defScope st) f cdv A outer s H E p) (defBody st) t ∧ t { nx := fun _ H' => Q .non H', rt := Q } (start N vs) H) : FnP P w K mg base (k + 1) f fd ps p sp := by
  obtain ⟨oc, od, kV, doc, pm, an, cdv, ct, osl, rfl, lk, hcd⟩ := F.ex
  refine ⟨fun A outer s H args us vs Q E hr hot hpin e0 hb r hl hsp => ?_⟩
  have kin : K.In s.heap := e0.mod.kin.keeps fun b o e => (e0.bs b o e).1
  have lim : s.heap.NoLimit := e0.mod.nolimit.keeps fun b o e => (e0.bs b o e).1
  have par : ∀ y ∈ ps.zip us, (defScope st).names.lookup y.1 = some .local ∨ ((defScope st).names.lookup y.1 = some .cell ∧ ((cellsFrom (s.heap.objs.size + 1) (defScope st).names []).lookup y.1).isSome = true) := fun ⟨n, v⟩ hy => by
    rcases S.par n (List.of_mem_zip hy).1 with q | q
    · exact .inl q
    · exact .inr ⟨q, PySem.W.cellsFrom_some _ _ _ (.inl q)⟩
  refine codeAny_call_function hr.depth (kin _ _ lk) rfl S.co S.gen rfl (PySem.W.codeRec_of kin hcd) (hb _ _ _ _ ?_)
  refine wpAny_newFunctionEnv_cells S.kind par fun env he s1 x => ?_
  subst he
  refine ⟨lim.keeps x.toInCall.keep, codeAny_func ?_⟩
  obtain ⟨t, ht, hq⟩ := hbody cdv A outer s H vs Q E hot hsp
  have I : Inv (L2H.cxH CX0 P w K mg base N qual (defScope st) f cdv A outer s H E p) [] (start N vs) H s1 := L2H.inv_startH S hpin e0 hl r x
  have fin : ∀ {σ' : L2.St} {H' : Hp} {s' : Shared} {v : V} {u : Value}, Inv (L2H.cxH CX0 P w K mg base N qual (defScope st) f cdv A outer s H E p) [] σ' H' s' → RelV v u → Q v H' → CE outer P w H s Q u s' := fun {σ' H' s' v u} J rv q => ⟨v, H', J.os, J.bare, J.base, J.hok, rv, q⟩
  refine wpAny_mono (ht.run [] s1 (start N vs) H _ I hq) (fun fl s' hs => ?_) fun e s' hs => hs
  cases fl with
  | ret u => obtain ⟨v, σ', H', J, rv, q⟩ := hs; exact fin J rv q
  | next => obtain ⟨σ', H', J, q⟩ := hs; exact fin (v := V.non) (u := Value.none) J rfl q
  | brk => obtain ⟨_, _, _, q⟩ := hs; exact False.elim q
  | cont => obtain ⟨_, _, _, q⟩ := hs; exact False.elim q
end
section
variable {X : Cx} {k : Nat} {f : Addr} {fd : FuncData} {ps : List Str} {sp : Sp} {p : Addr × Obj} {x : Str} {np pos : Pos} {e : Expr} {es : List Expr} {t : TA}
/-- f(e, ..) while p is handled -/
theorem pe_callP (F : FnP X.prog X.w X.K X.mg X.base k f fd ps p sp) (hr : L2H.RoomH k X.A) (hot : L2H.Hot1 X.A p) (hp : p ∈ X.pn) (hg : Gl X x) (hm : X.mg x = some (.ref f)) (hk : PySem.W.keepIn X.K (.ref f) = true) (hb : Binds X.K fd ps []) (hn : (e :: es).length = ps.length)
    (ha : PA X (e :: es) t) (hln : ∀ σ H Q, t σ H Q → t σ H fun vs H1 => vs.length = ps.length ∧ Q vs H1) (hdb : (x == ("__debug__" : Str)) = false := by decide) (he : starEach (e :: es) X.env = (false, eval e X.env) :: starEach es X.env := by rfl)
    (hpl : (backTo pos (starEach es X.env)).any (·.1) = false := by rfl) : PE X (.Call (.Name x np) (e :: es) [] pos) (fun σ H Q => t σ H fun vs H1 => sp vs H1 Q E0) := by
  refine ⟨fun pins s σ H Q I h => ?_⟩
  refine wpAny_Call_Name_kw (ld_glob I hg hm ?_ hdb)
  refine PySem.W.callWith_K (h₀ := X.base) I.ok.mod.kin hk (thn (ha.run pos pins s σ H _ I (hln σ H _ h)) fun us s1 hv => ?_) he hpl
  obtain ⟨vs, H1, I1, r, hlv, q⟩ := hv
  refine ⟨I1.kIn, ?_⟩
  have b := hb s1 us I1.kIn (by rw [List.append_nil, ← r.length]; exact hlv)
  rw [List.append_nil] at b
  have P1 := I1.pin p (List.mem_append_left _ hp)
  have hpin : L2H.PinOk X.stack H1 s1 p := ⟨P1.1, P1.2.1, fun hm => (List.mem_cons.mp (I1.stkSub p.1 hm)).elim P1.2.2.1 P1.2.2.2.1, P1.2.2.2.2⟩
  refine wpAny_call (codeAny_mono (F.run X.A X.stack s1 H1 ⟨us, []⟩ us vs Q E0 hr hot hpin I1.env0 b r hlv q) fun r s' hq => ?_)
  cases r with
  | error e => exact False.elim hq
  | ok fl =>
    cases fl with
    | ret u => exact I1.after hq
    | next => exact False.elim hq
    | brk => exact False.elim hq
    | cont => exact False.elim hq
/-- isinstance(e, c), e an error of a class without more: pinned, by its object -/
def rIsP (K : PySem.W.Frag) (p : Addr × Obj) : List V → Hp → VK → Prop := fun xs H Q => ∃ (C : Addr) (c : V) (cv : Value) (b : Bool), xs = [.ref p.1, c] ∧ EX K C ∧ p.2.cls = .ref C ∧ (∃ vs, p.2.data = .fields vs) ∧ (∀ d, p.2.dict = some d → ∃ fs, H d = some (exd d fs)) ∧ (∀ u, RelV c u → u = cv) ∧ PySem.W.kitOne K (.ref C) cv = some b ∧ Q (.bl b) H
theorem call_isP (hp : p ∈ X.pn) : CallR X (.builtin "isinstance") (rIsP X.K p) := by
  intro pins s σ H xs us Q I r h
  obtain ⟨C, c, cv, b, rfl, T, hC, ⟨fv, hfv⟩, hd, hcv, hk, q⟩ := h
  have P1 := I.pin p (List.mem_append_left _ hp)
  have J : ∃ oo, PySem.W.InstAt s.heap p.1 p.2 C oo := by
    cases ed : p.2.dict with
    | none => exact ⟨none, P1.1, hC, by unfold PySem.W.notCls; rw [hfv] <;> rfl, by rw [ed]; trivial⟩
    | some d =>
      obtain ⟨fs, z⟩ := hd d ed
      obtain ⟨mA, ⟨o, _, _, z2, _⟩, _⟩ := exd_at I.hok z
      exact ⟨some o, P1.1, hC, by unfold PySem.W.notCls; rw [hfv] <;> rfl, by rw [ed]; exact z2⟩
  obtain ⟨oo, J⟩ := J
  cases r with
  | cons rx rr =>
    cases rr with
    | cons rc rr =>
      cases rr
      cases rx
      obtain rfl := hcv _ rc
      exact PySem.W.kia_one (PySem.W.kitx_exc T.cl T.ga T.gg T.ex T.cc T.sn T.tk T.mo) I.kIn J hk (fun z => nomatch z) fun tk => ⟨.bl b, H, I.kept (t' := tk) fun _ _ z => z, rfl, q⟩
/-- raise C(..), by the value that was made -/
theorem pmk_made {e : Expr} {te : TE} (hx : X.ex = []) (he : PE X e te) :
    L2N.PMk X e (fun σ H Q => te σ H fun x H1 => ∃ (a C : Addr) (od : Option Addr), x = .ref a ∧ H1 a = some (exo a C od) ∧ Fr0 X.H_0 a ∧ EX X.K C ∧ Q (.ref C) od (delH H1 a)) := by
  intro pins s σ H Q I h
  refine wpAny_mono (he.run pins s σ H _ I h) (fun u s1 hu => ?_) fun _ _ x => x
  obtain ⟨v, H1, I1, r1, a, C, od, rfl, ha, h0, T, q⟩ := hu
  cases r1
  obtain ⟨t1, ho⟩ := exo_at I1.hok ha
  obtain ⟨G, gs, ga, J⟩ := I1.untrack ha h0 hx
  refine ⟨a, _, _, { s1 with heap := G }, delH H1 a, .ref C, od, rfl, J, gs, ga, ho, ⟨rfl, rfl, fun vs' e' => ?_⟩, rfl, rfl, delH_same, rfl, I1.bare, raises_own T.ex T.ty, q⟩
  cases e'
  rfl
end
end Ami

set_option Elab.async false
set_option linter.all false
set_option maxRecDepth 100000
set_option maxHeartbeats 4000000
/-! defs that raise an error of one's own that was made; what is asked of an error that is handled -/
namespace Ami
open PySem PySem.Spec PyProof.Rows L2
section
variable {P : Program} {w : World} {K : PySem.W.Frag} {mg : Str → Option Value} {base : Heap}
/-- as Fun.okX, for errors whose context is told -/
theorem Fun.okN {x qual : Str} {st : Stmt} {f : Addr} {fd : FuncData} {N ps : List Str} {k : Nat} {sp : Sp} (F : Fun K x qual st f fd) (S : FnScope N ps (defScope st)) (len : ∀ vs H Q E, sp vs H Q E → vs.length = ps.length)
    (hbody : ∀ (cdv : Value) (A : Around) (outer : List Env) (s : Shared) (H : Hp) (vs : List V) (Q : VK) (E : XK), Room k (A.deeper (envOfC qual (defScope st) s.heap.objs.size f cdv)) → sp vs H Q E →
      ∃ t, PSs (cxOf (L2N.CX P w) P w K mg base N qual (defScope st) f cdv A outer s H E) (defBody st) t ∧ t { nx := fun _ H' => Q .non H', rt := Q } (start N vs) H) : FnOk P w K mg base (L2N.CX P w) (k + 1) f fd ps sp := by
  obtain ⟨oc, od, kV, doc, pm, an, cdv, ct, osl, rfl, lk, hcd⟩ := F.ex
  exact fn_of lk hcd S len fun A outer s H vs Q E hr hsp => hbody cdv A outer s H vs Q E hr hsp
theorem takesN0 {X : Cx} : L2N.Takes X (fun _ _ _ _ => False) := fun _ _ x => by
  obtain ⟨_, _, _, _, _, _, _, _, _, _, _, _, _, _, _, _, z⟩ := x
  exact z.elim
end
/-- raise C(..) -/
def tRaiseM (K : PySem.W.Frag) (H0 : Hp) (W : WX) (te : TE) : TS := fun _ σ H => te σ H fun x H1 => ∃ (a C : Addr) (od : Option Addr), x = .ref a ∧ H1 a = some (exo a C od) ∧ Fr0 H0 a ∧ EX K C ∧ W (.ref C) od σ (delH H1 a)
theorem ps_raiseM {X : Cx} {W : WX} {e : Expr} {te : TE} {pos : Pos} {K0 : PySem.W.Frag} {H0 : Hp} (hK : X.K = K0) (hH : X.H_0 = H0) (hc : X.calm = true) (hx : X.ex = []) (tk : L2N.Takes X W) (he : PE X e te) : PS X (.Raise (some e) none pos) (tRaiseM K0 H0 W te) := by
  subst hK hH
  exact L2N.ps_raise hc tk (pmk_made hx he)
/-- e.f, e the error that is handled: pinned, by its object -/
def tPget (K : PySem.W.Frag) (p : Addr × Obj) (f : Str) (te : TE) : TE := fun σ H Q => te σ H fun x H1 => ∃ (C d : Addr) (fs : List (Str × V)) (v : V), x = .ref p.1 ∧ EX K C ∧ p.2.cls = .ref C ∧ (∃ vs, p.2.data = .fields vs) ∧ p.2.dict = some d ∧ H1 d = some (exd d fs) ∧ PySem.W.findIn K (.ref C) f = some none ∧ fs.lookup f = some v ∧ Q v H1
theorem pe_pget {X : Cx} {p : Addr × Obj} {e : Expr} {te : TE} {pos : Pos} {f : Str} (hp : p ∈ X.pn) (he : PE X e te) (hb : attributeBase e f X.env (eval e X.env) = eval e X.env := by rfl) : PE X (.Attribute e f pos) (tPget X.K p f te) := by
  refine ⟨fun pins s σ H Q I h => ?_⟩
  refine attr_of hb (thn (he.run pins s σ H _ I h) fun u s1 hv => ?_)
  obtain ⟨x, H1, I1, rx, C, d, fs, v, rfl, T, hC, ⟨fv, hfv⟩, hdi, ed, hno, l, q⟩ := hv
  obtain rfl : u = Value.ref p.1 := rx
  have P1 := I1.pin p (List.mem_append_left _ hp)
  obtain ⟨mA, hns, rel⟩ := exd_at I1.hok ed
  obtain ⟨oo, hoo, hlk⟩ := lookIn_ns hns
  have g := rel f
  rw [l] at g
  cases hm : mA f with
  | none => rw [hm] at g; exact absurd g (fun z => z)
  | some w =>
    rw [hm] at g
    have rw' : RelV v w := g
    have J : PySem.W.InstAt s1.heap p.1 p.2 C (some oo) := ⟨P1.1, hC, by unfold PySem.W.notCls; rw [hfv] <;> rfl, by rw [hdi]; exact hoo⟩
    exact PySem.HandSPX.exc_get I1.kIn J T.ga T.gg T.ex (PySem.W.findObj_own T.hd hno rfl (by rw [hlk, hm])) (handed_of rw') ⟨v, H1, I1.tok _, rw', q⟩
section
variable {X : Cx} {a : Addr} {oe : Obj} {cls : Value} {d : Option Addr} {pn : List (Addr × Obj)}
/-- isinstance(e, c), e the error that is handled: by its class and its dict -/
def rIsC (K : PySem.W.Frag) (a : Addr) (cls : Value) (d : Option Addr) : List V → Hp → VK → Prop := fun xs H Q => ∃ (C : Addr) (c : V) (cv : Value) (b : Bool), xs = [.ref a, c] ∧ EX K C ∧ cls = .ref C ∧ (∀ d', d = some d' → ∃ fs, H d' = some (exd d' fs)) ∧ (∀ u, RelV c u → u = cv) ∧ PySem.W.kitOne K (.ref C) cv = some b ∧ Q (.bl b) H
theorem call_isC {K0 : PySem.W.Frag} (hK : X.K = K0) (hz : oe.cls = cls ∧ oe.dict = d) (hf : ∃ vs, oe.data = .fields vs) (hp : (a, oe) ∈ X.pn) : CallR X (.builtin "isinstance") (rIsC K0 a cls d) := by
  subst hK
  intro pins s σ H xs us Q I r h
  obtain ⟨C, c, cv, b, rfl, T, rfl, hd, hcv, hk, q⟩ := h
  exact call_isP hp pins s σ H _ us Q I r ⟨C, c, cv, b, rfl, T, hz.1, hf, fun d' e => hd d' (hz.2.symm.trans e), hcv, hk, q⟩
/-- its attribute -/
def tCget (K : PySem.W.Frag) (a : Addr) (cls : Value) (d : Option Addr) (f : Str) (te : TE) : TE := fun σ H Q => te σ H fun x H1 => ∃ (C d' : Addr) (fs : List (Str × V)) (v : V), x = .ref a ∧ EX K C ∧ cls = .ref C ∧ d = some d' ∧ H1 d' = some (exd d' fs) ∧ PySem.W.findIn K (.ref C) f = some none ∧ fs.lookup f = some v ∧ Q v H1
theorem pe_cget {K0 : PySem.W.Frag} (hK : X.K = K0) {e : Expr} {te : TE} {pos : Pos} {f : Str} (hz : oe.cls = cls ∧ oe.dict = d) (hf : ∃ vs, oe.data = .fields vs) (hp : (a, oe) ∈ X.pn) (hm : ∀ σ H (Q Q' : VK), (∀ v H', Q v H' → Q' v H') → te σ H Q → te σ H Q') (he : PE X e te) (hb : attributeBase e f X.env (eval e X.env) = eval e X.env := by rfl) : PE X (.Attribute e f pos) (tCget K0 a cls d f te) := by
  subst hK
  have F := pe_pget (X := X) (p := (a, oe)) (pos := pos) (f := f) hp he hb
  refine ⟨fun pins s σ H Q I h => F.run pins s σ H Q I (hm _ _ _ _ (fun x H1 ⟨C, d', fs, v, e1, T, e2, e3, e4, e5, e6, q⟩ => ?_) h)⟩
  exact ⟨C, d', fs, v, e1, T, hz.1.trans e2, hf, hz.2.trans e3, e4, e5, e6, q⟩
end
end Ami

set_option Elab.async false
set_option linter.all false
set_option maxRecDepth 100000
set_option maxHeartbeats 2000000
/-! AmiD8: a | b (or any operator) by the class's own method, in a try: what the method lets out is told at the slots. -/
namespace Ami
open PySem PySem.Spec PyProof.Rows L2
def tBinS (C : Addr) (sp : Sp) (E : L2.St → XK) (tl tr : TE) : TE := fun σ H Q => tl σ H fun x H1 => tr σ H1 fun y H2 => ∃ a b dx dy fs gs, x = .ref a ∧ y = .ref b ∧ H2 a = some (.ins C dx fs) ∧ H2 b = some (.ins C dy gs) ∧ sp [.ref a, .ref b] H2 (fun v H' => ∃ r, v = .ref r ∧ Q v H') (E σ)
section
variable {X : Cx} {CX : CXT} {C f : Addr} {fd : FuncData} {ps : List Str} {sp : Sp} {E : L2.St → XK} {n : Nat} {a b : Expr} {tl tr : TE} {pos : Pos}
theorem pe_binS {op : Operator} (F : FnOk X.prog X.w X.K X.mg X.base CX n f fd ps sp) (hr : Room n X.A) (hc : PySem.W.selfFirst X.K C = true) (hs : PySem.W.findIn X.K (.ref C) (PySem.dunder op.info.2) = some (some (.ref f))) (hf : PySem.W.isFn X.K (.ref f) = true) (hb : Binds X.K fd ps [])
    (hx : ∀ (σ : L2.St) (pins : List (Addr × Obj)) (H : Hp) (s : Shared) (e : Value) (s' : Shared), Inv X pins σ H s → CX X.stack H s (E σ) e s' → X.xe e s') (hl : PE X a tl) (hr' : PE X b tr) : PE X (.BinOp a op b pos) (tBinS C sp E tl tr) := by
  refine ⟨fun pins s σ H Q I h => ?_⟩
  refine wpAny_BinOp (binT hl hr' I h fun v u s2 x y H2 I2 rx ry q => ?_)
  obtain ⟨a, b, dx, dy, fs, gs, rfl, rfl, ha, hb', hsp⟩ := q
  cases rx
  cases ry
  obtain ⟨mA, J, _⟩ := ins_get I2.hok ha
  obtain ⟨mB, J', _⟩ := ins_get I2.hok hb'
  obtain ⟨od, J, _⟩ := J.look
  obtain ⟨od', J', _⟩ := J'.look
  refine bin_same I2.kIn J J' hc hs hf ?_
  have len := F.len _ _ _ _ hsp
  have r2 : Vals [V.ref a, V.ref b] [Value.ref a, Value.ref b] := .cons rfl (.cons rfl .nil)
  refine wpAny_call (codeAny_mono (F.run X.A X.stack s2 H2 ⟨[.ref a, .ref b], []⟩ [.ref a, .ref b] [.ref a, .ref b] _ (E σ) hr I2.env0 (by
    have := hb s2 [.ref a, .ref b] I2.kIn (by simpa using len)
    simpa using this) r2 hsp) fun r s' hq => ?_)
  cases r with
  | error e => exact hx σ pins H2 s2 e s' I2 hq
  | ok fl =>
    cases fl with
    | ret w =>
      obtain ⟨z, H', I', rz, c, ez, q⟩ := I2.after hq
      subst ez
      obtain rfl : w = Value.ref c := rz
      exact ⟨.ref c, H', I', rfl, q⟩
    | next => exact False.elim hq
    | brk => exact False.elim hq
    | cont => exact False.elim hq
end
end Ami

set_option Elab.async false
set_option linter.all false
set_option maxRecDepth 100000
set_option maxHeartbeats 2000000
namespace K06
open PySem PySem.Spec PyProof.Rows L2 Ami
def top (i : Nat) : Stmt := PySem.Challenge.pw_amidread_k06_both_and_backward.main.body.getD i (.Pass ⟨0, 0, 0, 0⟩)
abbrev sWays : Stmt := top 8
abbrev sGroup : Stmt := top 9
abbrev sLinks : Stmt := top 10
abbrev sReached : Stmt := top 11
abbrev sOnWays : Stmt := top 12
abbrev sIdle : Stmt := top 13
abbrev sBeside : Stmt := top 14
abbrev sTree : Stmt := top 15
abbrev sAhead : Stmt := top 16
abbrev sBackOf : Stmt := top 17
abbrev sLetters : Stmt := top 22
abbrev sWord : Stmt := top 23
abbrev sIsInt : Stmt := top 26
abbrev sKind : Stmt := top 27
abbrev sLetter : Stmt := top 28
abbrev sRecord : Stmt := top 29
abbrev sState : Stmt := top 30
abbrev sArrow : Stmt := top 31
abbrev sAsc : Stmt := top 32
abbrev sCheck : Stmt := top 33
abbrev sFormat : Stmt := top 46
abbrev sDeck : Stmt := top 48
abbrev sDraw : Stmt := top 49
abbrev sPick : Stmt := top 50
abbrev sSigns : Stmt := top 51
abbrev sLink : Stmt := top 52
abbrev sSpread : Stmt := top 53
abbrev sUseful : Stmt := top 54
abbrev sWorld : Stmt := top 55
abbrev sKindsBy : Stmt := top 56
abbrev sAll : Stmt := top 57
abbrev sJoined : Stmt := top 58
abbrev sHas : Stmt := top 59
abbrev sBoth : Stmt := top 60
abbrev sPairR : Stmt := top 61
abbrev sRowR : Stmt := top 62
abbrev sLaw : Stmt := top 63
/-- the names of the built-ins that no one has taken -/
structure Blt (mg : Str → Option Value) : Prop where
  len : mg "len" = none
  int : mg "int" = none
  list : mg "list" = none
  range : mg "range" = none
  sorted : mg "sorted" = none
  set : mg "set" = none
  all : mg "all" = none
  isi : mg "isinstance" = none
  str : mg "str" = none
  repr : mg "repr" = none
  tuple : mg "tuple" = none
  zip : mg "zip" = none
  enumerate : mg "enumerate" = none
  bool : mg "bool" = none
/-- a new deck over the script -/
def spDeck (K : PySem.W.Frag) : Sp := fun vs H Q _ => ∃ (a : Addr) (ns : List Int), vs = [.ref a] ∧ SqL K H a (ns.map V.int) ∧ ns.length ≤ 63 ∧
  ∀ (H' : Hp) (d c : Addr), H d = none → H c = none → DeckAt H' d c 0 → Same H H' → Q (.ref d) H'
theorem cut_ints (ns : List Int) (lo hi : Option Int) : ∃ ms : List Int, cutV (ns.map V.int) lo hi = ms.map V.int ∧ ms.length ≤ ns.length := by
  refine ⟨(ns.drop (HT.sIx (ns.map V.int).length 0 lo)).take (HT.sIx (ns.map V.int).length (ns.map V.int).length hi - HT.sIx (ns.map V.int).length 0 lo), ?_, ?_⟩
  · unfold cutV
    rw [List.map_take, List.map_drop]
  · rw [List.length_take, List.length_drop]; omega
section
variable {P : Program} {w : World} {K : PySem.W.Frag} {mg : Str → Option Value} {base : Heap}
theorem scDraw : FnScope ["_law_deck_here", "_law_bound", "_law_mixed", "_law_cell"] ["_law_deck_here", "_law_bound"] (defScope sDraw) := ⟨rfl, rfl, rfl, by decide +kernel, rfl, by decide +kernel, by decide +kernel⟩
theorem ok_draw {f : Addr} {fd : FuncData} (F : Fun K "_law_draw" "_law_draw" sDraw f fd) (T : Blt mg) : FnOk P w K mg base CX0 1 f fd ["_law_deck_here", "_law_bound"] spDraw := by
  refine F.ok scDraw (fun vs H Q E h => ?_) (fun cdv A outer s H vs Q E hr h => ?_)
  · obtain ⟨d, c, n, bd, rfl, _⟩ := h
    rfl
  · obtain ⟨d, c, n, bd, rfl, hb0, hb1, hn, ⟨hcd, b, cells, hd, hc, hlen⟩, k⟩ := h
    have hu := hr.units
    refine ⟨_, pss_cons (ps_asg (pe_op op_add (pe_ix ix_list (pv 0) pe_int (fun _ _ => rfl)) pe_int) (pg_sub (pv 0) pe_int set_list))
      (pss_cons (ps_set (i := 2) scDraw.nd rfl (Or.inl rfl) (pe_op op_add (pe_ix ix_list (pv 0) pe_int (fun _ _ => rfl)) (pe_op op_mul (pe_op op_mul pe_int (pe_ix ix_list (pv 0) pe_int (fun _ _ => rfl))) (pe_ix ix_list (pv 0) pe_int (fun _ _ => rfl)))))
      (C8.pss_cut (ps_if (pt_cmpR (op_neD hu) (pe_ix ix_list (pv 0) pe_int (fun _ _ => rfl)) (pe_lst pa_nil) (nomark _))
        (pss_cons (ps_set (i := 3) scDraw.nd rfl (Or.inl rfl) (pe_bm0 PySem.F.plainAttrs_list PySem.F.slot_list_pop PySem.F.type_list_pop mt_pop (pe_ix ix_list (pv 0) pe_int (fun _ _ => rfl))))
        (pss_cons (ps_if (pt_cmpR op_ge (pv 3) (pe_op op_pow pe_int pe_int) (nomark _))
          (pss_cons (ps_expr (pe_bm PySem.F.plainAttrs_list PySem.F.slot_list_append PySem.F.type_list_append mt_append (pe_ix ix_list (pv 0) pe_int (fun _ _ => rfl)) (pa_cons (pe_op op_fdiv (pv 3) (pv 1)) pa_nil)))
          (pss_one (ps_ret (pe_op op_mod (pe_callTy call_int1 (by rfl) T.int (by decide +kernel) (pa_cons (pv 3) pa_nil)) (pv 1)))))
          pss_nil)
        (pss_one (ps_set (i := 2) scDraw.nd rfl (Or.inl rfl) (pe_op op_add (pv 2) (pe_callTy call_int1 (by rfl) T.int (by decide +kernel) (pa_cons (pv 3) pa_nil))))))) pss_nil)
      (pss_cons (ps_set (i := 2) scDraw.nd rfl (Or.inl rfl) (pe_op op_mod (pe_op op_mul (pe_callTy call_int1 (by rfl) T.int (by decide +kernel) (pa_cons (pe_op op_add (pe_op op_mod (pe_callTy call_int1 (by rfl) T.int (by decide +kernel) (pa_cons (pv 2) pa_nil)) pe_int) pe_int) pa_nil)) pe_int) pe_int))
      (pss_cons (ps_set (i := 2) scDraw.nd rfl (Or.inl rfl) (pe_op op_mod (pe_callTy call_int1 (by rfl) T.int (by decide +kernel) (pa_cons (pe_op op_add (pe_op op_add (pe_op op_mul (pv 2) (pv 2)) (pe_op op_mul pe_int (pe_ix ix_list (pv 0) pe_int (fun _ _ => rfl)))) pe_int) pa_nil)) pe_int))
      (pss_one (ps_ret (pe_op op_mod (pe_op op_fdiv (pe_op op_mod (pe_callTy call_int1 (by rfl) T.int (by decide +kernel) (pa_cons (pe_op op_mul (pv 2) pe_int) pa_nil)) pe_int) pe_int) (pv 1)))))))), ?_⟩
    have hn1 : ((n : Int) + 1) = ((n + 1 : Nat) : Int) := by omega
    refine ⟨_, rfl, d, _, 2, _, rfl, rfl, SqL.of hd, rfl, _, _, rfl, rfl, _, rfl, d, _, 2, 2, rfl, rfl, hd, rfl, ?_⟩
    have hd1 : (upd H d (.lst ([V.ref c, V.int b, V.int (n : Int)].set 2 (V.int ((n : Int) + 1))))) d = some (.lst [.ref c, .int b, .int (n + 1 : Nat)]) := by rw [upd_same, ← hn1]; rfl
    have hc1 : (upd H d (.lst ([V.ref c, V.int b, V.int (n : Int)].set 2 (V.int ((n : Int) + 1))))) c = some (.lst (cells.map V.int)) := by rw [upd_ne hcd]; exact hc
    have b1 : But d c H (upd H d (.lst ([V.ref c, V.int b, V.int (n : Int)].set 2 (V.int ((n : Int) + 1))))) := fun x o h1 _ e => by rw [upd_ne h1]; exact e
    revert hd1 hc1 b1
    generalize upd H d (.lst ([V.ref c, V.int b, V.int (n : Int)].set 2 (V.int ((n : Int) + 1)))) = H1
    intro hd1 hc1 b1
    have m1 : -(2 ^ 64) < (40129 : Int) ∧ (40129 : Int) < 2 ^ 64 := by decide
    refine ⟨_, rfl, d, _, 1, _, rfl, rfl, SqL.of hd1, rfl, _, rfl, d, _, 2, _, rfl, rfl, SqL.of hd1, rfl, _, _, rfl, rfl, .inl m1, _, rfl, d, _, 2, _, rfl, rfl, SqL.of hd1, rfl, _, _, rfl, rfl, .inl (by omega), _, _, rfl, rfl, ?_⟩
    refine ⟨fun σ H3 => ∃ (m : Int) (cell : Option V), σ = [some (.ref d), some (.int bd), some (.int m), cell] ∧ DeckAt H3 d c (n + 1) ∧ But d c H H3, ?_, ?_⟩
    · refine ⟨_, rfl, d, _, 0, _, rfl, rfl, SqL.of hd1, rfl, Nat.zero_le _, fun p hp => ?_⟩
      have npc : c ≠ p := ne_of_none hc1 hp
      have npd : d ≠ p := ne_of_none hd1 hp
      have hd2 : (upd H1 p (.lst [])) d = some (.lst [.ref c, .int b, .int (n + 1 : Nat)]) := by rw [upd_ne npd]; exact hd1
      have hc2 : (upd H1 p (.lst [])) c = some (.lst (cells.map V.int)) := by rw [upd_ne npc]; exact hc1
      have hp2 : (upd H1 p (.lst [])) p = some (.lst []) := upd_same
      have b2 : But d c H (upd H1 p (.lst [])) := b1.new hp
      revert hd2 hc2 hp2 b2
      generalize upd H1 p (.lst []) = H2
      intro hd2 hc2 hp2 b2
      refine ne_nil (SqL.of hc2) (SqL.of hp2) (all_ints _) ⟨_, rfl, ?_⟩
      by_cases hce : cells = []
      · subst hce
        refine iteF ?_
        exact ⟨_, _, rfl, ⟨hcd, b, [], hd2, hc2, by decide⟩, b2⟩
      · have hne : (!(cells.map V.int).isEmpty) = true := by
          cases cells with
          | nil => exact absurd rfl hce
          | cons a r => rfl
        rw [hne]
        refine iteT ?_
        obtain ⟨z, hz⟩ : ∃ z : Int, cells[cells.length - 1]? = some z := by
          have : cells.length - 1 < cells.length := by
            cases cells with
            | nil => exact absurd rfl hce
            | cons a r => simp
          exact ⟨_, List.getElem?_eq_getElem this⟩
        have hz' : (cells.map V.int)[(cells.map V.int).length - 1]? = some (V.int z) := by
          rw [List.length_map, List.getElem?_map, hz]; rfl
        refine ⟨_, rfl, d, _, 0, _, rfl, rfl, SqL.of hd2, rfl, .inl ⟨rfl, _, SqL.of hc2⟩, c, _, _, rfl, rfl, hc2, hz', ?_⟩
        have hdl : (cells.map V.int).dropLast = cells.dropLast.map V.int := (List.map_dropLast ..).symm
        have hd3 : (upd H2 c (.lst (cells.map V.int).dropLast)) d = some (.lst [.ref c, .int b, .int (n + 1 : Nat)]) := by rw [upd_ne (Ne.symm hcd)]; exact hd2
        have hc3 : (upd H2 c (.lst (cells.map V.int).dropLast)) c = some (.lst (cells.dropLast.map V.int)) := by rw [upd_same, hdl]
        have b3 : But d c H (upd H2 c (.lst (cells.map V.int).dropLast)) := fun x o h1 h2 e => by rw [upd_ne h2]; exact b2 x o h1 h2 e
        revert hd3 hc3 b3
        generalize upd H2 c (.lst (cells.map V.int).dropLast) = H3
        intro hd3 hc3 b3
        have hl3 : cells.dropLast.length ≤ 62 := by rw [List.length_dropLast]; omega
        refine ⟨_, rfl, _, _, rfl, rfl, pow18, _, _, rfl, rfl, _, rfl, ?_⟩
        refine ite2 (fun _ => ?_) (fun _ => ?_)
        · refine ⟨_, rfl, d, _, 0, _, rfl, rfl, SqL.of hd3, rfl, .inl ⟨rfl, _, SqL.of hc3⟩, _, rfl, _, rfl, _, _, rfl, rfl, ⟨hb0, hb1⟩, c, _, _, rfl, rfl, hc3, ?_, ?_⟩
          · rw [List.length_map]; exact Nat.lt_of_le_of_lt hl3 (by decide)
          · refine ⟨_, rfl, .inl ⟨_, rfl, _, rfl, _, _, rfl, rfl, hb0, ?_⟩⟩
            refine k _ _ (Int.emod_nonneg _ (by omega)) (Int.emod_lt_of_pos _ hb0) ⟨hcd, b, cells.dropLast ++ [z / bd], ?_, ?_, ?_⟩ fun x o h1 h2 e => ?_
            · rw [upd_ne (Ne.symm hcd)]; exact hd3
            · rw [upd_same, List.map_append]; rfl
            · rw [List.length_append, List.length_singleton]; omega
            · rw [upd_ne h2]; exact b3 x o h1 h2 e
        · refine ⟨_, rfl, _, rfl, .inl ⟨_, rfl, _, _, rfl, rfl, ?_⟩⟩
          exact ⟨_, _, rfl, ⟨hcd, b, cells.dropLast, hd3, hc3, by omega⟩, b3⟩
    · rintro σ H3 ⟨m, cell, rfl, ⟨_, bl, cells3, hd3, hc3, hl3⟩, b3⟩
      have r1 := mod_range m (m := 2147483629) (by decide)
      refine ⟨_, rfl, .inl ⟨_, rfl, _, _, rfl, rfl, (by show (0 : Int) < _; decide), _, _, rfl, rfl, .inl ⟨_, rfl, _, _, rfl, rfl, .inr (by decide), _, _, rfl, rfl, (by show (0 : Int) < _; decide), ?_⟩⟩⟩
      have r2 := mod_range ((m % 2147483629 + 43) * 40692) (m := 2147483647) (by decide)
      refine ⟨_, rfl, _, rfl, _, _, rfl, rfl, .inl (by omega), _, rfl, d, _, 2, _, rfl, rfl, SqL.of hd3, rfl, _, _, rfl, rfl, .inl (by decide), _, _, rfl, rfl, _, _, rfl, rfl, .inl ⟨_, rfl, _, _, rfl, rfl, (by show (0 : Int) < _; decide), ?_⟩⟩
      refine ⟨_, rfl, _, _, rfl, rfl, .inr (by decide), .inl ⟨_, rfl, _, _, rfl, rfl, (by show (0 : Int) < _; decide), _, _, rfl, rfl, ⟨by decide, by decide⟩, _, rfl, _, _, rfl, rfl, hb0, ?_⟩⟩
      exact k _ _ (Int.emod_nonneg _ (by omega)) (Int.emod_lt_of_pos _ hb0) ⟨hcd, bl, cells3, hd3, hc3, hl3⟩ b3
theorem scPick : FnScope ["_law_deck_here", "_law_some"] ["_law_deck_here", "_law_some"] (defScope sPick) := ⟨rfl, rfl, rfl, by decide +kernel, rfl, by decide +kernel, by decide +kernel⟩
theorem ok_pick {f f1 : Addr} {fd fd1 : FuncData} (F : Fun K "_law_pick" "_law_pick" sPick f fd) (T : Blt mg) (D1 : DefAt K mg "_law_draw" sDraw ["_law_deck_here", "_law_bound"] f1 fd1) : FnOk P w K mg base CX0 2 f fd ["_law_deck_here", "_law_some"] (spPick K) := by
  have G1 : FnOk P w K mg base CX0 1 f1 fd1 ["_law_deck_here", "_law_bound"] spDraw := ok_draw D1.F T
  refine F.ok scPick (fun vs H Q E h => ?_) (fun cdv A outer s H vs Q E hr h => ?_)
  · obtain ⟨d, c, n, x, xs, rfl, _⟩ := h
    rfl
  · obtain ⟨d, c, n, x, xs, rfl, hne, hl, hn, D, hs, k⟩ := h
    have lp : 0 < xs.length := List.length_pos_iff.mpr hne
    refine ⟨_, pss_one (ps_ret (pe_ix ix_seq (pv 1) (pc D1 G1 hr (pa_cons (pv 0) (pa_cons (pe_callB call_len (by rfl) T.len PySem.boot_len (pa_cons (pv 1) pa_nil)) pa_nil))) (fun _ _ => rfl))), ?_⟩
    have hlen : LenV K x H xs.length := by
      cases hs.now with
      | lst h => exact .inl ⟨xs, h, rfl⟩
      | txt z h => exact ⟨h, by rw [List.length_map, letts_length]⟩
    refine ⟨_, rfl, _, rfl, _, rfl, _, _, rfl, hlen, ?_⟩
    refine ⟨d, c, n, _, rfl, by omega, by omega, hn, D, fun H' r h0 h1 D' B => ?_⟩
    obtain ⟨j, rfl⟩ : ∃ j : Nat, r = j := ⟨r.toNat, by omega⟩
    have hi : j < xs.length := by omega
    have mem : xs[j] ∈ xs := List.getElem_mem hi
    cases (hs.go B).now with
    | lst h => exact .inl ⟨_, xs, j, _, rfl, rfl, h, atI_nat (List.getElem?_eq_getElem hi), k _ _ mem D' B⟩
    | txt z h =>
      have hz : j < z.cps.toList.length := by
        rw [List.length_map, letts_length] at hi
        rw [Array.length_toList]; exact hi
      refine .inr (.inr ⟨z, j, z.cps.toList[j], rfl, rfl, h, atI_nat (List.getElem?_eq_getElem hz), ?_⟩)
      have e : ((letts z).map V.str)[j] = V.str ⟨#[z.cps.toList[j]]⟩ := by
        simp [letts, one]
      rw [← e]
      exact k _ _ mem D' B
theorem scDeck : FnScope ["_law_script", "_law_cells", "_law_blend", "_law_cell"] ["_law_script"] (defScope sDeck) := ⟨rfl, rfl, rfl, by decide +kernel, rfl, by decide +kernel, by decide +kernel⟩
theorem ok_deck {f : Addr} {fd : FuncData} (F : Fun K "_law_deck" "_law_deck" sDeck f fd) (T : Blt mg) : FnOk P w K mg base CX0 1 f fd ["_law_script"] (spDeck K) := by
  refine F.ok scDeck (fun vs H Q E h => ?_) (fun cdv A outer s H vs Q E hr h => ?_)
  · obtain ⟨a, ns, rfl, _⟩ := h
    rfl
  · obtain ⟨a, ns, rfl, hS, hlen, k⟩ := h
    refine ⟨_, pss_cons (ps_par (i := 1) (j := 2) rfl scDeck.nd rfl rfl (by decide) rfl rfl (pa_cons (pe_callTy call_list_of (by rfl) T.list (by decide +kernel) (pa_cons (pe_slice sl_list (pv 0) po_none (po_some pe_int)) pa_nil)) (pa_cons pe_int pa_nil)) (by rfl))
      (pss_cons (ps_for PassesOwn.never rfl (pi_list (pv 1)) (pg_name (i := 3) scDeck.nd rfl (Or.inl rfl))
        (pss_one (ps_set (i := 2) scDeck.nd rfl (Or.inl rfl) (pe_op op_mod (pe_callTy call_int1 (by rfl) T.int (by decide +kernel) (pa_cons (pe_op op_add (pe_op op_add (pe_op op_mul (pv 2) pe_int) (pe_op op_mod (pe_callTy call_int1 (by rfl) T.int (by decide +kernel) (pa_cons (pv 3) pa_nil)) pe_int)) pe_int) pa_nil)) pe_int))))
      (pss_one (ps_ret (pe_lst (pa_cons (pe_revL (pv 1)) (pa_cons (pv 2) (pa_cons pe_int pa_nil))))))), ?_⟩
    obtain ⟨ms, em, hm⟩ := cut_ints ns none (some 63)
    refine ⟨_, rfl, _, rfl, a, _, rfl, hS, fun p hp => ⟨p, _, rfl, .inl (SqL.of upd_same), fun l hl => ⟨_, _, rfl, ?_⟩⟩⟩
    rw [em]
    have s1 : Same H (upd H p (.lst (ms.map V.int))) := Same.upd hp
    have hl' : (upd H p (.lst (ms.map V.int))) l = none := by rw [← em]; exact hl
    have s2 : Same H (upd (upd H p (.lst (ms.map V.int))) l (.lst (ms.map V.int))) := s1.trans (Same.upd hl')
    have h2 : (upd (upd H p (.lst (ms.map V.int))) l (.lst (ms.map V.int))) l = some (.lst (ms.map V.int)) := upd_same
    revert s2 h2
    generalize upd (upd H p (.lst (ms.map V.int))) l (.lst (ms.map V.int)) = H2
    intro s2 h2
    refine ⟨_, rfl, l, rfl, ⟨_, SqL.of h2⟩, for_list (K := K) (a := l) (xs := ms.map V.int) (fun i σ H' => ∃ (b : Int) (v : Option V), σ = [some (.ref a), some (.ref l), some (.int b), v] ∧ H' = H2)
      ⟨_, none, rfl, rfl⟩ (fun i σ H' _ ⟨_, _, _, e⟩ => by rw [e]; exact SqL.of h2) ?_ ?_⟩
    · rintro i y σ H' hi ⟨b, v, rfl, rfl⟩
      obtain ⟨z, rfl⟩ : ∃ z, y = V.int z := by
        rw [List.getElem?_map] at hi
        cases e : ms[i]? with
        | none => rw [e] at hi; cases hi
        | some z => rw [e] at hi; exact ⟨z, (Option.some.inj hi).symm⟩
      refine ⟨_, rfl, _, _, rfl, rfl, .inr (by decide), _, rfl, .inl ⟨_, rfl, _, _, rfl, rfl, (by show (0 : Int) < _; decide), _, _, rfl, rfl, _, _, rfl, rfl, .inl ⟨_, rfl, _, _, rfl, rfl, (by show (0 : Int) < _; decide), ?_⟩⟩⟩
      exact ⟨_, _, rfl, rfl⟩
    · rintro σ H' ⟨b, v, rfl, rfl⟩
      refine ⟨_, rfl, l, _, rfl, SqL.of h2, fun c hc => ⟨_, rfl, (by show 3 ≤ sizeLine; decide), fun d hd => ?_⟩⟩
      have ndc : d ≠ c := fun e => by rw [e, upd_same] at hd; cases hd
      have hd' : H' d = none := by rw [upd_ne ndc] at hd; exact hd
      refine k _ d c (s2.free hd') (s2.free hc) ⟨Ne.symm ndc, b, ms.reverse, upd_same, ?_, ?_⟩ (s2.trans ((Same.upd hc).trans (Same.upd hd)))
      · rw [upd_ne (Ne.symm ndc), upd_same, List.map_reverse]
      · rw [List.length_reverse]; omega
end
end K06

set_option Elab.async false
set_option linter.all false
set_option maxRecDepth 100000
set_option maxHeartbeats 2000000
namespace K06
open PySem PySem.Spec PyProof.Rows L2 Ami
section
variable {P : Program} {w : World} {K : PySem.W.Frag} {mg : Str → Option Value} {base : Heap}
theorem pool_letts : letts (Str.ofString "abcdehmxyz") = Ami.pool.map one := by decide +kernel
theorem scSigns : FnScope ["_law_deck_here", "_law_top", "_law_pool", "_law_found", "_law_k"] ["_law_deck_here", "_law_top"] (defScope sSigns) := ⟨rfl, rfl, rfl, by decide +kernel, rfl, by decide +kernel, by decide +kernel⟩
theorem ok_signs {f f1 : Addr} {fd fd1 : FuncData} (F : Fun K "_law_signs" "_law_signs" sSigns f fd) (T : Blt mg) (D1 : DefAt K mg "_law_draw" sDraw ["_law_deck_here", "_law_bound"] f1 fd1) : FnOk P w K mg base CX0 2 f fd ["_law_deck_here", "_law_top"] spSigns := by
  have G1 : FnOk P w K mg base CX0 1 f1 fd1 ["_law_deck_here", "_law_bound"] spDraw := ok_draw D1.F T
  refine F.ok scSigns (fun vs H Q E h => ?_) (fun cdv A outer s H vs Q E hr h => ?_)
  · obtain ⟨d, c, n, tp, rfl, _⟩ := h
    rfl
  · obtain ⟨d, c, n, tp, rfl, ht1, ht2, hn, D, k⟩ := h
    refine ⟨_, pss_cons (ps_par (i := 2) (j := 3) rfl scSigns.nd rfl rfl (by decide) rfl rfl (pa_cons (pe_callTy (cr_listStr rfl) (by rfl) T.list (by decide +kernel) (pa_cons pe_str pa_nil)) (pa_cons (pe_lst pa_nil) pa_nil)) (by rfl))
      (pss_cons (ps_for PassesOwn.never rfl (pi_range1 rfl T.range (pa_cons (pe_op op_add pe_int (pc D1 G1 hr (pa_cons (pv 0) (pa_cons (pe_op op_sub (pv 1) pe_int) pa_nil)))) pa_nil)) (pg_name (i := 4) scSigns.nd rfl (Or.inl rfl))
        (pss_one (ps_expr (pe_bm PySem.F.plainAttrs_list PySem.F.slot_list_append PySem.F.type_list_append mt_append (pv 3)
          (pa_cons (pe_bm PySem.F.plainAttrs_list PySem.F.slot_list_pop PySem.F.type_list_pop mt_popAt (pv 2) (pa_cons (pc D1 G1 hr (pa_cons (pv 0) (pa_cons (pe_callB call_len (by rfl) T.len PySem.boot_len (pa_cons (pv 2) pa_nil)) pa_nil))) pa_nil)) pa_nil)))))
      (pss_one (ps_ret (pe_join pe_str (pe_callB cr_sortedS (by rfl) T.sorted (by decide +kernel) (pa_cons (pv 3) pa_nil)))))), ?_⟩
    refine ⟨_, rfl, (by decide), fun p hp => ⟨Nat.zero_le _, fun q hq => ⟨_, _, rfl, ?_⟩⟩⟩
    rw [pool_letts] at hq ⊢
    have npq : q ≠ p := fun e => by rw [e, upd_same] at hq; cases hq
    have hq' : H q = none := by rw [upd_ne npq] at hq; exact hq
    obtain ⟨pd, pcc⟩ := D.ned hp
    obtain ⟨qd, qcc⟩ := D.ned hq'
    have D2 : DeckAt (upd (upd H p (.lst ((Ami.pool.map one).map V.str))) q (.lst [])) d c n := (D.new hp).new hq
    have B2 : But d c H (upd (upd H p (.lst ((Ami.pool.map one).map V.str))) q (.lst [])) := ((But.refl d c H).new hp).new hq
    have hp2 : (upd (upd H p (.lst ((Ami.pool.map one).map V.str))) q (.lst [])) p = some (.lst ((Ami.pool.map one).map V.str)) := by rw [upd_ne (Ne.symm npq), upd_same]
    have hq2 : (upd (upd H p (.lst ((Ami.pool.map one).map V.str))) q (.lst [])) q = some (.lst []) := upd_same
    revert D2 B2 hp2 hq2
    generalize upd (upd H p (.lst ((Ami.pool.map one).map V.str))) q (.lst []) = H2
    intro D2 B2 hp2 hq2
    refine ⟨_, rfl, _, rfl, _, _, rfl, rfl, ?_⟩
    refine ⟨d, c, n, _, rfl, by omega, by omega, by omega, D2, fun H3 r h0 h1 D3 B3 => ⟨_, _, rfl, rfl, _, rfl, by omega, by omega, ?_⟩⟩
    obtain ⟨j, rfl⟩ : ∃ j : Nat, r = j := ⟨r.toNat, by omega⟩
    have ej : (2 + (j : Int)).toNat = 2 + j := by omega
    rw [ej]
    have hj : j + 2 ≤ tp := by omega
    refine for_range (lo := 0) (n := 2 + j) (fun i σ H' => ∃ (v : Option V) (ps fs : List Nat), σ = [some (.ref d), some (.int tp), some (.ref p), some (.ref q), v] ∧ H' p = some (.lst ((ps.map one).map V.str)) ∧ H' q = some (.lst ((fs.map one).map V.str)) ∧
      fs.length = i ∧ (fs ++ ps).Perm Ami.pool ∧ DeckAt H' d c (n + 1 + i) ∧ But d c H H') ⟨none, Ami.pool, [], rfl, B3 _ _ pd pcc hp2, B3 _ _ qd qcc hq2, rfl, List.Perm.refl _, D3, B2.trans B3⟩ ?_ ?_
    · rintro i σ H' hi ⟨v, ps, fs, rfl, e1, e2, hl, pm, D4, B4⟩
      have hps : ps.length = 10 - i := by
        have := pm.length_eq
        rw [List.length_append, hl] at this
        have e : Ami.pool.length = 10 := rfl
        omega
      have e1l : ((ps.map one).map V.str).length = ps.length := by rw [List.length_map, List.length_map]
      refine ⟨_, rfl, .inl ⟨rfl, _, SqL.of e2⟩, _, rfl, .inl ⟨rfl, _, SqL.of e1⟩, _, rfl, _, rfl, _, _, rfl, .inl ⟨_, SqL.of e1, rfl⟩, ?_⟩
      rw [e1l]
      refine ⟨d, c, _, _, rfl, by omega, by omega, by omega, D4, fun H5 r h0 h1 D5 B5 => ?_⟩
      obtain ⟨m, rfl⟩ : ∃ m : Nat, r = m := ⟨r.toNat, by omega⟩
      have hm : m < ps.length := by omega
      have e1' := B5 _ _ pd pcc e1
      have e2' := B5 _ _ qd qcc e2
      have em : ((ps.map one).map V.str)[m]? = some (V.str (one ps[m])) := by rw [List.getElem?_map, List.getElem?_map, List.getElem?_eq_getElem hm]; rfl
      refine ⟨p, _, m, m, _, rfl, rfl, e1', by omega, by omega, ?_, em, ?_⟩
      · rw [seqIndex_of (by omega) (by rw [e1l]; omega)]; rfl
      · have er : ((ps.map one).map V.str).eraseIdx m = ((ps.eraseIdx m).map one).map V.str := by rw [eraseMap, eraseMap]
        rw [er]
        refine ⟨q, _, _, rfl, rfl, (by rw [upd_ne npq]; exact e2'), ?_, ?_⟩
        · rw [List.length_map, List.length_map, hl]
          exact Nat.lt_of_lt_of_le (by omega : i < 100) (by decide)
        · refine ⟨_, ps.eraseIdx m, fs ++ [ps[m]], rfl, ?_, ?_, ?_, ?_, ?_, ?_⟩
          · rw [upd_ne (Ne.symm npq), upd_same]
          · rw [upd_same, List.map_append, List.map_append]; rfl
          · rw [List.length_append, hl]; rfl
          · have g := erase_perm ps m ps[m] (List.getElem?_eq_getElem hm)
            have g2 : (fs ++ [ps[m]] ++ ps.eraseIdx m).Perm (fs ++ ps) := by
              rw [List.append_assoc]
              exact List.Perm.append_left fs g
            exact g2.trans pm
          · have D6 : DeckAt H5 d c (n + 1 + (i + 1)) := D5
            exact (D6.set pd pcc).set qd qcc
          · intro b o h1 h2 e
            have e' := (B4.trans B5) b o h1 h2 e
            have nb : b ≠ p := ne_of_none e hp
            have nb2 : b ≠ q := ne_of_none e hq'
            rw [upd_ne nb2, upd_ne nb]
            exact e'
    · rintro σ H' ⟨v, ps, fs, rfl, e1, e2, hl, pm, D4, B4⟩
      refine ⟨⟨_, rfl⟩, _, rfl, q, fs.map one, rfl, SqL.of e2, ?_, fun ys z hy hs hz => ?_⟩
      · rw [List.length_map, hl]
        omega
      · obtain ⟨cs, rfl, hcs⟩ := unmap_ones hy
        have hcl : cs.length = 2 + j := by rw [hcs.length_eq]; exact hl
        refine ⟨_, z, cs.map one, rfl, rfl, .inl (SqL.of upd_same), ?_, ?_⟩
        · have e : (cs.map one).map (fun x : Str => x.length) = List.replicate cs.length 1 := by
            rw [List.map_map]
            exact List.eq_replicate_iff.mpr ⟨by rw [List.length_map], fun b hb => by obtain ⟨c, _, rfl⟩ := List.mem_map.mp hb; rfl⟩
          rw [e, List.sum_replicate_nat, List.length_map]
          have e0 : (Str.ofString "").length = 0 := by decide +kernel
          rw [e0]; omega
        · have e0 : Str.ofString "" = ⟨#[]⟩ := by decide +kernel
          rw [e0, joinOnes]
          have nd : cs.Nodup := by
            have : (fs ++ ps).Nodup := pm.nodup_iff.mpr (by decide)
            exact hcs.nodup_iff.mpr (List.nodup_append.mp this).1
          refine k _ _ (n + 1 + (2 + j)) ⟨cs, rfl, lt_of_le (sorted_ones hs) nd, by omega, by omega, fun c hc => ?_⟩ (by omega) (D4.new hz) (B4.new hz)
          exact pm.mem_iff.mp (List.mem_append_left _ (hcs.mem_iff.mp hc))
end
end K06

set_option Elab.async false
set_option linter.all false
set_option maxRecDepth 100000
set_option maxHeartbeats 2000000
namespace Ami
open PySem PySem.Spec PyProof.Rows L2
/-- whether x is a text, and which -/
def IsT (K : PySem.W.Frag) (H : Hp) (x : V) : Option Str → Prop
  | some z => x = .str z ∧ z.length ≤ 100000 ∧ Asc z
  | none => ∃ t, TyX K H x t ∧ PySem.W.kitOne K t (.type "str") = some false
def isWordB (ls z : Str) : Bool := z.cps.toList.all fun c => decide (c ∈ ls.cps.toList)
def wordO (ls : Str) : Option Str → Bool
  | some z => isWordB ls z
  | none => false
/-- is_word -/
def spIsWord (K : PySem.W.Frag) : Sp := fun vs H Q _ => ∃ (ls : Str) (x : V) (o : Option Str), vs = [.str ls, x] ∧ IsT K H x o ∧ ∀ H', Same H H' → Q (.bl (wordO ls o)) H'
theorem IsT.ty {K : PySem.W.Frag} {H : Hp} {x : V} {o : Option Str} (h : IsT K H x o) : ∃ t, TyX K H x t ∧ PySem.W.kitOne K t (.type "str") = some o.isSome := by
  cases o with
  | none => exact h
  | some z =>
    obtain ⟨rfl, _⟩ := h
    exact ⟨_, .base (.str z), show PySem.W.kitOne K (.type "str") (.type "str") = some true from kit_ty (by decide +kernel)⟩
theorem take_next {α : Type} {l : List α} {i : Nat} {c : α} (h : l[i]? = some c) : l.take (i + 1) = l.take i ++ [c] := by
  rw [List.take_succ, h]; rfl
theorem small5 {n : Nat} (h : n ≤ 100000) : n < sizeLine := Nat.lt_of_le_of_lt h (by decide)
end Ami
namespace K06
open PySem PySem.Spec PyProof.Rows L2 Ami
section
variable {P : Program} {w : World} {K : PySem.W.Frag} {mg : Str → Option Value} {base : Heap}
theorem scWord : FnScope ["letters", "thing", "letter"] ["letters", "thing"] (defScope sWord) := ⟨rfl, rfl, rfl, by decide +kernel, rfl, by decide +kernel, by decide +kernel⟩
theorem ok_word {f : Addr} {fd : FuncData} (F : Fun K "is_word" "is_word" sWord f fd) (T : Blt mg) : FnOk P w K mg base CX0 1 f fd ["letters", "thing"] (spIsWord K) := by
  refine F.ok scWord (fun vs H Q E h => ?_) (fun cdv A outer s H vs Q E hr h => ?_)
  · obtain ⟨ls, x, o, rfl, _⟩ := h
    rfl
  · obtain ⟨ls, x, o, rfl, ho, k⟩ := h
    refine ⟨_, pss_one (ps_ret (pe_and (pe_callB call_isi (by rfl) T.isi (by decide +kernel) (pa_cons (pv 1) (pa_cons (pe_bltn (v := .ty "str") (by rfl) T.str (by decide +kernel) rfl) pa_nil)))
      (pe_one (pe_callB (cr_all rfl) (by rfl) T.all (by decide +kernel) (pa_cons (pe_lc (own := [("letter", 2)]) (g := gName 2) (tt := tYes) rfl scWord.nd (pi_str (pv 1)) (blkOk_by (own := [("letter", 2)]) (N := ["letters", "thing", "letter"]) (sc := defScope sWord) (by decide +kernel))
        (fun _ _ _ _ _ => pg_name (i := 2) scWord.nd rfl (Or.inl rfl)) (fun _ _ _ _ _ => pts_nil) (fun _ _ _ _ _ => pe_cmpR op_in_sign (pv 2) (pv 0) (by rfl))) pa_nil))))), ?_⟩
    obtain ⟨t, ht, hk⟩ := ho.ty
    refine ⟨_, rfl, x, .ty "str", t, .type "str", _, rfl, .ty _, ht, hk, _, rfl, ?_⟩
    cases o with
    | none => exact iteF (k H (Same.refl H))
    | some z =>
      obtain ⟨rfl, hz, hA⟩ := ho
      refine iteT ?_
      refine ⟨_, rfl, z, rfl, fun D hD => lc_it walk_str (fun i H' => H' = upd H D (.lst (((z.cps.toList.take i).map fun c => decide (c ∈ ls.cps.toList)).map V.bl))) rfl (fun _ _ _ _ => trivial) ?_ ?_⟩
      · rintro i y H1 H2 hi rfl ⟨rfl, c, hc, rfl⟩
        refine ⟨rfl, ?_⟩
        dsimp only [tYes]
        refine iteT ?_
        refine ⟨_, rfl, _, rfl, c, ls, rfl, rfl, _, upd_same, ?_, ?_⟩
        · rw [List.length_map, List.length_map, List.length_take]
          exact small5 (Nat.le_trans (Nat.min_le_left _ _) (Nat.le_trans (Nat.le_of_lt hi) hz))
        · have e : z.cps.toList[i]? = some c := by rw [Array.getElem?_toList]; exact hc
          rw [upd_upd, Ami.take_next e, List.map_append, List.map_append]; rfl
      · rintro H1 rfl
        refine ⟨D, _, rfl, SqL.of upd_same, ?_⟩
        have e : (((z.cps.toList.take z.cps.size).map fun c => decide (c ∈ ls.cps.toList)).all id) = isWordB ls z := by
          rw [List.take_of_length_le (by rw [Array.length_toList]; exact Nat.le_refl _), List.all_map]; rfl
        rw [e]
        exact k _ (Same.upd hD)
end
end K06

set_option Elab.async false
set_option linter.all false
set_option maxRecDepth 100000
set_option maxHeartbeats 2000000
namespace Ami
open PySem PySem.Spec PyProof.Rows L2
def alpha : Str := Str.ofString "abcdefghijklmnopqrstuvwxyz"
def isLetB (z : Str) : Bool := if 2 ≤ z.length ∧ z.length ≤ 5 then isWordB alpha z && decide (z.cps.toList.Pairwise (· < ·)) else false
def letO : Option Str → Bool
  | some z => isLetB z
  | none => false
/-- is_letters -/
def spIsLetters (K : PySem.W.Frag) : Sp := fun vs H Q _ => ∃ (x : V) (o : Option Str), vs = [x] ∧ IsT K H x o ∧ ∀ H', Same H H' → Q (.bl (letO o)) H'
/-- a set of signs: its texts -/
theorem keys_texts {l : List Key} (h : ∀ k ∈ l, ∃ x, k = Sum.inr x) (nd : l.Nodup) : ∃ ss : List Str, l = ss.map Sum.inr ∧ ss.Nodup := by
  induction l with
  | nil => exact ⟨[], rfl, List.nodup_nil⟩
  | cons k r ih =>
    obtain ⟨n1, n2⟩ := List.nodup_cons.mp nd
    obtain ⟨ss, e, ns⟩ := ih (fun k hk => h k (List.mem_cons_of_mem _ hk)) n2
    obtain ⟨x, rfl⟩ := h k List.mem_cons_self
    refine ⟨x :: ss, by rw [e]; rfl, List.nodup_cons.mpr ⟨fun m => n1 ?_, ns⟩⟩
    rw [e]
    exact List.mem_map.mpr ⟨x, m, rfl⟩
theorem ones_of {ss : List Str} {z : Str} (h : ∀ x, x ∈ ss ↔ x ∈ letts z) (nd : ss.Nodup) : ∃ cs : List Nat, ss = cs.map one ∧ cs.Nodup ∧ ∀ c, c ∈ cs ↔ c ∈ z.cps.toList := by
  have e : ss = (ss.map fun y => y.cps.getD 0 0).map one := by
    rw [List.map_map]
    conv => lhs; rw [← List.map_id ss]
    refine List.map_congr_left fun y hy => ?_
    obtain ⟨c, _, rfl⟩ := List.mem_map.mp ((h y).mp hy)
    rfl
  refine ⟨_, e, ?_, fun c => ?_⟩
  · rw [e] at nd
    exact (List.pairwise_map.mp nd).imp fun hne q => hne (congrArg one q)
  · constructor
    · intro hc
      obtain ⟨y, hy, rfl⟩ := List.mem_map.mp hc
      obtain ⟨d, hd, rfl⟩ := List.mem_map.mp ((h y).mp hy)
      exact hd
    · intro hc
      have : one c ∈ ss := (h _).mpr (List.mem_map.mpr ⟨c, hc, rfl⟩)
      exact List.mem_map.mpr ⟨one c, this, rfl⟩
end Ami
namespace K06
open PySem PySem.Spec PyProof.Rows L2 Ami
/-- the constants of words.py -/
structure Cst (mg : Str → Option Value) : Prop where
  few : ∃ t, mg "FEWEST_LETTERS" = some (.int 2 t)
  most : ∃ t, mg "MOST_LETTERS" = some (.int 5 t)
  alpha : ∃ t, mg "ALPHABET" = some (.str alpha t)
  long : ∃ t, mg "LONGEST_KIND" = some (.int 8 t)
  digits : ∃ t, mg "DIGITS" = some (.str (Str.ofString "0123456789") t)
section
variable {P : Program} {w : World} {K : PySem.W.Frag} {mg : Str → Option Value} {base : Heap}
theorem scLetters : FnScope ["thing"] ["thing"] (defScope sLetters) := ⟨rfl, rfl, rfl, by decide +kernel, rfl, by decide +kernel, by decide +kernel⟩
theorem ok_letters {f f1 : Addr} {fd fd1 : FuncData} (F : Fun K "is_letters" "is_letters" sLetters f fd) (T : Blt mg) (C : Cst mg) (D1 : DefAt K mg "is_word" sWord ["letters", "thing"] f1 fd1) : FnOk P w K mg base CX0 2 f fd ["thing"] (spIsLetters K) := by
  have G1 : FnOk P w K mg base CX0 1 f1 fd1 ["letters", "thing"] (spIsWord K) := ok_word D1.F T
  obtain ⟨⟨t1, c1⟩, ⟨t2, c2⟩, ⟨t3, c3⟩, _, _⟩ := C
  refine F.ok scLetters (fun vs H Q E h => ?_) (fun cdv A outer s H vs Q E hr h => ?_)
  · obtain ⟨x, o, rfl, _⟩ := h
    rfl
  · obtain ⟨x, o, rfl, ho, k⟩ := h
    refine ⟨_, pss_cons (ps_if (PW.pt (pw_or (pt_not (pt_val (pe_callB call_isi (by rfl) T.isi (by decide +kernel) (pa_cons (pv 0) (pa_cons (pe_bltn (v := .ty "str") (by rfl) T.str (by decide +kernel) rfl) pa_nil)))))
        (pw_or1 (pt_not (pt_chain op_le op_le (pe_glob (v := .int 2) (by rfl) c1 ⟨_, rfl⟩) (pe_callB call_len (by rfl) T.len PySem.boot_len (pa_cons (pv 0) pa_nil)) (pe_glob (v := .int 5) (by rfl) c2 ⟨_, rfl⟩)))))) (pss_one (ps_ret pe_bl)) pss_nil)
      (pss_one (ps_ret (pe_and (pc D1 G1 hr (pa_cons (pe_glob (v := .str alpha) (by rfl) c3 ⟨_, rfl⟩) (pa_cons (pv 0) pa_nil)))
        (pe_one (pe_cmpR op_eq (pv 0) (pe_join pe_str (pe_callB (cr_sortedW rfl) (by rfl) T.sorted (by decide +kernel) (pa_cons (pe_callTy (cr_setStr rfl) (by rfl) T.set (by decide +kernel) (pa_cons (pv 0) pa_nil)) pa_nil))) (nomark _)))))), ?_⟩
    obtain ⟨t, ht, hk⟩ := ho.ty
    refine ⟨_, rfl, x, .ty "str", t, .type "str", _, rfl, .ty _, ht, hk, _, rfl, ?_⟩
    cases o with
    | none => exact iteT (iteT (k H (Same.refl H)))
    | some z =>
      obtain ⟨rfl, hz, hA⟩ := ho
      have no : ∀ b : Bool, b = isLetB z → ∀ H', Same H H' → Q (.bl b) H' := fun b e H' s => by rw [e]; exact k H' s
      refine iteF ?_
      refine ⟨_, rfl, _, _, rfl, ⟨Nat.le_of_lt (small5 hz), rfl⟩, _, _, rfl, rfl, _, rfl, ?_⟩
      refine ite2 (fun a => ?_) (fun a => ?_)
      · refine ⟨_, _, rfl, rfl, _, rfl, ?_⟩
        refine ite2 (fun b => ?_) (fun b => ?_)
        · refine no false ?_ H (Same.refl H)
          have b' : ¬ (((z.length : Nat) : Int) ≤ 5) := by simpa using b
          unfold isLetB
          rw [if_neg (by omega)]
        · have a' : (2 : Int) ≤ ((z.length : Nat) : Int) := by simpa using a
          have b' : ((z.length : Nat) : Int) ≤ 5 := by simpa using b
          have hab : 2 ≤ z.length ∧ z.length ≤ 5 := by omega
          refine ⟨_, rfl, alpha, _, some z, rfl, ⟨rfl, hz, hA⟩, fun H1 s1 => ⟨_, rfl, ?_⟩⟩
          have e0 : isLetB z = (isWordB alpha z && decide (z.cps.toList.Pairwise (· < ·))) := by unfold isLetB; rw [if_pos hab]
          refine ite2 (fun hw => ?_) (fun hw => ?_)
          · have hw' : isWordB alpha z = true := hw
            refine ⟨_, rfl, ⟨_, rfl⟩, _, rfl, z, rfl, Nat.lt_of_le_of_lt hab.2 (by decide), fun p l hp nd m1 m2 => ?_⟩
            obtain ⟨ss, rfl, ns⟩ := keys_texts m2 nd
            have m3 : ∀ x, x ∈ ss ↔ x ∈ letts z := fun x => by
              rw [← m1 x]
              exact ⟨fun h => List.mem_map.mpr ⟨x, h, rfl⟩, fun h => by obtain ⟨y, hy, e⟩ := List.mem_map.mp h; cases e; exact hy⟩
            obtain ⟨cs, rfl, nc, mc⟩ := ones_of m3 ns
            have hcl : cs.length ≤ 5 := by
              have q := nat_nodup_len cs z.cps.toList nc fun c hc => (mc c).mp hc
              rw [Array.length_toList] at q
              exact Nat.le_trans q hab.2
            refine ⟨p, cs.map one, rfl, upd_same, by rw [List.length_map]; omega, fun ys q hy hs hq => ?_⟩
            obtain ⟨ds, rfl, hd⟩ := unmap_ones hy
            have hlt : ds.Pairwise (· < ·) := lt_of_le (sorted_ones hs) (hd.nodup_iff.mpr nc)
            refine ⟨_, q, ds.map one, rfl, rfl, .inl (SqL.of upd_same), ?_, rfl, ?_⟩
            · have e : (ds.map one).map (fun x : Str => x.length) = List.replicate ds.length 1 := by
                rw [List.map_map]
                exact List.eq_replicate_iff.mpr ⟨by rw [List.length_map], fun b hb => by obtain ⟨c, _, rfl⟩ := List.mem_map.mp hb; rfl⟩
              rw [e, List.sum_replicate_nat, List.length_map]
              have e0 : (Str.ofString "").length = 0 := by decide +kernel
              have := hd.length_eq
              rw [e0]; omega
            · have e1 : Str.ofString "" = ⟨#[]⟩ := by decide +kernel
              rw [e1, joinOnes]
              have e2 : decide (V.str z = V.str ⟨ds.toArray⟩) = isLetB z := by
                rw [e0, hw', Bool.true_and]
                refine decide_eq_decide.mpr ⟨fun h => ?_, fun h => ?_⟩
                · have h' : z = ⟨ds.toArray⟩ := V.str.inj h
                  rw [h']
                  exact hlt
                · have e3 : z.cps.toList = ds := rows_eq h hlt fun c => by rw [hd.mem_iff, mc c]
                  rw [← e3]
              exact no _ e2 _ (s1.trans ((Same.upd hp).trans (Same.upd hq)))
          · refine no false ?_ _ s1
            have hw' : isWordB alpha z = false := by
              have : ¬ isWordB alpha z = true := hw
              simpa using this
            rw [e0, hw']; rfl
      · refine ⟨_, rfl, ?_⟩
        refine iteT ?_
        refine no false ?_ H (Same.refl H)
        have a' : ¬ ((2 : Int) ≤ ((z.length : Nat) : Int)) := by simpa using a
        unfold isLetB
        rw [if_neg (by omega)]
end
end K06

set_option Elab.async false
set_option linter.all false
set_option maxRecDepth 100000
set_option maxHeartbeats 2000000
namespace Ami
open PySem PySem.Spec PyProof.Rows L2
theorem sqT_same {K : PySem.W.Frag} {H H' : Hp} (h : Same H H') {a : Addr} {xs : List V} (s : SqT K H a xs) : SqT K H' a xs := by
  rcases s with (s | ⟨o, s⟩) | s
  · exact .inl (.inl (h _ _ s))
  · exact .inl (.inr ⟨o, h _ _ s⟩)
  · exact .inr s
theorem tyx_tup {K : PySem.W.Frag} {H : Hp} {a : Addr} {xs : List V} (s : SqT K H a xs) : TyX K H (.ref a) (.type "tuple") := by
  rcases s with (s | ⟨o, s⟩) | ⟨o, _, _, e, c, _⟩
  · exact .base (.tup s)
  · exact .fTuple s
  · exact .kTuple e c
/-- an arrow -/
structure Arr where
  s : Int
  l : Str
  t : Int
  k : Str
deriving DecidableEq
def Arr.vs (r : Arr) : List V := [.int r.s, .str r.l, .int r.t, .str r.k]
/-- an arrow stands there -/
def AtA (K : PySem.W.Frag) (H : Hp) (v : V) (r : Arr) : Prop := ∃ p, v = .ref p ∧ SqT K H p r.vs
theorem AtA.same {K : PySem.W.Frag} {H H' : Hp} (h : Same H H') {v : V} {r : Arr} : AtA K H v r → AtA K H' v r := fun ⟨p, e, s⟩ => ⟨p, e, sqT_same h s⟩
/-- short plain texts -/
def Arr.short (r : Arr) : Prop := r.l.length ≤ 100000 ∧ Asc r.l ∧ r.k.length ≤ 100000 ∧ Asc r.k
def kindB (z : Str) : Bool := isWordB alpha z && (decide (1 ≤ z.length) && decide (z.length ≤ 8))
def letterB (ls z : Str) : Bool := isWordB ls z && decide (z.length = 1)
def stateB (n i : Int) : Bool := decide (0 ≤ i) && decide (i < n)
def arrowB (ls : Str) (n : Int) (r : Arr) : Bool := stateB n r.s && stateB n r.t && letterB ls r.l && (if r.t = 0 then kindB r.k else decide (r.k.length = 0))
theorem nb {b : Bool} (h : ¬ b = true) : b = false := by simpa using h
def spIsInt : Sp := fun vs H Q _ => ∃ i : Int, vs = [.int i] ∧ ∀ H', Same H H' → Q (.bl true) H'
def spKind : Sp := fun vs H Q _ => ∃ z : Str, vs = [.str z] ∧ z.length ≤ 100000 ∧ Asc z ∧ ∀ H', Same H H' → Q (.bl (kindB z)) H'
def spLetter : Sp := fun vs H Q _ => ∃ ls z : Str, vs = [.str ls, .str z] ∧ z.length ≤ 100000 ∧ Asc z ∧ ∀ H', Same H H' → Q (.bl (letterB ls z)) H'
def spState : Sp := fun vs H Q _ => ∃ n i : Int, vs = [.int n, .int i] ∧ ∀ H', Same H H' → Q (.bl (stateB n i)) H'
def spArrow (K : PySem.W.Frag) : Sp := fun vs H Q _ => ∃ (ls : Str) (n : Int) (x : V) (r : Arr), vs = [.str ls, .int n, x] ∧ AtA K H x r ∧ r.short ∧ ∀ H', Same H H' → Q (.bl (arrowB ls n r)) H'
end Ami
namespace K06
open PySem PySem.Spec PyProof.Rows L2 Ami
section
variable {P : Program} {w : World} {K : PySem.W.Frag} {mg : Str → Option Value} {base : Heap}
theorem scIsInt : FnScope ["thing"] ["thing"] (defScope sIsInt) := ⟨rfl, rfl, rfl, by decide +kernel, rfl, by decide +kernel, by decide +kernel⟩
theorem ok_isInt {f : Addr} {fd : FuncData} (F : Fun K "is_integer" "is_integer" sIsInt f fd) (T : Blt mg) : FnOk P w K mg base CX0 1 f fd ["thing"] spIsInt := by
  refine F.ok scIsInt (fun vs H Q E h => ?_) (fun cdv A outer s H vs Q E hr h => ?_)
  · obtain ⟨i, rfl, _⟩ := h
    rfl
  · obtain ⟨i, rfl, k⟩ := h
    refine ⟨_, pss_one (ps_ret (pe_and (pe_callB call_isi (by rfl) T.isi (by decide +kernel) (pa_cons (pv 0) (pa_cons (pe_bltn (v := .ty "int") (by rfl) T.int (by decide +kernel) rfl) pa_nil)))
      (pe_one (pe_not (pe_callB call_isi (by rfl) T.isi (by decide +kernel) (pa_cons (pv 0) (pa_cons (pe_bltn (v := .ty "bool") (by rfl) T.bool (by decide +kernel) rfl) pa_nil))))))), ?_⟩
    refine ⟨_, rfl, .int i, .ty "int", .type "int", .type "int", true, rfl, .ty _, .base (.int i), kit_ty (by decide +kernel), _, rfl, ?_⟩
    refine iteT ?_
    refine ⟨_, rfl, .int i, .ty "bool", .type "int", .type "bool", false, rfl, .ty _, .base (.int i), kit_ty (by decide +kernel), _, rfl, ?_⟩
    exact k _ (Same.refl _)
theorem scKind : FnScope ["thing"] ["thing"] (defScope sKind) := ⟨rfl, rfl, rfl, by decide +kernel, rfl, by decide +kernel, by decide +kernel⟩
theorem ok_kind {f f1 : Addr} {fd fd1 : FuncData} (F : Fun K "is_kind" "is_kind" sKind f fd) (T : Blt mg) (C : Cst mg) (D1 : DefAt K mg "is_word" sWord ["letters", "thing"] f1 fd1) : FnOk P w K mg base CX0 2 f fd ["thing"] spKind := by
  have G1 : FnOk P w K mg base CX0 1 f1 fd1 ["letters", "thing"] (spIsWord K) := ok_word D1.F T
  obtain ⟨t3, c3⟩ := C.alpha
  obtain ⟨t4, c4⟩ := C.long
  refine F.ok scKind (fun vs H Q E h => ?_) (fun cdv A outer s H vs Q E hr h => ?_)
  · obtain ⟨z, rfl, _⟩ := h
    rfl
  · obtain ⟨z, rfl, hz, hA, k⟩ := h
    refine ⟨_, pss_one (ps_ret (pe_and (pc D1 G1 hr (pa_cons (pe_glob (v := .str alpha) (by rfl) c3 ⟨_, rfl⟩) (pa_cons (pv 0) pa_nil)))
      (pe_one (pe_chain op_le op_le pe_int (pe_callB call_len (by rfl) T.len PySem.boot_len (pa_cons (pv 0) pa_nil)) (pe_glob (v := .int 8) (by rfl) c4 ⟨_, rfl⟩))))), ?_⟩
    refine ⟨_, rfl, alpha, .str z, some z, rfl, ⟨rfl, hz, hA⟩, fun H1 s1 => ⟨isWordB alpha z, rfl, ?_⟩⟩
    have no : ∀ b : Bool, b = kindB z → ∀ H', Same H H' → Q (.bl b) H' := fun b e H' s => by rw [e]; exact k H' s
    refine ite2 (fun hw => ?_) (fun hw => no _ (by unfold kindB; rw [nb hw]; rfl) _ s1)
    refine ⟨_, rfl, _, z.length, rfl, ⟨Nat.le_of_lt (small5 hz), rfl⟩, _, _, rfl, rfl, _, rfl, ?_⟩
    refine ite2 (fun a => ?_) (fun a => no _ ?_ _ s1)
    · refine ⟨_, _, rfl, rfl, no _ ?_ _ s1⟩
      unfold kindB
      rw [hw]
      have a' : (1 : Int) ≤ ((z.length : Nat) : Int) := by simpa using a
      rw [decide_eq_true (show 1 ≤ z.length by omega), Bool.true_and, Bool.true_and]
      exact decide_eq_decide.mpr (by omega)
    · unfold kindB
      have a' : ¬ ((1 : Int) ≤ ((z.length : Nat) : Int)) := by simpa using a
      rw [decide_eq_false (show ¬ 1 ≤ z.length by omega), Bool.false_and, Bool.and_false]
theorem scLetter : FnScope ["letters", "thing"] ["letters", "thing"] (defScope sLetter) := ⟨rfl, rfl, rfl, by decide +kernel, rfl, by decide +kernel, by decide +kernel⟩
theorem ok_letter {f f1 : Addr} {fd fd1 : FuncData} (F : Fun K "is_letter" "is_letter" sLetter f fd) (T : Blt mg) (D1 : DefAt K mg "is_word" sWord ["letters", "thing"] f1 fd1) : FnOk P w K mg base CX0 2 f fd ["letters", "thing"] spLetter := by
  have G1 : FnOk P w K mg base CX0 1 f1 fd1 ["letters", "thing"] (spIsWord K) := ok_word D1.F T
  refine F.ok scLetter (fun vs H Q E h => ?_) (fun cdv A outer s H vs Q E hr h => ?_)
  · obtain ⟨ls, z, rfl, _⟩ := h
    rfl
  · obtain ⟨ls, z, rfl, hz, hA, k⟩ := h
    refine ⟨_, pss_one (ps_ret (pe_and (pc D1 G1 hr (pa_cons (pv 0) (pa_cons (pv 1) pa_nil))) (pe_one (pe_cmpR op_eq (pe_callB call_len (by rfl) T.len PySem.boot_len (pa_cons (pv 1) pa_nil)) pe_int (nomark _))))), ?_⟩
    refine ⟨_, rfl, _, rfl, ls, .str z, some z, rfl, ⟨rfl, hz, hA⟩, fun H1 s1 => ⟨isWordB ls z, rfl, ?_⟩⟩
    have no : ∀ b : Bool, b = letterB ls z → ∀ H', Same H H' → Q (.bl b) H' := fun b e H' s => by rw [e]; exact k H' s
    refine ite2 (fun hw => ?_) (fun hw => no _ (by unfold letterB; rw [nb hw]; rfl) _ s1)
    refine ⟨_, rfl, _, z.length, rfl, ⟨Nat.le_of_lt (small5 hz), rfl⟩, rfl, no _ ?_ _ s1⟩
    unfold letterB
    rw [hw, Bool.true_and, dec_int]
    exact Bool.eq_iff_iff.mpr (by simp; omega)
theorem scState : FnScope ["states", "thing"] ["states", "thing"] (defScope sState) := ⟨rfl, rfl, rfl, by decide +kernel, rfl, by decide +kernel, by decide +kernel⟩
theorem ok_state {f f1 : Addr} {fd fd1 : FuncData} (F : Fun K "is_state" "is_state" sState f fd) (T : Blt mg) (D1 : DefAt K mg "is_integer" sIsInt ["thing"] f1 fd1) : FnOk P w K mg base CX0 2 f fd ["states", "thing"] spState := by
  have G1 : FnOk P w K mg base CX0 1 f1 fd1 ["thing"] spIsInt := ok_isInt D1.F T
  refine F.ok scState (fun vs H Q E h => ?_) (fun cdv A outer s H vs Q E hr h => ?_)
  · obtain ⟨n, i, rfl, _⟩ := h
    rfl
  · obtain ⟨n, i, rfl, k⟩ := h
    refine ⟨_, pss_one (ps_ret (pe_and (pc D1 G1 hr (pa_cons (pv 1) pa_nil)) (pe_one (pe_chain op_le op_lt pe_int (pv 1) (pv 0))))), ?_⟩
    refine ⟨_, rfl, i, rfl, fun H1 s1 => ⟨true, rfl, ?_⟩⟩
    refine iteT ?_
    have no : ∀ b : Bool, b = stateB n i → ∀ H', Same H H' → Q (.bl b) H' := fun b e H' s => by rw [e]; exact k H' s
    refine ⟨_, rfl, _, _, rfl, rfl, _, rfl, ?_⟩
    refine ite2 (fun a => ?_) (fun a => no _ (by unfold stateB; rw [nb a]; rfl) _ s1)
    refine ⟨_, rfl, _, _, rfl, rfl, no _ ?_ _ s1⟩
    unfold stateB
    rw [a]; rfl
end
end K06

set_option Elab.async false
set_option linter.all false
set_option maxRecDepth 100000
set_option maxHeartbeats 2000000
namespace Ami
open PySem PySem.Spec PyProof.Rows L2
theorem str_empty {z : Str} : decide (V.str z = V.str "") = decide (z.length = 0) := by
  refine decide_eq_decide.mpr ⟨fun h => ?_, fun h => ?_⟩
  · rw [V.str.inj h]; decide +kernel
  · congr 1
    have : z.cps = #[] := Array.eq_empty_of_size_eq_zero h
    have e : (Str.ofString "").cps = #[] := by decide +kernel
    cases z
    simp only at this
    rw [this]
    exact (by decide +kernel : (⟨#[]⟩ : Str) = "")
end Ami
namespace K06
open PySem PySem.Spec PyProof.Rows L2 Ami
section
variable {P : Program} {w : World} {K : PySem.W.Frag} {mg : Str → Option Value} {base : Heap}
abbrev nArrow : List Str := ["letters", "states", "thing", "source", "letter", "target", "kind"]
theorem scArrow : FnScope nArrow ["letters", "states", "thing"] (defScope sArrow) := ⟨rfl, rfl, rfl, by decide +kernel, rfl, by decide +kernel, by decide +kernel⟩
theorem ok_arrow {f f1 f2 f3 : Addr} {fd fd1 fd2 fd3 : FuncData} (F : Fun K "is_arrow" "is_arrow" sArrow f fd) (T : Blt mg)
    (D1 : DefAt K mg "is_state" sState ["states", "thing"] f1 fd1) (G1 : FnOk P w K mg base CX0 2 f1 fd1 ["states", "thing"] spState)
    (D2 : DefAt K mg "is_letter" sLetter ["letters", "thing"] f2 fd2) (G2 : FnOk P w K mg base CX0 2 f2 fd2 ["letters", "thing"] spLetter)
    (D3 : DefAt K mg "is_kind" sKind ["thing"] f3 fd3) (G3 : FnOk P w K mg base CX0 2 f3 fd3 ["thing"] spKind) : FnOk P w K mg base CX0 3 f fd ["letters", "states", "thing"] (spArrow K) := by
  refine F.ok scArrow (fun vs H Q E h => ?_) (fun cdv A outer s H vs Q E hr h => ?_)
  · obtain ⟨ls, n, x, r, rfl, _⟩ := h
    rfl
  · obtain ⟨ls, n, x, r, rfl, ⟨p, rfl, hp⟩, ⟨hl, lA, hk, kA⟩, k⟩ := h
    refine ⟨_, pss_cons (ps_if (PW.pt (pw_or (pt_not (pt_val (pe_callB call_isi (by rfl) T.isi (by decide +kernel) (pa_cons (pv 2) (pa_cons (pe_bltn (v := .ty "tuple") (by rfl) T.tuple (by decide +kernel) rfl) pa_nil)))))
        (pw_or1 (pt_cmpR op_ne (pe_callB call_len (by rfl) T.len PySem.boot_len (pa_cons (pv 2) pa_nil)) pe_int (nomark _))))) (pss_one (ps_ret pe_bl)) pss_nil)
      (pss_cons (ps_asg (pv 2) (pg_tup (by rfl) (pgs_cons (pg_name (i := 3) scArrow.nd rfl (Or.inl rfl)) (pgs_cons (pg_name (i := 4) scArrow.nd rfl (Or.inl rfl)) (pgs_cons (pg_name (i := 5) scArrow.nd rfl (Or.inl rfl)) (pgs_cons (pg_name (i := 6) scArrow.nd rfl (Or.inl rfl)) pgs_nil))))))
      (pss_cons (ps_if (PW.pt (pw_or (pt_not (pt_val (pc D1 G1 hr (pa_cons (pv 1) (pa_cons (pv 3) pa_nil))))) (pw_or1 (pt_not (pt_val (pc D1 G1 hr (pa_cons (pv 1) (pa_cons (pv 5) pa_nil)))))))) (pss_one (ps_ret pe_bl)) pss_nil)
      (pss_cons (ps_if (pt_not (pt_val (pc D2 G2 hr (pa_cons (pv 0) (pa_cons (pv 4) pa_nil))))) (pss_one (ps_ret pe_bl)) pss_nil)
      (pss_one (ps_ret (pe_ifExp (pt_cmpR op_eq (pv 5) pe_int (nomark _)) (pc D3 G3 hr (pa_cons (pv 6) pa_nil)) (pe_cmpR op_eq (pv 6) pe_str (nomark _)))))))), ?_⟩
    have no : ∀ b : Bool, b = arrowB ls n r → ∀ H', Same H H' → Q (.bl b) H' := fun b e H' s => by rw [e]; exact k H' s
    refine ⟨_, rfl, .ref p, .ty "tuple", .type "tuple", .type "tuple", true, rfl, .ty _, tyx_tup hp, kit_ty (by decide +kernel), _, rfl, ?_⟩
    refine iteF ?_
    refine ⟨_, rfl, _, 4, rfl, .inr ⟨_, hp, rfl⟩, rfl, _, rfl, ?_⟩
    refine iteF ?_
    refine ⟨_, rfl, p, r.vs, rfl, hp, rfl, ?_⟩
    refine ⟨_, _, rfl, _, _, rfl, _, _, rfl, _, _, rfl, rfl, ?_⟩
    refine ⟨_, rfl, _, rfl, n, r.s, rfl, fun H1 s1 => ⟨stateB n r.s, rfl, ?_⟩⟩
    cases h1 : stateB n r.s with
    | false => exact iteT (iteT (no _ (by unfold arrowB; rw [h1]; rfl) _ s1))
    | true =>
    refine iteF ?_
    refine ⟨_, rfl, _, rfl, n, r.t, rfl, fun H2 s2 => ⟨stateB n r.t, rfl, ?_⟩⟩
    cases h2 : stateB n r.t with
    | false => exact iteT (no _ (by unfold arrowB; rw [h1, h2]; rfl) _ (s1.trans s2))
    | true =>
    refine iteF ?_
    refine ⟨_, rfl, _, rfl, ls, r.l, rfl, hl, lA, fun H3 s3 => ⟨letterB ls r.l, rfl, ?_⟩⟩
    have s13 := (s1.trans s2).trans s3
    cases h3 : letterB ls r.l with
    | false => exact iteT (no _ (by unfold arrowB; rw [h1, h2, h3]; rfl) _ s13)
    | true =>
    refine iteF ?_
    refine ⟨_, rfl, rfl, _, rfl, ?_⟩
    rw [dec_int]
    refine ite2 (fun a => ?_) (fun a => ?_)
    · have a' : r.t = 0 := by simpa using a
      refine ⟨_, rfl, r.k, rfl, hk, kA, fun H4 s4 => no _ ?_ _ (s13.trans s4)⟩
      unfold arrowB
      rw [h1, h2, h3, if_pos a']; rfl
    · have a' : ¬ r.t = 0 := by simpa using a
      refine ⟨_, rfl, rfl, no _ ?_ _ s13⟩
      unfold arrowB
      rw [h1, h2, h3, if_neg a', str_empty]; rfl
end
end K06

set_option Elab.async false
set_option linter.all false
set_option maxRecDepth 100000
set_option maxHeartbeats 2000000
namespace Ami
open PySem PySem.Spec PyProof.Rows L2
open PySem.W (alike alikeAll dataLt)
/-- zip over two tuples -/
theorem walk_zipT {K : PySem.W.Frag} {a b : Addr} {xs ys : List V} {n : Nat} (hn : n = min xs.length ys.length) : Walk (RZ.ItzT K a b) n (fun H => SqT K H a xs ∧ SqT K H b ys) (YPair (fun i => xs[i]?) (fun i => ys[i]?)) := by
  subst hn
  refine ⟨fun i H hi q => ?_, fun H q => ⟨xs, ys, q.1, q.2, by omega⟩, fun i H v H' hi q y => ?_⟩
  · have h1 : i < xs.length := by omega
    have h2 : i < ys.length := by omega
    exact ⟨xs, ys, xs[i], ys[i], q.1, q.2, List.getElem?_eq_getElem h1, List.getElem?_eq_getElem h2⟩
  · obtain ⟨T, x, z, h1, h2, h3, h4, h5⟩ := y
    exact ⟨T, x, z, h1, h2, h3, h4 xs q.1, h5 ys q.2⟩
/-- an arrow as a key -/
def nkA (r : Arr) : NestedKey := .tup [.num r.s, .text r.l, .num r.t, .text r.k]
theorem AtA.nv {K : PySem.W.Frag} {H : Hp} {v : V} {r : Arr} : AtA K H v r → Nv K H v (nkA r) := fun ⟨p, e, s⟩ => by
  subst e
  exact .tup s (.cons (.int _) (.cons (.str _) (.cons (.int _) (.cons (.str _) .nil))))
def aLt (r q : Arr) : Bool := dataLt (nkA r).data (nkA q).data
theorem alike_arr (r q : Arr) : alike (nkA r).data (nkA q).data = true := rfl
/-- each is less than the next one -/
def ascB (rs : List Arr) : Bool := (rs.zip (rs.drop 1)).all fun p => aLt p.1 p.2
theorem AtAs.keep {K : PySem.W.Frag} {H H' : Hp} (h : Same H H') {vs : List V} {rs : List Arr} (k : All2 (AtA K H) vs rs) : All2 (AtA K H') vs rs := k.imp fun _ _ => AtA.same h
/-- arrows in a tuple -/
def ArrT (K : PySem.W.Frag) (H : Hp) (t : Addr) (rs : List Arr) : Prop := ∃ vs, SqT K H t vs ∧ All2 (AtA K H) vs rs
theorem ArrT.same {K : PySem.W.Frag} {H H' : Hp} (h : Same H H') {t : Addr} {rs : List Arr} : ArrT K H t rs → ArrT K H' t rs := fun ⟨vs, a, b⟩ => ⟨vs, sqT_same h a, AtAs.keep h b⟩
theorem cut_one {us : List V} (h : 0 < us.length) : cutV us (some 1) none = us.drop 1 := by
  unfold cutV
  have e1 : HT.sIx us.length 0 (some 1) = 1 := by
    unfold HT.sIx
    simp
    omega
  have e2 : HT.sIx us.length us.length none = us.length := rfl
  rw [e1, e2, List.take_of_length_le (by rw [List.length_drop]; omega)]
def spAsc (K : PySem.W.Frag) : Sp := fun vs H Q _ => ∃ (t : Addr) (rs : List Arr), vs = [.ref t] ∧ ArrT K H t rs ∧ 0 < rs.length ∧ rs.length ≤ 10000 ∧ ∀ H', Same H H' → Q (.bl (ascB rs)) H'
end Ami
namespace K06
open PySem PySem.Spec PyProof.Rows L2 Ami
section
variable {P : Program} {w : World} {K : PySem.W.Frag} {mg : Str → Option Value} {base : Heap}
theorem scAsc : FnScope ["arrows", "one", "other"] ["arrows"] (defScope sAsc) := ⟨rfl, rfl, rfl, by decide +kernel, rfl, by decide +kernel, by decide +kernel⟩
theorem ok_asc {f : Addr} {fd : FuncData} (F : Fun K "is_ascending" "is_ascending" sAsc f fd) (T : Blt mg) : FnOk P w K mg base CX0 1 f fd ["arrows"] (spAsc K) := by
  refine F.ok scAsc (fun vs H Q E h => ?_) (fun cdv A outer s H vs Q E hr h => ?_)
  · obtain ⟨t, rs, rfl, _⟩ := h
    rfl
  · obtain ⟨t, rs, rfl, ⟨us, ht, hu⟩, h0, hl, k⟩ := h
    have hun := hr.units
    refine ⟨_, pss_one (ps_ret (pe_callB (cr_all rfl) (by rfl) T.all (by decide +kernel) (pa_cons (pe_lc (own := [("one", 1), ("other", 2)]) (g := gTup K 2 (gCons (gName 1) (gCons (gName 2) gNil))) (tt := tYes) rfl scAsc.nd
        (RZ.pi_zipA (by rfl) T.zip (pa_cons (pv 0) (pa_cons (pe_slice sl_tup (pv 0) (po_some pe_int) po_none) pa_nil)))
        (blkOk_by (own := [("one", 1), ("other", 2)]) (N := ["arrows", "one", "other"]) (sc := defScope sAsc) (by decide +kernel))
        (fun _ _ _ _ _ => pg_tup (by rfl) (pgs_cons (pg_name (i := 1) scAsc.nd rfl (Or.inl rfl)) (pgs_cons (pg_name (i := 2) scAsc.nd rfl (Or.inl rfl)) pgs_nil))) (fun _ _ _ _ _ => pts_nil)
        (fun _ _ _ _ _ => pe_cmpR (op_ltN (K0 := K) rfl hun) (pv 1) (pv 2) (nomark _))) pa_nil))), ?_⟩
    have lu := hu.len
    refine ⟨_, rfl, _, rfl, _, rfl, t, us, rfl, ht, ?_, fun p hp => ?_⟩
    · rintro ⟨z, _⟩
      have e1 : HT.sIx us.length 0 (some 1) = 1 := by
        unfold HT.sIx
        simp
        omega
      rw [e1] at z
      exact absurd z (by decide)
    rw [cut_one (by omega)]
    have s1 : Same H (upd H p (.tup (us.drop 1))) := Same.upd hp
    have ht1 := sqT_same s1 ht
    have hp1 : SqT K (upd H p (.tup (us.drop 1))) p (us.drop 1) := SqT.of upd_same
    revert s1 ht1 hp1
    generalize upd H p (.tup (us.drop 1)) = H1
    intro s1 ht1 hp1
    have z : All2 (AtA K H1) (us.drop 1) (rs.drop 1) := (AtAs.keep s1 hu).drop 1
    have hu1 := AtAs.keep s1 hu
    refine ⟨t, p, us, us.drop 1, rfl, .inr ⟨ht1, hp1, fun D hD => ?_⟩⟩
    have lz : (rs.zip (rs.drop 1)).length = min us.length (us.drop 1).length := by
      rw [List.length_zip, List.length_drop, List.length_drop, lu]
    refine lc_it (walk_zipT (K := K) (a := t) (b := p) (xs := us) (ys := us.drop 1) lz) (fun i H' => H' D = some (.lst ((((rs.zip (rs.drop 1)).take i).map fun q => aLt q.1 q.2).map V.bl)) ∧ Same H1 H') ⟨upd_same, Same.upd hD⟩ (fun i H' _ ⟨_, sm⟩ => ⟨sqT_same sm ht1, sqT_same sm hp1⟩) ?_ ?_
    · rintro i v H2 H3 hi ⟨eD, sm⟩ ⟨T0, x, y, rfl, hT, rfl, hx, hy⟩
      obtain ⟨r, hr, ar⟩ := hu1.at hx
      obtain ⟨q, hq, aq⟩ := z.at hy
      have sT : Same H2 (upd H2 T0 (.tup [x, y])) := Same.upd hT
      refine ⟨T0, [x, y], rfl, SqT.of upd_same, rfl, ?_⟩
      refine ⟨_, _, rfl, _, _, rfl, rfl, rfl, ?_⟩
      dsimp only [tYes]
      refine iteT ?_
      refine ⟨_, rfl, _, rfl, nkA r, nkA q, (AtA.same (sm.trans sT) ar).nv, (AtA.same (sm.trans sT) aq).nv, rfl, (by show 1 ≤ 8; decide), ?_⟩
      refine ⟨_, sT _ _ eD, ?_, ?_, keep_put (sm.trans sT) hD⟩
      · rw [List.length_map, List.length_map, List.length_take]
        exact Nat.lt_of_le_of_lt (Nat.le_trans (Nat.min_le_right _ _) (by rw [List.length_zip, List.length_drop]; omega : _ ≤ 10000)) (by decide)
      · have ez : (rs.zip (rs.drop 1))[i]? = some (r, q) := by
          rw [List.getElem?_zip_eq_some]
          exact ⟨hr, hq⟩
        rw [upd_same, take_snoc ez, List.map_append, List.map_append]; rfl
    · rintro H2 ⟨eD, sm⟩
      refine ⟨D, _, rfl, SqL.of eD, ?_⟩
      rw [List.take_length]
      have e : ((rs.zip (rs.drop 1)).map fun q => aLt q.1 q.2).all id = ascB rs := by
        unfold ascB
        rw [List.all_map]; rfl
      rw [e]
      exact k _ (s1.trans sm)
end
end K06

set_option Elab.async false
set_option linter.all false
set_option maxRecDepth 100000
set_option maxHeartbeats 2000000
namespace Ami
open PySem PySem.Spec PyProof.Rows L2
/-- a pair of ints -/
def AtP (K : PySem.W.Frag) (H : Hp) (v : V) (p : Int × Int) : Prop := ∃ q, v = .ref q ∧ SqT K H q [.int p.1, .int p.2]
theorem AtP.same {K : PySem.W.Frag} {H H' : Hp} (h : Same H H') {v : V} {p : Int × Int} : AtP K H v p → AtP K H' v p := fun ⟨q, e, s⟩ => ⟨q, e, sqT_same h s⟩
/-- where the links of a state lead -/
def outs (ps : List (Int × Int)) (x : Int) : List Int := (ps.filter fun p => decide (p.1 = x)).map (·.2)
theorem outs_snoc (ps : List (Int × Int)) (q : Int × Int) (x : Int) : outs (ps ++ [q]) x = outs ps x ++ if q.1 = x then [q.2] else [] := by
  unfold outs
  rw [List.filter_append, List.map_append]
  by_cases h : q.1 = x
  · rw [if_pos h, List.filter_cons_of_pos (by simpa using h)]; rfl
  · rw [if_neg h, List.filter_cons_of_neg (by simpa using h)]; rfl
/-- the dict of links at d; it and its lists are new since H0 -/
structure Lk (H0 H : Hp) (d : Addr) (ps : List (Int × Int)) : Prop where
  old : Same H0 H
  dn : H0 d = none
  ex : ∃ kvs : List (Key × V), H d = some (.dK kvs) ∧ kvs.length ≤ ps.length ∧ (∀ x : Int, valV kvs (.inl x) = none → outs ps x = []) ∧
    (∀ (x : Int) v, valV kvs (.inl x) = some v → ∃ b, v = .ref b ∧ b ≠ d ∧ H0 b = none ∧ H b = some (.lst ((outs ps x).map V.int))) ∧
    ∀ (x y : Int) v, valV kvs (.inl x) = some v → valV kvs (.inl y) = some v → x = y
def spLinks (K : PySem.W.Frag) : Sp := fun vs H Q _ => ∃ (l : Addr) (us : List V) (ps : List (Int × Int)), vs = [.ref l] ∧ H l = some (.lst us) ∧ All2 (AtP K H) us ps ∧ ps.length ≤ 10000 ∧ ∀ H' d, Lk H H' d ps → Q (.ref d) H'
end Ami
namespace K06
open PySem PySem.Spec PyProof.Rows L2 Ami
section
variable {P : Program} {w : World} {K : PySem.W.Frag} {mg : Str → Option Value} {base : Heap}
theorem scLinks : FnScope ["pairs", "links", "one", "other"] ["pairs"] (defScope sLinks) := ⟨rfl, rfl, rfl, by decide +kernel, rfl, by decide +kernel, by decide +kernel⟩
theorem ok_links {f : Addr} {fd : FuncData} (F : Fun K "links_of" "links_of" sLinks f fd) : FnOk P w K mg base CX0 1 f fd ["pairs"] (spLinks K) := by
  refine F.ok scLinks (fun vs H Q E h => ?_) (fun cdv A outer s H vs Q E hr h => ?_)
  · obtain ⟨l, us, ps, rfl, _⟩ := h
    rfl
  · obtain ⟨l, us, ps, rfl, hl, hu, hn, k⟩ := h
    refine ⟨_, pss_cons (ps_set (i := 1) scLinks.nd rfl (Or.inl rfl) pe_dnewK)
      (pss_cons (ps_for PassesOwn.never rfl (pi_list (pv 0)) (pg_tup (by rfl) (pgs_cons (pg_name (i := 2) scLinks.nd rfl (Or.inl rfl)) (pgs_cons (pg_name (i := 3) scLinks.nd rfl (Or.inl rfl)) pgs_nil)))
        (pss_one (ps_expr (pe_bm PySem.F.plainAttrs_list PySem.F.slot_list_append PySem.F.type_list_append mt_append (pe_dsetd (pv 1) (pv 2) (pe_lst pa_nil) ⟨by rfl, by rfl, by rfl, by rfl⟩) (pa_cons (pv 3) pa_nil)))))
      (pss_one (ps_ret (pv 1)))), ?_⟩
    refine fun d hd => ?_
    have s0 : Same H (upd H d (.dK [])) := Same.upd hd
    refine ⟨_, rfl, l, rfl, ⟨us, SqL.of (s0 _ _ hl)⟩, ?_⟩
    refine for_list (K := K) (a := l) (xs := us) (fun i σ H' => ∃ v2 v3 : Option V, σ = [some (.ref l), some (.ref d), v2, v3] ∧ Lk H H' d (ps.take i))
      ⟨_, _, rfl, ⟨s0, hd, [], upd_same, Nat.zero_le _, fun x _ => by rw [List.take_zero]; rfl, (fun x v z => nomatch z), fun x y v z => nomatch z⟩⟩ (fun i σ H' _ ⟨_, _, _, lk⟩ => SqL.of (lk.old _ _ hl)) ?_ ?_
    · rintro i x σ H1 hx ⟨v2, v3, rfl, ⟨old, dn, kvs, ek, el, e0, ev, ei⟩⟩
      obtain ⟨q, hq, at1⟩ := hu.at hx
      obtain ⟨p, rfl, hp⟩ := AtP.same old at1
      have etk := take_snoc hq
      have lps : (ps.take i).length ≤ 10000 := Nat.le_trans (List.length_take_le' _ _) hn
      refine ⟨p, _, rfl, hp, rfl, ?_⟩
      refine ⟨_, _, rfl, _, _, rfl, rfl, ?_⟩
      refine ⟨_, rfl, d, rfl, .inl ⟨kvs, .inl ek⟩, _, rfl, Nat.zero_le _, fun b hb => ?_⟩
      have nbd : b ≠ d := fun e => by rw [e, ek] at hb; exact nomatch hb
      have ek2 : upd H1 b (.lst []) d = some (.dK kvs) := by rw [upd_ne (Ne.symm nbd)]; exact ek
      have hb0 : H b = none := by
        cases z : H b with
        | none => rfl
        | some o => rw [old _ _ z] at hb; exact nomatch hb
      refine ⟨kvs, .inl q.1, ek2, rfl, Nat.lt_of_le_of_lt (Nat.le_trans el lps) (by decide), fun v hv => ?_, fun hv => ?_⟩
      · obtain ⟨c, rfl, cd, c0, ec⟩ := ev _ _ hv
        have ncb : c ≠ b := fun e => by rw [e, hb] at ec; exact nomatch ec
        have ec2 : upd H1 b (.lst []) c = some (.lst ((outs (ps.take i) q.1).map V.int)) := by rw [upd_ne ncb]; exact ec
        refine ⟨.inl ⟨rfl, _, SqL.of ec2⟩, _, rfl, c, _, _, rfl, rfl, ec2, ?_, ?_⟩
        · rw [List.length_map]
          exact Nat.lt_of_le_of_lt (Nat.le_trans (by unfold outs; rw [List.length_map]; exact List.length_filter_le _ _) lps) (by decide)
        rw [etk]
        refine ⟨_, _, rfl, ⟨keep_put (old.trans (Same.upd hb)) c0, dn, kvs, by rw [upd_ne (Ne.symm cd)]; exact ek2, by rw [List.length_append]; omega, fun x hx => ?_, fun x v hv' => ?_, ei⟩⟩
        · rw [outs_snoc, e0 x hx, if_neg fun e => ?_]; rfl
          rw [← e, hv] at hx
          exact nomatch hx
        · obtain ⟨c', rfl, cd', c0', ec'⟩ := ev x _ hv'
          refine ⟨c', rfl, cd', c0', ?_⟩
          rw [outs_snoc]
          by_cases e : q.1 = x
          · subst e
            rw [hv] at hv'
            cases hv'
            rw [upd_same, if_pos rfl, List.map_append]; rfl
          · have ncc : c' ≠ c := fun z => e (ei q.1 x _ hv (by rw [hv', z]))
            have ncb' : c' ≠ b := fun z => by rw [z, hb] at ec'; exact nomatch ec'
            rw [upd_ne ncc, upd_ne ncb', if_neg e, List.append_nil]; exact ec'
      · have hbb : (upd (upd H1 b (.lst [])) d (.dK (putK kvs (.inl q.1) (.ref b)))) b = some (.lst []) := by rw [upd_ne nbd, upd_same]
        refine ⟨.inl ⟨rfl, _, SqL.of hbb⟩, _, rfl, b, _, _, rfl, rfl, hbb, by decide, ?_⟩
        rw [etk]
        have val := valV_put kvs (.inl q.1)
        refine ⟨_, _, rfl, ⟨keep_put (keep_put (old.trans (Same.upd hb)) dn) hb0, dn, putK kvs (.inl q.1) (.ref b), by rw [upd_ne (Ne.symm nbd), upd_same], ?_, fun x hx => ?_, fun x v hv' => ?_, fun x y v h1 h2 => ?_⟩⟩
        · rw [putK_new _ hv, List.length_append, List.length_append]; exact Nat.succ_le_succ el
        · rw [val] at hx
          by_cases e : q.1 = x
          · rw [if_pos (by rw [e])] at hx; exact nomatch hx
          · rw [if_neg (by intro z; exact e (Sum.inl.inj z).symm)] at hx
            rw [outs_snoc, e0 x hx, if_neg e]; rfl
        · rw [val] at hv'
          rw [outs_snoc]
          by_cases e : q.1 = x
          · subst e
            rw [if_pos rfl] at hv'
            cases hv'
            refine ⟨b, rfl, nbd, hb0, ?_⟩
            rw [upd_same, if_pos rfl, e0 _ hv]; rfl
          · rw [if_neg (by intro z; exact e (Sum.inl.inj z).symm)] at hv'
            obtain ⟨c', rfl, cd', c0', ec'⟩ := ev x _ hv'
            have ncb' : c' ≠ b := fun z => by rw [z, hb] at ec'; exact nomatch ec'
            refine ⟨c', rfl, cd', c0', ?_⟩
            rw [upd_ne ncb', upd_ne cd', upd_ne ncb', if_neg e, List.append_nil]; exact ec'
        · rw [val] at h1 h2
          have nob : ∀ z, valV kvs (.inl z) ≠ some (.ref b) := fun z hz => by
            obtain ⟨c', e1, _, _, e2⟩ := ev z _ hz
            cases e1
            rw [hb] at e2
            exact nomatch e2
          by_cases ex : q.1 = x <;> by_cases ey : q.1 = y
          · rw [← ex, ← ey]
          · rw [if_pos (by rw [ex])] at h1
            rw [if_neg (by intro z; exact ey (Sum.inl.inj z).symm)] at h2
            cases h1
            exact absurd h2 (nob y)
          · rw [if_pos (by rw [ey])] at h2
            rw [if_neg (by intro z; exact ex (Sum.inl.inj z).symm)] at h1
            cases h2
            exact absurd h1 (nob x)
          · rw [if_neg (by intro z; exact ex (Sum.inl.inj z).symm)] at h1
            rw [if_neg (by intro z; exact ey (Sum.inl.inj z).symm)] at h2
            exact ei x y v h1 h2
    · rintro σ H1 ⟨v2, v3, rfl, lk⟩
      rw [List.take_of_length_le (by rw [← hu.len]; exact Nat.le_refl _)] at lk
      exact ⟨_, rfl, k _ d lk⟩
end
end K06

set_option Elab.async false
set_option linter.all false
set_option maxRecDepth 100000
set_option maxHeartbeats 2000000
namespace Ami
open PySem PySem.Spec PyProof.Rows L2
/-- one or more links lead there from the border -/
inductive Rch (ps : List (Int × Int)) : Int → Prop
  | one {y : Int} : (0, y) ∈ ps → Rch ps y
  | step {x y : Int} : Rch ps x → (x, y) ∈ ps → Rch ps y
theorem mem_outs {ps : List (Int × Int)} {x y : Int} : y ∈ outs ps x ↔ (x, y) ∈ ps := by
  unfold outs
  rw [List.mem_map]
  constructor
  · rintro ⟨p, hp, rfl⟩
    obtain ⟨h1, h2⟩ := List.mem_filter.mp hp
    have := of_decide_eq_true h2
    subst this
    exact h1
  · intro h
    exact ⟨_, List.mem_filter.mpr ⟨h, decide_eq_true rfl⟩, rfl⟩
/-- the links that are still to be followed -/
def left (ps : List (Int × Int)) (R : List Int) : List (Int × Int) := ps.filter fun p => decide (p.1 ∉ R)
theorem left_step {x : Int} {R : List Int} (hx : x ∉ R) : ∀ ps : List (Int × Int), (left ps (R ++ [x])).length + (outs ps x).length = (left ps R).length
  | [] => rfl
  | p :: ps => by
    have ih := left_step hx ps
    unfold left outs at ih ⊢
    simp only [List.mem_append, List.mem_singleton] at ih
    simp only [List.filter_cons, List.mem_append, List.mem_singleton]
    by_cases h1 : p.1 = x
    · have h2 : p.1 ∉ R := h1 ▸ hx
      rw [if_neg (by simp [h1]), if_pos (by simpa using h1), if_pos (by simpa using h2), List.map_cons, List.length_cons, List.length_cons]
      omega
    · by_cases h2 : p.1 ∈ R
      · rw [if_neg (by simp [h2]), if_neg (by simpa using h1), if_neg (by simp [h2])]
        exact ih
      · rw [if_pos (by simp [h1, h2]), if_neg (by simpa using h1), if_pos (by simpa using h2), List.length_cons, List.length_cons]
        omega
def rKvs (R : List Int) : List (Key × V) := R.map fun x => (Sum.inl x, V.bl true)
theorem rKvs_val (R : List Int) (x : Int) : valV (rKvs R) (.inl x) = if x ∈ R then some (.bl true) else none := by
  induction R with
  | nil => rfl
  | cons y R ih =>
    by_cases h : y = x
    · subst h
      rw [if_pos List.mem_cons_self]
      exact valV_pos rfl
    · show valV ((Sum.inl y, V.bl true) :: rKvs R) (.inl x) = _
      rw [valV_neg (fun z => h (Sum.inl.inj z)), ih]
      by_cases h2 : x ∈ R
      · rw [if_pos h2, if_pos (List.mem_cons_of_mem _ h2)]
      · rw [if_neg h2, if_neg (by simp [h2, Ne.symm h])]
def spReach : Sp := fun vs H Q _ => ∃ (d : Addr) (H0 : Hp) (ps : List (Int × Int)), vs = [.ref d] ∧ Lk H0 H d ps ∧ ps.length ≤ 10000 ∧
  ∀ H' r R, Same H H' → H r = none → R.Nodup → (∀ x, x ∈ R ↔ Rch ps x) → H' r = some (.dK (rKvs R)) → Q (.ref r) H'
/-- what the dict of links gives -/
theorem Lk.get {H0 H : Hp} {d : Addr} {ps : List (Int × Int)} (L : Lk H0 H d ps) (x : Int) : ∃ o, DGet H d (.int x) o ∧ ∀ b, H b = some (.lst []) → ∃ c, o.getD (.ref b) = .ref c ∧ H c = some (.lst ((outs ps x).map V.int)) := by
  obtain ⟨kvs, ek, _, e0, ev, _⟩ := L.ex
  refine ⟨_, DGet.k (k := .inl x) ek, fun b hb => ?_⟩
  cases h : valV kvs (.inl x) with
  | none => exact ⟨b, rfl, by rw [e0 x h]; exact hb⟩
  | some v =>
    obtain ⟨c, rfl, _, _, hc⟩ := ev x _ h
    exact ⟨c, rfl, hc⟩
theorem Lk.same {H0 H H' : Hp} {d : Addr} {ps : List (Int × Int)} (L : Lk H0 H d ps) (s : Same H H') : Lk H0 H' d ps := by
  obtain ⟨kvs, ek, el, e0, ev, ei⟩ := L.ex
  exact ⟨L.old.trans s, L.dn, kvs, s _ _ ek, el, e0, fun x v h => by
    obtain ⟨c, e1, e2, e3, e4⟩ := ev x v h
    exact ⟨c, e1, e2, e3, s _ _ e4⟩, ei⟩
end Ami
namespace K06
open PySem PySem.Spec PyProof.Rows L2 Ami
section
variable {P : Program} {w : World} {K : PySem.W.Frag} {mg : Str → Option Value} {base : Heap}
theorem scReached : FnScope ["links", "reached", "todo", "state"] ["links"] (defScope sReached) := ⟨rfl, rfl, rfl, by decide +kernel, rfl, by decide +kernel, by decide +kernel⟩
theorem ok_reached {f : Addr} {fd : FuncData} (F : Fun K "states_reached" "states_reached" sReached f fd) (T : Blt mg) : FnOk P w K mg base CX0 1 f fd ["links"] spReach := by
  refine F.ok scReached (fun vs H Q E h => ?_) (fun cdv A outer s H vs Q E hr h => ?_)
  · obtain ⟨d, H0, ps, rfl, _⟩ := h
    rfl
  · obtain ⟨d, H0, ps, rfl, L, hn, k⟩ := h
    have hu1 := hu_of hr
    refine ⟨_, pss_cons (ps_set (i := 1) scReached.nd rfl (Or.inl rfl) pe_dnewK)
      (pss_cons (ps_set (i := 2) scReached.nd rfl (Or.inl rfl) (pe_callTy call_list_of (by rfl) T.list (by decide +kernel) (pa_cons (pe_dget2 hu1 (pv 0) pe_int (pe_lst pa_nil) ⟨by rfl, by rfl, by rfl, by rfl⟩) pa_nil)))
      (pss_cons (ps_while PassesOwn.never (pt_truth (pv 2) (fun _ => rfl))
        (pss_cons (ps_set (i := 3) scReached.nd rfl (Or.inl rfl) (pe_bm0 PySem.F.plainAttrs_list PySem.F.slot_list_pop PySem.F.type_list_pop mt_pop (pv 2)))
        (pss_one (ps_if (pt_cmp (pc_dnotin hu1 (pv 3) (pv 1)))
          (pss_cons (ps_dput hu1 (pv 1) (pv 3) pe_bl rfl)
          (pss_one (ps_expr (pe_bm PySem.F.plainAttrs_list PySem.F.slot_list_extend PySem.F.type_list_extend mt_extend (pv 2) (pa_cons (pe_dget2 hu1 (pv 0) (pv 3) (pe_lst pa_nil) ⟨by rfl, by rfl, by rfl, by rfl⟩) pa_nil))))) pss_nil))))
      (pss_one (ps_ret (pv 1))))), ?_⟩
    refine fun r hrn => ?_
    have s1 : Same H (upd H r (.dK [])) := Same.upd hrn
    have er1 : (upd H r (.dK [])) r = some (.dK []) := upd_same
    revert s1 er1
    generalize upd H r (.dK []) = H1
    intro s1 er1
    have L1 := L.same s1
    have nrd : r ≠ d := fun e => by
      obtain ⟨kvs, ek, _⟩ := L.ex
      rw [e, ek] at hrn
      exact nomatch hrn
    refine ⟨_, rfl, d, rfl, .inl ⟨_, .inl L1.ex.choose_spec.1⟩, Nat.zero_le _, fun b hb => ?_⟩
    have s2 : Same H1 (upd H1 b (.lst [])) := Same.upd hb
    have eb : (upd H1 b (.lst [])) b = some (.lst []) := upd_same
    have er2 := s2 _ _ er1
    have L2 := L1.same s2
    revert s2 eb er2 L2
    generalize upd H1 b (.lst []) = H2
    intro s2 eb er2 L2
    obtain ⟨o, g, cv⟩ := L2.get 0
    obtain ⟨c, ec, hc⟩ := cv b eb
    refine ⟨o, g, c, _, by rw [ec], .inl (SqL.of hc), fun t ht => ?_⟩
    have s3 : Same H2 (upd H2 t (.lst ((outs ps 0).map V.int))) := Same.upd ht
    have et : (upd H2 t (.lst ((outs ps 0).map V.int))) t = some (.lst ((outs ps 0).map V.int)) := upd_same
    have er3 := s3 _ _ er2
    have nrt : r ≠ t := fun e => by rw [← e, er2] at ht; exact nomatch ht
    have tn : H t = none := by
      cases z : H t with
      | none => rfl
      | some o => rw [s2 _ _ (s1 _ _ z)] at ht; exact nomatch ht
    have s13 := (s1.trans s2).trans s3
    revert et er3 s13
    generalize upd H2 t (.lst ((outs ps 0).map V.int)) = H3
    intro et er3 s13
    have l0 : (outs ps 0).length ≤ ps.length := by unfold outs; rw [List.length_map]; exact List.length_filter_le _ _
    refine ⟨fun m σ H' => ∃ (R T : List Int) (v3 : Option V), σ = [some (.ref d), some (.ref r), some (.ref t), v3] ∧ Same H H' ∧ H' r = some (.dK (rKvs R)) ∧ H' t = some (.lst (T.map V.int)) ∧ R.Nodup ∧ (∀ x ∈ R, Rch ps x) ∧ (∀ x ∈ T, Rch ps x) ∧
      (∀ y, (0, y) ∈ ps → y ∈ R ∨ y ∈ T) ∧ (∀ x ∈ R, ∀ y, (x, y) ∈ ps → y ∈ R ∨ y ∈ T) ∧ m = T.length + (left ps R).length ∧ R.length + m ≤ 20000,
      ⟨_, [], outs ps 0, _, rfl, s13, er3, et, List.nodup_nil, (fun x hx => nomatch hx), (fun x hx => .one (mem_outs.mp hx)), (fun y hy => .inr (mem_outs.mpr hy)), (fun x hx => nomatch hx), rfl, ?_⟩, ?_⟩
    · have : (left ps []).length ≤ ps.length := List.length_filter_le _ _
      show 0 + _ ≤ _
      omega
    rintro m σ H4 ⟨R, T, v3, rfl, s4, er4, et4, nR, hR, hT, h0, hcl, hm, hm2⟩
    refine ⟨_, rfl, !(T.map V.int).isEmpty, .inl ⟨_, SqL.of et4, rfl⟩, ?_⟩
    have L4 := L.same s4
    rcases List.eq_nil_or_concat T with rfl | ⟨T', x, rfl⟩
    · refine iteF ?_
      refine ⟨_, rfl, k _ r R s4 hrn nR (fun x => ⟨hR x, fun hx => ?_⟩) er4⟩
      induction hx with
      | one h => exact (h0 _ h).elim id fun z => nomatch z
      | step _ h ih => exact (hcl _ ih _ h).elim id fun z => nomatch z
    · have ne : (!((T' ++ [x]).map V.int).isEmpty) = true := by rw [List.map_append]; cases T' <;> rfl
      rw [List.concat_eq_append] at *
      rw [ne]
      refine iteT ?_
      have ex : (((T' ++ [x]).map V.int))[((T' ++ [x]).map V.int).length - 1]? = some (V.int x) := by
        rw [List.map_append, List.length_append, List.length_map]
        show _[T'.length + 1 - 1]? = _
        rw [Nat.add_sub_cancel, List.getElem?_append_right (by rw [List.length_map]; exact Nat.le_refl _), List.length_map, Nat.sub_self]; rfl
      have edl : ((T' ++ [x]).map V.int).dropLast = T'.map V.int := by rw [List.map_append]; exact List.dropLast_concat
      refine ⟨fun σ' H' => ∃ (R T : List Int) (v3 : Option V), σ' = [some (.ref d), some (.ref r), some (.ref t), v3] ∧ Same H H' ∧ H' r = some (.dK (rKvs R)) ∧ H' t = some (.lst (T.map V.int)) ∧ R.Nodup ∧ (∀ x ∈ R, Rch ps x) ∧ (∀ x ∈ T, Rch ps x) ∧
        (∀ y, (0, y) ∈ ps → y ∈ R ∨ y ∈ T) ∧ (∀ x ∈ R, ∀ y, (x, y) ∈ ps → y ∈ R ∨ y ∈ T) ∧ T.length + (left ps R).length < m ∧ R.length + (T.length + (left ps R).length) ≤ 20000, fun σ' H' ⟨R, T, v3, e1, e2, e3, e4, e5, e6, e7, e8, e9, lt, le⟩ => ⟨_, lt, R, T, v3, e1, e2, e3, e4, e5, e6, e7, e8, e9, rfl, le⟩, ?_⟩
      refine ⟨_, rfl, .inl ⟨rfl, _, SqL.of et4⟩, t, _, _, rfl, rfl, et4, ex, ?_⟩
      rw [edl]
      have s5 : Same H (upd H4 t (.lst (T'.map V.int))) := keep_put s4 tn
      have er5 : (upd H4 t (.lst (T'.map V.int))) r = some (.dK (rKvs R)) := by rw [upd_ne nrt]; exact er4
      have et5 : (upd H4 t (.lst (T'.map V.int))) t = some (.lst (T'.map V.int)) := upd_same
      revert s5 er5 et5
      generalize upd H4 t (.lst (T'.map V.int)) = H5
      intro s5 er5 et5
      have L5 := L.same s5
      have lm : (T' ++ [x]).length = T'.length + 1 := List.length_append
      refine ⟨_, rfl, _, rfl, r, _, rfl, DGet.k (k := .inl x) er5, _, rfl, ?_⟩
      rw [rKvs_val]
      by_cases hx : x ∈ R
      · rw [if_pos hx]
        refine iteF ?_
        refine ⟨R, T', _, rfl, s5, er5, et5, nR, hR, (fun y hy => hT y (List.mem_append_left _ hy)), fun y hy => ?_, fun z hz y hy => ?_, by omega, by omega⟩
        · rcases h0 y hy with q | q
          · exact .inl q
          · rcases List.mem_append.mp q with q | q
            · exact .inr q
            · rw [List.mem_singleton.mp q]; exact .inl hx
        · rcases hcl z hz y hy with q | q
          · exact .inl q
          · rcases List.mem_append.mp q with q | q
            · exact .inr q
            · rw [List.mem_singleton.mp q]; exact .inl hx
      · rw [if_neg hx]
        refine iteT ?_
        have hnone : valV (rKvs R) (.inl x) = none := by rw [rKvs_val, if_neg hx]
        have eput : putK (rKvs R) (.inl x) (.bl true) = rKvs (R ++ [x]) := by
          rw [putK_new _ hnone]
          unfold rKvs
          rw [List.map_append]; rfl
        have lR : (rKvs R).length < sizeLine := by
          have : R.length ≤ 20001 := by omega
          unfold rKvs
          rw [List.length_map]
          exact Nat.lt_of_le_of_lt this (by decide)
        have ls := left_step hx ps
        have rn : H r = none := hrn
        refine ⟨_, rfl, _, rfl, r, _, rfl, DPut.k (k := .inl x) er5 lR, ?_⟩
        rw [eput]
        have s6 : Same H (upd H5 r (.dK (rKvs (R ++ [x])))) := keep_put s5 rn
        have er6 : (upd H5 r (.dK (rKvs (R ++ [x])))) r = some (.dK (rKvs (R ++ [x]))) := upd_same
        have et6 : (upd H5 r (.dK (rKvs (R ++ [x])))) t = some (.lst (T'.map V.int)) := by rw [upd_ne (Ne.symm nrt)]; exact et5
        revert s6 er6 et6
        generalize upd H5 r (.dK (rKvs (R ++ [x]))) = H6
        intro s6 er6 et6
        have L6 := L.same s6
        refine ⟨_, rfl, .inl ⟨rfl, _, SqL.of et6⟩, _, rfl, d, rfl, .inl ⟨_, .inl L6.ex.choose_spec.1⟩, _, rfl, Nat.zero_le _, fun b2 hb2 => ?_⟩
        have s7 : Same H6 (upd H6 b2 (.lst [])) := Same.upd hb2
        have L7 := L6.same s7
        obtain ⟨o2, g2, cv2⟩ := L7.get x
        obtain ⟨c2, ec2, hc2⟩ := cv2 b2 upd_same
        have er7 := s7 _ _ er6
        have et7 := s7 _ _ et6
        refine ⟨o2, g2, t, c2, _, _, rfl, by rw [ec2], et7, hc2, ?_, ?_⟩
        · rw [List.length_map, List.length_map]
          have h1 : (outs ps x).length ≤ ps.length := by unfold outs; rw [List.length_map]; exact List.length_filter_le _ _
          exact Nat.le_trans (by omega : _ ≤ 40000) (by decide)
        have eap : T'.map V.int ++ (outs ps x).map V.int = (T' ++ outs ps x).map V.int := by rw [List.map_append]
        rw [eap]
        have xR : ∀ y, y = x → y ∈ R ++ [x] := fun y e => by rw [e]; exact List.mem_append_right _ List.mem_cons_self
        have mv : ∀ y, y ∈ R ∨ y ∈ T' ++ [x] → y ∈ R ++ [x] ∨ y ∈ T' ++ outs ps x := fun y q => by
          rcases q with q | q
          · exact .inl (List.mem_append_left _ q)
          · rcases List.mem_append.mp q with q | q
            · exact .inr (List.mem_append_left _ q)
            · exact .inl (xR y (List.mem_singleton.mp q))
        have rx : Rch ps x := hT x (List.mem_append_right _ List.mem_cons_self)
        refine ⟨R ++ [x], T' ++ outs ps x, _, rfl, keep_put (s6.trans s7) tn, by rw [upd_ne nrt]; exact er7, upd_same, ?_, fun z hz => ?_, fun z hz => ?_, fun y hy => mv y (h0 y hy), fun z hz y hy => ?_, ?_, ?_⟩
        · rw [List.nodup_append]
          refine ⟨nR, by simp, fun a ha b hb e => ?_⟩
          rw [List.mem_singleton.mp hb] at e
          exact hx (e ▸ ha)
        · rcases List.mem_append.mp hz with q | q
          · exact hR z q
          · rw [List.mem_singleton.mp q]; exact rx
        · rcases List.mem_append.mp hz with q | q
          · exact hT z (List.mem_append_left _ q)
          · exact .step rx (mem_outs.mp q)
        · rcases List.mem_append.mp hz with q | q
          · exact mv y (hcl z q y hy)
          · rw [List.mem_singleton.mp q] at hy
            exact .inr (List.mem_append_right _ (mem_outs.mpr hy))
        · rw [List.length_append]; omega
        · rw [List.length_append, List.length_append, List.length_singleton]; omega
end
end K06

set_option Elab.async false
set_option linter.all false
set_option maxRecDepth 100000
set_option maxHeartbeats 2000000
namespace Ami
open PySem PySem.Spec PyProof.Rows L2
/-- a dict comprehension over a walk: Pv by the turn and the heap -/
theorem dc_it {J : It} {n : Nat} {G : Hp → Prop} {Y : Nat → Hp → V → Hp → Prop} (w : Walk J n G Y) {g : TG} {tt : TT} {tk tv : TE} {vs : List Nat} {σ : L2.St} {H1 : Hp} {D : Addr} {Qd : Hp → Prop} (Pv : Nat → Hp → Prop) (h0 : Pv 0 (upd H1 D (.dK []))) (hG : ∀ i H, i ≤ n → Pv i H → G H)
    (hs : ∀ i x H H', i < n → Pv i H → Y i H x H' → g x (wipe σ vs) H' fun σ2 H2 => wipe σ2 vs = wipe σ vs ∧ tt σ2 H2 fun b H3 =>
      if b = true then tk σ2 H3 fun y H4 => tv σ2 H4 fun z H5 => ∃ kvs k, y = kV k ∧ H5 D = some (.dK kvs) ∧ kvs.length < sizeLine ∧ Pv (i + 1) (upd H5 D (.dK (putK kvs k z))) else Pv (i + 1) H3) (hd : ∀ H, Pv n H → Qd H) :
    ∃ W : Nat → Nat → Hp → Prop, (∃ m, W 0 m (upd H1 D (.dK []))) ∧ ∀ i m H, W i m H →
      (J.stop i H ∧ Qd H) ∨ (J.go i H ∧ ∃ Nx : Hp → Prop, (∀ H', Nx H' → ∃ m', m' < m ∧ W (i + 1) m' H') ∧ ∀ x H', J.yld i H x H' → g x (wipe σ vs) H' fun σ2 H2 => wipe σ2 vs = wipe σ vs ∧ tt σ2 H2 fun b H3 =>
        if b = true then tk σ2 H3 fun y H4 => tv σ2 H4 fun z H5 => ∃ kvs k, y = kV k ∧ H5 D = some (.dK kvs) ∧ kvs.length < sizeLine ∧ Nx (upd H5 D (.dK (putK kvs k z))) else Nx H3) := by
  refine ⟨fun i m H => i + m = n ∧ Pv i H, ⟨n, by omega, h0⟩, fun i m H ⟨hm, p⟩ => ?_⟩
  have q := hG i H (by omega) p
  cases m with
  | zero =>
    obtain rfl : i = n := by omega
    exact .inl ⟨w.stops H q, hd H p⟩
  | succ m =>
    have hi : i < n := by omega
    exact .inr ⟨w.goes i H hi q, Pv (i + 1), fun H' p' => ⟨m, by omega, by omega, p'⟩, fun x H' y => hs i x H H' hi p (w.yields i H x H' hi q y)⟩
theorem sqT_put {K : PySem.W.Frag} {H : Hp} {D : Addr} {xs : List V} {o : HO} (hD : H D = some (.lst xs)) {a : Addr} {ys : List V} (h : SqT K H a ys) : SqT K (upd H D o) a ys := by
  rcases h with (h | ⟨u, h⟩) | h
  · exact .inl (.inl (by rw [upd_ne (fun e => by rw [e, hD] at h; exact nomatch h)]; exact h))
  · exact .inl (.inr ⟨u, by rw [upd_ne (fun e => by rw [e, hD] at h; exact nomatch h)]; exact h⟩)
  · exact .inr h
theorem nodup_sub {α : Type} [DecidableEq α] : ∀ {l m : List α}, l.Nodup → (∀ x ∈ l, x ∈ m) → l.length ≤ m.length
  | [], _, _, _ => Nat.zero_le _
  | a :: l, m, nd, h => by
    rw [List.nodup_cons] at nd
    have := nodup_sub (m := m.erase a) nd.2 fun x hx => (List.mem_erase_of_ne (fun e : x = a => nd.1 (by rw [← e]; exact hx))).mpr (h x (List.mem_cons_of_mem _ hx))
    have ha := h a List.mem_cons_self
    rw [List.length_erase_of_mem ha] at this
    have := List.length_pos_of_mem ha
    rw [List.length_cons]
    omega
def fwd (rs : List Arr) : List (Int × Int) := rs.map fun r => (r.s, r.t)
def bwd (rs : List Arr) : List (Int × Int) := rs.map fun r => (r.t, r.s)
/-- it lies on the way of some record -/
def Busy (rs : List Arr) (x : Int) : Prop := Rch (fwd rs) x ∧ Rch (bwd rs) x
def spOnWays (K : PySem.W.Frag) : Sp := fun vs H Q _ => ∃ (t : Addr) (rs : List Arr), vs = [.ref t] ∧ ArrT K H t rs ∧ rs.length ≤ 10000 ∧ ∀ H' r R, Same H H' → H r = none → R.Nodup → (∀ x, x ∈ R ↔ Busy rs x) → H' r = some (.dK (rKvs R)) → Q (.ref r) H'
def spIdle (K : PySem.W.Frag) : Sp := fun vs H Q _ => ∃ (t : Addr) (rs : List Arr), vs = [.ref t] ∧ ArrT K H t rs ∧ rs.length ≤ 10000 ∧ ∀ H' (n : Nat), Same H H' → (∀ i : Nat, i < n → Busy rs i) → ¬ Busy rs n → Q (.int n) H'
end Ami
namespace K06
open PySem PySem.Spec PyProof.Rows L2 Ami
section
variable {P : Program} {w : World} {K : PySem.W.Frag} {mg : Str → Option Value} {base : Heap}
theorem ix_seqK {X : Cx} {K0 : PySem.W.Frag} (hK : X.K = K0) : IxR X (rIx K0) := by
  subst hK
  exact ix_seq
abbrev nOnWays : List Str := ["arrows", "arrow", "ahead", "back", "state"]
theorem scOnWays : FnScope nOnWays ["arrows"] (defScope sOnWays) := ⟨rfl, rfl, rfl, by decide +kernel, rfl, by decide +kernel, by decide +kernel⟩
/-- what is there behind i arrows -/
def PairP (K : PySem.W.Frag) (H : Hp) (D : Addr) (rs : List Arr) (f : Arr → Int × Int) (i : Nat) (H' : Hp) : Prop := ∃ xs, H' D = some (.lst xs) ∧ All2 (AtP K H') xs ((rs.take i).map f) ∧ Same H H'
theorem pairs_step {t D : Addr} {us : List V} {rs : List Arr} {H : Hp} (hD : H D = none) (hu : All2 (AtA K H) us rs) (hn : rs.length ≤ 10000) (i1 i2 : Nat) (f : Arr → Int × Int) (h1 : ∀ r : Arr, r.vs[i1]? = some (.int (f r).1)) (h2 : ∀ r : Arr, r.vs[i2]? = some (.int (f r).2))
    {v1 v2 v3 v4 : Option V} : ∀ (i : Nat) (x : V) (H1 : Hp), us[i]? = some x → PairP K H D rs f i H1 → gName 1 x (wipe [some (.ref t), v1, v2, v3, v4] [1]) H1 fun σ2 H2 => wipe σ2 [1] = wipe [some (.ref t), v1, v2, v3, v4] [1] ∧ tYes σ2 H2 fun b H3 =>
      if b = true then tTup (tCons (tOp (rIx K) (tVar 1) (tC (V.int (i1 : Nat)))) (tCons (tOp (rIx K) (tVar 1) (tC (V.int (i2 : Nat)))) tNil)) σ2 H3 fun y H4 => ∃ acc, H4 D = some (.lst acc) ∧ acc.length < sizeLine ∧ PairP K H D rs f (i + 1) (upd H4 D (.lst (acc ++ [y]))) else PairP K H D rs f (i + 1) H3 := by
  rintro i x H1 hx ⟨xs, eD, hxs, sm⟩
  obtain ⟨r, hr, at1⟩ := hu.at hx
  obtain ⟨p, rfl, hp⟩ := AtA.same sm at1
  refine ⟨rfl, ?_⟩
  dsimp only [tYes]
  refine iteT ?_
  refine ⟨_, rfl, .inr (.inl ⟨p, _, ((i1 : Nat) : Int), _, rfl, rfl, hp, atI_nat (h1 r), ?_⟩)⟩
  refine ⟨_, rfl, .inr (.inl ⟨p, _, ((i2 : Nat) : Int), _, rfl, rfl, hp, atI_nat (h2 r), ?_⟩)⟩
  refine ⟨(by show 2 ≤ sizeLine; decide), fun T hT => ?_⟩
  have sT : Same H1 (upd H1 T (.tup [.int (f r).1, .int (f r).2])) := Same.upd hT
  have eD' := sT _ _ eD
  have lxs := hxs.len
  have nTD : T ≠ D := fun e => by rw [e, eD] at hT; exact nomatch hT
  refine ⟨xs, eD', ?_, xs ++ [.ref T], upd_same, ?_, keep_put (sm.trans sT) hD⟩
  · rw [lxs, List.length_map, List.length_take]
    exact Nat.lt_of_le_of_lt (Nat.le_trans (Nat.min_le_right _ _) hn) (by decide)
  · have st : ∀ a ys, SqT K H1 a ys → SqT K (upd (upd H1 T (.tup [.int (f r).1, .int (f r).2])) D (.lst (xs ++ [V.ref T]))) a ys := fun a ys h => sqT_put eD' (sqT_same sT h)
    rw [take_snoc hr, List.map_append]
    exact All2.app (hxs.imp fun v q ⟨z, e, hz⟩ => ⟨z, e, st _ _ hz⟩) (.cons ⟨T, rfl, sqT_put eD' (SqT.of upd_same)⟩ .nil)
theorem pairs_all {D : Addr} {us : List V} {rs : List Arr} {H H' : Hp} {f : Arr → Int × Int} (hu : All2 (AtA K H) us rs) (h : PairP K H D rs f us.length H') : ∃ xs, H' D = some (.lst xs) ∧ All2 (AtP K H') xs (rs.map f) ∧ Same H H' := by
  obtain ⟨xs, eD, hxs, sm⟩ := h
  rw [List.take_of_length_le (by rw [← hu.len]; exact Nat.le_refl _)] at hxs
  exact ⟨xs, eD, hxs, sm⟩
theorem ok_onways {f f1 f2 : Addr} {fd fd1 fd2 : FuncData} (F : Fun K "states_on_ways" "states_on_ways" sOnWays f fd) (T : Blt mg) (D1 : DefAt K mg "links_of" sLinks ["pairs"] f1 fd1) (D2 : DefAt K mg "states_reached" sReached ["links"] f2 fd2) :
    FnOk P w K mg base CX0 2 f fd ["arrows"] (spOnWays K) := by
  have G1 : FnOk P w K mg base CX0 1 f1 fd1 ["pairs"] (spLinks K) := ok_links D1.F
  have G2 : FnOk P w K mg base CX0 1 f2 fd2 ["links"] spReach := ok_reached D2.F T
  refine F.ok scOnWays (fun vs H Q E h => ?_) (fun cdv A outer s H vs Q E hr h => ?_)
  · obtain ⟨t, rs, rfl, _⟩ := h
    rfl
  · obtain ⟨t, rs, rfl, ⟨us, ht, hu⟩, hn, k⟩ := h
    have hu1 := hu_of hr
    have two : ∀ a b : Int, True := fun _ _ => trivial
    refine ⟨_, pss_cons (ps_set (i := 2) scOnWays.nd rfl (Or.inl rfl) (pc D2 G2 hr (pa_cons (pc D1 G1 hr (pa_cons (pe_lc (own := [("arrow", 1)]) (g := gName 1) (tt := tYes) rfl scOnWays.nd (pi_tup (pv 0)) (blkOk_by (own := [("arrow", 1)]) (N := nOnWays) (sc := defScope sOnWays) (by decide +kernel))
          (fun _ _ _ _ _ => pg_name (i := 1) scOnWays.nd rfl (Or.inl rfl)) (fun _ _ _ _ _ => pts_nil)
          (fun _ _ _ _ _ => pe_tup (pa_cons (pe_ix (ix_seqK (K0 := K) rfl) (pv 1) pe_int (fun _ _ => rfl)) (pa_cons (pe_ix (ix_seqK (K0 := K) rfl) (pv 1) pe_int (fun _ _ => rfl)) pa_nil)))) pa_nil)) pa_nil)))
      (pss_cons (ps_set (i := 3) scOnWays.nd rfl (Or.inr rfl) (pc D2 G2 hr (pa_cons (pc D1 G1 hr (pa_cons (pe_lc (own := [("arrow", 1)]) (g := gName 1) (tt := tYes) rfl scOnWays.nd (pi_tup (pv 0)) (blkOk_by (own := [("arrow", 1)]) (N := nOnWays) (sc := defScope sOnWays) (by decide +kernel))
          (fun _ _ _ _ _ => pg_name (i := 1) scOnWays.nd rfl (Or.inl rfl)) (fun _ _ _ _ _ => pts_nil)
          (fun _ _ _ _ _ => pe_tup (pa_cons (pe_ix (ix_seqK (K0 := K) rfl) (pv 1) pe_int (fun _ _ => rfl)) (pa_cons (pe_ix (ix_seqK (K0 := K) rfl) (pv 1) pe_int (fun _ _ => rfl)) pa_nil)))) pa_nil)) pa_nil)))
      (pss_one (ps_ret (pe_lock (pe_dc (own := [("state", 4)]) (g := gName 4) rfl scOnWays.nd (pi_keys (pv 2)) (blkOk_by (own := [("state", 4)]) (N := nOnWays) (sc := defScope sOnWays) (by decide +kernel))
          (fun _ _ _ _ _ => pg_name (i := 4) scOnWays.nd rfl (Or.inl rfl)) (fun _ _ _ _ _ => pts_one (pt_cmp (pc_din hu1 (pv 4) (pv 3)))) (fun _ _ _ _ _ => pv 4) (fun _ _ _ _ _ => pe_bl)))))), ?_⟩
    refine ⟨_, rfl, t, rfl, ⟨_, ht⟩, fun l hl => ?_⟩
    refine lc_tup (K := K) (a := t) (xs := us) (PairP K H l rs (fun r => (r.s, r.t))) ⟨[], upd_same, (by rw [List.take_zero]; exact .nil), Same.upd hl⟩ (fun i H' _ ⟨_, _, _, sm⟩ => sqT_same sm ht) (pairs_step (t := t) hl hu hn 0 2 _ (fun _ => rfl) (fun _ => rfl)) fun H1 hP => ?_
    obtain ⟨xs, el, hxs, s1⟩ := pairs_all hu hP
    refine ⟨l, xs, fwd rs, rfl, el, hxs, by unfold fwd; rw [List.length_map]; exact hn, fun H2 d L => ?_⟩
    refine ⟨d, H1, fwd rs, rfl, L, by unfold fwd; rw [List.length_map]; exact hn, fun H3 r R s3 hr0 nR hR er => ?_⟩
    have s13 : Same H H3 := (s1.trans L.old).trans s3
    have ht3 := sqT_same s13 ht
    have hu3 := AtAs.keep s13 hu
    refine ⟨_, rfl, t, rfl, ⟨_, ht3⟩, fun l2 hl2 => ?_⟩
    refine lc_tup (K := K) (a := t) (xs := us) (PairP K H3 l2 rs (fun r => (r.t, r.s))) ⟨[], upd_same, (by rw [List.take_zero]; exact .nil), Same.upd hl2⟩ (fun i H' _ ⟨_, _, _, sm⟩ => sqT_same sm ht3) (pairs_step (t := t) hl2 hu3 hn 2 0 _ (fun _ => rfl) (fun _ => rfl)) fun H4 hP2 => ?_
    obtain ⟨xs2, el2, hxs2, s4⟩ := pairs_all hu3 hP2
    refine ⟨l2, xs2, bwd rs, rfl, el2, hxs2, by unfold bwd; rw [List.length_map]; exact hn, fun H5 d2 L5 => ?_⟩
    refine ⟨d2, H4, bwd rs, rfl, L5, by unfold bwd; rw [List.length_map]; exact hn, fun H6 r2 R2 s6 hr2 nR2 hR2 er2 => ?_⟩
    have s36 : Same H3 H6 := (s4.trans L5.old).trans s6
    have er6 := s36 _ _ er
    have rn : H r = none := by
      cases z : H r with
      | none => rfl
      | some o => rw [L.old _ _ (s1 _ _ z)] at hr0; exact nomatch hr0
    have nrr : r2 ≠ r := fun e => by rw [e] at hr2; rw [(s4.trans L5.old) _ _ er] at hr2; exact nomatch hr2
    refine ⟨r, _, er6, trivial, fun od => ?_⟩
    have eF : (upd H6 r (.frz od (.dK (rKvs R)))) r = some (.frz od (.dK (rKvs R))) := upd_same
    have er2F : (upd H6 r (.frz od (.dK (rKvs R)))) r2 = some (.dK (rKvs R2)) := by rw [upd_ne nrr]; exact er2
    have s6F : Same H (upd H6 r (.frz od (.dK (rKvs R)))) := keep_put (s13.trans s36) rn
    have back : upd (upd H6 r (.frz od (.dK (rKvs R)))) r (.dK (rKvs R)) = H6 := by
      rw [upd_upd]
      funext a
      by_cases e : a = r
      · rw [e, upd_same, er6]
      · rw [upd_ne e]
    revert eF er2F s6F
    generalize upd H6 r (.frz od (.dK (rKvs R))) = HF
    intro eF er2F s6F
    refine ⟨_, rfl, r, od, rfl, .inl ⟨_, eF, fun C hC => ?_⟩⟩
    have nrC : r ≠ C := fun e => by rw [← e, eF] at hC; exact nomatch hC
    have nr2C : r2 ≠ C := fun e => by rw [← e, er2F] at hC; exact nomatch hC
    have hCn : H C = none := by
      cases z : H C with
      | none => rfl
      | some o => rw [s6F _ _ z] at hC; exact nomatch hC
    have lRn : (rKvs R).length = R.length := by unfold rKvs; rw [List.length_map]
    have lR : R.length ≤ 10000 := by
      have sub : ∀ x ∈ R, x ∈ (fwd rs).map (·.2) := fun x hx => by
        cases (hR x).mp hx with
        | one h => exact List.mem_map.mpr ⟨_, h, rfl⟩
        | step _ h => exact List.mem_map.mpr ⟨_, h, rfl⟩
      have := nodup_sub nR sub
      rw [List.length_map] at this
      unfold fwd at this
      rw [List.length_map] at this
      omega
    refine dc_it walk_keys (fun i H' => H' = upd HF C (.dK (rKvs ((R.take i).filter fun x => decide (x ∈ R2))))) rfl (fun i H' _ e => by subst e; rw [upd_ne nrC]; exact eF) ?_ ?_
    · rintro i x H7 H8 hi rfl ⟨rfl, key, v, hkv, rfl⟩
      rw [lRn] at hi
      have hkv' : (rKvs R)[i]? = some ((.inl R[i] : Key), V.bl true) := by
        unfold rKvs
        rw [List.getElem?_map, List.getElem?_eq_getElem hi]; rfl
      rw [hkv'] at hkv
      cases hkv
      have etk : (R.take (i + 1)).filter (fun x => decide (x ∈ R2)) = (R.take i).filter (fun x => decide (x ∈ R2)) ++ (if R[i] ∈ R2 then [R[i]] else []) := by
        rw [take_snoc (List.getElem?_eq_getElem hi), List.filter_append]
        by_cases h : R[i] ∈ R2
        · rw [if_pos h, List.filter_cons_of_pos (by simpa using h)]; rfl
        · rw [if_neg h, List.filter_cons_of_neg (by simpa using h)]; rfl
      have e2 : (upd HF C (.dK (rKvs ((R.take i).filter fun x => decide (x ∈ R2))))) r2 = some (.dK (rKvs R2)) := by rw [upd_ne nr2C]; exact er2F
      refine ⟨rfl, ?_⟩
      refine ⟨_, rfl, _, rfl, r2, _, rfl, DGet.k (k := .inl R[i]) e2, _, rfl, ?_⟩
      rw [rKvs_val, etk]
      by_cases h : R[i] ∈ R2
      · rw [if_pos h, if_pos h]
        refine iteT ?_
        refine ⟨_, rfl, _, .inl R[i], rfl, upd_same, ?_, ?_⟩
        · unfold rKvs
          rw [List.length_map]
          exact Nat.lt_of_le_of_lt (Nat.le_trans (List.length_filter_le _ _) (Nat.le_trans (List.length_take_le' _ _) lR)) (by decide)
        · have hno : R[i] ∉ (R.take i).filter fun x => decide (x ∈ R2) := fun z => by
            have z1 := (List.mem_filter.mp z).1
            have nn : R.Nodup := nR
            rw [← List.take_append_drop i R, List.nodup_append] at nn
            exact nn.2.2 _ z1 _ (by rw [List.drop_eq_getElem_cons hi]; exact List.mem_cons_self) rfl
          rw [upd_upd, putK_new _ (by rw [rKvs_val, if_neg hno])]
          unfold rKvs
          rw [List.map_append]; rfl
      · rw [if_neg h, if_neg h, List.append_nil]
        exact iteF rfl
    · rintro H7 rfl
      rw [List.take_of_length_le (by rw [lRn]; exact Nat.le_refl _)]
      refine ⟨by rw [upd_ne nrC]; exact eF, ?_⟩
      refine k _ C (R.filter fun x => decide (x ∈ R2)) (keep_put (keep_put s6F hCn) rn) hCn (nR.filter _) (fun x => ?_) (by rw [upd_ne (Ne.symm nrC), upd_same])
      rw [List.mem_filter, decide_eq_true_eq, hR, hR2]; rfl
end
end K06

set_option Elab.async false
set_option linter.all false
set_option maxRecDepth 100000
set_option maxHeartbeats 2000000
namespace K06
open PySem PySem.Spec PyProof.Rows L2 Ami
section
variable {P : Program} {w : World} {K : PySem.W.Frag} {mg : Str → Option Value} {base : Heap}
theorem scIdle : FnScope ["arrows", "busy", "state"] ["arrows"] (defScope sIdle) := ⟨rfl, rfl, rfl, by decide +kernel, rfl, by decide +kernel, by decide +kernel⟩
theorem ok_idle {f f1 : Addr} {fd fd1 : FuncData} (F : Fun K "least_idle_state" "least_idle_state" sIdle f fd) (D1 : DefAt K mg "states_on_ways" sOnWays ["arrows"] f1 fd1) (G1 : FnOk P w K mg base CX0 2 f1 fd1 ["arrows"] (spOnWays K)) :
    FnOk P w K mg base CX0 3 f fd ["arrows"] (spIdle K) := by
  refine F.ok scIdle (fun vs H Q E h => ?_) (fun cdv A outer s H vs Q E hr h => ?_)
  · obtain ⟨t, rs, rfl, _⟩ := h
    rfl
  · obtain ⟨t, rs, rfl, hA, hn, k⟩ := h
    have hu1 := hu_of hr
    refine ⟨_, pss_cons (ps_set (i := 1) scIdle.nd rfl (Or.inl rfl) (pc D1 G1 hr (pa_cons (pv 0) pa_nil)))
      (pss_cons (ps_set (i := 2) scIdle.nd rfl (Or.inl rfl) pe_int)
      (pss_cons (ps_while PassesOwn.never (pt_cmp (pc_din hu1 (pv 2) (pv 1))) (pss_one (ps_aug (i := 2) scIdle.nd rfl (Or.inl rfl) pe_int ip_add)))
      (pss_one (ps_ret (pv 2))))), ?_⟩
    refine ⟨_, rfl, t, rs, rfl, hA, hn, fun H1 r R s1 hr0 nR hR er => ?_⟩
    refine ⟨fun m σ H' => ∃ n : Nat, σ = [some (.ref t), some (.ref r), some (.int n)] ∧ H' = H1 ∧ (∀ i : Nat, i < n → ((i : Nat) : Int) ∈ R) ∧ n + m = R.length, ⟨R.length, 0, rfl, rfl, (fun i hi => absurd hi (Nat.not_lt_zero _)), Nat.zero_add _⟩, ?_⟩
    rintro m σ H' ⟨n, rfl, rfl, hb, hm⟩
    refine ⟨_, rfl, _, rfl, r, _, rfl, DGet.k (k := .inl ((n : Nat) : Int)) er, _, rfl, ?_⟩
    rw [rKvs_val]
    by_cases h : ((n : Nat) : Int) ∈ R
    · rw [if_pos h]
      refine iteT ?_
      have le : n + 1 ≤ R.length := by
        have := nodup_sub (l := (List.range (n + 1)).map fun i : Nat => (i : Int)) (m := R) (List.pairwise_map.mpr (List.nodup_range.imp fun h e => h (Int.ofNat.inj e))) fun x hx => by
          obtain ⟨i, hi, rfl⟩ := List.mem_map.mp hx
          rcases Nat.lt_or_ge i n with z | z
          · exact hb i z
          · obtain rfl : i = n := by have := List.mem_range.mp hi; omega
            exact h
        rw [List.length_map, List.length_range] at this
        exact this
      refine ⟨fun σ2 H2 => σ2 = [some (.ref t), some (.ref r), some (.int ((n + 1 : Nat) : Int))] ∧ H2 = H', fun σ2 H2 ⟨e1, e2⟩ => ⟨R.length - (n + 1), by omega, n + 1, e1, e2, fun i hi => ?_, by omega⟩, ?_⟩
      · rcases Nat.lt_or_ge i n with z | z
        · exact hb i z
        · obtain rfl : i = n := by omega
          exact h
      · exact ⟨_, rfl, _, _, rfl, rfl, rfl, rfl⟩
    · rw [if_neg h]
      refine iteF ?_
      refine ⟨_, rfl, k _ n s1 (fun i hi => (hR _).mp (hb i hi)) fun z => h ((hR _).mpr z)⟩
end
end K06
namespace Ami
open PySem PySem.Spec PyProof.Rows L2
/-- what stands nowhere -/
theorem ps_dead {X : Cx} {st : Stmt} : PS X st (fun _ _ _ => False) := ⟨fun _ _ _ _ _ _ h => h.elim⟩
/-- the parts of a format -/
structure Good (ls : Str) (n : Nat) (rs : List Arr) : Prop where
  lets : isLetB ls = true
  plain : ls.length ≤ 100000 ∧ Asc ls
  n1 : 1 ≤ n
  arr : ∀ r ∈ rs, arrowB ls n r = true ∧ r.short
  asc : ascB rs = true
  ne : 0 < rs.length
  len : rs.length ≤ 10000
  busy : ∀ i : Nat, i < n → Busy rs i
def spCheck (K : PySem.W.Frag) : Sp := fun vs H Q _ => ∃ (ls : Str) (n : Nat) (t : Addr) (rs : List Arr), vs = [.str ls, .int n, .ref t] ∧ Good ls n rs ∧ ArrT K H t rs ∧ ∀ H', Same H H' → Q .non H'
end Ami
namespace K06
open PySem PySem.Spec PyProof.Rows L2 Ami
section
variable {P : Program} {w : World} {K : PySem.W.Frag} {mg : Str → Option Value} {base : Heap}
abbrev nCheck : List Str := ["letters", "states", "arrows", "arrow", "idle"]
theorem scCheck : FnScope nCheck ["letters", "states", "arrows"] (defScope sCheck) := ⟨rfl, rfl, rfl, by decide +kernel, rfl, by decide +kernel, by decide +kernel⟩
theorem ok_check {f f1 f2 f3 f4 f5 : Addr} {fd fd1 fd2 fd3 fd4 fd5 : FuncData} (F : Fun K "check_parts" "check_parts" sCheck f fd) (T : Blt mg)
    (D1 : DefAt K mg "is_letters" sLetters ["thing"] f1 fd1) (G1 : FnOk P w K mg base CX0 2 f1 fd1 ["thing"] (spIsLetters K))
    (D2 : DefAt K mg "is_integer" sIsInt ["thing"] f2 fd2)
    (D3 : DefAt K mg "is_arrow" sArrow ["letters", "states", "thing"] f3 fd3) (G3 : FnOk P w K mg base CX0 3 f3 fd3 ["letters", "states", "thing"] (spArrow K))
    (D4 : DefAt K mg "is_ascending" sAsc ["arrows"] f4 fd4)
    (D5 : DefAt K mg "least_idle_state" sIdle ["arrows"] f5 fd5) (G5 : FnOk P w K mg base CX0 3 f5 fd5 ["arrows"] (spIdle K)) :
    FnOk P w K mg base CX0 4 f fd ["letters", "states", "arrows"] (spCheck K) := by
  have G2 : FnOk P w K mg base CX0 1 f2 fd2 ["thing"] spIsInt := ok_isInt D2.F T
  have G4 : FnOk P w K mg base CX0 1 f4 fd4 ["arrows"] (spAsc K) := ok_asc D4.F T
  refine F.ok scCheck (fun vs H Q E h => ?_) (fun cdv A outer s H vs Q E hr h => ?_)
  · obtain ⟨ls, n, t, rs, rfl, _⟩ := h
    rfl
  · obtain ⟨ls, n, t, rs, rfl, g, hA, k⟩ := h
    have hr1 := hr.mono (j := 1) (by decide)
    have hr2 := hr.mono (j := 2) (by decide)
    refine ⟨_, pss_cons (ps_if (pt_not (pt_val (pc D1 G1 hr2 (pa_cons (pv 0) pa_nil)))) (pss_one ps_dead) pss_nil)
      (pss_cons (ps_if (PW.pt (pw_or (pt_not (pt_val (pc D2 G2 hr1 (pa_cons (pv 1) pa_nil)))) (pw_or1 (pt_cmpR op_lt (pv 1) pe_int (nomark _))))) (pss_one ps_dead) pss_nil)
      (pss_cons (ps_if (pt_not (pt_val (pe_callB call_isi (by rfl) T.isi (by decide +kernel) (pa_cons (pv 2) (pa_cons (pe_bltn (v := .ty "tuple") (by rfl) T.tuple (by decide +kernel) rfl) pa_nil))))) (pss_one ps_dead) pss_nil)
      (pss_cons (ps_for PassesOwn.never rfl (pi_tup (pv 2)) (pg_name (i := 3) scCheck.nd rfl (Or.inl rfl))
        (pss_one (ps_if (pt_not (pt_val (pc D3 G3 hr (pa_cons (pv 0) (pa_cons (pv 1) (pa_cons (pv 3) pa_nil)))))) (pss_one ps_dead) pss_nil)))
      (pss_cons (ps_if (pt_not (pt_val (pc D4 G4 hr1 (pa_cons (pv 2) pa_nil)))) (pss_one ps_dead) pss_nil)
      (pss_cons (ps_set (i := 4) scCheck.nd rfl (Or.inl rfl) (pc D5 G5 hr (pa_cons (pv 2) pa_nil)))
      (pss_one (ps_if (pt_cmpR op_lt (pv 4) (pv 1) (nomark _)) (pss_one ps_dead) pss_nil))))))), ?_⟩
    have n1 := g.n1
    refine ⟨_, rfl, .str ls, some ls, rfl, ⟨rfl, g.plain.1, g.plain.2⟩, fun H1 s1 => ⟨_, rfl, ?_⟩⟩
    have e1 : letO (some ls) = true := g.lets
    rw [e1]
    refine iteF ?_
    refine ⟨_, rfl, n, rfl, fun H2 s2 => ⟨_, rfl, ?_⟩⟩
    refine iteF ?_
    refine ⟨_, rfl, _, _, rfl, rfl, _, rfl, ?_⟩
    rw [decide_eq_false (by omega)]
    refine iteF ?_
    have s12 := s1.trans s2
    obtain ⟨us, ht, hu⟩ := hA
    have ht2 := sqT_same s12 ht
    have hu2 := AtAs.keep s12 hu
    refine ⟨_, rfl, .ref t, .ty "tuple", .type "tuple", .type "tuple", true, rfl, .ty _, tyx_tup ht2, kit_ty (by decide +kernel), _, rfl, ?_⟩
    refine iteF ?_
    refine ⟨_, rfl, t, rfl, ⟨_, ht2⟩, ?_⟩
    refine for_tup (K := K) (a := t) (xs := us) (fun i σ H' => ∃ v3 : Option V, σ = [some (.str ls), some (.int n), some (.ref t), v3, none] ∧ Same H2 H') ⟨_, rfl, Same.refl _⟩ (fun i σ H' _ ⟨_, _, sm⟩ => sqT_same sm ht2) ?_ ?_
    · rintro i x σ H3 hx ⟨v3, rfl, sm⟩
      obtain ⟨r, hr', at1⟩ := hu2.at hx
      obtain ⟨a1, a2⟩ := g.arr r (List.mem_of_getElem? hr')
      refine ⟨_, rfl, _, rfl, _, rfl, ls, n, x, r, rfl, AtA.same sm at1, a2, fun H4 s4 => ⟨_, rfl, ?_⟩⟩
      rw [a1]
      exact iteF ⟨_, rfl, sm.trans s4⟩
    · rintro σ H3 ⟨v3, rfl, s3⟩
      have s23 := s12.trans s3
      refine ⟨_, rfl, t, rs, rfl, ⟨us, sqT_same s23 ht, AtAs.keep s23 hu⟩, g.ne, g.len, fun H4 s4 => ⟨_, rfl, ?_⟩⟩
      rw [g.asc]
      refine iteF ?_
      have s24 := s23.trans s4
      refine ⟨_, rfl, t, rs, rfl, ⟨us, sqT_same s24 ht, AtAs.keep s24 hu⟩, g.len, fun H5 m s5 hb hnb => ?_⟩
      have le : n ≤ m := Nat.le_of_not_lt fun z => hnb (g.busy m z)
      refine ⟨_, rfl, _, rfl, _, _, rfl, rfl, _, rfl, ?_⟩
      rw [decide_eq_false (by omega)]
      exact iteF (k _ (s24.trans s5))
end
end K06

set_option Elab.async false
set_option linter.all false
set_option maxRecDepth 100000
set_option maxHeartbeats 4000000
namespace Ami
open PySem PySem.Spec PyProof.Rows L2
theorem sqT_upd {K : PySem.W.Frag} {H : Hp} {D : Addr} {o : HO} (h1 : ∀ ys, H D ≠ some (.tup ys)) (h2 : ∀ u ys, H D ≠ some (.frz u (.tup ys))) {a : Addr} {ys : List V} (h : SqT K H a ys) : SqT K (upd H D o) a ys := by
  rcases h with (h | ⟨u, h⟩) | h
  · exact .inl (.inl (by rw [upd_ne (fun e : a = D => h1 ys (by rw [← e]; exact h))]; exact h))
  · exact .inl (.inr ⟨u, by rw [upd_ne (fun e : a = D => h2 u ys (by rw [← e]; exact h))]; exact h⟩)
  · exact .inr h
/-- where an arrow leads -/
def AtK (K : PySem.W.Frag) (H : Hp) (v : V) (p : Int × Str) : Prop := ∃ q, v = .ref q ∧ SqT K H q [.int p.1, .str p.2]
theorem AtK.keep {K : PySem.W.Frag} {H H' : Hp} (t : ∀ a xs, SqT K H a xs → SqT K H' a xs) {v : V} {p : Int × Str} : AtK K H v p → AtK K H' v p := fun ⟨q, e, s⟩ => ⟨q, e, t _ _ s⟩
def hits (rs : List Arr) (s : Int) (l : Str) : List (Int × Str) := (rs.filter fun r => decide (r.s = s ∧ r.l = l)).map fun r => (r.t, r.k)
theorem hits_snoc (rs : List Arr) (r : Arr) (s : Int) (l : Str) : hits (rs ++ [r]) s l = hits rs s l ++ if r.s = s ∧ r.l = l then [(r.t, r.k)] else [] := by
  unfold hits
  rw [List.filter_append, List.map_append]
  by_cases h : r.s = s ∧ r.l = l
  · rw [if_pos h, List.filter_cons_of_pos (by simpa using h)]; rfl
  · rw [if_neg h, List.filter_cons_of_neg (by simpa using h)]; rfl
theorem hits_len (rs : List Arr) (s : Int) (l : Str) : (hits rs s l).length ≤ rs.length := by
  unfold hits; rw [List.length_map]; exact List.length_filter_le _ _
abbrev wkey (s : Int) (l : Str) : List Key := [.inl s, .inr l]
theorem wkey_inj {s s' : Int} {l l' : Str} : wkey s l = wkey s' l' ↔ s = s' ∧ l = l' := by
  constructor
  · intro h
    injection h with h1 h2
    injection h2 with h2 _
    exact ⟨Sum.inl.inj h1, Sum.inr.inj h2⟩
  · rintro ⟨rfl, rfl⟩; rfl
/-- the dict of the ways at d; it and its lists are new since H0 -/
structure Wy (K : PySem.W.Frag) (H0 H : Hp) (d : Addr) (rs : List Arr) : Prop where
  old : Same H0 H
  dn : H0 d = none
  ex : ∃ kvs : List (List Key × V), H d = some (.dT kvs) ∧ kvs.length ≤ rs.length ∧ (∀ s l, valV kvs (wkey s l) = none → hits rs s l = []) ∧
    (∀ s l v, valV kvs (wkey s l) = some v → ∃ b xs, v = .ref b ∧ b ≠ d ∧ H0 b = none ∧ H b = some (.lst xs) ∧ All2 (AtK K H) xs (hits rs s l)) ∧
    ∀ s l s' l' v, valV kvs (wkey s l) = some v → valV kvs (wkey s' l') = some v → s = s' ∧ l = l'
def spWays (K : PySem.W.Frag) : Sp := fun vs H Q _ => ∃ (t : Addr) (rs : List Arr), vs = [.ref t] ∧ ArrT K H t rs ∧ rs.length ≤ 10000 ∧ ∀ H' d, Wy K H H' d rs → Q (.ref d) H'
end Ami
namespace K06
open PySem PySem.Spec PyProof.Rows L2 Ami
section
variable {P : Program} {w : World} {K : PySem.W.Frag} {mg : Str → Option Value} {base : Heap}
abbrev nWays : List Str := ["arrows", "ways", "source", "letter", "target", "kind"]
theorem scWays : FnScope nWays ["arrows"] (defScope sWays) := ⟨rfl, rfl, rfl, by decide +kernel, rfl, by decide +kernel, by decide +kernel⟩
theorem ok_ways {f : Addr} {fd : FuncData} (F : Fun K "ways_of" "ways_of" sWays f fd) : FnOk P w K mg base CX0 1 f fd ["arrows"] (spWays K) := by
  refine F.ok scWays (fun vs H Q E h => ?_) (fun cdv A outer s H vs Q E hr h => ?_)
  · obtain ⟨t, rs, rfl, _⟩ := h
    rfl
  · obtain ⟨t, rs, rfl, ⟨us, ht, hu⟩, hn, k⟩ := h
    have hun := hr.units
    have hu2 : (A.deeper (envOfC "ways_of" (defScope sWays) s.heap.objs.size f cdv)).units + 2 < cLine := by omega
    refine ⟨_, pss_cons (ps_set (i := 1) scWays.nd rfl (Or.inl rfl) pe_dnewT)
      (pss_cons (ps_for PassesOwn.never rfl (pi_tup (pv 0)) (pg_tup (by rfl) (pgs_cons (pg_name (i := 2) scWays.nd rfl (Or.inl rfl)) (pgs_cons (pg_name (i := 3) scWays.nd rfl (Or.inl rfl)) (pgs_cons (pg_name (i := 4) scWays.nd rfl (Or.inl rfl)) (pgs_cons (pg_name (i := 5) scWays.nd rfl (Or.inl rfl)) pgs_nil)))))
        (pss_one (ps_expr (pe_bm PySem.F.plainAttrs_list PySem.F.slot_list_append PySem.F.type_list_append mt_append (pe_dsetdT hu2 (pv 1) (pe_tup (pa_cons (pv 2) (pa_cons (pv 3) pa_nil))) (pe_lst pa_nil) ⟨by rfl, by rfl, by rfl, by rfl⟩)
          (pa_cons (pe_tup (pa_cons (pv 4) (pa_cons (pv 5) pa_nil))) pa_nil)))))
      (pss_one (ps_ret (pv 1)))), ?_⟩
    refine fun d hd => ?_
    have s0 : Same H (upd H d (.dT [])) := Same.upd hd
    refine ⟨_, rfl, t, rfl, ⟨us, sqT_same s0 ht⟩, ?_⟩
    refine for_tup (K := K) (a := t) (xs := us) (fun i σ H' => ∃ v2 v3 v4 v5 : Option V, σ = [some (.ref t), some (.ref d), v2, v3, v4, v5] ∧ Wy K H H' d (rs.take i))
      ⟨_, _, _, _, rfl, ⟨s0, hd, [], upd_same, Nat.zero_le _, (fun s l _ => by rw [List.take_zero]; rfl), (fun s l v z => nomatch z), fun s l s' l' v z => nomatch z⟩⟩ (fun i σ H' _ ⟨_, _, _, _, _, lk⟩ => sqT_same lk.old ht) ?_ ?_
    · rintro i x σ H1 hx ⟨v2, v3, v4, v5, rfl, ⟨old, dn, kvs, ek, el, e0, ev, ei⟩⟩
      obtain ⟨r, hr', at1⟩ := hu.at hx
      obtain ⟨p, rfl, hp⟩ := AtA.same old at1
      have etk := take_snoc hr'
      have lrs : (rs.take i).length ≤ 10000 := Nat.le_trans (List.length_take_le' _ _) hn
      refine ⟨p, _, rfl, hp, rfl, ?_⟩
      refine ⟨_, _, rfl, _, _, rfl, _, _, rfl, _, _, rfl, rfl, ?_⟩
      refine ⟨_, rfl, d, rfl, .inr ⟨kvs, .inl ek⟩, ?_⟩
      refine ⟨_, rfl, _, rfl, (by show 2 ≤ sizeLine; decide), fun q hq => ?_⟩
      have sq : Same H1 (upd H1 q (.tup [.int r.s, .str r.l])) := Same.upd hq
      have eq : (upd H1 q (.tup [.int r.s, .str r.l])) q = some (.tup ((wkey r.s r.l).map kV)) := upd_same
      refine ⟨Nat.zero_le _, fun b hb => ?_⟩
      have sb : Same H1 (upd (upd H1 q (.tup [.int r.s, .str r.l])) b (.lst [])) := sq.trans (Same.upd hb)
      have eqb := Same.upd (o := .lst []) hb _ _ eq
      have eb : (upd (upd H1 q (.tup [.int r.s, .str r.l])) b (.lst [])) b = some (.lst []) := upd_same
      have hb1 : H1 b = none := by
        cases z : H1 b with
        | none => rfl
        | some o => rw [sq _ _ z] at hb; exact nomatch hb
      revert sb eqb eb
      generalize upd (upd H1 q (.tup [.int r.s, .str r.l])) b (.lst []) = H2
      intro sb eqb eb
      have nbd : b ≠ d := fun e => by rw [e, ek] at hb1; exact nomatch hb1
      have ek2 := sb _ _ ek
      have hb0 : H b = none := by
        cases z : H b with
        | none => rfl
        | some o => rw [old _ _ z] at hb1; exact nomatch hb1
      have old2 := old.trans sb
      have keep2 : ∀ a xs, SqT K H1 a xs → SqT K H2 a xs := fun a xs h => sqT_same sb h
      refine ⟨kvs, wkey r.s r.l, q, ek2, rfl, eqb, Nat.lt_of_le_of_lt (Nat.le_trans el lrs) (by decide), fun v hv => ?_, fun hv => ?_⟩
      · obtain ⟨c, xs, rfl, cd, c0, ec, hxs⟩ := ev _ _ _ hv
        have ec2 := sb _ _ ec
        refine ⟨.inl ⟨rfl, _, SqL.of ec2⟩, _, rfl, _, rfl, (by show 2 ≤ sizeLine; decide), fun T0 hT => ?_⟩
        have sT : Same H2 (upd H2 T0 (.tup [.int r.t, .str r.k])) := Same.upd hT
        have eT : SqT K (upd H2 T0 (.tup [.int r.t, .str r.k])) T0 [.int r.t, .str r.k] := SqT.of upd_same
        have ec3 := sT _ _ ec2
        have ek3 := sT _ _ ek2
        have old3 := old2.trans sT
        have keep3 : ∀ a xs, SqT K H1 a xs → SqT K (upd H2 T0 (.tup [.int r.t, .str r.k])) a xs := fun a xs h => sqT_same sT (keep2 _ _ h)
        revert sT eT ec3 ek3 old3 keep3
        generalize upd H2 T0 (.tup [.int r.t, .str r.k]) = H3
        intro sT eT ec3 ek3 old3 keep3
        have lx := hxs.len
        refine ⟨c, _, _, rfl, rfl, ec3, ?_, ?_⟩
        · rw [lx]
          exact Nat.lt_of_le_of_lt (Nat.le_trans (hits_len _ _ _) lrs) (by decide)
        have keep4 : ∀ a ys, SqT K H3 a ys → SqT K (upd H3 c (.lst (xs ++ [V.ref T0]))) a ys := fun a ys h => sqT_put ec3 h
        rw [etk]
        refine ⟨_, _, _, _, rfl, ⟨keep_put old3 c0, dn, kvs, by rw [upd_ne (Ne.symm cd)]; exact ek3, by rw [List.length_append]; omega, fun s l hx => ?_, fun s l v hv' => ?_, ei⟩⟩
        · rw [hits_snoc, e0 s l hx, if_neg fun e => ?_]; rfl
          obtain ⟨e1, e2⟩ := e
          rw [← e1, ← e2, hv] at hx
          exact nomatch hx
        · obtain ⟨c', xs', rfl, cd', c0', ec', hxs'⟩ := ev s l _ hv'
          rw [hits_snoc]
          by_cases e : r.s = s ∧ r.l = l
          · obtain ⟨rfl, rfl⟩ := e
            rw [hv] at hv'
            cases hv'
            rw [ec] at ec'
            cases ec'
            rw [if_pos ⟨rfl, rfl⟩]
            exact ⟨c, _, rfl, cd, c0, upd_same, All2.app (hxs.imp fun _ _ => AtK.keep fun a ys h => keep4 _ _ (keep3 _ _ h)) (.cons ⟨T0, rfl, keep4 _ _ eT⟩ .nil)⟩
          · have ncc : c' ≠ c := fun z => e (ei r.s r.l s l _ hv (by rw [hv', z]))
            rw [if_neg e, List.append_nil]
            exact ⟨c', xs', rfl, cd', c0', by rw [upd_ne ncc]; exact sT _ _ (sb _ _ ec'), hxs'.imp fun _ _ => AtK.keep fun a ys h => keep4 _ _ (keep3 _ _ h)⟩
      · have kd : ∀ a ys, SqT K H2 a ys → SqT K (upd H2 d (.dT (putK kvs (wkey r.s r.l) (.ref b)))) a ys := fun a ys h => sqT_upd (fun ys z => by rw [ek2] at z; exact nomatch z) (fun u ys z => by rw [ek2] at z; exact nomatch z) h
        have ebd : (upd H2 d (.dT (putK kvs (wkey r.s r.l) (.ref b)))) b = some (.lst []) := by rw [upd_ne nbd]; exact eb
        have edd : (upd H2 d (.dT (putK kvs (wkey r.s r.l) (.ref b)))) d = some (.dT (putK kvs (wkey r.s r.l) (.ref b))) := upd_same
        have old2d : Same H (upd H2 d (.dT (putK kvs (wkey r.s r.l) (.ref b)))) := keep_put old2 dn
        have on : ∀ a o, a ≠ d → H2 a = some o → (upd H2 d (.dT (putK kvs (wkey r.s r.l) (.ref b)))) a = some o := fun a o h e => by rw [upd_ne h]; exact e
        revert kd ebd edd old2d on
        generalize upd H2 d (.dT (putK kvs (wkey r.s r.l) (.ref b))) = H2'
        intro kd ebd edd old2d on
        refine ⟨.inl ⟨rfl, _, SqL.of ebd⟩, _, rfl, _, rfl, (by show 2 ≤ sizeLine; decide), fun T0 hT => ?_⟩
        have sT : Same H2' (upd H2' T0 (.tup [.int r.t, .str r.k])) := Same.upd hT
        have eT : SqT K (upd H2' T0 (.tup [.int r.t, .str r.k])) T0 [.int r.t, .str r.k] := SqT.of upd_same
        have eb3 := sT _ _ ebd
        have ed3 := sT _ _ edd
        have old3 := old2d.trans sT
        have keep3 : ∀ a xs, SqT K H1 a xs → SqT K (upd H2' T0 (.tup [.int r.t, .str r.k])) a xs := fun a xs h => sqT_same sT (kd _ _ (keep2 _ _ h))
        revert sT eT eb3 ed3 old3 keep3
        generalize upd H2' T0 (.tup [.int r.t, .str r.k]) = H3
        intro sT eT eb3 ed3 old3 keep3
        refine ⟨b, _, _, rfl, rfl, eb3, by decide, ?_⟩
        have keep4 : ∀ a ys, SqT K H3 a ys → SqT K (upd H3 b (.lst ([] ++ [V.ref T0]))) a ys := fun a ys h => sqT_put eb3 h
        rw [etk]
        have val := valV_put kvs (wkey r.s r.l)
        have noteq : ∀ {s l}, ¬ (r.s = s ∧ r.l = l) → ¬ (wkey s l = wkey r.s r.l) := fun h z => h (by obtain ⟨a, b⟩ := wkey_inj.mp z; exact ⟨a.symm, b.symm⟩)
        refine ⟨_, _, _, _, rfl, ⟨keep_put old3 hb0, dn, putK kvs (wkey r.s r.l) (.ref b), by rw [upd_ne (Ne.symm nbd)]; exact ed3, ?_, fun s l hx => ?_, fun s l v hv' => ?_, fun s l s' l' v h1 h2 => ?_⟩⟩
        · rw [putK_new _ hv, List.length_append, List.length_append]; exact Nat.succ_le_succ el
        · rw [val] at hx
          by_cases e : r.s = s ∧ r.l = l
          · rw [if_pos (by rw [e.1, e.2])] at hx; exact nomatch hx
          · rw [if_neg (noteq e)] at hx
            rw [hits_snoc, e0 s l hx, if_neg e]; rfl
        · rw [val] at hv'
          rw [hits_snoc]
          by_cases e : r.s = s ∧ r.l = l
          · obtain ⟨rfl, rfl⟩ := e
            rw [if_pos rfl] at hv'
            cases hv'
            rw [if_pos ⟨rfl, rfl⟩, e0 _ _ hv]
            exact ⟨b, _, rfl, nbd, hb0, upd_same, .cons ⟨T0, rfl, keep4 _ _ eT⟩ .nil⟩
          · rw [if_neg (noteq e)] at hv'
            obtain ⟨c', xs', rfl, cd', c0', ec', hxs'⟩ := ev s l _ hv'
            have ncb' : c' ≠ b := fun z => by rw [z, hb1] at ec'; exact nomatch ec'
            rw [if_neg e, List.append_nil]
            exact ⟨c', xs', rfl, cd', c0', by rw [upd_ne ncb']; exact sT _ _ (on _ _ cd' (sb _ _ ec')), hxs'.imp fun _ _ => AtK.keep fun a ys h => keep4 _ _ (keep3 _ _ h)⟩
        · rw [val] at h1 h2
          have nob : ∀ s l, valV kvs (wkey s l) ≠ some (.ref b) := fun s l hz => by
            obtain ⟨c', _, e1, _, _, e2, _⟩ := ev s l _ hz
            cases e1
            rw [hb1] at e2
            exact nomatch e2
          by_cases ex : r.s = s ∧ r.l = l <;> by_cases ey : r.s = s' ∧ r.l = l'
          · exact ⟨ex.1.symm.trans ey.1, ex.2.symm.trans ey.2⟩
          · rw [if_pos (by rw [ex.1, ex.2])] at h1
            rw [if_neg (noteq ey)] at h2
            cases h1
            exact absurd h2 (nob _ _)
          · rw [if_pos (by rw [ey.1, ey.2])] at h2
            rw [if_neg (noteq ex)] at h1
            cases h2
            exact absurd h1 (nob _ _)
          · rw [if_neg (noteq ex)] at h1
            rw [if_neg (noteq ey)] at h2
            exact ei s l s' l' v h1 h2
    · rintro σ H1 ⟨v2, v3, v4, v5, rfl, lk⟩
      rw [List.take_of_length_le (by rw [← hu.len]; exact Nat.le_refl _)] at lk
      exact ⟨_, rfl, k _ d lk⟩
end
end K06

set_option Elab.async false
set_option linter.all false
set_option maxRecDepth 100000
set_option maxHeartbeats 4000000
namespace Ami
open PySem PySem.Spec PyProof.Rows L2
theorem putF_le (f : Str) (v : V) : ∀ fs : List (Str × V), (putF f v fs).length ≤ fs.length + 1
  | [] => Nat.le_refl _
  | (g, x) :: r => by
    show (if g = f then (g, v) :: r else (g, x) :: putF f v r).length ≤ _
    have := putF_le f v r
    by_cases h : g = f
    · rw [if_pos h, List.length_cons, List.length_cons]; omega
    · rw [if_neg h, List.length_cons, List.length_cons]; omega
/-- what is known of the class of formats -/
structure FmtC (K : PySem.W.Frag) (C : Addr) : Prop where
  cls : Cls K C
  n1 : NoAttr K C "letters"
  n2 : NoAttr K C "states"
  n3 : NoAttr K C "arrows"
  n4 : NoAttr K C "_ways"
def fFlds (ls : Str) (n : Int) (t d : Addr) : List (Str × V) := [("letters", .str ls), ("states", .int n), ("arrows", .ref t), ("_ways", .ref d)]
def fFlds3 (ls : Str) (n : Int) (t : Addr) : List (Str × V) := [("letters", .str ls), ("states", .int n), ("arrows", .ref t)]
/-- a format stands at a -/
structure FmtAt (K : PySem.W.Frag) (C : Addr) (H : Hp) (a : Addr) (ls : Str) (n : Nat) (rs : List Arr) : Prop where
  good : Good ls n rs
  ex : ∃ dx t d H0, H a = some (.ins C dx (fFlds ls n t d)) ∧ ArrT K H t rs ∧ Wy K H0 H d rs
/-- the same without its dict of ways -/
structure FmtB (K : PySem.W.Frag) (C : Addr) (H : Hp) (a : Addr) (ls : Str) (n : Nat) (rs : List Arr) : Prop where
  good : Good ls n rs
  ex : ∃ dx t d, H a = some (.ins C dx (fFlds ls n t d)) ∧ ArrT K H t rs
theorem FmtAt.b {K : PySem.W.Frag} {C : Addr} {H : Hp} {a : Addr} {ls : Str} {n : Nat} {rs : List Arr} (F : FmtAt K C H a ls n rs) : FmtB K C H a ls n rs := by
  obtain ⟨g, dx, t, d, H0, ha, hA, _⟩ := F
  exact ⟨g, dx, t, d, ha, hA⟩
/-- all but lists stays -/
def NoL (H H' : Hp) : Prop := ∀ a o, H a = some o → (∀ xs, o ≠ .lst xs) → H' a = some o
theorem NoL.trans {H H1 H2 : Hp} (a : NoL H H1) (b : NoL H1 H2) : NoL H H2 := fun x o h k => b x o (a x o h k) k
theorem Same.noL {H H' : Hp} (s : Same H H') : NoL H H' := fun x o h _ => s x o h
theorem But.noL {H H' : Hp} {d c : Addr} {n : Nat} (D : DeckAt H d c n) (b : But d c H H') : NoL H H' := fun x o h k => by
  obtain ⟨_, q, cs, e1, e2, _⟩ := D
  refine b x o (fun e => ?_) (fun e => ?_) h
  · rw [e, e1] at h
    cases h
    exact k _ rfl
  · rw [e, e2] at h
    cases h
    exact k _ rfl
theorem NoL.put {H : Hp} {p : Addr} {xs : List V} {o : HO} (h : H p = some (.lst xs)) : NoL H (upd H p o) := fun x u e k => by
  have ne : x ≠ p := fun z => by
    rw [z, h] at e
    cases e
    exact k _ rfl
  rw [upd_ne ne]
  exact e
theorem NoL.tup {K : PySem.W.Frag} {H H' : Hp} (s : NoL H H') {a : Addr} {xs : List V} (h : SqT K H a xs) : SqT K H' a xs := by
  rcases h with (h | ⟨u, h⟩) | h
  · exact .inl (.inl (s _ _ h fun _ z => nomatch z))
  · exact .inl (.inr ⟨u, s _ _ h fun _ z => nomatch z⟩)
  · exact .inr h
theorem NoL.arrT {K : PySem.W.Frag} {H H' : Hp} (s : NoL H H') {t : Addr} {rs : List Arr} : ArrT K H t rs → ArrT K H' t rs := fun ⟨us, h, a⟩ => ⟨us, s.tup h, a.imp fun _ _ ⟨p, e, q⟩ => ⟨p, e, s.tup q⟩⟩
theorem FmtB.keep {K : PySem.W.Frag} {C : Addr} {H H' : Hp} {a : Addr} {ls : Str} {n : Nat} {rs : List Arr} (s : NoL H H') (F : FmtB K C H a ls n rs) : FmtB K C H' a ls n rs := by
  obtain ⟨g, dx, t, d, ha, hA⟩ := F
  exact ⟨g, dx, t, d, s _ _ ha (fun _ z => nomatch z), s.arrT hA⟩
def spInit (K : PySem.W.Frag) (C : Addr) : Sp := fun vs H Q _ => ∃ (x dx : Addr) (ls : Str) (n : Nat) (t : Addr) (rs : List Arr), vs = [.ref x, .str ls, .int n, .ref t] ∧ H x = some (.ins C dx []) ∧ Good ls n rs ∧ ArrT K H t rs ∧
  ∀ H1 H2 d, Same H H1 → Wy K (upd H1 x (.ins C dx (fFlds3 ls n t))) H2 d rs → Q .non (upd H2 x (.ins C dx (fFlds ls n t d)))
end Ami
namespace K06
open PySem PySem.Spec PyProof.Rows L2 Ami
section
variable {P : Program} {w : World} {K : PySem.W.Frag} {mg : Str → Option Value} {base : Heap}
abbrev iInit : Stmt := inClass (top 46) 0
theorem scInit : FnScope ["self", "letters", "states", "arrows"] ["self", "letters", "states", "arrows"] (defScope iInit) := ⟨rfl, rfl, rfl, by decide +kernel, rfl, by decide +kernel, by decide +kernel⟩
theorem ok_init {f f1 f2 C : Addr} {fd fd1 fd2 : FuncData} (F : Fun K "__init__" "Format.__init__" iInit f fd) (c : FmtC K C)
    (D1 : DefAt K mg "check_parts" sCheck ["letters", "states", "arrows"] f1 fd1) (G1 : FnOk P w K mg base CX0 4 f1 fd1 ["letters", "states", "arrows"] (spCheck K))
    (D2 : DefAt K mg "ways_of" sWays ["arrows"] f2 fd2) : FnOk P w K mg base CX0 5 f fd ["self", "letters", "states", "arrows"] (spInit K C) := by
  have G2 : FnOk P w K mg base CX0 1 f2 fd2 ["arrows"] (spWays K) := ok_ways D2.F
  refine F.ok scInit (fun vs H Q E h => ?_) (fun cdv A outer s H vs Q E hr h => ?_)
  · obtain ⟨x, dx, ls, n, t, rs, rfl, _⟩ := h
    rfl
  · obtain ⟨x, dx, ls, n, t, rs, rfl, hx, g, hA, k⟩ := h
    have hr1 := hr.mono (j := 1) (by decide)
    refine ⟨_, pss_cons (ps_expr (pc D1 G1 hr (pa_cons (pv 1) (pa_cons (pv 2) (pa_cons (pv 3) pa_nil)))))
      (pss_cons (ps_fld (pv 0) (pv 1) rfl) (pss_cons (ps_fld (pv 0) (pv 2) rfl) (pss_cons (ps_fld (pv 0) (pv 3) rfl)
      (pss_one (ps_fld (pv 0) (pc D2 G2 hr1 (pa_cons (pv 3) pa_nil)) rfl))))), ?_⟩
    refine ⟨_, rfl, _, rfl, _, rfl, ls, n, t, rs, rfl, g, hA, fun H1 s1 => ?_⟩
    have hx1 := s1 _ _ hx
    refine ⟨_, rfl, _, rfl, x, C, dx, [], rfl, hx1, c.cls, c.n1, by decide, ?_⟩
    refine ⟨_, rfl, _, rfl, x, C, dx, _, rfl, upd_same, c.cls, c.n2, Nat.lt_of_le_of_lt (putF_le _ _ _) (by decide), ?_⟩
    rw [upd_upd]
    refine ⟨_, rfl, _, rfl, x, C, dx, _, rfl, upd_same, c.cls, c.n3, Nat.lt_of_le_of_lt (putF_le _ _ _) (Nat.lt_of_le_of_lt (Nat.succ_le_succ (putF_le _ _ _)) (by decide)), ?_⟩
    rw [upd_upd]
    have kx : ∀ a ys, SqT K H1 a ys → SqT K (upd H1 x (.ins C dx (fFlds3 ls n t))) a ys := fun a ys h => sqT_upd (fun ys z => by rw [hx1] at z; exact nomatch z) (fun u ys z => by rw [hx1] at z; exact nomatch z) h
    obtain ⟨us, ht, hu⟩ := hA.same s1
    refine ⟨_, rfl, t, rs, rfl, ⟨us, kx _ _ ht, hu.imp fun v r ⟨q, e, h⟩ => ⟨q, e, kx _ _ h⟩⟩, g.len, fun H2 d wy => ?_⟩
    have hx2 := wy.old x _ upd_same
    refine ⟨_, rfl, x, C, dx, _, rfl, hx2, c.cls, c.n4, (by show 3 < 1000; decide), ?_⟩
    exact k H1 H2 d s1 wy
end
end K06

set_option Elab.async false
set_option linter.all false
set_option maxRecDepth 100000
set_option maxHeartbeats 4000000
namespace Ami
open PySem PySem.Spec PyProof.Rows L2
/-- an arrow as data -/
abbrev dA (r : Arr) : PyData := .tuple [.int r.s, .str r.l, .int r.t, .str r.k]
def dAs (rs : List Arr) : PyData := .tuple (rs.map dA)
theorem dp_arrs {K : PySem.W.Frag} {H : Hp} : ∀ {vs : List V} {rs : List Arr}, All2 (AtA K H) vs rs → DpAll K H vs (rs.map dA)
  | _, _, .nil => .nil
  | _, _, .cons ⟨_, e, s⟩ t => by
    subst e
    exact .cons (.tup s (.cons (.int _) (.cons (.str _) (.cons (.int _) (.cons (.str _) .nil))))) (dp_arrs t)
theorem ArrT.dp {K : PySem.W.Frag} {H : Hp} {t : Addr} {rs : List Arr} : ArrT K H t rs → Dp K H (.ref t) (dAs rs) := fun ⟨_, h, a⟩ => .tup h (dp_arrs a)
theorem lay_arrs : ∀ {rs : List Arr}, (∀ r ∈ rs, Asc r.l ∧ Asc r.k) → PyData.canLayAll0 (rs.map dA) = true
  | [], _ => rfl
  | x :: w, h => by
    show ((dA x).canLay0 && PyData.canLayAll0 (w.map dA)) = true
    rw [lay_arrs fun r hr => h r (List.mem_cons_of_mem _ hr)]
    obtain ⟨h1, h2⟩ := h x List.mem_cons_self
    show (true && (PyData.strOk x.l && (true && (PyData.strOk x.k && true))) && true) = true
    rw [h1.ok, h2.ok]; rfl
theorem depth_arrs : ∀ rs : List Arr, PyData.depthAll (rs.map dA) ≤ 1
  | [] => by decide
  | x :: w => by
    show max (dA x).depth (PyData.depthAll (w.map dA)) ≤ 1
    have := depth_arrs w
    have e : (dA x).depth = 1 := rfl
    omega
theorem shaped_arrs {rs : List Arr} (h : ∀ r ∈ rs, Asc r.l ∧ Asc r.k) : SeqAt.shaped (dAs rs) = true := by
  show (PyData.canLayAll0 (rs.map dA) && decide (PyData.depthAll (rs.map dA) + 1 ≤ 64)) = true
  have := depth_arrs rs
  rw [lay_arrs h, decide_eq_true (by omega)]; rfl
theorem eqv_arr (x y : Arr) : PyData.eqv (dA x) (dA y) = decide (x = y) := by
  show ((x.s == y.s) && ((x.l == y.l) && ((x.t == y.t) && ((x.k == y.k) && true)))) = _
  rw [Bool.eq_iff_iff]
  simp only [Bool.and_eq_true, beq_iff_eq, and_true, decide_eq_true_eq]
  constructor
  · rintro ⟨h1, h2, h3, h4⟩
    cases x; cases y
    simp only at h1 h2 h3 h4
    subst h1 h2 h3 h4
    rfl
  · rintro rfl
    exact ⟨rfl, rfl, rfl, rfl⟩
theorem eqv_arrs : ∀ a b : List Arr, PyData.eqvAll (a.map dA) (b.map dA) = decide (a = b)
  | [], [] => rfl
  | [], y :: b => rfl
  | x :: a, [] => rfl
  | x :: a, y :: b => by
    show (PyData.eqv (dA x) (dA y) && PyData.eqvAll (a.map dA) (b.map dA)) = _
    rw [eqv_arr, eqv_arrs a b, Bool.eq_iff_iff, Bool.and_eq_true, decide_eq_true_eq, decide_eq_true_eq, decide_eq_true_eq]
    exact ⟨fun ⟨h1, h2⟩ => by rw [h1, h2], fun h => ⟨(List.cons.inj h).1, (List.cons.inj h).2⟩⟩
theorem eqv_dAs (a b : List Arr) : PyData.eqv (dAs a) (dAs b) = decide (a = b) := eqv_arrs a b
end Ami

set_option Elab.async false
set_option linter.all false
set_option maxRecDepth 100000
set_option maxHeartbeats 2000000
namespace Ami
open PySem PySem.Spec PyProof.Rows L2
/-- a fit arrow -/
def Fit (ls : Str) (n : Nat) (r : Arr) : Prop := arrowB ls n r = true ∧ r.short
theorem letter_of {ls z : Str} (hA : Asc ls) (h : V.str z ∈ (letts ls).map V.str) : letterB ls z = true ∧ z.length ≤ 100000 ∧ Asc z := by
  obtain ⟨y, hy, e⟩ := List.mem_map.mp h
  cases e
  unfold letts at hy
  obtain ⟨c, hc, rfl⟩ := List.mem_map.mp hy
  have e : (one c).cps.toList = [c] := rfl
  have hc' : c ∈ ls.cps.toList := by simpa using hc
  refine ⟨?_, by show 1 ≤ 100000; decide, fun d hd => ?_⟩
  · unfold letterB isWordB
    rw [e]
    have : (one c).length = 1 := rfl
    simp only [List.all_cons, List.all_nil, Bool.and_true, Bool.and_eq_true, decide_eq_true_eq]
    exact ⟨hc', this⟩
  · rw [e] at hd
    rw [List.mem_singleton.mp hd]
    exact hA c hc'
theorem kinds_ok {z : Str} (h : V.str z ∈ [V.str "stop", V.str "item", V.str "a", V.str "zzzzzzzz"]) : kindB z = true ∧ z.length ≤ 100000 ∧ Asc z := by
  simp only [List.mem_cons, List.not_mem_nil, or_false, V.str.injEq] at h
  rcases h with rfl | rfl | rfl | rfl
  all_goals exact ⟨by decide +kernel, by decide +kernel, by unfold Asc; decide +kernel⟩
abbrev four : List Str := ["stop", "item", "a", "zzzzzzzz"]
/-- a drawn kind -/
def FourK (r : Arr) : Prop := r.t = 0 → r.k ∈ four
def spLink (K : PySem.W.Frag) : Sp := fun vs H Q _ => ∃ (d c : Addr) (n : Nat) (ls : Str) (cnt : Nat), vs = [.ref d, .str ls, .int cnt] ∧ 1 ≤ cnt ∧ cnt ≤ 1000 ∧ 2 ≤ ls.length ∧ ls.length ≤ 1000 ∧ Asc ls ∧ n + 10 < 1000000 ∧ DeckAt H d c n ∧
  ∀ (H' : Hp) (v : V) (r : Arr) (n' : Nat), Fit ls cnt r → FourK r → AtA K H' v r → n' ≤ n + 4 → DeckAt H' d c n' → But d c H H' → Q v H'
end Ami
namespace K06
open PySem PySem.Spec PyProof.Rows L2 Ami
section
variable {P : Program} {w : World} {K : PySem.W.Frag} {mg : Str → Option Value} {base : Heap}
abbrev nLink : List Str := ["_law_deck_here", "_law_signs_here", "_law_count", "_law_to", "_law_kind"]
theorem scLink : FnScope nLink ["_law_deck_here", "_law_signs_here", "_law_count"] (defScope sLink) := ⟨rfl, rfl, rfl, by decide +kernel, rfl, by decide +kernel, by decide +kernel⟩
theorem ok_link {f f1 f2 : Addr} {fd fd1 fd2 : FuncData} (F : Fun K "_law_link" "_law_link" sLink f fd) (T : Blt mg) (D1 : DefAt K mg "_law_draw" sDraw ["_law_deck_here", "_law_bound"] f1 fd1)
    (D2 : DefAt K mg "_law_pick" sPick ["_law_deck_here", "_law_some"] f2 fd2) : FnOk P w K mg base CX0 3 f fd ["_law_deck_here", "_law_signs_here", "_law_count"] (spLink K) := by
  have G1 : FnOk P w K mg base CX0 1 f1 fd1 ["_law_deck_here", "_law_bound"] spDraw := ok_draw D1.F T
  have G2 : FnOk P w K mg base CX0 2 f2 fd2 ["_law_deck_here", "_law_some"] (spPick K) := ok_pick D2.F T D1
  refine F.ok scLink (fun vs H Q E h => ?_) (fun cdv A outer s H vs Q E hr h => ?_)
  · obtain ⟨d, c, n, ls, cnt, rfl, _⟩ := h
    rfl
  · obtain ⟨d, c, n, ls, cnt, rfl, c1, c2, l1, l2, lA, hn, D, k⟩ := h
    have hr1 := hr.mono (j := 1) (by decide)
    refine ⟨_, pss_cons (ps_set (i := 3) scLink.nd rfl (Or.inl rfl) (pc D1 G1 hr1 (pa_cons (pv 0) (pa_cons (pe_op op_add (pv 2) pe_int) pa_nil))))
      (pss_cons (ps_set (i := 3) scLink.nd rfl (Or.inl rfl) (pe_ifExp (pt_cmpR op_eq (pv 3) (pv 2) (nomark _)) pe_int (pv 3)))
      (pss_cons (ps_set (i := 4) scLink.nd rfl (Or.inl rfl) (pe_ifExp (pt_cmpR op_eq (pv 3) pe_int (nomark _)) (pc D2 G2 hr (pa_cons (pv 0) (pa_cons (pe_lst (pa_cons pe_str (pa_cons pe_str (pa_cons pe_str (pa_cons pe_str pa_nil))))) pa_nil))) pe_str))
      (pss_one (ps_ret (pe_tup (pa_cons (pc D1 G1 hr1 (pa_cons (pv 0) (pa_cons (pv 2) pa_nil))) (pa_cons (pc D2 G2 hr (pa_cons (pv 0) (pa_cons (pv 1) pa_nil))) (pa_cons (pv 3) (pa_cons (pv 4) pa_nil))))))))), ?_⟩
    -- the rest, once the target and the kind are there
    have rest : ∀ (H1 : Hp) (t : Nat) (z : Str) (n1 : Nat), t < cnt → (if (t : Int) = 0 then kindB z else decide (z.length = 0)) = true → ((t : Int) = 0 → z ∈ four) → z.length ≤ 100000 → Asc z → n1 ≤ n + 2 → DeckAt H1 d c n1 → But d c H H1 →
        tTup (tCons (tCall spDraw [] E0 (tCons (tVar 0) (tCons (tVar 2) tNil))) (tCons (tCall (spPick K) [] E0 (tCons (tVar 0) (tCons (tVar 1) tNil))) (tCons (tVar 3) (tCons (tVar 4) tNil)))) [some (.ref d), some (.str ls), some (.int cnt), some (.int t), some (.str z)] H1 fun v H2 => Q v H2 := by
      intro H1 t z n1 ht hz z4 z1 zA hn1 D1' B1
      refine ⟨_, rfl, _, rfl, d, c, n1, _, rfl, by omega, by omega, by omega, D1', fun H2 r r0 rl D2' B2 => ?_⟩
      obtain ⟨j, rfl⟩ : ∃ j : Nat, r = j := ⟨r.toNat, by omega⟩
      have lne : ((letts ls).map V.str).length = ls.length := by rw [List.length_map, letts_length]
      refine ⟨_, rfl, _, rfl, d, c, _, _, _, rfl, (fun e => by rw [e] at lne; exact absurd lne (by simp; omega)), by rw [lne]; omega, by omega, D2', fun H' _ => .txt ls (Nat.le_trans l2 (by decide)), fun H3 y hy D3 B3 => ?_⟩
      obtain ⟨y', hy', rfl⟩ := List.mem_map.mp hy
      obtain ⟨g1, g2, g3⟩ := letter_of lA hy
      refine ⟨_, rfl, _, rfl, (by show 4 ≤ sizeLine; decide), fun p hp => ?_⟩
      refine k _ _ ⟨(j : Int), y', (t : Int), z⟩ (n1 + 1 + 1) ⟨?_, g2, g3, z1, zA⟩ z4 ⟨p, rfl, SqT.of upd_same⟩ (by omega) (D3.new hp) (((B1.trans B2).trans B3).new hp)
      unfold arrowB stateB
      have e1 : (decide (0 ≤ (j : Int)) && decide ((j : Int) < cnt)) = true := by simp; omega
      have e2 : (decide (0 ≤ (t : Int)) && decide ((t : Int) < cnt)) = true := by simp; omega
      rw [e1, e2, g1, hz]
      rfl
    refine ⟨_, rfl, _, rfl, _, _, rfl, rfl, d, c, n, _, rfl, by omega, by omega, by omega, D, fun H1 r r0 rl D1' B1 => ?_⟩
    obtain ⟨j, rfl⟩ : ∃ j : Nat, r = j := ⟨r.toNat, by omega⟩
    have toZero : ∀ H1 : Hp, DeckAt H1 d c (n + 1) → But d c H H1 → ∀ (Q2 : L2.St → Hp → Prop),
        (∀ (H2 : Hp) (z : Str) (n1 : Nat), kindB z = true → z ∈ four → z.length ≤ 100000 → Asc z → n1 ≤ n + 2 → DeckAt H2 d c n1 → But d c H H2 → Q2 [some (.ref d), some (.str ls), some (.int cnt), some (.int 0), some (.str z)] H2) →
        tCall (spPick K) [] E0 (tCons (tVar 0) (tCons (tLst (tCons (tC (V.str "stop")) (tCons (tC (V.str "item")) (tCons (tC (V.str "a")) (tCons (tC (V.str "zzzzzzzz")) tNil))))) tNil)) [some (.ref d), some (.str ls), some (.int cnt), some (.int 0), none] H1 fun v H2 => Q2 [some (.ref d), some (.str ls), some (.int cnt), some (.int 0), some v] H2 := by
      intro H1 D1' B1 Q2 h
      refine ⟨_, rfl, (by show 4 ≤ sizeLine; decide), fun p hp => ?_⟩
      obtain ⟨pd, pcc⟩ := D1'.ned hp
      refine ⟨d, c, _, _, [V.str "stop", V.str "item", V.str "a", V.str "zzzzzzzz"], rfl, (fun e => by cases e), by decide, by omega, D1'.new hp, fun H' b => .lst (SqL.of (b p _ pd pcc upd_same)), fun H3 y hy D3 B3 => ?_⟩
      obtain ⟨z, rfl⟩ : ∃ z, y = V.str z := by
        simp only [List.mem_cons, List.not_mem_nil, or_false] at hy
        rcases hy with rfl | rfl | rfl | rfl <;> exact ⟨_, rfl⟩
      obtain ⟨g1, g2, g3⟩ := kinds_ok hy
      exact h H3 z _ g1 (by simpa using hy) g2 g3 (by omega) D3 ((B1.new hp).trans B3)
    by_cases h1 : j = cnt
    · subst h1
      refine ⟨_, rfl, _, rfl, rfl, _, rfl, ?_⟩
      rw [decide_eq_true rfl]
      refine iteT ?_
      refine ⟨_, rfl, rfl, _, rfl, ?_⟩
      rw [decide_eq_true rfl]
      refine iteT ?_
      exact toZero H1 D1' B1 _ fun H2 z n1 a1 a0 a2 a3 a4 a5 a6 => rest H2 0 z n1 (by omega) (by rw [if_pos (by rfl)]; exact a1) (fun _ => a0) a2 a3 a4 a5 a6
    · refine ⟨_, rfl, _, rfl, rfl, _, rfl, ?_⟩
      rw [decide_eq_false (fun e => by cases e; exact h1 rfl)]
      refine iteF ?_
      refine ⟨_, rfl, _, rfl, rfl, _, rfl, ?_⟩
      by_cases h2 : j = 0
      · subst h2
        rw [decide_eq_true (by rfl)]
        refine iteT ?_
        exact toZero H1 D1' B1 _ fun H2 z n1 a1 a0 a2 a3 a4 a5 a6 => rest H2 0 z n1 (by omega) (by rw [if_pos (by rfl)]; exact a1) (fun _ => a0) a2 a3 a4 a5 a6
      · rw [decide_eq_false (fun e => by have := V.int.inj e; omega)]
        refine iteF ?_
        exact rest H1 j _ (n + 1) (by omega) (by rw [if_neg (by omega)]; decide +kernel) (fun e => by omega) (by decide +kernel) (by unfold Asc; decide +kernel) (by omega) D1' B1
end
end K06

set_option Elab.async false
set_option linter.all false
set_option maxRecDepth 100000
set_option maxHeartbeats 2000000
namespace Ami
open PySem PySem.Spec PyProof.Rows L2
theorem inV_ints (x : Int) (l : List Int) : inV (V.int x) (l.map V.int) = decide (x ∈ l) := by
  induction l with
  | nil => rfl
  | cons a r ih =>
    show (eqV (V.int a) (V.int x) || inV (V.int x) (r.map V.int)) = _
    rw [ih]
    have e : eqV (V.int a) (V.int x) = decide (x = a) := by
      show (a == x) = _
      by_cases h : x = a
      · rw [h, decide_eq_true rfl]; exact beq_self_eq_true a
      · rw [decide_eq_false h]; exact beq_eq_false_iff_ne.mpr (Ne.symm h)
    rw [e]
    by_cases h : x = a
    · simp [h]
    · simp [h]
theorem flat_ints (l : List Int) : (l.map V.int).all flatV = true := by
  induction l with
  | nil => rfl
  | cons a r ih => rw [List.map_cons, List.all_cons, ih]; rfl
/-- reached from 0, or 0 itself -/
def Rc0 (ps : List (Int × Int)) (x : Int) : Prop := x = 0 ∨ Rch ps x
theorem Rc0.step {ps : List (Int × Int)} {x y : Int} (h : Rc0 ps x) (m : (x, y) ∈ ps) : Rc0 ps y := by
  rcases h with rfl | h
  · exact .inr (.one m)
  · exact .inr (.step h m)
theorem Rc0.mem {ps : List (Int × Int)} {x : Int} (h : Rc0 ps x) : x ∈ (0 : Int) :: ps.map (·.2) := by
  rcases h with rfl | h
  · exact List.mem_cons_self
  · refine List.mem_cons_of_mem _ ?_
    cases h with
    | one h => exact List.mem_map.mpr ⟨_, h, rfl⟩
    | step _ h => exact List.mem_map.mpr ⟨_, h, rfl⟩
theorem rc0_all {ps : List (Int × Int)} {xs : List Int} (h0 : (0 : Int) ∈ xs) (hc : ∀ p ∈ ps, p.1 ∈ xs → p.2 ∈ xs) {x : Int} (h : Rc0 ps x) : x ∈ xs := by
  rcases h with rfl | h
  · exact h0
  · induction h with
    | one m => exact hc _ m h0
    | step _ m ih => exact hc _ m ih
theorem rc0_len {ps : List (Int × Int)} {xs : List Int} (nd : xs.Nodup) (h : ∀ x ∈ xs, Rc0 ps x) : xs.length ≤ ps.length + 1 := by
  have := nodup_sub nd fun x hx => (h x hx).mem
  rw [List.length_cons, List.length_map] at this
  exact this
theorem and_two {tA tB : TT} {a b : Bool} {σ : L2.St} {H : Hp} {Q : Bool → Hp → Prop} (ha : ∀ Q' : Bool → Hp → Prop, Q' a H → tA σ H Q') (hb : ∀ Q' : Bool → Hp → Prop, Q' b H → tB σ H Q') (h : Q (a && b) H) : tAnd tA tB σ H Q := by
  refine ha _ ?_
  cases a with
  | true => exact iteT (hb _ h)
  | false => exact iteF h
def spSpread (K : PySem.W.Frag) : Sp := fun vs H Q _ => ∃ (f l : Addr) (us : List V) (ps : List (Int × Int)), vs = [.ref f, .ref l] ∧ H f = some (.lst [.int 0]) ∧ H l = some (.lst us) ∧ All2 (AtP K H) us ps ∧ ps.length ≤ 1000 ∧
  ∀ (H' : Hp) (r : Addr) (xs : List Int), Same H H' → H r = none → H' r = some (.lst (xs.map V.int)) → xs.Nodup → (∀ x, x ∈ xs ↔ Rc0 ps x) → xs.length ≤ ps.length + 1 → Q (.ref r) H'
end Ami
namespace K06
open PySem PySem.Spec PyProof.Rows L2 Ami
section
variable {P : Program} {w : World} {K : PySem.W.Frag} {mg : Str → Option Value} {base : Heap}
abbrev nSpread : List Str := ["_law_firsts", "_law_twos", "_law_found", "_law_size", "_law_one", "_law_two"]
theorem scSpread : FnScope nSpread ["_law_firsts", "_law_twos"] (defScope sSpread) := ⟨rfl, rfl, rfl, by decide +kernel, rfl, by decide +kernel, by decide +kernel⟩
theorem ok_spread {f : Addr} {fd : FuncData} (F : Fun K "_law_spread" "_law_spread" sSpread f fd) (T : Blt mg) : FnOk P w K mg base CX0 1 f fd ["_law_firsts", "_law_twos"] (spSpread K) := by
  refine F.ok scSpread (fun vs H Q E h => ?_) (fun cdv A outer s H vs Q E hr h => ?_)
  · obtain ⟨f, l, us, ps, rfl, _⟩ := h
    rfl
  · obtain ⟨f, l, us, ps, rfl, hf, hl, hu, hn, k⟩ := h
    refine ⟨_, pss_cons (ps_par (i := 2) (j := 3) rfl scSpread.nd rfl rfl (by decide) rfl rfl (pa_cons (pe_callTy call_list_of (by rfl) T.list (by decide +kernel) (pa_cons (pv 0) pa_nil)) (pa_cons (pe_un un_neg pe_int) pa_nil)) (by rfl))
      (pss_cons (ps_while PassesOwn.never (pt_cmpR op_lt (pv 3) (pe_callB call_len (by rfl) T.len PySem.boot_len (pa_cons (pv 2) pa_nil)) (nomark _))
        (pss_cons (ps_set (i := 3) scSpread.nd rfl (Or.inl rfl) (pe_callB call_len (by rfl) T.len PySem.boot_len (pa_cons (pv 2) pa_nil)))
        (pss_one (ps_for PassesOwn.never rfl (pi_list (pv 1)) (pg_tup (by rfl) (pgs_cons (pg_name (i := 4) scSpread.nd rfl (Or.inl rfl)) (pgs_cons (pg_name (i := 5) scSpread.nd rfl (Or.inl rfl)) pgs_nil)))
          (pss_one (ps_if (PW.pt (pw_and (pt_cmpR op_in_seq (pv 4) (pv 2) (by rfl)) (pw_and1 (pt_cmpR op_notIn_seq (pv 5) (pv 2) (by rfl)))))
            (pss_one (ps_expr (pe_bm PySem.F.plainAttrs_list PySem.F.slot_list_append PySem.F.type_list_append mt_append (pv 2) (pa_cons (pv 5) pa_nil)))) pss_nil))))))
      (pss_one (ps_ret (pv 2)))), ?_⟩
    refine ⟨_, rfl, f, [V.int 0], rfl, .inl (SqL.of hf), fun r hr0 => ?_⟩
    refine ⟨1, rfl, _, _, rfl, ?_⟩
    have s1 : Same H (upd H r (.lst [V.int 0])) := Same.upd hr0
    have er1 : (upd H r (.lst [V.int 0])) r = some (.lst [V.int 0]) := upd_same
    revert s1 er1
    generalize upd H r (.lst [V.int 0]) = H1
    intro s1 er1
    refine ⟨fun m σ H' => ∃ (xs : List Int) (sz : Int) (v4 v5 : Option V), σ = [some (.ref f), some (.ref l), some (.ref r), some (.int sz), v4, v5] ∧ Same H H' ∧ H' r = some (.lst (xs.map V.int)) ∧ xs.Nodup ∧ (∀ x ∈ xs, Rc0 ps x) ∧ (0 : Int) ∈ xs ∧
      (sz < xs.length ∨ ∀ p ∈ ps, p.1 ∈ xs → p.2 ∈ xs) ∧ m = 2 * (ps.length + 1 - xs.length) + (if sz < xs.length then 1 else 0),
      ⟨_, [0], -1, none, none, rfl, s1, er1, List.pairwise_singleton _ _, (fun x hx => by rw [List.mem_singleton.mp hx]; exact .inl rfl), List.mem_singleton.mpr rfl, .inl (by decide), rfl⟩, ?_⟩
    rintro m σ H2 ⟨xs, sz, v4, v5, rfl, s2, er2, nd, hx, h0, alt, hm⟩
    have lx := rc0_len nd hx
    have lz : (xs.map V.int).length = xs.length := List.length_map _
    refine ⟨_, rfl, _, rfl, _, _, rfl, .inl ⟨_, SqL.of er2, rfl⟩, _, _, rfl, rfl, _, rfl, ?_⟩
    rw [lz]
    by_cases hlt : sz < xs.length
    · rw [decide_eq_true hlt]
      refine iteT ?_
      refine ⟨fun σ' H' => ∃ (ys : List Int) (v4 v5 : Option V), σ' = [some (.ref f), some (.ref l), some (.ref r), some (.int xs.length), v4, v5] ∧ Same H H' ∧ H' r = some (.lst (ys.map V.int)) ∧ ys.Nodup ∧ (∀ x ∈ ys, Rc0 ps x) ∧ (0 : Int) ∈ ys ∧ xs.length ≤ ys.length ∧
        (xs.length < ys.length ∨ ∀ p ∈ ps, p.1 ∈ ys → p.2 ∈ ys), fun σ' H' ⟨ys, v4, v5, e1, e2, e3, e4, e5, e6, e7, e8⟩ => ?_, ?_⟩
      · have ly := rc0_len e4 e5
        refine ⟨_, ?_, ys, xs.length, v4, v5, e1, e2, e3, e4, e5, e6, e8.imp (fun h => by omega) id, rfl⟩
        rw [hm, if_pos hlt]
        split <;> omega
      · refine ⟨_, rfl, _, _, rfl, .inl ⟨_, SqL.of er2, rfl⟩, ?_⟩
        rw [lz]
        refine ⟨_, rfl, l, rfl, ⟨us, SqL.of (s2 _ _ hl)⟩, ?_⟩
        refine for_list (K := K) (a := l) (xs := us) (fun i σ H' => ∃ (ys : List Int) (v4 v5 : Option V), σ = [some (.ref f), some (.ref l), some (.ref r), some (.int xs.length), v4, v5] ∧ Same H H' ∧ H' r = some (.lst (ys.map V.int)) ∧ ys.Nodup ∧ (∀ x ∈ ys, Rc0 ps x) ∧ (0 : Int) ∈ ys ∧ xs.length ≤ ys.length ∧
          (xs.length < ys.length ∨ ∀ p ∈ ps.take i, p.1 ∈ ys → p.2 ∈ ys)) ⟨xs, v4, v5, rfl, s2, er2, nd, hx, h0, Nat.le_refl _, .inr (fun p hp => by rw [List.take_zero] at hp; exact nomatch hp)⟩ (fun i σ H' _ ⟨_, _, _, _, s, _⟩ => SqL.of (s _ _ hl)) ?_ ?_
        · rintro i x σ H3 hxi ⟨ys, v4, v5, rfl, s3, er3, ny, hy, h0y, le, alt2⟩
          obtain ⟨q, hq, at1⟩ := hu.at hxi
          obtain ⟨p, rfl, hp⟩ := AtP.same s3 at1
          have etk := take_snoc hq
          have hqm : (q.1, q.2) ∈ ps := List.mem_of_getElem? hq
          have ly := rc0_len ny hy
          refine ⟨p, _, rfl, hp, rfl, ?_⟩
          refine ⟨_, _, rfl, _, _, rfl, rfl, ?_⟩
          refine and_two (a := decide (q.1 ∈ ys)) (b := !decide (q.2 ∈ ys)) (fun Q' h => ⟨_, rfl, _, rfl, r, _, rfl, .inl (SqL.of er3), rfl, flat_ints _, _, rfl, by rw [inV_ints]; exact h⟩) (fun Q' h => ⟨_, rfl, _, rfl, r, _, rfl, .inl (SqL.of er3), rfl, flat_ints _, _, rfl, by rw [inV_ints]; exact h⟩) ?_
          by_cases hc : q.1 ∈ ys ∧ q.2 ∉ ys
          · obtain ⟨c1, c2⟩ := hc
            rw [decide_eq_true c1, decide_eq_false c2]
            refine iteT ?_
            refine ⟨_, rfl, .inl ⟨rfl, _, SqL.of er3⟩, _, rfl, r, _, _, rfl, rfl, er3, ?_, ?_⟩
            · rw [List.length_map]
              exact Nat.lt_of_le_of_lt (by omega : _ ≤ 1001) (by decide)
            · refine ⟨ys ++ [q.2], _, _, rfl, keep_put s3 hr0, by rw [upd_same, List.map_append]; rfl, ?_, fun x hx => ?_, List.mem_append_left _ h0y, ?_, ?_⟩
              · rw [List.nodup_append]
                refine ⟨ny, List.pairwise_singleton _ _, fun a ha b hb e => ?_⟩
                rw [List.mem_singleton.mp hb] at e
                exact c2 (e ▸ ha)
              · rcases List.mem_append.mp hx with z | z
                · exact hy x z
                · rw [List.mem_singleton.mp z]
                  exact (hy _ c1).step hqm
              · rw [List.length_append]; omega
              · rw [List.length_append]
                exact .inl (by show _ < _ + 1; omega)
          · have e : (decide (q.1 ∈ ys) && !decide (q.2 ∈ ys)) = false := by
              by_cases c1 : q.1 ∈ ys <;> by_cases c2 : q.2 ∈ ys
              · simp [c1, c2]
              · exact absurd ⟨c1, c2⟩ hc
              · simp [c1]
              · simp [c1]
            rw [e]
            refine iteF ?_
            refine ⟨ys, _, _, rfl, s3, er3, ny, hy, h0y, le, alt2.imp id fun h p hp hp1 => ?_⟩
            rw [etk] at hp
            rcases List.mem_append.mp hp with z | z
            · exact h p z hp1
            · rw [List.mem_singleton.mp z] at hp1 ⊢
              exact Classical.byContradiction fun c2 => hc ⟨hp1, c2⟩
        · rintro σ H3 ⟨ys, v4, v5, rfl, s3, er3, ny, hy, h0y, le, alt2⟩
          rw [List.take_of_length_le (by rw [← hu.len]; exact Nat.le_refl _)] at alt2
          exact ⟨ys, v4, v5, rfl, s3, er3, ny, hy, h0y, le, alt2⟩
    · rw [decide_eq_false hlt]
      refine iteF ?_
      have hcl := alt.resolve_left hlt
      exact ⟨_, rfl, k _ r xs s2 hr0 er2 nd (fun x => ⟨hx x, rc0_all h0 hcl⟩) lx⟩
end
end K06

set_option Elab.async false
set_option linter.all false
set_option maxRecDepth 100000
set_option maxHeartbeats 2000000
namespace Ami
open PySem PySem.Spec PyProof.Rows L2
theorem op_inK {X : Cx} {K0 : PySem.W.Frag} (hK : X.K = K0) : OpR X (compareOp .In) (rIn K0 false) := by
  subst hK
  exact op_in_seq
theorem pe_revTK {X : Cx} {K0 : PySem.W.Frag} (hK : X.K = K0) {e : Expr} {te : TE} {k : Nat} {p1 p2 p3 pos : Pos} (he : PE X e te) : PE X (.Subscript e (.Slice none none (some (.UnaryOp .USub (.Constant (.int 1) k p1) p2)) p3) pos) (tRevT K0 te) := by
  subst hK
  exact pe_revT he
theorem none_of {H H' : Hp} (s : Same H H') {a : Addr} (h : H' a = none) : H a = none := by
  cases z : H a with
  | none => rfl
  | some o => rw [s _ _ z] at h; exact nomatch h
/-- on the way of some record, the border among them -/
def Both (rs : List Arr) (x : Int) : Prop := Rc0 (fwd rs) x ∧ Rc0 (bwd rs) x
def usefulL (B : List Int) (rs : List Arr) : List Arr := rs.filter fun r => decide (r.s ∈ B) && decide (r.t ∈ B)
def spUseful (K : PySem.W.Frag) : Sp := fun vs H Q _ => ∃ (l : Addr) (us : List V) (rs : List Arr), vs = [.ref l] ∧ H l = some (.lst us) ∧ All2 (AtA K H) us rs ∧ rs.length ≤ 1000 ∧
  ∀ (H' : Hp) (r : Addr) (us' : List V) (B : List Int), Same H H' → H r = none → H' r = some (.lst us') → (∀ x, x ∈ B ↔ Both rs x) → All2 (AtA K H') us' (usefulL B rs) → Q (.ref r) H'
end Ami
namespace K06
open PySem PySem.Spec PyProof.Rows L2 Ami
section
variable {P : Program} {w : World} {K : PySem.W.Frag} {mg : Str → Option Value} {base : Heap}
abbrev nUseful : List Str := ["_law_links", "_law_it", "_law_twos", "_law_two", "_law_front", "_law_back", "_law_state", "_law_both_here"]
theorem scUseful : FnScope nUseful ["_law_links"] (defScope sUseful) := ⟨rfl, rfl, rfl, by decide +kernel, rfl, by decide +kernel, by decide +kernel⟩
theorem pairs_stepL {l D : Addr} {us : List V} {rs : List Arr} {H : Hp} (hD : H D = none) (hu : All2 (AtA K H) us rs) (hn : rs.length ≤ 10000) (i1 i2 : Nat) (f : Arr → Int × Int) (h1 : ∀ r : Arr, r.vs[i1]? = some (.int (f r).1)) (h2 : ∀ r : Arr, r.vs[i2]? = some (.int (f r).2))
    {v1 v2 v3 v4 v5 v6 v7 : Option V} : ∀ (i : Nat) (x : V) (H1 : Hp), us[i]? = some x → PairP K H D rs f i H1 → gName 1 x (wipe [some (.ref l), v1, v2, v3, v4, v5, v6, v7] [1]) H1 fun σ2 H2 => wipe σ2 [1] = wipe [some (.ref l), v1, v2, v3, v4, v5, v6, v7] [1] ∧ tYes σ2 H2 fun b H3 =>
      if b = true then tTup (tCons (tOp (rIx K) (tVar 1) (tC (V.int (i1 : Nat)))) (tCons (tOp (rIx K) (tVar 1) (tC (V.int (i2 : Nat)))) tNil)) σ2 H3 fun y H4 => ∃ acc, H4 D = some (.lst acc) ∧ acc.length < sizeLine ∧ PairP K H D rs f (i + 1) (upd H4 D (.lst (acc ++ [y]))) else PairP K H D rs f (i + 1) H3 := by
  rintro i x H1 hx ⟨xs, eD, hxs, sm⟩
  obtain ⟨r, hr, at1⟩ := hu.at hx
  obtain ⟨p, rfl, hp⟩ := AtA.same sm at1
  refine ⟨rfl, ?_⟩
  dsimp only [tYes]
  refine iteT ?_
  refine ⟨_, rfl, .inr (.inl ⟨p, _, ((i1 : Nat) : Int), _, rfl, rfl, hp, atI_nat (h1 r), ?_⟩)⟩
  refine ⟨_, rfl, .inr (.inl ⟨p, _, ((i2 : Nat) : Int), _, rfl, rfl, hp, atI_nat (h2 r), ?_⟩)⟩
  refine ⟨(by show 2 ≤ sizeLine; decide), fun T hT => ?_⟩
  have sT : Same H1 (upd H1 T (.tup [.int (f r).1, .int (f r).2])) := Same.upd hT
  have eD' := sT _ _ eD
  have lxs := hxs.len
  refine ⟨xs, eD', ?_, xs ++ [.ref T], upd_same, ?_, keep_put (sm.trans sT) hD⟩
  · rw [lxs, List.length_map, List.length_take]
    exact Nat.lt_of_le_of_lt (Nat.le_trans (Nat.min_le_right _ _) hn) (by decide)
  · have st : ∀ a ys, SqT K H1 a ys → SqT K (upd (upd H1 T (.tup [.int (f r).1, .int (f r).2])) D (.lst (xs ++ [V.ref T]))) a ys := fun a ys h => sqT_put eD' (sqT_same sT h)
    rw [take_snoc hr, List.map_append]
    exact All2.app (hxs.imp fun v q ⟨z, e, hz⟩ => ⟨z, e, st _ _ hz⟩) (.cons ⟨T, rfl, sqT_put eD' (SqT.of upd_same)⟩ .nil)
theorem ok_useful {f f1 : Addr} {fd fd1 : FuncData} (F : Fun K "_law_useful" "_law_useful" sUseful f fd) (T : Blt mg) (D1 : DefAt K mg "_law_spread" sSpread ["_law_firsts", "_law_twos"] f1 fd1) : FnOk P w K mg base CX0 2 f fd ["_law_links"] (spUseful K) := by
  have G1 : FnOk P w K mg base CX0 1 f1 fd1 ["_law_firsts", "_law_twos"] (spSpread K) := ok_spread D1.F T
  refine F.ok scUseful (fun vs H Q E h => ?_) (fun cdv A outer s H vs Q E hr h => ?_)
  · obtain ⟨l, us, rs, rfl, _⟩ := h
    rfl
  · obtain ⟨l, us, rs, rfl, hl, hu, hn, k⟩ := h
    refine ⟨_, pss_cons (ps_setLc (i := 2) (own := [("_law_it", 1)]) (g := gName 1) (tt := tYes) rfl scUseful.nd rfl rfl (by rfl) (pi_list (pv 0)) (blkOk_by (own := [("_law_it", 1)]) (N := nUseful) (sc := defScope sUseful) (by decide +kernel))
          (fun _ _ _ _ _ => pg_name (i := 1) scUseful.nd rfl (Or.inl rfl)) (fun _ _ _ _ _ => pts_nil)
          (fun _ _ _ _ _ => pe_tup (pa_cons (pe_ix (ix_seqK (K0 := K) rfl) (pv 1) pe_int (fun _ _ => rfl)) (pa_cons (pe_ix (ix_seqK (K0 := K) rfl) (pv 1) pe_int (fun _ _ => rfl)) pa_nil))))
      (pss_cons (ps_asg (pe_tup (pa_cons (pc D1 G1 hr (pa_cons (pe_lst (pa_cons pe_int pa_nil)) (pa_cons (pv 2) pa_nil))) (pa_cons (pc D1 G1 hr (pa_cons (pe_lst (pa_cons pe_int pa_nil)) (pa_cons
          (pe_lc (own := [("_law_two", 3)]) (g := gName 3) (tt := tYes) rfl scUseful.nd (pi_list (pv 2)) (blkOk_by (own := [("_law_two", 3)]) (N := nUseful) (sc := defScope sUseful) (by decide +kernel))
            (fun _ _ _ _ _ => pg_name (i := 3) scUseful.nd rfl (Or.inl rfl)) (fun _ _ _ _ _ => pts_nil) (fun _ _ _ _ _ => pe_revTK (K0 := K) rfl (pv 3))) pa_nil))) pa_nil)))
          (pg_tup (by rfl) (pgs_cons (pg_name (i := 4) scUseful.nd rfl (Or.inl rfl)) (pgs_cons (pg_name (i := 5) scUseful.nd rfl (Or.inr rfl)) pgs_nil))))
      (pss_cons (ps_set (i := 7) scUseful.nd rfl (Or.inr rfl) (pe_lc (own := [("_law_state", 6)]) (g := gName 6) rfl scUseful.nd (pi_list (pv 4)) (blkOk_by (own := [("_law_state", 6)]) (N := nUseful) (sc := defScope sUseful) (by decide +kernel))
          (fun _ _ _ _ _ => pg_name (i := 6) scUseful.nd rfl (Or.inl rfl)) (fun _ _ _ _ _ => pts_one (pt_cmpR (op_inK (K0 := K) rfl) (pv 6) (pv 5) (by rfl))) (fun _ _ _ _ _ => pv 6)))
      (pss_one (ps_ret (pe_lc (own := [("_law_it", 1)]) (g := gName 1) rfl scUseful.nd (pi_list (pv 0)) (blkOk_by (own := [("_law_it", 1)]) (N := nUseful) (sc := defScope sUseful) (by decide +kernel))
          (fun _ _ _ _ _ => pg_name (i := 1) scUseful.nd rfl (Or.inl rfl))
          (fun _ _ _ _ _ => pts_one (PW.pt (pw_and (pt_cmpR (op_inK (K0 := K) rfl) (pe_ix (ix_seqK (K0 := K) rfl) (pv 1) pe_int (fun _ _ => rfl)) (pv 7) (by rfl)) (pw_and1 (pt_cmpR (op_inK (K0 := K) rfl) (pe_ix (ix_seqK (K0 := K) rfl) (pv 1) pe_int (fun _ _ => rfl)) (pv 7) (by rfl)))))) (fun _ _ _ _ _ => pv 1)))))), ?_⟩
    refine ⟨_, rfl, l, rfl, ⟨us, SqL.of hl⟩, fun D hD => ?_⟩
    refine lc_list (K := K) (a := l) (xs := us) (PairP K H D rs (fun r => (r.s, r.t))) ⟨[], upd_same, (by rw [List.take_zero]; exact .nil), Same.upd hD⟩ (fun i H' _ ⟨_, _, _, sm⟩ => SqL.of (sm _ _ hl)) (pairs_stepL (l := l) hD hu (Nat.le_trans hn (by decide)) 0 2 _ (fun _ => rfl) (fun _ => rfl)) fun H1 hP => ?_
    obtain ⟨xs, eD, hxs, s1⟩ := pairs_all hu hP
    have lf : (fwd rs).length = rs.length := List.length_map _
    have lb : (bwd rs).length = rs.length := List.length_map _
    refine ⟨(by show 1 ≤ sizeLine; decide), fun p hp => ⟨_, rfl, ?_⟩⟩
    have sp : Same H1 (upd H1 p (.lst [V.int 0])) := Same.upd hp
    refine ⟨p, D, xs, fwd rs, rfl, upd_same, sp _ _ eD, hxs.imp fun _ _ => AtP.same sp, by omega, fun H2 r1 fs s2 hr1 er1 nd1 m1 l1 => ?_⟩
    have s12 : Same H1 H2 := sp.trans s2
    have eD2 := s12 _ _ eD
    have hxs2 : All2 (AtP K H2) xs (fwd rs) := hxs.imp fun _ _ => AtP.same s12
    refine ⟨(by show 1 ≤ sizeLine; decide), fun p2 hp2 => ?_⟩
    have sp2 : Same H2 (upd H2 p2 (.lst [V.int 0])) := Same.upd hp2
    have ep2 : (upd H2 p2 (.lst [V.int 0])) p2 = some (.lst [V.int 0]) := upd_same
    revert sp2 ep2
    generalize upd H2 p2 (.lst [V.int 0]) = H3
    intro sp2 ep2
    have eD3 := sp2 _ _ eD2
    have hxs3 : All2 (AtP K H3) xs (fwd rs) := hxs2.imp fun _ _ => AtP.same sp2
    refine ⟨_, rfl, D, rfl, ⟨xs, SqL.of eD3⟩, fun C hC => ?_⟩
    refine lc_list (K := K) (a := D) (xs := xs) (fun i H' => ∃ ys, H' C = some (.lst ys) ∧ All2 (AtP K H') ys (((fwd rs).take i).map fun q => (q.2, q.1)) ∧ Same H3 H') ⟨[], upd_same, (by rw [List.take_zero]; exact .nil), Same.upd hC⟩ (fun i H' _ ⟨_, _, _, sm⟩ => SqL.of (sm _ _ eD3)) ?_ ?_
    · rintro i x H4 hx ⟨ys, eC, hys, sm⟩
      obtain ⟨q, hq, at1⟩ := hxs3.at hx
      obtain ⟨a, rfl, ha⟩ := AtP.same sm at1
      refine ⟨rfl, ?_⟩
      dsimp only [tYes]
      refine iteT ?_
      refine ⟨_, rfl, a, _, rfl, ha, fun t ht => ?_⟩
      have sT : Same H4 (upd H4 t (.tup [V.int q.2, V.int q.1])) := Same.upd ht
      have eC' := sT _ _ eC
      have lys := hys.len
      refine ⟨ys, eC', ?_, ys ++ [.ref t], upd_same, ?_, keep_put (sm.trans sT) hC⟩
      · rw [lys, List.length_map, List.length_take]
        exact Nat.lt_of_le_of_lt (Nat.le_trans (Nat.min_le_right _ _) (by omega : _ ≤ 1000)) (by decide)
      · have st : ∀ a zs, SqT K H4 a zs → SqT K (upd (upd H4 t (.tup [V.int q.2, V.int q.1])) C (.lst (ys ++ [V.ref t]))) a zs := fun a zs h => sqT_put eC' (sqT_same sT h)
        rw [take_snoc hq, List.map_append]
        exact All2.app (hys.imp fun v q ⟨z, e, hz⟩ => ⟨z, e, st _ _ hz⟩) (.cons ⟨t, rfl, sqT_put eC' (SqT.of upd_same)⟩ .nil)
    rintro H4 ⟨ys, eC, hys, s34⟩
    have eb : ((fwd rs).take xs.length).map (fun q => (q.2, q.1)) = bwd rs := by
      rw [List.take_of_length_le (by rw [hxs.len]; exact Nat.le_refl _)]
      unfold fwd bwd
      rw [List.map_map]; rfl
    rw [eb] at hys
    refine ⟨p2, C, ys, bwd rs, rfl, s34 _ _ ep2, eC, hys, by omega, fun H5 r2 bs s45 hr2 er2 nd2 m2 l2 => ?_⟩
    have s25 : Same H2 H5 := (sp2.trans s34).trans s45
    have s05 : Same H H5 := (s1.trans s12).trans s25
    have er1' := s25 _ _ er1
    refine ⟨(by show 2 ≤ sizeLine; decide), fun t ht => ⟨t, _, rfl, SqT.of upd_same, rfl, ?_⟩⟩
    refine ⟨_, _, rfl, _, _, rfl, rfl, ?_⟩
    have sT : Same H5 (upd H5 t (.tup [V.ref r1, V.ref r2])) := Same.upd ht
    revert sT
    generalize upd H5 t (.tup [V.ref r1, V.ref r2]) = H6
    intro sT
    have er1t := sT _ _ er1'
    have er2t := sT _ _ er2
    have s06 := s05.trans sT
    refine ⟨_, rfl, r1, rfl, ⟨_, SqL.of er1t⟩, fun G hG => ?_⟩
    refine lc_list (K := K) (a := r1) (xs := fs.map V.int) (fun i H' => H' G = some (.lst (((fs.take i).filter fun x => decide (x ∈ bs)).map V.int)) ∧ Same H6 H') ⟨upd_same, Same.upd hG⟩ (fun i H' _ ⟨_, sm⟩ => SqL.of (sm _ _ er1t)) ?_ ?_
    · rintro i x H7 hx ⟨eG, sm⟩
      obtain ⟨z, hz, rfl⟩ : ∃ z, fs[i]? = some z ∧ x = V.int z := by
        rw [List.getElem?_map] at hx
        cases e : fs[i]? with
        | none => rw [e] at hx; exact nomatch hx
        | some z => rw [e] at hx; cases hx; exact ⟨z, rfl, rfl⟩
      refine ⟨rfl, ?_⟩
      refine ⟨_, rfl, _, rfl, r2, _, rfl, .inl (SqL.of (sm _ _ er2t)), rfl, flat_ints _, _, rfl, ?_⟩
      rw [inV_ints]
      have et := take_snoc hz
      by_cases hb : z ∈ bs
      · rw [decide_eq_true hb]
        refine iteT ?_
        refine ⟨_, rfl, _, eG, ?_, ?_, keep_put sm hG⟩
        · rw [List.length_map]
          refine Nat.lt_of_le_of_lt (Nat.le_trans (List.length_filter_le _ _) (Nat.le_trans (List.length_take_le' _ _) (by omega : _ ≤ 1001))) (by decide)
        · rw [upd_same, et, List.filter_append, List.filter_cons_of_pos (by simpa using hb), List.map_append]; rfl
      · rw [decide_eq_false hb]
        refine iteF ⟨?_, sm⟩
        rw [et, List.filter_append, List.filter_cons_of_neg (by simpa using hb), List.filter_nil, List.append_nil]
        exact eG
    rintro H7 ⟨eG, s67⟩
    rw [List.length_map, List.take_length] at eG
    have hB : ∀ x, x ∈ fs.filter (fun x => decide (x ∈ bs)) ↔ Both rs x := fun x => by
      rw [List.mem_filter, decide_eq_true_eq, m1, m2]; rfl
    revert eG hB
    generalize fs.filter (fun x => decide (x ∈ bs)) = B
    intro eG hB
    have s07 := s06.trans s67
    have el7 := s07 _ _ hl
    refine ⟨_, rfl, l, rfl, ⟨us, SqL.of el7⟩, fun Z hZ => ?_⟩
    have hZ0 := none_of s07 hZ
    refine lc_list (K := K) (a := l) (xs := us) (fun i H' => ∃ ys, H' Z = some (.lst ys) ∧ All2 (AtA K H) ys (usefulL B (rs.take i)) ∧ Same H7 H') ⟨[], upd_same, (by rw [List.take_zero]; exact .nil), Same.upd hZ⟩ (fun i H' _ ⟨_, _, _, sm⟩ => SqL.of (sm _ _ el7)) ?_ ?_
    · rintro i x H8 hx ⟨ys2, eZ, hys2, sm⟩
      obtain ⟨r, hr, at1⟩ := hu.at hx
      obtain ⟨a, rfl, ha⟩ := AtA.same (s07.trans sm) at1
      have eG8 := sm _ _ eG
      have et := take_snoc hr
      have lys := hys2.len
      refine ⟨rfl, ?_⟩
      refine and_two (a := decide (r.s ∈ B)) (b := decide (r.t ∈ B)) (fun Q' h => ⟨_, rfl, .inr (.inl ⟨a, _, ((0 : Nat) : Int), _, rfl, rfl, ha, atI_nat (j := 0) rfl, _, rfl, G, _, rfl, .inl (SqL.of eG8), rfl, flat_ints _, _, rfl, by rw [inV_ints]; exact h⟩)⟩)
        (fun Q' h => ⟨_, rfl, .inr (.inl ⟨a, _, ((2 : Nat) : Int), _, rfl, rfl, ha, atI_nat (j := 2) rfl, _, rfl, G, _, rfl, .inl (SqL.of eG8), rfl, flat_ints _, _, rfl, by rw [inV_ints]; exact h⟩)⟩) ?_
      have eu : usefulL B (rs.take (i + 1)) = usefulL B (rs.take i) ++ if (decide (r.s ∈ B) && decide (r.t ∈ B)) = true then [r] else [] := by
        unfold usefulL
        rw [et, List.filter_append, List.filter_cons]
        split <;> rfl
      rw [eu]
      cases hb : decide (r.s ∈ B) && decide (r.t ∈ B) with
      | true =>
        refine iteT ?_
        refine ⟨_, rfl, _, eZ, ?_, ys2 ++ [.ref a], upd_same, hys2.app (.cons at1 .nil), keep_put sm hZ⟩
        rw [lys]
        exact Nat.lt_of_le_of_lt (Nat.le_trans (List.length_filter_le _ _) (Nat.le_trans (List.length_take_le' _ _) hn)) (by decide)
      | false =>
        refine iteF ⟨ys2, eZ, ?_, sm⟩
        rw [if_neg (by decide), List.append_nil]
        exact hys2
    · rintro H8 ⟨ys2, eZ, hys2, sm⟩
      rw [List.take_of_length_le (by rw [← hu.len]; exact Nat.le_refl _)] at hys2
      exact k H8 Z ys2 B (s07.trans sm) hZ0 eZ hB (hys2.imp fun _ _ => AtA.same (s07.trans sm))
end
end K06

set_option Elab.async false
set_option linter.all false
set_option maxRecDepth 100000
set_option maxHeartbeats 2000000
namespace Ami
open PySem PySem.Spec PyProof.Rows L2
open PySem.W (alike alikeAll dataLt keyToks keyToksAll)
theorem Rch.mono {ps qs : List (Int × Int)} (h : ∀ p ∈ ps, p ∈ qs) {x : Int} (k : Rch ps x) : Rch qs x := by
  induction k with
  | one m => exact .one (h _ m)
  | step _ m ih => exact .step ih (h _ m)
theorem Rch.map {ps : List (Int × Int)} (f : Int → Int) (f0 : f 0 = 0) {x : Int} (k : Rch ps x) : Rch (ps.map fun p => (f p.1, f p.2)) (f x) := by
  induction k with
  | one m => exact .one (List.mem_map.mpr ⟨_, m, by rw [f0]⟩)
  | step _ m ih => exact .step ih (List.mem_map.mpr ⟨_, m, rfl⟩)
theorem mem_fwd {rs : List Arr} {x y : Int} : (x, y) ∈ fwd rs ↔ ∃ r ∈ rs, r.s = x ∧ r.t = y := by
  unfold fwd
  rw [List.mem_map]
  exact ⟨fun ⟨r, hr, e⟩ => ⟨r, hr, congrArg (·.1) e, congrArg (·.2) e⟩, fun ⟨r, hr, e1, e2⟩ => ⟨r, hr, by rw [e1, e2]⟩⟩
theorem mem_bwd {rs : List Arr} {x y : Int} : (x, y) ∈ bwd rs ↔ ∃ r ∈ rs, r.t = x ∧ r.s = y := by
  unfold bwd
  rw [List.mem_map]
  exact ⟨fun ⟨r, hr, e⟩ => ⟨r, hr, congrArg (·.1) e, congrArg (·.2) e⟩, fun ⟨r, hr, e1, e2⟩ => ⟨r, hr, by rw [e1, e2]⟩⟩
theorem mem_useful {B : List Int} {rs : List Arr} {r : Arr} : r ∈ usefulL B rs ↔ r ∈ rs ∧ r.s ∈ B ∧ r.t ∈ B := by
  unfold usefulL
  rw [List.mem_filter, Bool.and_eq_true, decide_eq_true_eq, decide_eq_true_eq]
theorem way_f {rs : List Arr} {B : List Int} (hB : ∀ x, x ∈ B ↔ Both rs x) {x : Int} (h : Rch (fwd rs) x) : Rc0 (bwd rs) x → Rch (fwd (usefulL B rs)) x := by
  induction h with
  | one m =>
    intro hb
    obtain ⟨r, hr, e1, e2⟩ := mem_fwd.mp m
    exact .one (mem_fwd.mpr ⟨r, mem_useful.mpr ⟨hr, (hB _).mpr (by rw [e1]; exact ⟨.inl rfl, .inl rfl⟩), (hB _).mpr (by rw [e2]; exact ⟨.inr (.one m), hb⟩)⟩, e1, e2⟩)
  | step hx m ih =>
    intro hb
    obtain ⟨r, hr, e1, e2⟩ := mem_fwd.mp m
    have hbx := hb.step (mem_bwd.mpr ⟨r, hr, e2, e1⟩)
    exact .step (ih hbx) (mem_fwd.mpr ⟨r, mem_useful.mpr ⟨hr, (hB _).mpr (by rw [e1]; exact ⟨.inr hx, hbx⟩), (hB _).mpr (by rw [e2]; exact ⟨.inr (.step hx m), hb⟩)⟩, e1, e2⟩)
theorem way_b {rs : List Arr} {B : List Int} (hB : ∀ x, x ∈ B ↔ Both rs x) {x : Int} (h : Rch (bwd rs) x) : Rc0 (fwd rs) x → Rch (bwd (usefulL B rs)) x := by
  induction h with
  | one m =>
    intro hb
    obtain ⟨r, hr, e1, e2⟩ := mem_bwd.mp m
    exact .one (mem_bwd.mpr ⟨r, mem_useful.mpr ⟨hr, (hB _).mpr (by rw [e2]; exact ⟨hb, .inr (.one m)⟩), (hB _).mpr (by rw [e1]; exact ⟨.inl rfl, .inl rfl⟩)⟩, e1, e2⟩)
  | step hx m ih =>
    intro hb
    obtain ⟨r, hr, e1, e2⟩ := mem_bwd.mp m
    have hbx := hb.step (mem_fwd.mpr ⟨r, hr, e2, e1⟩)
    exact .step (ih hbx) (mem_bwd.mpr ⟨r, mem_useful.mpr ⟨hr, (hB _).mpr (by rw [e2]; exact ⟨hb, .inr (.step hx m)⟩), (hB _).mpr (by rw [e1]; exact ⟨hbx, .inr hx⟩)⟩, e1, e2⟩)
/-- arrows whose ends, and the border, lie on ways -/
structure Core (rs : List Arr) : Prop where
  ne : 0 < rs.length
  on : ∀ x : Int, (x = 0 ∨ ∃ r ∈ rs, x = r.s ∨ x = r.t) → Busy rs x
theorem loop_f {rs : List Arr} {x : Int} (h : Rch (bwd rs) x) : Rch (fwd rs) x → Rch (fwd rs) 0 := by
  induction h with
  | one m =>
    intro k
    obtain ⟨r, hr, e1, e2⟩ := mem_bwd.mp m
    exact .step k (mem_fwd.mpr ⟨r, hr, e2, e1⟩)
  | step _ m ih =>
    intro k
    obtain ⟨r, hr, e1, e2⟩ := mem_bwd.mp m
    exact ih (.step k (mem_fwd.mpr ⟨r, hr, e2, e1⟩))
theorem loop_b {rs : List Arr} {x : Int} (h : Rch (fwd rs) x) : Rch (bwd rs) x → Rch (bwd rs) 0 := by
  induction h with
  | one m =>
    intro k
    obtain ⟨r, hr, e1, e2⟩ := mem_fwd.mp m
    exact .step k (mem_bwd.mpr ⟨r, hr, e2, e1⟩)
  | step _ m ih =>
    intro k
    obtain ⟨r, hr, e1, e2⟩ := mem_fwd.mp m
    exact ih (.step k (mem_bwd.mpr ⟨r, hr, e2, e1⟩))
theorem core_useful {rs : List Arr} {B : List Int} (hB : ∀ x, x ∈ B ↔ Both rs x) (ne : 0 < (usefulL B rs).length) : Core (usefulL B rs) := by
  have ends : ∀ x : Int, x ≠ 0 → (∃ r ∈ usefulL B rs, x = r.s ∨ x = r.t) → Busy (usefulL B rs) x := by
    rintro x hx ⟨r, hr, e⟩
    obtain ⟨_, m1, m2⟩ := mem_useful.mp hr
    have b : Both rs x := by
      rcases e with rfl | rfl
      · exact (hB _).mp m1
      · exact (hB _).mp m2
    exact ⟨way_f hB (b.1.resolve_left hx) b.2, way_b hB (b.2.resolve_left hx) b.1⟩
  refine ⟨ne, fun x hx => ?_⟩
  by_cases h0 : x = 0
  · subst h0
    obtain ⟨r, hr⟩ := List.exists_mem_of_length_pos ne
    constructor
    · by_cases ht : r.t = 0
      · by_cases hs : r.s = 0
        · exact .one (mem_fwd.mpr ⟨r, hr, hs, ht⟩)
        · exact .step (ends r.s hs ⟨r, hr, .inl rfl⟩).1 (mem_fwd.mpr ⟨r, hr, rfl, ht⟩)
      · have b := ends r.t ht ⟨r, hr, .inr rfl⟩
        exact loop_f b.2 b.1
    · by_cases hs : r.s = 0
      · by_cases ht : r.t = 0
        · exact .one (mem_bwd.mpr ⟨r, hr, ht, hs⟩)
        · exact .step (ends r.t ht ⟨r, hr, .inr rfl⟩).2 (mem_bwd.mpr ⟨r, hr, rfl, hs⟩)
      · have b := ends r.s hs ⟨r, hr, .inl rfl⟩
        exact loop_b b.1 b.2
  · exact ends x h0 (hx.resolve_left h0)
theorem core_one (l k : Str) : Core [⟨0, l, 0, k⟩] := by
  refine ⟨Nat.zero_lt_one, fun x hx => ?_⟩
  have e : x = 0 := by
    rcases hx with e | ⟨r, hr, e⟩
    · exact e
    · rw [List.mem_singleton.mp hr] at e
      exact e.elim id id
  subst e
  exact ⟨.one (mem_fwd.mpr ⟨_, List.mem_singleton.mpr rfl, rfl, rfl⟩), .one (mem_bwd.mpr ⟨_, List.mem_singleton.mpr rfl, rfl, rfl⟩)⟩
/-- the place of a state -/
def ixOf (ms : List Int) (x : Int) : Nat := ms.idxOf x
def ren (ms : List Int) (r : Arr) : Arr := ⟨(ixOf ms r.s : Nat), r.l, (ixOf ms r.t : Nat), r.k⟩
theorem ix_at {ms : List Int} {x : Int} (h : x ∈ ms) : ixOf ms x < ms.length ∧ ms[ixOf ms x]? = some x := by
  have h1 := List.idxOf_lt_length_iff.mpr h
  exact ⟨h1, by rw [ixOf, List.getElem?_eq_getElem h1, List.getElem_idxOf]⟩
theorem ix_of {ms : List Int} (nd : ms.Nodup) {i : Nat} (h : i < ms.length) : ixOf ms ms[i] = i := List.Nodup.idxOf_getElem nd i h
theorem ix_zero {ms : List Int} (up : ms.Pairwise (· < ·)) (h0 : (0 : Int) ∈ ms) (hp : ∀ x ∈ ms, 0 ≤ x) : ixOf ms 0 = 0 := by
  cases ms with
  | nil => exact nomatch h0
  | cons m ms =>
    have e : m = 0 := by
      rcases List.mem_cons.mp h0 with e | e
      · exact e.symm
      · have := (List.pairwise_cons.mp up).1 0 e
        have := hp m List.mem_cons_self
        omega
    subst e
    unfold ixOf
    rw [List.idxOf_cons]
    simp
theorem ix_zero_iff {ms : List Int} (up : ms.Pairwise (· < ·)) (h0 : (0 : Int) ∈ ms) (hp : ∀ x ∈ ms, 0 ≤ x) {x : Int} (hx : x ∈ ms) : ixOf ms x = 0 ↔ x = 0 := by
  have z := ix_zero up h0 hp
  constructor
  · intro e
    have h1 := (ix_at hx).2
    have h2 := (ix_at h0).2
    rw [z] at h2
    rw [e, h2] at h1
    cases h1; rfl
  · rintro rfl
    exact z
theorem fwd_ren (ms : List Int) (rs : List Arr) : fwd (rs.map (ren ms)) = (fwd rs).map fun p => (((ixOf ms p.1 : Nat) : Int), ((ixOf ms p.2 : Nat) : Int)) := by
  unfold fwd
  rw [List.map_map, List.map_map]; rfl
theorem bwd_ren (ms : List Int) (rs : List Arr) : bwd (rs.map (ren ms)) = (bwd rs).map fun p => (((ixOf ms p.1 : Nat) : Int), ((ixOf ms p.2 : Nat) : Int)) := by
  unfold bwd
  rw [List.map_map, List.map_map]; rfl
theorem busy_mono {rs qs : List Arr} (h : ∀ r ∈ rs, r ∈ qs) {x : Int} (b : Busy rs x) : Busy qs x :=
  ⟨b.1.mono fun p hp => by obtain ⟨r, hr, e⟩ := List.mem_map.mp hp; exact List.mem_map.mpr ⟨r, h r hr, e⟩, b.2.mono fun p hp => by obtain ⟨r, hr, e⟩ := List.mem_map.mp hp; exact List.mem_map.mpr ⟨r, h r hr, e⟩⟩
/-- the renumbered arrows are those of a format -/
theorem good_ren {ls : Str} {cnt : Nat} {rs qs : List Arr} {ms : List Int} (c : Core rs) (hl : isLetB ls = true) (pl : ls.length ≤ 100000 ∧ Asc ls) (fit : ∀ r ∈ rs, Fit ls cnt r) (up : ms.Pairwise (· < ·)) (hm : ∀ x, x ∈ ms ↔ x = 0 ∨ ∃ r ∈ rs, x = r.s ∨ x = r.t)
    (hq : ∀ r, r ∈ qs ↔ r ∈ rs.map (ren ms)) (hqa : ascB qs = true) (hql : qs.length ≤ 10000) : Good ls ms.length qs := by
  have h0 : (0 : Int) ∈ ms := (hm 0).mpr (.inl rfl)
  have st : ∀ r ∈ rs, (0 ≤ r.s ∧ r.s < cnt) ∧ (0 ≤ r.t ∧ r.t < cnt) := fun r hr => by
    have := (fit r hr).1
    unfold arrowB stateB at this
    simp only [Bool.and_eq_true, decide_eq_true_eq] at this
    exact ⟨this.1.1.1, this.1.1.2⟩
  have hp : ∀ x ∈ ms, 0 ≤ x := fun x hx => by
    rcases (hm x).mp hx with e | ⟨r, hr, e⟩
    · omega
    · have := st r hr
      rcases e with e | e <;> omega
  have nd : ms.Nodup := up.imp fun h e => by omega
  have ze : ((ixOf ms 0 : Nat) : Int) = 0 := by rw [ix_zero up h0 hp]; rfl
  refine ⟨hl, pl, List.length_pos_of_mem h0, fun r hr => ?_, hqa, ?_, hql, fun i hi => ?_⟩
  · obtain ⟨q, hqr, rfl⟩ := List.mem_map.mp ((hq r).mp hr)
    obtain ⟨f1, f2⟩ := fit q hqr
    refine ⟨?_, f2⟩
    have ms1 : q.s ∈ ms := (hm _).mpr (.inr ⟨q, hqr, .inl rfl⟩)
    have ms2 : q.t ∈ ms := (hm _).mpr (.inr ⟨q, hqr, .inr rfl⟩)
    have i1 := (ix_at ms1).1
    have i2 := (ix_at ms2).1
    have z2 := ix_zero_iff up h0 hp ms2
    unfold arrowB stateB at f1 ⊢
    simp only [Bool.and_eq_true, decide_eq_true_eq] at f1 ⊢
    refine ⟨⟨⟨⟨?_, ?_⟩, ⟨?_, ?_⟩⟩, f1.1.2⟩, ?_⟩
    · show (0 : Int) ≤ (ixOf ms q.s : Nat); omega
    · show ((ixOf ms q.s : Nat) : Int) < _; omega
    · show (0 : Int) ≤ (ixOf ms q.t : Nat); omega
    · show ((ixOf ms q.t : Nat) : Int) < _; omega
    · have f3 := f1.2
      show (if ((ixOf ms q.t : Nat) : Int) = 0 then _ else _) = true
      by_cases e : q.t = 0
      · rw [if_pos e] at f3
        rw [if_pos (by have := z2.mpr e; omega)]
        exact f3
      · rw [if_neg e] at f3
        rw [if_neg (fun z => e (z2.mp (by omega)))]
        exact f3
  · obtain ⟨r, hr⟩ := List.exists_mem_of_length_pos c.ne
    exact List.length_pos_of_mem ((hq (ren ms r)).mpr (List.mem_map.mpr ⟨r, hr, rfl⟩))
  · have hb := c.on ms[i] ((hm _).mp (List.getElem_mem hi))
    have ei := ix_of nd hi
    refine busy_mono (fun r hr => (hq r).mpr hr) ⟨?_, ?_⟩
    · have := hb.1.map (fun x => ((ixOf ms x : Nat) : Int)) ze
      rw [fwd_ren]
      simp only [ei] at this
      exact this
    · have := hb.2.map (fun x => ((ixOf ms x : Nat) : Int)) ze
      rw [bwd_ren]
      simp only [ei] at this
      exact this
/-- the order of arrows -/
theorem nkA_inj {r q : Arr} (h : nkA r = nkA q) : r = q := by
  cases r
  cases q
  unfold nkA at h
  injection h with h
  injection h with h1 h
  injection h with h2 h
  injection h with h3 h
  injection h with h4 h
  injection h1 with h1
  injection h2 with h2
  injection h3 with h3
  injection h4 with h4
  subst h1 h2 h3 h4
  rfl
theorem toks_arr (r : Arr) : keyToks (nkA r).data = [.inl 1, .inl r.s, .inl 1, .inr r.l.cps.toList, .inl 1, .inl r.t, .inl 1, .inr r.k.cps.toList, .inl 0] := rfl
theorem aLt_total {r q : Arr} (h1 : aLt r q = false) (h2 : aLt q r = false) : r = q := by
  have e := lex_total (O := itemOrd) _ _ h1 h2
  rw [toks_arr, toks_arr] at e
  simp only [List.cons.injEq, Sum.inl.injEq, Sum.inr.injEq, and_true, true_and] at e
  obtain ⟨e1, e2, e3, e4⟩ := e
  have e2' := PySem.W.str_of_cps e2
  have e4' := PySem.W.str_of_cps e4
  cases r
  cases q
  simp only at e1 e2' e3 e4'
  subst e1 e2' e3 e4'
  rfl
theorem zip_drop_all {R : Arr → Arr → Bool} : ∀ {rs : List Arr}, rs.Pairwise (fun a b => R a b = true) → (rs.zip (rs.drop 1)).all (fun p => R p.1 p.2) = true
  | [], _ => rfl
  | [_], _ => rfl
  | a :: b :: rs, h => by
    obtain ⟨h1, h2⟩ := List.pairwise_cons.mp h
    show (R a b && _) = true
    rw [h1 b List.mem_cons_self]
    exact zip_drop_all h2
theorem asc_of {rs : List Arr} (up : rs.Pairwise fun a b => aLt b a = false) (nd : rs.Nodup) : ascB rs = true := by
  refine zip_drop_all (R := aLt) ((up.and nd).imp fun {a b} h => ?_)
  cases e : aLt a b with
  | true => rfl
  | false => exact absurd (aLt_total e h.1) h.2
end Ami

set_option Elab.async false
set_option linter.all false
set_option maxRecDepth 100000
set_option maxHeartbeats 2000000
namespace Ami
open PySem PySem.Spec PyProof.Rows L2
section
variable {X : Cx} {K0 : PySem.W.Frag}
theorem pe_bmK {T id name : String} {r : V → List V → Hp → VK → Prop} {o e : Expr} {es : List Expr} {to : TE} {t : TA} {apos cpos : Pos} (hK : X.K = K0) (pa : PlainAttrs T) (slot : Slot T name id) (hty : typeOf (.builtin id) = pure (.type "method_descriptor")) (hm : MtR X id r) (ho : PE X o to) (ha : PA X (e :: es) t)
    (hbase : attributeBase o name X.env (eval o X.env) = eval o X.env := by rfl)
    (hfew : ((backTo cpos (starEach (e :: es) X.env)).all (fun x => !x.1) && (backToKw cpos (keywordEach [] X.env)).all (fun x => x.1.isSome)
      && decide ((e :: es).length + ([] : List Keyword).length + (if ([] : List Keyword).isEmpty then 0 else 1) < 30)) = true := by rfl)
    (hline : (apos.endLine == cpos.line) = true := by rfl) (hs : starEach (e :: es) X.env = (false, eval e X.env) :: starEach es X.env := by rfl) (hplain : (backTo cpos (starEach es X.env)).any (·.1) = false := by rfl) :
    PE X (.Call (.Attribute o name apos) (e :: es) [] cpos) (tBM K0 T r to t) := by
  subst hK
  exact pe_bm pa slot hty hm ho ha hbase hfew hline hs hplain
theorem mt_indexK (hK : X.K = K0) : MtR X "list.index" (rIndex K0) := by
  subst hK
  exact mt_index
theorem call_tupleK (hK : X.K = K0) : CallR X (.type "tuple") (fun xs H Q => ∃ p ys, xs = [.ref p] ∧ ((SqL K0 H p ys ∧ ∀ l, H l = none → Q (.ref l) (upd H l (.tup ys))) ∨ (SqT K0 H p ys ∧ Q (.ref p) H))) := by
  subst hK
  exact call_tuple_of
end
theorem sqT_but {K : PySem.W.Frag} {H H' : Hp} {d c : Addr} {n : Nat} (D : DeckAt H d c n) (b : But d c H H') {a : Addr} {xs : List V} (h : SqT K H a xs) : SqT K H' a xs := by
  obtain ⟨_, q, cs, e1, e2, _⟩ := D
  rcases h with (h | ⟨u, h⟩) | h
  · exact .inl (.inl (b a _ (fun e => by rw [e, e1] at h; exact nomatch h) (fun e => by rw [e, e2] at h; exact nomatch h) h))
  · exact .inl (.inr ⟨u, b a _ (fun e => by rw [e, e1] at h; exact nomatch h) (fun e => by rw [e, e2] at h; exact nomatch h) h⟩)
  · exact .inr h
theorem AtA.to {K : PySem.W.Frag} {H H' : Hp} {v : V} {r : Arr} (t : ∀ a xs, SqT K H a xs → SqT K H' a xs) : AtA K H v r → AtA K H' v r := fun ⟨p, e, s⟩ => ⟨p, e, t _ _ s⟩
theorem ne_arrs {K : PySem.W.Frag} {H : Hp} {a p : Addr} {us : List V} {rs : List Arr} {Q : VK} (ha : SqL K H a us) (hp : SqL K H p []) (hu : All2 (AtA K H) us rs) (h : ∀ r ∈ rs, Asc r.l ∧ Asc r.k) (q : Q (.bl (!rs.isEmpty)) H) : rNeD K (.ref a) (.ref p) H Q :=
  ⟨.list (rs.map dA), _, .lst ha (dp_arrs hu), .lst hp .nil, by
    show (PyData.canLayAll0 (rs.map dA) && decide (PyData.depthAll (rs.map dA) + 1 ≤ 64)) = true
    have := depth_arrs rs
    rw [lay_arrs h, decide_eq_true (by omega)]; rfl, rfl, by
    have e : PyData.eqv (.list (rs.map dA)) (.list []) = rs.isEmpty := by cases rs <;> rfl
    rw [e]; exact q⟩
/-- arrows of a list as keys -/
theorem rows_keys {K : PySem.W.Frag} {H : Hp} : ∀ {us : List V} {rs : List Arr}, All2 (AtA K H) us rs → ∃ ks : List (Addr × NestedKey), us = ks.map (fun p => V.ref p.1) ∧ ks.map (·.2) = rs.map nkA ∧ ∀ p ∈ ks, ∃ r ∈ rs, p.2 = nkA r ∧ AtA K H (.ref p.1) r
  | _, _, .nil => ⟨[], rfl, rfl, fun p hp => nomatch hp⟩
  | _, _, .cons (b := r) (bs := rs) ⟨p, e, s⟩ t => by
    obtain ⟨ks, e1, e2, h⟩ := rows_keys t
    subst e
    refine ⟨(p, nkA r) :: ks, by rw [e1]; rfl, by rw [List.map_cons, e2]; rfl, fun q hq => ?_⟩
    rcases List.mem_cons.mp hq with z | z
    · subst z
      exact ⟨r, List.mem_cons_self, rfl, p, rfl, s⟩
    · obtain ⟨r', h1, h2⟩ := h q z
      exact ⟨r', List.mem_cons_of_mem _ h1, h2⟩
theorem keys_memb {K : PySem.W.Frag} {H : Hp} {p : Addr × NestedKey} {r : Arr} (e : p.2 = nkA r) (h : AtA K H (.ref p.1) r) : Memb K H p := ⟨by rw [e]; exact h.nv, by rw [e]; show 1 ≤ 8; decide⟩
theorem keys_comp {ks : List (Addr × NestedKey)} (h : ∀ p ∈ ks, ∃ r, p.2 = nkA r) : Comp ks := ⟨fun p hp q hq => by
    obtain ⟨r, e⟩ := h p hp
    obtain ⟨r', e'⟩ := h q hq
    show PySem.W.alike p.2.data q.2.data = true
    rw [e, e']; rfl, fun p hp => by
    obtain ⟨r, e⟩ := h p hp
    exact ⟨_, _, e⟩⟩
theorem keys_rows {K : PySem.W.Frag} {H : Hp} : ∀ {L : List (Addr × NestedKey)}, (∀ p ∈ L, ∃ r, p.2 = nkA r ∧ AtA K H (.ref p.1) r) → ∃ qs : List Arr, All2 (AtA K H) (L.map fun p => V.ref p.1) qs ∧ L.map (·.2) = qs.map nkA
  | [], _ => ⟨[], .nil, rfl⟩
  | p :: L, h => by
    obtain ⟨qs, h1, h2⟩ := keys_rows fun q hq => h q (List.mem_cons_of_mem _ hq)
    obtain ⟨r, e, a⟩ := h p List.mem_cons_self
    exact ⟨r :: qs, .cons a h1, by rw [List.map_cons, e, h2]; rfl⟩
theorem rows_up {L : List (Addr × NestedKey)} {qs : List Arr} (e : L.map (·.2) = qs.map nkA) (up : NUp L) (nd : (L.map (·.2)).Nodup) : ascB qs = true := by
  refine asc_of ?_ ?_
  · have h : (L.map (·.2)).Pairwise fun a b : NestedKey => PySem.W.dataLt b.data a.data = false := List.pairwise_map.mpr up
    rw [e] at h
    exact List.pairwise_map.mp h
  · rw [e] at nd
    exact (List.pairwise_map.mp nd).imp fun h z => h (by rw [z])
/-- used.index(x) -/
theorem index_ok {K : PySem.W.Frag} {H : Hp} {u : Addr} {ms : List Int} {x : Int} {Q : VK} (hu : SqL K H u (ms.map V.int)) (nd : ms.Nodup) (hx : x ∈ ms) (q : Q (.int (ixOf ms x : Nat)) H) : rIndex K (.ref u) [.int x] H Q := by
  obtain ⟨h1, h2⟩ := ix_at hx
  refine ⟨u, _, .int x, ixOf ms x, .int x, rfl, rfl, hu, rfl, flat_ints _, by rw [List.getElem?_map, h2]; rfl, beq_self_eq_true x, fun m z' hm hz => ?_, q⟩
  rw [List.getElem?_map] at hz
  have hml : m < ms.length := Nat.lt_trans hm h1
  rw [List.getElem?_eq_getElem hml] at hz
  cases hz
  show (ms[m] == x) = false
  refine beq_eq_false_iff_ne.mpr fun e => ?_
  have := ix_of nd hml
  rw [e] at this
  omega
/-- fit arrows with few kinds -/
def FitS (ls : Str) (cnt : Nat) (rs : List Arr) : Prop := (∀ r ∈ rs, Fit ls cnt r) ∧ ∃ nm : List Str, nm.length ≤ 4 ∧ ∀ r ∈ rs, r.t = 0 → r.k ∈ nm
/-- drawn arrows of use, renumbered -/
def spWorld (K : PySem.W.Frag) : Sp := fun vs H Q _ => ∃ (d c : Addr) (n : Nat) (ls : Str) (top most : Nat), vs = [.ref d, .str ls, .int top, .int most] ∧ 1 ≤ top ∧ top ≤ 1000 ∧ 1 ≤ most ∧ most ≤ 30 ∧ 2 ≤ ls.length ∧ ls.length ≤ 1000 ∧ Asc ls ∧ isLetB ls = true ∧ n + 500 < 1000000 ∧ DeckAt H d c n ∧
  ∀ (H' : Hp) (t a : Addr) (cnt : Nat) (rs : List Arr) (n' : Nat), SqT K H' t [.int cnt, .ref a] → ArrT K H' a rs → Good ls cnt rs → cnt ≤ 64 → cnt ≤ top → (∃ nm : List Str, nm.length ≤ 4 ∧ ∀ r ∈ rs, r.t = 0 → r.k ∈ nm) → rs.length ≤ most → n' ≤ n + 200 → DeckAt H' d c n' → But d c H H' → Q (.ref t) H'
end Ami
namespace K06
open PySem PySem.Spec PyProof.Rows L2 Ami
section
variable {P : Program} {w : World} {K : PySem.W.Frag} {mg : Str → Option Value} {base : Heap}
abbrev nWorld : List Str := ["_law_deck_here", "_law_signs_here", "_law_top", "_law_most_links", "_law_count", "_law_links", "_law_k", "_law_it", "_law_used"]
theorem scWorld : FnScope nWorld ["_law_deck_here", "_law_signs_here", "_law_top", "_law_most_links"] (defScope sWorld) := ⟨rfl, rfl, rfl, by decide +kernel, rfl, by decide +kernel, by decide +kernel⟩
/-- the ends of the arrows -/
def EndP (H : Hp) (C : Addr) (rs : List Arr) (f : Arr → Int) (i : Nat) (H' : Hp) : Prop := H' C = some (.lst (((rs.take i).map f).map V.int)) ∧ Same H H'
theorem ends_step {C : Addr} {us : List V} {rs : List Arr} {H : Hp} (hC : H C = none) (hu : All2 (AtA K H) us rs) (hn : rs.length ≤ 10000) (i1 : Nat) (f : Arr → Int) (h1 : ∀ r : Arr, r.vs[i1]? = some (.int (f r)))
    {v0 v1 v2 v3 v4 v5 v6 v7 v8 : Option V} : ∀ (i : Nat) (x : V) (H1 : Hp), us[i]? = some x → EndP H C rs f i H1 → gName 7 x (wipe [v0, v1, v2, v3, v4, v5, v6, v7, v8] [7]) H1 fun σ2 H2 => wipe σ2 [7] = wipe [v0, v1, v2, v3, v4, v5, v6, v7, v8] [7] ∧ tYes σ2 H2 fun b H3 =>
      if b = true then tOp (rIx K) (tVar 7) (tC (V.int (i1 : Nat))) σ2 H3 fun y H4 => ∃ acc, H4 C = some (.lst acc) ∧ acc.length < sizeLine ∧ EndP H C rs f (i + 1) (upd H4 C (.lst (acc ++ [y]))) else EndP H C rs f (i + 1) H3 := by
  rintro i x H1 hx ⟨eC, sm⟩
  obtain ⟨r, hr, at1⟩ := hu.at hx
  obtain ⟨p, rfl, hp⟩ := AtA.same sm at1
  refine ⟨rfl, ?_⟩
  dsimp only [tYes]
  refine iteT ?_
  refine ⟨_, rfl, .inr (.inl ⟨p, _, ((i1 : Nat) : Int), _, rfl, rfl, hp, atI_nat (h1 r), ?_⟩)⟩
  refine ⟨_, eC, ?_, ?_, keep_put sm hC⟩
  · rw [List.length_map, List.length_map, List.length_take]
    exact Nat.lt_of_le_of_lt (Nat.le_trans (Nat.min_le_right _ _) hn) (by decide)
  · rw [upd_same, take_snoc hr, List.map_append, List.map_append]; rfl
theorem ends_all {C : Addr} {us : List V} {rs : List Arr} {H H' : Hp} {f : Arr → Int} (hu : All2 (AtA K H) us rs) (h : EndP H C rs f us.length H') : H' C = some (.lst ((rs.map f).map V.int)) ∧ Same H H' := by
  obtain ⟨eC, sm⟩ := h
  rw [List.take_of_length_le (by rw [← hu.len]; exact Nat.le_refl _)] at eC
  exact ⟨eC, sm⟩
theorem ok_world {f f1 f2 f3 : Addr} {fd fd1 fd2 fd3 : FuncData} (F : Fun K "_law_world" "_law_world" sWorld f fd) (T : Blt mg) (D1 : DefAt K mg "_law_draw" sDraw ["_law_deck_here", "_law_bound"] f1 fd1)
    (D2 : DefAt K mg "_law_link" sLink ["_law_deck_here", "_law_signs_here", "_law_count"] f2 fd2) (G2 : FnOk P w K mg base CX0 3 f2 fd2 ["_law_deck_here", "_law_signs_here", "_law_count"] (spLink K))
    (D3 : DefAt K mg "_law_useful" sUseful ["_law_links"] f3 fd3) (G3 : FnOk P w K mg base CX0 2 f3 fd3 ["_law_links"] (spUseful K)) :
    FnOk P w K mg base CX0 4 f fd ["_law_deck_here", "_law_signs_here", "_law_top", "_law_most_links"] (spWorld K) := by
  have G1 : FnOk P w K mg base CX0 1 f1 fd1 ["_law_deck_here", "_law_bound"] spDraw := ok_draw D1.F T
  refine F.ok scWorld (fun vs H Q E h => ?_) (fun cdv A outer s H vs Q E hr h => ?_)
  · obtain ⟨d, c, n, ls, top, most, rfl, _⟩ := h
    rfl
  · obtain ⟨d, c, n, ls, top, most, rfl, t1, t2, m1, m2, l1, l2, lA, hL, hn, D, k⟩ := h
    have hr1 := hr.mono (j := 1) (by decide)
    have hr2 := hr.mono (j := 2) (by decide)
    have hr3 := hr.mono (j := 3) (by decide)
    have hun := hr.units
    refine ⟨_, pss_cons (ps_par (i := 4) (j := 5) rfl scWorld.nd rfl rfl (by decide) rfl rfl (pa_cons (pe_op op_add pe_int (pc D1 G1 hr1 (pa_cons (pv 0) (pa_cons (pv 2) pa_nil)))) (pa_cons (pe_lst pa_nil) pa_nil)) (by rfl))
      (pss_cons (ps_for PassesOwn.never rfl (pi_range1 rfl T.range (pa_cons (pe_op op_add pe_int (pc D1 G1 hr1 (pa_cons (pv 0) (pa_cons (pv 3) pa_nil)))) pa_nil)) (pg_name (i := 6) scWorld.nd rfl (Or.inl rfl))
        (pss_one (ps_expr (pe_bm PySem.F.plainAttrs_list PySem.F.slot_list_append PySem.F.type_list_append mt_append (pv 5) (pa_cons (pc D2 G2 hr3 (pa_cons (pv 0) (pa_cons (pv 1) (pa_cons (pv 4) pa_nil)))) pa_nil)))))
      (pss_cons (ps_set (i := 5) scWorld.nd rfl (Or.inl rfl) (pc D3 G3 hr2 (pa_cons (pv 5) pa_nil)))
      (C8.pss_cut (ps_set (i := 5) scWorld.nd rfl (Or.inl rfl) (pe_ifExp (pt_cmpR (op_neD hun) (pv 5) (pe_lst pa_nil) (nomark _)) (pv 5) (pe_lst (pa_cons (pe_tup (pa_cons pe_int (pa_cons (pe_ix ix_str (pv 1) pe_int (fun _ _ => rfl)) (pa_cons pe_int (pa_cons pe_str pa_nil))))) pa_nil))))
      (C8.pss_cut (ps_set (i := 8) scWorld.nd rfl (Or.inr rfl) (pe_callB (cr_sortedWI (w0 := w) rfl rfl) (by rfl) T.sorted (by decide +kernel) (pa_cons (pe_callTy (cr_setIL (K0 := K) (w0 := w) rfl rfl rfl) (by rfl) T.set (by decide +kernel) (pa_cons
          (pe_op op_cat (pe_op op_cat (pe_lst (pa_cons pe_int pa_nil))
            (pe_lc (own := [("_law_it", 7)]) (g := gName 7) (tt := tYes) rfl scWorld.nd (pi_list (pv 5)) (blkOk_by (own := [("_law_it", 7)]) (N := nWorld) (sc := defScope sWorld) (by decide +kernel)) (fun _ _ _ _ _ => pg_name (i := 7) scWorld.nd rfl (Or.inl rfl)) (fun _ _ _ _ _ => pts_nil)
              (fun _ _ _ _ _ => pe_ix (ix_seqK (K0 := K) rfl) (pv 7) pe_int (fun _ _ => rfl))))
            (pe_lc (own := [("_law_it", 7)]) (g := gName 7) (tt := tYes) rfl scWorld.nd (pi_list (pv 5)) (blkOk_by (own := [("_law_it", 7)]) (N := nWorld) (sc := defScope sWorld) (by decide +kernel)) (fun _ _ _ _ _ => pg_name (i := 7) scWorld.nd rfl (Or.inl rfl)) (fun _ _ _ _ _ => pts_nil)
              (fun _ _ _ _ _ => pe_ix (ix_seqK (K0 := K) rfl) (pv 7) pe_int (fun _ _ => rfl)))) pa_nil)) pa_nil)))
      (C8.pss_cut (ps_setLc (i := 5) (own := [("_law_it", 7)]) (g := gName 7) (tt := tYes) rfl scWorld.nd rfl rfl (by rfl) (pi_list (pv 5)) (blkOk_by (own := [("_law_it", 7)]) (N := nWorld) (sc := defScope sWorld) (by decide +kernel)) (fun _ _ _ _ _ => pg_name (i := 7) scWorld.nd rfl (Or.inl rfl)) (fun _ _ _ _ _ => pts_nil)
          (fun _ _ _ _ _ => pe_tup (pa_cons (pe_bmK (K0 := K) rfl PySem.F.plainAttrs_list PySem.F.slot_list_index PySem.F.type_list_index (mt_indexK (K0 := K) rfl) (pv 8) (pa_cons (pe_ix (ix_seqK (K0 := K) rfl) (pv 7) pe_int (fun _ _ => rfl)) pa_nil))
            (pa_cons (pe_ix (ix_seqK (K0 := K) rfl) (pv 7) pe_int (fun _ _ => rfl))
            (pa_cons (pe_bmK (K0 := K) rfl PySem.F.plainAttrs_list PySem.F.slot_list_index PySem.F.type_list_index (mt_indexK (K0 := K) rfl) (pv 8) (pa_cons (pe_ix (ix_seqK (K0 := K) rfl) (pv 7) pe_int (fun _ _ => rfl)) pa_nil))
            (pa_cons (pe_ix (ix_seqK (K0 := K) rfl) (pv 7) pe_int (fun _ _ => rfl)) pa_nil))))))
      (pss_one (ps_ret (pe_tup (pa_cons (pe_callB call_len (by rfl) T.len PySem.boot_len (pa_cons (pv 8) pa_nil)) (pa_cons (pe_callTy call_tuple_of (by rfl) T.tuple (by decide +kernel) (pa_cons (pe_callB (cr_sortSN (K0 := K) (P0 := P) (w0 := w) rfl rfl rfl rfl hun) (by rfl) T.sorted (by decide +kernel)
          (pa_cons (pe_callTy (cr_setN (K0 := K) (P0 := P) (w0 := w) rfl rfl rfl rfl hun) (by rfl) T.set (by decide +kernel) (pa_cons (pv 5) pa_nil)) pa_nil)) pa_nil)) pa_nil)))))))))), ?_⟩
    refine ⟨_, rfl, _, rfl, d, c, n, _, rfl, by omega, by omega, by omega, D, fun H1 r r0 rl D1' B1 => ⟨_, _, rfl, rfl, ?_⟩⟩
    obtain ⟨j, rfl⟩ : ∃ j : Nat, r = j := ⟨r.toNat, by omega⟩
    have ec : (1 : Int) + (j : Int) = ((1 + j : Nat) : Int) := by omega
    dsimp only
    rw [ec]
    have hcn : 1 + j ≤ 1000 := by omega
    have hc1 : 1 ≤ 1 + j := by omega
    have hct : 1 + j ≤ top := by omega
    clear ec rl
    revert hcn hc1 hct
    generalize 1 + j = cnt
    intro hcn hc1 hct
    refine ⟨Nat.zero_le _, fun p hp => ⟨_, _, rfl, ?_⟩⟩
    have hp0 : H p = none := by
      cases z : H p with
      | none => rfl
      | some o =>
        by_cases e1 : p = d
        · obtain ⟨_, _, _, e, _⟩ := D1'
          rw [e1, e] at hp; exact nomatch hp
        · by_cases e2 : p = c
          · obtain ⟨_, _, _, _, e, _⟩ := D1'
            rw [e2, e] at hp; exact nomatch hp
          · rw [B1 p o e1 e2 z] at hp; exact nomatch hp
    obtain ⟨pd, pcc⟩ := D1'.ned hp
    have D2' := D1'.new (o := .lst []) hp
    have B2 := B1.new (o := .lst []) hp
    have eP : (upd H1 p (.lst [])) p = some (.lst []) := upd_same
    revert D2' B2 eP
    generalize upd H1 p (.lst []) = H2
    intro D2' B2 eP
    refine ⟨_, rfl, _, rfl, d, c, _, _, rfl, by omega, by omega, by omega, D2', fun H3 r r0 rl D3' B3 => ⟨_, _, rfl, rfl, _, rfl, by omega, by omega, ?_⟩⟩
    obtain ⟨k2, rfl⟩ : ∃ k2 : Nat, r = k2 := ⟨r.toNat, by omega⟩
    have ek : (1 + (k2 : Int)).toNat = 1 + k2 := by omega
    rw [ek]
    refine for_range (lo := 0) (n := 1 + k2) (fun i σ H' => ∃ (v6 : Option V) (us : List V) (rs : List Arr) (m : Nat), σ = [some (.ref d), some (.str ls), some (.int top), some (.int most), some (.int cnt), some (.ref p), v6, none, none] ∧ H' p = some (.lst us) ∧ All2 (AtA K H') us rs ∧ rs.length = i ∧ (∀ r ∈ rs, Fit ls cnt r ∧ FourK r) ∧
      m ≤ n + 2 + 4 * i ∧ DeckAt H' d c m ∧ But d c H H') ⟨none, [], [], _, rfl, B3 _ _ pd pcc eP, .nil, rfl, (fun r hr => nomatch hr), Nat.le_refl _, D3', B2.trans B3⟩ ?_ ?_
    · rintro i σ H4 hi ⟨v6, us, rs, m, rfl, eP4, hu4, hl4, fit, hm, D4, B4⟩
      refine ⟨_, rfl, .inl ⟨rfl, _, SqL.of eP4⟩, _, rfl, _, rfl, _, rfl, d, c, m, ls, cnt, rfl, hc1, hcn, l1, l2, lA, by omega, D4, fun H5 v r n' hf hf4 ha hn' D5 B5 => ?_⟩
      have eP5 := B5 _ _ pd pcc eP4
      have lu := hu4.len
      refine ⟨p, us, v, rfl, rfl, eP5, ?_, ?_⟩
      · rw [lu, hl4]
        exact Nat.lt_of_le_of_lt (by omega : i ≤ 100) (by decide)
      · have st : ∀ a xs, SqT K H5 a xs → SqT K (upd H5 p (.lst (us ++ [v]))) a xs := fun a xs h => sqT_put eP5 h
        refine ⟨_, us ++ [v], rs ++ [r], n', rfl, upd_same, (hu4.imp fun _ _ h => AtA.to st (AtA.to (fun a xs => sqT_but D4 B5) h)).app (.cons (ha.to st) .nil), by rw [List.length_append, hl4]; rfl, fun q hq => ?_, by omega, D5.set pd pcc, ?_⟩
        · rcases List.mem_append.mp hq with z | z
          · exact fit q z
          · rw [List.mem_singleton.mp z]; exact ⟨hf, hf4⟩
        · intro b o h1 h2 e
          have nb : b ≠ p := fun z => by rw [z, hp0] at e; exact nomatch e
          rw [upd_ne nb]
          exact (B4.trans B5) b o h1 h2 e
    · rintro σ H4 ⟨v6, us, rs, m, rfl, eP4, hu4, hl4, fit, hm, D4, B4⟩
      refine ⟨_, rfl, p, us, rs, rfl, eP4, hu4, by omega, fun H5 l us2 B s5 hl0 el hB hu5 => ?_⟩
      have D5 := D4.same s5
      have B5 : But d c H H5 := B4.trans (But.same s5)
      have sub : ∀ r ∈ usefulL B rs, r ∈ rs := fun r hr => (mem_useful.mp hr).1
      have lus : (usefulL B rs).length ≤ most := Nat.le_trans (List.length_filter_le _ _) (by omega)
      have cu := fun ne => core_useful hB ne
      have fitu : ∀ r ∈ usefulL B rs, Fit ls cnt r := fun r hr => (fit r (sub r hr)).1
      have four4 : ∀ r ∈ usefulL B rs, FourK r := fun r hr => (fit r (sub r hr)).2
      revert hu5 lus cu fitu four4
      generalize usefulL B rs = rs2
      intro hu5 lus cu fitu four4
      refine ⟨fun σ' H' => ∃ (v6 : Option V) (l : Addr) (us : List V) (rs : List Arr) (m : Nat), σ' = [some (.ref d), some (.str ls), some (.int top), some (.int most), some (.int cnt), some (.ref l), v6, none, none] ∧ H' l = some (.lst us) ∧ All2 (AtA K H') us rs ∧ rs.length ≤ most ∧ FitS ls cnt rs ∧
        Core rs ∧ m ≤ n + 200 ∧ DeckAt H' d c m ∧ But d c H H', ?_, ?_⟩
      · refine ⟨_, rfl, Nat.zero_le _, fun q hq => ?_⟩
        have sq := Same.upd (o := .lst []) hq
        refine ne_arrs (SqL.of (sq _ _ el)) (SqL.of upd_same) (hu5.imp fun _ _ => AtA.same sq) (fun r hr => ⟨(fitu r hr).2.2.1, (fitu r hr).2.2.2.2⟩) ⟨_, rfl, ?_⟩
        have D6 := D5.new (o := .lst []) hq
        have B6 := B5.new (o := .lst []) hq
        have el6 := sq _ _ el
        have hu6 : All2 (AtA K (upd H5 q (.lst []))) us2 rs2 := hu5.imp fun _ _ => AtA.same sq
        revert D6 B6 el6 hu6
        generalize upd H5 q (.lst []) = H6
        intro D6 B6 el6 hu6
        cases rs2 with
        | cons r0 rs0 =>
          refine iteT ?_
          exact ⟨_, rfl, v6, l, us2, _, m, rfl, el6, hu6, lus, ⟨fitu, four, by decide, four4⟩, cu (Nat.succ_pos _), by omega, D6, B6⟩
        | nil =>
          refine iteF ?_
          obtain ⟨z, hz⟩ : ∃ z, ls.cps.toList[0]? = some z := ⟨_, List.getElem?_eq_getElem (by rw [Array.length_toList]; show 0 < ls.length; omega)⟩
          have ho : letterB ls ⟨#[z]⟩ = true ∧ (⟨#[z]⟩ : Str).length ≤ 100000 ∧ Asc ⟨#[z]⟩ := letter_of lA (List.mem_map.mpr ⟨_, List.mem_map.mpr ⟨z, List.mem_of_getElem? hz, rfl⟩, rfl⟩)
          refine ⟨_, rfl, ls, 0, z, rfl, rfl, Nat.le_trans l2 (by decide), atI_nat (j := 0) hz, ?_⟩
          refine ⟨(by show 4 ≤ sizeLine; decide), fun t ht => ⟨(by show 1 ≤ sizeLine; decide), fun q2 hq2 => ?_⟩⟩
          have s1 := Same.upd (o := .tup [V.int 0, V.str ⟨#[z]⟩, V.int 0, V.str "word"]) ht
          have s2 := Same.upd (o := .lst [V.ref t]) hq2
          refine ⟨v6, q2, [.ref t], [⟨0, ⟨#[z]⟩, 0, "word"⟩], m, rfl, upd_same, .cons ⟨t, rfl, sqT_same s2 (SqT.of upd_same)⟩ .nil, (by show 1 ≤ most; omega), ⟨fun r hr => ?_, ["word"], by decide, fun r hr _ => by rw [List.mem_singleton.mp hr]; exact List.mem_singleton.mpr rfl⟩, core_one _ _, by omega, (D6.same s1).same s2, B6.trans (But.same (s1.trans s2))⟩
          rw [List.mem_singleton.mp hr]
          refine ⟨?_, ho.2.1, ho.2.2, (by show 4 ≤ 100000; decide), (by show Asc (Str.ofString "word"); unfold Asc; decide +kernel)⟩
          unfold arrowB stateB
          have e1 : (decide (0 ≤ (0 : Int)) && decide ((0 : Int) < cnt)) = true := by simp; omega
          show (decide (0 ≤ (0 : Int)) && decide ((0 : Int) < cnt) && (decide (0 ≤ (0 : Int)) && decide ((0 : Int) < cnt)) && letterB ls ⟨#[z]⟩ && kindB "word") = true
          rw [e1, ho.1]
          decide +kernel
      · clear hu5 cu fitu four4 lus el hl0 D5 B5 s5
        rintro σ H6 ⟨v6, l, us, rs, m, rfl, el, hu, hl, fit, core, hm, D6, B6⟩
        refine ⟨fun σ' H' => ∃ (v6 : Option V) (l u : Addr) (us : List V) (rs : List Arr) (ms : List Int) (m : Nat), σ' = [some (.ref d), some (.str ls), some (.int top), some (.int most), some (.int cnt), some (.ref l), v6, none, some (.ref u)] ∧ H' l = some (.lst us) ∧ All2 (AtA K H') us rs ∧ rs.length ≤ most ∧ FitS ls cnt rs ∧
          Core rs ∧ m ≤ n + 200 ∧ DeckAt H' d c m ∧ But d c H H' ∧ H' u = some (.lst (ms.map V.int)) ∧ ms.Pairwise (· < ·) ∧ (∀ x, x ∈ ms ↔ x = 0 ∨ ∃ r ∈ rs, x = r.s ∨ x = r.t) ∧ ms.length < 64, ?_, ?_⟩
        · refine ⟨(by show 1 ≤ sizeLine; decide), fun q hq => ?_⟩
          have s1 := Same.upd (o := .lst [V.int 0]) hq
          have eq1 : (upd H6 q (.lst [V.int 0])) q = some (.lst [V.int 0]) := upd_same
          revert s1 eq1
          generalize upd H6 q (.lst [V.int 0]) = H7
          intro s1 eq1
          have el7 := s1 _ _ el
          have hu7 : All2 (AtA K H7) us rs := hu.imp fun _ _ => AtA.same s1
          refine ⟨_, rfl, l, rfl, ⟨us, SqL.of el7⟩, fun C hC => ?_⟩
          refine lc_list (K := K) (a := l) (xs := us) (EndP H7 C rs (·.s)) ⟨upd_same, Same.upd hC⟩ (fun i H' _ ⟨_, sm⟩ => SqL.of (sm _ _ el7)) (ends_step hC hu7 (by omega) 0 _ (fun _ => rfl)) fun H8 hP => ?_
          obtain ⟨eC, s8⟩ := ends_all hu7 hP
          refine ⟨q, C, _, _, rfl, rfl, s8 _ _ eq1, eC, ?_, fun q2 hq2 => ?_⟩
          · rw [List.length_map, List.length_map]
            exact Nat.le_trans (by show 1 + _ ≤ 100; omega) (by decide)
          have s9 := Same.upd (o := .lst ([V.int 0] ++ (rs.map (·.s)).map V.int)) hq2
          have eq2 : (upd H8 q2 (.lst ([V.int 0] ++ (rs.map (·.s)).map V.int))) q2 = some (.lst ([V.int 0] ++ (rs.map (·.s)).map V.int)) := upd_same
          revert s9 eq2
          generalize upd H8 q2 (.lst ([V.int 0] ++ (rs.map (·.s)).map V.int)) = H9
          intro s9 eq2
          have s79 := s8.trans s9
          have el9 := s79 _ _ el7
          have hu9 : All2 (AtA K H9) us rs := hu7.imp fun _ _ => AtA.same s79
          refine ⟨_, rfl, l, rfl, ⟨us, SqL.of el9⟩, fun C2 hC2 => ?_⟩
          refine lc_list (K := K) (a := l) (xs := us) (EndP H9 C2 rs (·.t)) ⟨upd_same, Same.upd hC2⟩ (fun i H' _ ⟨_, sm⟩ => SqL.of (sm _ _ el9)) (ends_step hC2 hu9 (by omega) 2 _ (fun _ => rfl)) fun H10 hP => ?_
          obtain ⟨eC2, s10⟩ := ends_all hu9 hP
          refine ⟨q2, C2, _, _, rfl, rfl, s10 _ _ eq2, eC2, ?_, fun q3 hq3 => ?_⟩
          · rw [List.length_append, List.length_map, List.length_map, List.length_map, List.length_map]
            exact Nat.le_trans (by show 1 + _ + _ ≤ 100; omega) (by decide)
          have ens : [V.int 0] ++ (rs.map (·.s)).map V.int ++ (rs.map (·.t)).map V.int = ((0 : Int) :: (rs.map (·.s) ++ rs.map (·.t))).map V.int := by
            rw [List.map_cons, List.map_append]; rfl
          rw [ens]
          have lns : ((0 : Int) :: (rs.map (·.s) ++ rs.map (·.t))).length ≤ 61 := by
            rw [List.length_cons, List.length_append, List.length_map, List.length_map]; omega
          have mns : ∀ x, x ∈ ((0 : Int) :: (rs.map (·.s) ++ rs.map (·.t))) ↔ x = 0 ∨ ∃ r ∈ rs, x = r.s ∨ x = r.t := fun x => by
            rw [List.mem_cons, List.mem_append, List.mem_map, List.mem_map]
            constructor
            · rintro (e | ⟨r, hr, e⟩ | ⟨r, hr, e⟩)
              · exact .inl e
              · exact .inr ⟨r, hr, .inl e.symm⟩
              · exact .inr ⟨r, hr, .inr e.symm⟩
            · rintro (e | ⟨r, hr, e | e⟩)
              · exact .inl e
              · exact .inr (.inl ⟨r, hr, e.symm⟩)
              · exact .inr (.inr ⟨r, hr, e.symm⟩)
          revert lns mns
          generalize ((0 : Int) :: (rs.map (·.s) ++ rs.map (·.t))) = ns
          intro lns mns
          have s11 := Same.upd (o := .lst (ns.map V.int)) hq3
          refine ⟨q3, ns, rfl, SqL.of upd_same, Nat.lt_of_le_of_lt lns (by decide), fun a ls2 ha nd2 m2 => ?_⟩
          have s12 := Same.upd (o := SW w a (ls2.map Sum.inl)) ha
          have l2' : ls2.length ≤ 61 := Nat.le_trans (nodup_sub nd2 fun x hx => (m2 x).mp hx) lns
          refine ⟨a, ls2, rfl, upd_same, by omega, fun ys q4 pm up hq4 => ?_⟩
          have s13 := Same.upd (o := .lst (ys.map V.int)) hq4
          have sall : Same H6 _ := (((((s1.trans s79).trans s10).trans s11).trans s12).trans s13)
          refine ⟨v6, l, q4, us, rs, ys, m, rfl, sall _ _ el, hu.imp fun _ _ => AtA.same sall, hl, fit, core, hm, D6.same sall, B6.trans (But.same sall), upd_same, ?_, fun x => ?_, by rw [pm.length_eq]; omega⟩
          · have nd : ys.Nodup := pm.nodup_iff.mpr nd2
            exact (up.and nd).imp fun h => by omega
          · rw [pm.mem_iff, m2, mns]
        · clear el hu fit core B6 D6 hm hl
          rintro σ H6 ⟨v6, l, u, us, rs, ms, m, rfl, el, hu, hl, fit, core, hm, D6, B6, eu, up, hms, lms⟩
          have nd : ms.Nodup := up.imp fun h e => by omega
          refine ⟨fun σ' H' => ∃ (v6 : Option V) (l u : Addr) (us : List V), σ' = [some (.ref d), some (.str ls), some (.int top), some (.int most), some (.int cnt), some (.ref l), v6, none, some (.ref u)] ∧ H' l = some (.lst us) ∧ All2 (AtA K H') us (rs.map (ren ms)) ∧
            DeckAt H' d c m ∧ But d c H H' ∧ H' u = some (.lst (ms.map V.int)), ?_, ?_⟩
          · refine ⟨_, rfl, l, rfl, ⟨us, SqL.of el⟩, fun C hC => ?_⟩
            refine lc_list (K := K) (a := l) (xs := us) (fun i H' => ∃ ys, H' C = some (.lst ys) ∧ All2 (AtA K H') ys ((rs.take i).map (ren ms)) ∧ Same H6 H') ⟨[], upd_same, (by rw [List.take_zero]; exact .nil), Same.upd hC⟩ (fun i H' _ ⟨_, _, _, sm⟩ => SqL.of (sm _ _ el)) ?_ ?_
            · rintro i x H7 hx ⟨ys, eC, hys, sm⟩
              obtain ⟨r, hr, at1⟩ := hu.at hx
              obtain ⟨p, rfl, hp⟩ := AtA.same sm at1
              have hrm := List.mem_of_getElem? hr
              have eu7 := sm _ _ eu
              refine ⟨rfl, ?_⟩
              dsimp only [tYes]
              refine iteT ?_
              refine ⟨_, rfl, .inl ⟨rfl, _, SqL.of eu7⟩, _, rfl, .inr (.inl ⟨p, _, ((0 : Nat) : Int), _, rfl, rfl, hp, atI_nat (j := 0) rfl, ?_⟩)⟩
              dsimp only [tNil]
              refine index_ok (SqL.of eu7) nd ((hms _).mpr (.inr ⟨r, hrm, .inl rfl⟩)) ?_
              refine ⟨_, rfl, .inr (.inl ⟨p, _, ((1 : Nat) : Int), _, rfl, rfl, hp, atI_nat (j := 1) rfl, ?_⟩)⟩
              refine ⟨_, rfl, .inl ⟨rfl, _, SqL.of eu7⟩, _, rfl, .inr (.inl ⟨p, _, ((2 : Nat) : Int), _, rfl, rfl, hp, atI_nat (j := 2) rfl, ?_⟩)⟩
              dsimp only [tNil]
              refine index_ok (SqL.of eu7) nd ((hms _).mpr (.inr ⟨r, hrm, .inr rfl⟩)) ?_
              refine ⟨_, rfl, .inr (.inl ⟨p, _, ((3 : Nat) : Int), _, rfl, rfl, hp, atI_nat (j := 3) rfl, ?_⟩)⟩
              refine ⟨(by show 4 ≤ sizeLine; decide), fun t ht => ?_⟩
              have sT := Same.upd (o := .tup (ren ms r).vs) ht
              have eC' := sT _ _ eC
              have lys := hys.len
              refine ⟨ys, eC', ?_, ys ++ [.ref t], upd_same, ?_, keep_put (sm.trans sT) hC⟩
              · rw [lys, List.length_map, List.length_take]
                exact Nat.lt_of_le_of_lt (Nat.le_trans (Nat.min_le_right _ _) (Nat.le_trans hl m2)) (by decide)
              · have st : ∀ a zs, SqT K H7 a zs → SqT K (upd (upd H7 t (.tup (ren ms r).vs)) C (.lst (ys ++ [V.ref t]))) a zs := fun a zs h => sqT_put eC' (sqT_same sT h)
                rw [take_snoc hr, List.map_append]
                exact All2.app (hys.imp fun _ _ => AtA.to st) (.cons ⟨t, rfl, sqT_put eC' (SqT.of upd_same)⟩ .nil)
            · rintro H7 ⟨ys, eC, hys, sm⟩
              rw [List.take_of_length_le (by rw [← hu.len]; exact Nat.le_refl _)] at hys
              exact ⟨v6, C, u, ys, rfl, eC, hys, D6.same sm, B6.trans (But.same sm), sm _ _ eu⟩
          · clear el hu D6 B6 eu
            rintro σ H6 ⟨v6, l, u, us, rfl, el, hu, D6, B6, eu⟩
            obtain ⟨ks, e1, e2, hk⟩ := rows_keys hu
            have lk : ks.length = rs.length := by
              have := congrArg List.length e2
              rw [List.length_map, List.length_map, List.length_map] at this
              exact this
            refine ⟨_, rfl, _, _, rfl, .inl ⟨_, SqL.of eu, rfl⟩, ?_⟩
            refine ⟨_, rfl, l, ks, rfl, .inl (by rw [← e1]; exact SqL.of el), (fun p hp => by obtain ⟨r, _, e, a⟩ := hk p hp; exact keys_memb e a), by omega, fun a L ha sub all ndL => ?_⟩
            have s1 := Same.upd (o := NSO P w a L) ha
            have hkL : ∀ p ∈ L, ∃ r, p.2 = nkA r ∧ AtA K (upd H6 a (NSO P w a L)) (.ref p.1) r := fun p hp => by
              obtain ⟨r, _, e, q⟩ := hk p (sub p hp)
              exact ⟨r, e, q.same s1⟩
            refine ⟨a, L, rfl, upd_same, (fun p hp => by obtain ⟨r, e, q⟩ := hkL p hp; exact keys_memb e q), keys_comp (fun p hp => by obtain ⟨r, e, _⟩ := hkL p hp; exact ⟨r, e⟩), fun L' q pm up2 nd2 hq => ?_⟩
            have s2 := Same.upd (o := .lst (L'.map fun p => V.ref p.1)) hq
            refine ⟨q, _, rfl, .inl ⟨SqL.of upd_same, fun g hg => ?_⟩⟩
            have s3 := Same.upd (o := .tup (L'.map fun p => V.ref p.1)) hg
            refine ⟨(by show 2 ≤ sizeLine; decide), fun t ht => ?_⟩
            rw [List.length_map]
            have s4 := Same.upd (o := .tup [V.int (ms.length : Nat), V.ref g]) ht
            have sall := ((s1.trans s2).trans s3).trans s4
            obtain ⟨qs, hq1, hq2⟩ := keys_rows (K := K) (H := upd (upd (upd (upd H6 a (NSO P w a L)) q (.lst (L'.map fun p => V.ref p.1))) g (.tup (L'.map fun p => V.ref p.1))) t (.tup [V.int (ms.length : Nat), V.ref g])) (L := L') fun p hp => by
              obtain ⟨r, e, x⟩ := hkL p (pm.mem_iff.mp hp)
              exact ⟨r, e, x.same ((s2.trans s3).trans s4)⟩
            have mem : ∀ r, r ∈ qs ↔ r ∈ rs.map (ren ms) := fun r => by
              have h1 : nkA r ∈ qs.map nkA ↔ r ∈ qs := ⟨fun h => by obtain ⟨z, hz, e⟩ := List.mem_map.mp h; rw [← nkA_inj e]; exact hz, fun h => List.mem_map.mpr ⟨r, h, rfl⟩⟩
              have h2 : nkA r ∈ (rs.map (ren ms)).map nkA ↔ r ∈ rs.map (ren ms) := ⟨fun h => by obtain ⟨z, hz, e⟩ := List.mem_map.mp h; rw [← nkA_inj e]; exact hz, fun h => List.mem_map.mpr ⟨r, h, rfl⟩⟩
              rw [← h1, ← h2, ← hq2, ← e2, (pm.map (·.2)).mem_iff]
              constructor
              · intro h
                obtain ⟨p, hp, e⟩ := List.mem_map.mp h
                exact List.mem_map.mpr ⟨p, sub p hp, e⟩
              · intro h
                obtain ⟨p, hp, e⟩ := List.mem_map.mp h
                rw [← e]
                exact all p hp
            have hasc := rows_up hq2 up2 nd2
            have lq : qs.length ≤ most := by
              have h1 : qs.length = L.length := by
                have := congrArg List.length hq2
                rw [List.length_map, List.length_map, pm.length_eq] at this
                exact this.symm
              have h2 : (L.map (·.2)).length ≤ (ks.map (·.2)).length := nodup_sub ndL fun x hx => by
                obtain ⟨p, hp, e⟩ := List.mem_map.mp hx
                exact List.mem_map.mpr ⟨p, sub p hp, e⟩
              rw [List.length_map, List.length_map] at h2
              omega
            have h0m : (0 : Int) ∈ ms := (hms 0).mpr (.inl rfl)
            have rng : ∀ x ∈ ms, 0 ≤ x ∧ x < cnt := fun x hx => by
              rcases (hms x).mp hx with e | ⟨r, hr, e⟩
              · omega
              · have := (fit.1 r hr).1
                unfold arrowB stateB at this
                simp only [Bool.and_eq_true, decide_eq_true_eq] at this
                rcases e with e | e <;> omega
            have lms2 : ms.length ≤ cnt := by
              have := nodup_sub (m := (List.range cnt).map fun i : Nat => (i : Int)) (up.imp fun h e => by omega : ms.Nodup) fun x hx => List.mem_map.mpr ⟨x.toNat, List.mem_range.mpr (by have := rng x hx; omega), by have := rng x hx; omega⟩
              rwa [List.length_map, List.length_range] at this
            have few : ∃ nm : List Str, nm.length ≤ 4 ∧ ∀ r ∈ qs, r.t = 0 → r.k ∈ nm := by
              obtain ⟨nm, n4, hk4⟩ := fit.2
              refine ⟨nm, n4, fun r hr h0 => ?_⟩
              obtain ⟨q, hq, rfl⟩ := List.mem_map.mp ((mem r).mp hr)
              have h0 : ((ixOf ms q.t : Nat) : Int) = 0 := h0
              exact hk4 q hq ((ix_zero_iff up h0m (fun x hx => (rng x hx).1) ((hms _).mpr (.inr ⟨q, hq, .inr rfl⟩))).mp (by omega))
            refine k _ t g ms.length qs m (SqT.of upd_same) ⟨_, sqT_same s4 (SqT.of upd_same), hq1⟩ (good_ren core hL ⟨Nat.le_trans l2 (by decide), lA⟩ fit.1 up hms mem hasc (by omega)) (by omega) (by omega) few lq hm (D6.same sall) (B6.trans (But.same sall))
end
end K06

set_option Elab.async false
set_option linter.all false
set_option maxRecDepth 100000
set_option maxHeartbeats 2000000
namespace Ami
open PySem PySem.Spec PyProof.Rows L2
/-- what is read of a dict of ways -/
def WyR (K : PySem.W.Frag) (H : Hp) (d : Addr) (rs : List Arr) : Prop := ∃ kvs : List (List Key × V), H d = some (.dT kvs) ∧ (∀ s l, valV kvs (wkey s l) = none → hits rs s l = []) ∧
  ∀ s l v, valV kvs (wkey s l) = some v → ∃ b xs, v = .ref b ∧ H b = some (.lst xs) ∧ All2 (AtK K H) xs (hits rs s l)
theorem AtK.same {K : PySem.W.Frag} {H H' : Hp} (s : Same H H') {v : V} {p : Int × Str} : AtK K H v p → AtK K H' v p := AtK.keep fun _ _ => sqT_same s
theorem WyR.same {K : PySem.W.Frag} {H H' : Hp} {d : Addr} {rs : List Arr} (s : Same H H') : WyR K H d rs → WyR K H' d rs := fun ⟨kvs, e, h0, h1⟩ => ⟨kvs, s _ _ e, h0, fun x l v h => by
  obtain ⟨b, xs, e1, e2, e3⟩ := h1 x l v h
  exact ⟨b, xs, e1, s _ _ e2, e3.imp fun _ _ => AtK.same s⟩⟩
/-- ways.get((s, l), []) -/
theorem WyR.get {K : PySem.W.Frag} {H H' : Hp} {d k : Addr} {rs : List Arr} (L : WyR K H d rs) (sm : Same H H') {s : Int} {l : Str} (hk : H' k = some (.tup [.int s, .str l])) : ∃ o, DGet H' d (.ref k) o ∧ ((o = none ∧ hits rs s l = []) ∨ ∃ c xs, o = some (.ref c) ∧ H c = some (.lst xs) ∧ All2 (AtK K H) xs (hits rs s l)) := by
  obtain ⟨kvs, ek, e0, ev⟩ := L
  refine ⟨_, DGet.t (k := wkey s l) (sm _ _ ek) hk, ?_⟩
  cases h : valV kvs (wkey s l) with
  | none => exact .inl ⟨rfl, e0 s l h⟩
  | some v =>
    obtain ⟨c, xs, rfl, hc, ha⟩ := ev s l v h
    exact .inr ⟨c, xs, rfl, hc, ha⟩
/-- the second clause over a walk -/
theorem lin_it {J : It} {n : Nat} {G : Hp → Prop} {Y : Nat → Hp → V → Hp → Prop} (wk : Walk J n G Y) {g : TG} {tt : TT} {te : TE} {vs : List Nat} {σ : L2.St} {H0 : Hp} {D : Addr} {Nx : Hp → Prop} (Pv : Nat → Hp → Prop) (h0 : Pv 0 H0) (hG : ∀ i H, i ≤ n → Pv i H → G H)
    (hs : ∀ i x H H', i < n → Pv i H → Y i H x H' → g x (wipe σ vs) H' fun σ2 H2 => wipe σ2 vs = wipe σ vs ∧ tt σ2 H2 fun b H3 => if b = true then te σ2 H3 (app D (Pv (i + 1))) else Pv (i + 1) H3) (hd : ∀ H, Pv n H → Nx H) :
    LIn J g tt te vs σ D Nx H0 := by
  refine ⟨fun i m H => i + m = n ∧ Pv i H, ⟨n, by omega, h0⟩, fun i m H ⟨hm, p⟩ => ?_⟩
  have q := hG i H (by omega) p
  cases m with
  | zero =>
    obtain rfl : i = n := by omega
    exact .inl ⟨wk.stops H q, hd H p⟩
  | succ m =>
    have hi : i < n := by omega
    exact .inr ⟨wk.goes i H hi q, Pv (i + 1), fun H' p' => ⟨m, by omega, by omega, p'⟩, fun x H' y => hs i x H H' hi p (wk.yields i H x H' hi q y)⟩
/-- where a letter leads from a group -/
def leadsOf (rs : List Arr) (xs : List Int) (l : Str) : List (Int × Str) := xs.flatMap fun x => hits rs x l
theorem leads_snoc (rs : List Arr) (xs : List Int) (x : Int) (l : Str) : leadsOf rs (xs ++ [x]) l = leadsOf rs xs l ++ hits rs x l := by
  unfold leadsOf
  rw [List.flatMap_append, List.flatMap_cons, List.flatMap_nil, List.append_nil]
theorem leads_len (rs : List Arr) (l : Str) : ∀ xs : List Int, (leadsOf rs xs l).length ≤ xs.length * rs.length
  | [] => Nat.zero_le _
  | x :: xs => by
    have h1 := leads_len rs l xs
    have h2 := hits_len rs x l
    show (hits rs x l ++ leadsOf rs xs l).length ≤ (xs.length + 1) * rs.length
    rw [List.length_append, Nat.add_mul]
    omega
theorem mem_hits {rs : List Arr} {s t : Int} {l k : Str} : (t, k) ∈ hits rs s l ↔ ∃ r ∈ rs, r.s = s ∧ r.l = l ∧ r.t = t ∧ r.k = k := by
  unfold hits
  rw [List.mem_map]
  constructor
  · rintro ⟨r, hr, e⟩
    obtain ⟨h1, h2⟩ := List.mem_filter.mp hr
    have h2 := of_decide_eq_true h2
    exact ⟨r, h1, h2.1, h2.2, congrArg (·.1) e, congrArg (·.2) e⟩
  · rintro ⟨r, hr, h1, h2, h3, h4⟩
    exact ⟨r, List.mem_filter.mpr ⟨hr, decide_eq_true ⟨h1, h2⟩⟩, by rw [h3, h4]⟩
theorem mem_leads {rs : List Arr} {xs : List Int} {l k : Str} {t : Int} : (t, k) ∈ leadsOf rs xs l ↔ ∃ r ∈ rs, r.s ∈ xs ∧ r.l = l ∧ r.t = t ∧ r.k = k := by
  unfold leadsOf
  rw [List.mem_flatMap]
  constructor
  · rintro ⟨x, hx, h⟩
    obtain ⟨r, hr, h1, h2, h3, h4⟩ := mem_hits.mp h
    exact ⟨r, hr, h1 ▸ hx, h2, h3, h4⟩
  · rintro ⟨r, hr, hx, h2, h3, h4⟩
    exact ⟨r.s, hx, mem_hits.mpr ⟨r, hr, rfl, h2, h3, h4⟩⟩
theorem insK_inl (t : Int) (ms : List Int) : insK (.inl t) (ms.map Sum.inl) = (if t ∈ ms then ms else t :: ms).map Sum.inl := by
  unfold insK
  by_cases h : t ∈ ms
  · rw [if_pos h, if_pos (inl_mem.mpr h)]
  · rw [if_neg h, if_neg (fun z => h (inl_mem.mp z))]; rfl
theorem insK_inr (t : Str) (ss : List Str) : insK (.inr t) (ss.map Sum.inr) = (if t ∈ ss then ss else t :: ss).map Sum.inr := by
  unfold insK
  by_cases h : t ∈ ss
  · rw [if_pos h, if_pos (inr_mem.mpr h)]
  · rw [if_neg h, if_neg (fun z => h (inr_mem.mp z))]; rfl
theorem ins_mem {α : Type} [DecidableEq α] {t x : α} {ms : List α} : x ∈ (if t ∈ ms then ms else t :: ms) ↔ x ∈ ms ∨ x = t := by
  by_cases h : t ∈ ms
  · rw [if_pos h]
    exact ⟨.inl, fun e => e.elim id fun e => e ▸ h⟩
  · rw [if_neg h, List.mem_cons]
    exact ⟨fun e => e.elim .inr .inl, fun e => e.elim .inr .inl⟩
theorem ins_nd {α : Type} [DecidableEq α] {t : α} {ms : List α} (n : ms.Nodup) : (if t ∈ ms then ms else t :: ms).Nodup := by
  by_cases h : t ∈ ms
  · rw [if_pos h]; exact n
  · rw [if_neg h]; exact List.nodup_cons.mpr ⟨h, n⟩
/-- the inner states, the kinds: ascending -/
def Inner (rs : List Arr) (xs : List Int) (l : Str) (is : List Int) : Prop := is.Pairwise (· < ·) ∧ ∀ x, x ∈ is ↔ x ≠ 0 ∧ ∃ r ∈ rs, r.s ∈ xs ∧ r.l = l ∧ r.t = x
def Told (rs : List Arr) (xs : List Int) (l : Str) (ks : List Str) : Prop := Up ks ∧ ks.Nodup ∧ ∀ k, k ∈ ks ↔ ∃ r ∈ rs, r.s ∈ xs ∧ r.l = l ∧ r.t = 0 ∧ r.k = k
def spGroup (K : PySem.W.Frag) : Sp := fun vs H Q _ => ∃ (d g : Addr) (l : Str) (xs : List Int) (rs : List Arr), vs = [.ref d, .ref g, .str l] ∧ WyR K H d rs ∧ SqT K H g (xs.map V.int) ∧ rs.length ≤ 200 ∧ xs.length ≤ 64 ∧ (∀ r ∈ rs, 0 ≤ r.t ∧ r.t < 64) ∧
  ∀ (H' : Hp) (t p q : Addr) (is : List Int) (ks : List Str), Same H H' → SqT K H' t [.ref p, .ref q] → SqT K H' p (is.map V.int) → SqT K H' q (ks.map V.str) → Inner rs xs l is → Told rs xs l ks → is.length ≤ 64 → ks.length ≤ 200 → Q (.ref t) H'
end Ami
namespace K06
open PySem PySem.Spec PyProof.Rows L2 Ami
section
variable {P : Program} {w : World} {K : PySem.W.Frag} {mg : Str → Option Value} {base : Heap}
theorem pi_listK {X : Cx} {K0 : PySem.W.Frag} (hK : X.K = K0) {tg l : Expr} {tl : TE} (hl : PE X l tl) : PI X tg l (iList K0 tl) := by
  subst hK
  exact pi_list hl
theorem pg_tupK {X : Cx} {K0 : PySem.W.Frag} (hK : X.K = K0) {es : List Expr} {k : Nat} {t : TGs} {n : Nat} {pos : Pos} (hc : X.calm = true) (h : PGs X es t)
    (hn : (assignEach es X.env).length = n := by rfl) (hst : (assignEach es X.env).findIdx? (·.1) = none := by rfl) : PG X (.Tuple es k pos) (gTup K0 n t) := by
  subst hK
  exact pg_tup hc h hn hst
abbrev nGroup : List Str := ["ways", "group", "letter", "state", "lead", "leads", "target", "kind", "inner", "kinds"]
theorem scGroup : FnScope nGroup ["ways", "group", "letter"] (defScope sGroup) := ⟨rfl, rfl, rfl, by decide +kernel, rfl, by decide +kernel, by decide +kernel⟩
theorem ok_group {f : Addr} {fd : FuncData} (F : Fun K "group_behind" "group_behind" sGroup f fd) (T : Blt mg) : FnOk P w K mg base CX0 1 f fd ["ways", "group", "letter"] (spGroup K) := by
  refine F.ok scGroup (fun vs H Q E h => ?_) (fun cdv A outer s H vs Q E hr h => ?_)
  · obtain ⟨d, g, l, xs, rs, rfl, _⟩ := h
    rfl
  · obtain ⟨d, g, l, xs, rs, rfl, hW, hg, hrs, hxs, hts, k⟩ := h
    have hu1 := hu_of hr
    refine ⟨_, pss_cons (ps_setLc2 (i := 5) (own := [("state", 3), ("lead", 4)]) (vs1 := [4]) (g := gName 3) (g1 := gName 4) (tt := tYes) (tt1 := tYes) rfl scGroup.nd rfl rfl (by rfl) (pi_tup (pv 1))
          (blkOk_by (own := [("state", 3), ("lead", 4)]) (N := nGroup) (sc := defScope sGroup) (by decide +kernel)) (by decide)
          (fun _ _ _ _ _ => pg_name (i := 3) scGroup.nd rfl (Or.inl rfl)) (fun _ _ _ _ _ => pts_nil)
          (fun _ _ _ _ _ => pi_listK (K0 := K) rfl (pe_dget2 hu1 (pv 0) (pe_tup (pa_cons (pv 3) (pa_cons (pv 2) pa_nil))) (pe_lst pa_nil) ⟨by rfl, by rfl, by rfl, by rfl⟩))
          (fun _ _ _ _ _ => pg_name (i := 4) scGroup.nd rfl (Or.inl rfl)) (fun _ _ _ _ _ => pts_nil) (fun _ _ _ _ _ => pv 4))
      (pss_cons (ps_set (i := 8) scGroup.nd rfl (Or.inl rfl) (pe_callTy call_tuple_of (by rfl) T.tuple (by decide +kernel) (pa_cons (pe_callB (cr_sortedWI (w0 := w) rfl rfl) (by rfl) T.sorted (by decide +kernel) (pa_cons
          (pe_stK (own := [("target", 6), ("kind", 7)]) (g := gTup K 2 (gCons (gName 6) (gCons (gName 7) gNil))) rfl scGroup.nd (pi_list (pv 5)) (blkOk_by (own := [("target", 6), ("kind", 7)]) (N := nGroup) (sc := defScope sGroup) (by decide +kernel))
            (fun _ _ _ _ _ => pg_tupK (K0 := K) rfl (by rfl) (pgs_cons (pg_name (i := 6) scGroup.nd rfl (Or.inl rfl)) (pgs_cons (pg_name (i := 7) scGroup.nd rfl (Or.inl rfl)) pgs_nil)))
            (fun _ _ _ _ _ => pts_one (pt_cmpR op_ne (pv 6) pe_int (nomark _))) (fun _ _ _ _ _ => pv 6)) pa_nil)) pa_nil)))
      (pss_cons (ps_set (i := 9) scGroup.nd rfl (Or.inl rfl) (pe_callTy call_tuple_of (by rfl) T.tuple (by decide +kernel) (pa_cons (pe_callB (cr_sortedWT rfl) (by rfl) T.sorted (by decide +kernel) (pa_cons
          (pe_stK (own := [("target", 6), ("kind", 7)]) (g := gTup K 2 (gCons (gName 6) (gCons (gName 7) gNil))) rfl scGroup.nd (pi_list (pv 5)) (blkOk_by (own := [("target", 6), ("kind", 7)]) (N := nGroup) (sc := defScope sGroup) (by decide +kernel))
            (fun _ _ _ _ _ => pg_tupK (K0 := K) rfl (by rfl) (pgs_cons (pg_name (i := 6) scGroup.nd rfl (Or.inl rfl)) (pgs_cons (pg_name (i := 7) scGroup.nd rfl (Or.inl rfl)) pgs_nil)))
            (fun _ _ _ _ _ => pts_one (pt_cmpR op_eq (pv 6) pe_int (nomark _))) (fun _ _ _ _ _ => pv 7)) pa_nil)) pa_nil)))
      (pss_one (ps_ret (pe_tup (pa_cons (pv 8) (pa_cons (pv 9) pa_nil))))))), ?_⟩
    refine ⟨_, rfl, g, rfl, ⟨_, hg⟩, fun D hD => ?_⟩
    have hub : xs.length * rs.length ≤ 64 * 200 := Nat.mul_le_mul hxs hrs
    refine lout_tup (K := K) (a := g) (xs := xs.map V.int) (fun i H' => ∃ ys, H' D = some (.lst ys) ∧ All2 (AtK K H') ys (leadsOf rs (xs.take i) l) ∧ Same H H') ⟨[], upd_same, (by rw [List.take_zero]; exact .nil), Same.upd hD⟩ (fun i H' _ ⟨_, _, _, sm⟩ => sqT_same sm hg) ?_ ?_
    · rintro i y H1 hy ⟨ys, eD, hys, sm⟩
      obtain ⟨x, hx, rfl⟩ : ∃ x, xs[i]? = some x ∧ y = V.int x := by
        rw [List.getElem?_map] at hy
        cases e : xs[i]? with
        | none => rw [e] at hy; exact nomatch hy
        | some z => rw [e] at hy; cases hy; exact ⟨z, rfl, rfl⟩
      have hil : i < xs.length := (List.getElem?_eq_some_iff.mp hx).1
      refine ⟨rfl, ?_⟩
      dsimp only [tYes]
      refine iteT ?_
      have hd1 : ∃ kvs, H1 d = some (.dT kvs) := by
        obtain ⟨kvs, e, _⟩ := hW
        exact ⟨kvs, sm _ _ e⟩
      obtain ⟨kvs, ed1⟩ := hd1
      refine ⟨_, rfl, d, rfl, .inr ⟨kvs, .inl ed1⟩, _, rfl, _, rfl, (by show 2 ≤ sizeLine; decide), fun kk hkk => ?_⟩
      have s2 := Same.upd (o := .tup [V.int x, V.str l]) hkk
      refine ⟨Nat.zero_le _, fun b hb => ?_⟩
      have s3 := Same.upd (o := .lst []) hb
      have eb : (upd (upd H1 kk (.tup [V.int x, V.str l])) b (.lst [])) b = some (.lst []) := upd_same
      have ek := s3 _ _ (upd_same (H := H1) (a := kk) (o := HO.tup [V.int x, V.str l]))
      have eD3 := (s2.trans s3) _ _ eD
      have nbD : b ≠ D := fun e => by rw [e, s2 _ _ eD] at hb; exact nomatch hb
      have sm3 := (sm.trans s2).trans s3
      have hys3 : All2 (AtK K (upd (upd H1 kk (.tup [V.int x, V.str l])) b (.lst []))) ys (leadsOf rs (xs.take i) l) := hys.imp fun _ _ => AtK.same (s2.trans s3)
      revert eb ek eD3 sm3 hys3
      generalize upd (upd H1 kk (.tup [V.int x, V.str l])) b (.lst []) = H3
      intro eb ek eD3 sm3 hys3
      obtain ⟨o, dg, oc⟩ := hW.get sm3 ek
      obtain ⟨c, zs, eo, hc, hz, ncD⟩ : ∃ c zs, o.getD (.ref b) = .ref c ∧ H3 c = some (.lst zs) ∧ All2 (AtK K H3) zs (hits rs x l) ∧ c ≠ D := by
        rcases oc with ⟨rfl, h0⟩ | ⟨c, zs, rfl, hc, hz⟩
        · exact ⟨b, [], rfl, eb, by rw [h0]; exact .nil, nbD⟩
        · exact ⟨c, zs, rfl, sm3 _ _ hc, hz.imp fun _ _ => AtK.same sm3, fun e => by rw [e, hD] at hc; exact nomatch hc⟩
      refine ⟨o, dg, c, eo, ⟨zs, SqL.of hc⟩, ?_⟩
      have etk := take_snoc hx
      have lz := hz.len
      have ll : (leadsOf rs (xs.take (i + 1)) l).length ≤ 64 * 200 := by
        refine Nat.le_trans (leads_len rs l _) (Nat.le_trans (Nat.mul_le_mul ?_ (Nat.le_refl _)) hub)
        rw [List.length_take]
        exact Nat.min_le_right _ _
      rw [etk, leads_snoc] at ll ⊢
      refine lin_it (walk_list (K := K) (a := c) (xs := zs)) (fun j H' => ∃ ws, H' D = some (.lst ws) ∧ All2 (AtK K H') ws (leadsOf rs (xs.take i) l ++ (hits rs x l).take j) ∧ Same H H' ∧ H' c = some (.lst zs) ∧ ∀ a us, SqT K H3 a us → SqT K H' a us) ⟨ys, eD3, (by rw [List.take_zero, List.append_nil]; exact hys3), sm3, hc, fun _ _ h => h⟩ (fun j H' _ ⟨_, _, _, _, h, _⟩ => SqL.of h) ?_ ?_
      · rintro j v H4 H5 hj ⟨ws, eD4, hws, sm4, hc4, st4⟩ ⟨rfl, hv⟩
        obtain ⟨p, hp, hat⟩ := hz.at hv
        refine ⟨rfl, ?_⟩
        dsimp only [tYes]
        refine iteT ?_
        refine ⟨_, rfl, ws, eD4, ?_, ws ++ [v], upd_same, ?_, keep_put sm4 hD, by rw [upd_ne ncD]; exact hc4, fun a us h => sqT_put eD4 (st4 a us h)⟩
        · rw [hws.len, List.length_append, List.length_take]
          rw [List.length_append] at ll
          exact Nat.lt_of_le_of_lt (by omega : _ ≤ 64 * 200) (by decide)
        · rw [take_snoc hp, ← List.append_assoc]
          exact (hws.imp fun _ _ => AtK.keep fun a us h => sqT_put eD4 h).app (.cons (hat.keep fun a us h => sqT_put eD4 (st4 a us h)) .nil)
      · rintro H4 ⟨ws, eD4, hws, sm4, hc4, st4⟩
        rw [List.take_of_length_le (l := hits rs x l) (by rw [lz]; exact Nat.le_refl _)] at hws
        exact ⟨ws, eD4, hws, sm4⟩
    rintro H1 ⟨ys, eD, hys, s1⟩
    rw [List.take_of_length_le (by rw [List.length_map]; exact Nat.le_refl _)] at hys
    have mem : ∀ (t : Int) (kd : Str), (t, kd) ∈ leadsOf rs xs l ↔ ∃ r ∈ rs, r.s ∈ xs ∧ r.l = l ∧ r.t = t ∧ r.k = kd := fun t kd => mem_leads
    have lrng : ∀ h ∈ leadsOf rs xs l, 0 ≤ h.1 ∧ h.1 < 64 := fun h hh => by
      obtain ⟨r, hr, _, _, e, _⟩ := (mem h.1 h.2).mp hh
      rw [← e]
      exact hts r hr
    have lkin : ∀ ss : List Str, ss.Nodup → (∀ k ∈ ss, ∃ r ∈ rs, r.k = k) → ss.length ≤ 200 := fun ss nd h => by
      have h1 := nodup_sub (m := rs.map (·.k)) nd fun k hk => by
        obtain ⟨r, hr, e⟩ := h k hk
        exact List.mem_map.mpr ⟨r, hr, e⟩
      rw [List.length_map] at h1
      omega
    have lint : ∀ ms : List Int, ms.Nodup → (∀ x ∈ ms, x ≠ 0 ∧ 0 ≤ x ∧ x < 64) → ms.length ≤ 63 := fun ms nd h => by
      have h1 := nodup_sub (m := (List.range 63).map fun i : Nat => (i : Int) + 1) nd fun x hx => by
        obtain ⟨a, b, c⟩ := h x hx
        exact List.mem_map.mpr ⟨(x - 1).toNat, List.mem_range.mpr (by omega), by omega⟩
      rw [List.length_map, List.length_range] at h1
      exact h1
    revert mem lrng hys
    generalize leadsOf rs xs l = L
    intro hys mem lrng
    have ly := hys.len
    -- the inner states
    refine ⟨_, rfl, D, rfl, ⟨ys, SqL.of eD⟩, fun S hS => ?_⟩
    refine st_it (walk_list (K := K) (a := D) (xs := ys)) (fun i H' => ∃ ms : List Int, H' S = some (SW w S (ms.map Sum.inl)) ∧ Same H1 H' ∧ ms.Nodup ∧ ∀ x, x ∈ ms ↔ x ≠ 0 ∧ ∃ kd, (x, kd) ∈ L.take i) ⟨[], upd_same, Same.upd hS, List.nodup_nil, fun x => ⟨(fun h => nomatch h), fun ⟨_, kd, h⟩ => by rw [List.take_zero] at h; exact nomatch h⟩⟩ (fun i H' _ ⟨_, _, sm, _⟩ => SqL.of (sm _ _ eD)) ?_ ?_
    · rintro i v H2 H3 hi ⟨ms, eS, sm, nd, hm⟩ ⟨rfl, hv⟩
      obtain ⟨⟨t, kd⟩, hp, hat⟩ := hys.at hv
      obtain ⟨q, rfl, hq⟩ := hat.same sm
      have etk := take_snoc hp
      refine ⟨q, _, rfl, hq, rfl, ?_⟩
      refine ⟨_, _, rfl, _, _, rfl, rfl, rfl, ?_⟩
      refine ⟨_, rfl, rfl, _, rfl, ?_⟩
      rw [dec_int]
      rw [etk]
      have hr := lrng _ (List.mem_of_getElem? hp)
      by_cases h0 : t = 0
      · have e : (!(t == (0 : Int))) = false := by rw [h0]; rfl
        rw [e]
        refine iteF ⟨ms, eS, sm, nd, fun x => ?_⟩
        rw [hm]
        constructor
        · rintro ⟨a, kd', b⟩
          exact ⟨a, kd', List.mem_append_left _ b⟩
        · rintro ⟨a, kd', b⟩
          rcases List.mem_append.mp b with b | b
          · exact ⟨a, kd', b⟩
          · have := List.mem_singleton.mp b
            cases this
            exact absurd h0 a
      · have e : (!(t == (0 : Int))) = true := by rw [beq_false_of_ne h0]; rfl
        rw [e]
        refine iteT ?_
        have hl := lint ms nd fun x hx => by
          obtain ⟨a, kd', b⟩ := (hm x).mp hx
          exact ⟨a, lrng _ (List.mem_of_mem_take b)⟩
        refine ⟨_, rfl, .inl t, _, rfl, eS, ?_, ?_⟩
        · rw [List.length_map]
          exact Nat.lt_of_le_of_lt (by omega : _ ≤ 64) (by decide)
        · rw [insK_inl]
          refine ⟨_, upd_same, keep_put sm hS, ins_nd nd, fun x => ?_⟩
          rw [ins_mem, hm]
          constructor
          · rintro (⟨a, kd', b⟩ | rfl)
            · exact ⟨a, kd', List.mem_append_left _ b⟩
            · exact ⟨h0, kd, List.mem_append_right _ (List.mem_singleton.mpr rfl)⟩
          · rintro ⟨a, kd', b⟩
            rcases List.mem_append.mp b with b | b
            · exact .inl ⟨a, kd', b⟩
            · have := List.mem_singleton.mp b
              cases this
              exact .inr rfl
    rintro H2 ⟨ms, eS, s12, ndm, hm⟩
    rw [List.take_of_length_le (by rw [ly]; exact Nat.le_refl _)] at hm
    have lms := lint ms ndm fun x hx => by
      obtain ⟨a, kd', b⟩ := (hm x).mp hx
      exact ⟨a, lrng _ b⟩
    refine ⟨S, ms, rfl, eS, by omega, fun is p0 pmi upi hp0 => ?_⟩
    have s23 := Same.upd (o := .lst (is.map V.int)) hp0
    refine ⟨p0, _, rfl, .inl ⟨SqL.of upd_same, fun p hp => ?_⟩⟩
    have s34 := Same.upd (o := .tup (is.map V.int)) hp
    have ep : (upd (upd H2 p0 (.lst (is.map V.int))) p (.tup (is.map V.int))) p = some (.tup (is.map V.int)) := upd_same
    have s14 := (s12.trans s23).trans s34
    revert ep s14
    generalize upd (upd H2 p0 (.lst (is.map V.int))) p (.tup (is.map V.int)) = H4
    intro ep s14
    have eD4 := s14 _ _ eD
    have inn : Inner rs xs l is := by
      refine ⟨(upi.and (pmi.nodup_iff.mpr ndm)).imp fun h => by omega, fun x => ?_⟩
      rw [pmi.mem_iff, hm]
      constructor
      · rintro ⟨a, kd, b⟩
        obtain ⟨r, hr, h1, h2, h3, _⟩ := (mem _ _).mp b
        exact ⟨a, r, hr, h1, h2, h3⟩
      · rintro ⟨a, r, hr, h1, h2, h3⟩
        exact ⟨a, r.k, (mem _ _).mpr ⟨r, hr, h1, h2, h3, rfl⟩⟩
    -- the kinds
    refine ⟨_, rfl, D, rfl, ⟨ys, SqL.of eD4⟩, fun Z hZ => ?_⟩
    refine st_it (walk_list (K := K) (a := D) (xs := ys)) (fun i H' => ∃ ss : List Str, H' Z = some (SW w Z (ss.map Sum.inr)) ∧ Same H4 H' ∧ ss.Nodup ∧ ∀ kd, kd ∈ ss ↔ ((0 : Int), kd) ∈ L.take i) ⟨[], upd_same, Same.upd hZ, List.nodup_nil, fun x => ⟨(fun h => nomatch h), fun h => by rw [List.take_zero] at h; exact nomatch h⟩⟩ (fun i H' _ ⟨_, _, sm, _⟩ => SqL.of (sm _ _ eD4)) ?_ ?_
    · rintro i v H5 H6 hi ⟨ss, eZ, sm, nd, hk⟩ ⟨rfl, hv⟩
      obtain ⟨⟨t, kd⟩, hp, hat⟩ := hys.at hv
      obtain ⟨q, rfl, hq⟩ := hat.same (s14.trans sm)
      have etk := take_snoc hp
      refine ⟨q, _, rfl, hq, rfl, ?_⟩
      refine ⟨_, _, rfl, _, _, rfl, rfl, rfl, ?_⟩
      refine ⟨_, rfl, rfl, _, rfl, ?_⟩
      rw [dec_int]
      rw [etk]
      by_cases h0 : t = 0
      · have e : (t == (0 : Int)) = true := by rw [h0]; rfl
        rw [e]
        refine iteT ?_
        have hl := lkin ss nd fun k hk' => by
          obtain ⟨r, hr, _, _, _, h⟩ := (mem _ _).mp (List.mem_of_mem_take ((hk k).mp hk'))
          exact ⟨r, hr, h⟩
        refine ⟨_, rfl, .inr kd, _, rfl, eZ, ?_, ?_⟩
        · rw [List.length_map]
          exact Nat.lt_of_le_of_lt (by omega : _ ≤ 201) (by decide)
        · rw [insK_inr]
          refine ⟨_, upd_same, keep_put sm hZ, ins_nd nd, fun x => ?_⟩
          rw [ins_mem, hk]
          constructor
          · rintro (b | rfl)
            · exact List.mem_append_left _ b
            · exact List.mem_append_right _ (List.mem_singleton.mpr (by rw [h0]))
          · intro b
            rcases List.mem_append.mp b with b | b
            · exact .inl b
            · have := List.mem_singleton.mp b
              cases this
              exact .inr rfl
      · have e : (t == (0 : Int)) = false := beq_false_of_ne h0
        rw [e]
        refine iteF ⟨ss, eZ, sm, nd, fun x => ?_⟩
        rw [hk]
        constructor
        · exact fun b => List.mem_append_left _ b
        · intro b
          rcases List.mem_append.mp b with b | b
          · exact b
          · have := List.mem_singleton.mp b
            cases this
            exact absurd rfl h0
    rintro H5 ⟨ss, eZ, s45, nds, hk⟩
    rw [List.take_of_length_le (by rw [ly]; exact Nat.le_refl _)] at hk
    have lss := lkin ss nds fun k hk' => by
      obtain ⟨r, hr, _, _, _, h⟩ := (mem _ _).mp ((hk k).mp hk')
      exact ⟨r, hr, h⟩
    refine ⟨Z, ss, rfl, eZ, fun ks p1 pmk upk hp1 => ?_⟩
    have s56 := Same.upd (o := .lst (ks.map V.str)) hp1
    refine ⟨p1, _, rfl, .inl ⟨SqL.of upd_same, fun q hq => ?_⟩⟩
    have s67 := Same.upd (o := .tup (ks.map V.str)) hq
    refine ⟨_, rfl, _, rfl, (by show 2 ≤ sizeLine; decide), fun t ht => ?_⟩
    have s78 := Same.upd (o := .tup [V.ref p, V.ref q]) ht
    have s48 := ((s45.trans s56).trans s67).trans s78
    refine k _ t p q is ks ((s1.trans s14).trans s48) (SqT.of upd_same) (SqT.of (s48 _ _ ep)) (SqT.of (s78 _ _ upd_same)) inn ⟨upk, pmk.nodup_iff.mpr nds, fun kd => ?_⟩ (by rw [pmi.length_eq]; omega) (by rw [pmk.length_eq]; exact lss)
    rw [pmk.mem_iff, hk]
    exact mem 0 kd
end
end K06

set_option Elab.async false
set_option linter.all false
set_option maxRecDepth 100000
set_option maxHeartbeats 2000000
namespace Ami
open PySem PySem.Spec PyProof.Rows L2
/-- a way along letters, over inner states -/
def Go (rs : List Arr) : Int → List Str → Int → Prop
  | x, [], y => x = y
  | x, l :: ls, y => ∃ r ∈ rs, r.s = x ∧ r.l = l ∧ r.t ≠ 0 ∧ Go rs r.t ls y
def Fin (rs : List Arr) (x : Int) (l k : Str) : Prop := ∃ r ∈ rs, r.s = x ∧ r.l = l ∧ r.t = 0 ∧ r.k = k
/-- from x these letters are read to the border, with that kind -/
def Reads (rs : List Arr) : Int → List Str → Str → Prop
  | _, [], _ => False
  | x, [l], k => Fin rs x l k
  | x, l :: l' :: ls, k => ∃ r ∈ rs, r.s = x ∧ r.l = l ∧ r.t ≠ 0 ∧ Reads rs r.t (l' :: ls) k
theorem go_snoc {rs : List Arr} {l : Str} {y : Int} : ∀ {ls : List Str} {x : Int}, Go rs x (ls ++ [l]) y ↔ ∃ z, Go rs x ls z ∧ ∃ r ∈ rs, r.s = z ∧ r.l = l ∧ r.t ≠ 0 ∧ r.t = y
  | [], x => by
    constructor
    · rintro ⟨r, hr, h1, h2, h3, h4⟩
      exact ⟨x, rfl, r, hr, h1, h2, h3, h4⟩
    · rintro ⟨z, rfl, r, hr, h1, h2, h3, h4⟩
      exact ⟨r, hr, h1, h2, h3, h4⟩
  | a :: ls, x => by
    constructor
    · rintro ⟨r, hr, h1, h2, h3, h4⟩
      obtain ⟨z, hz, q⟩ := go_snoc.mp h4
      exact ⟨z, ⟨r, hr, h1, h2, h3, hz⟩, q⟩
    · rintro ⟨z, ⟨r, hr, h1, h2, h3, h4⟩, q⟩
      exact ⟨r, hr, h1, h2, h3, go_snoc.mpr ⟨z, h4, q⟩⟩
theorem reads_snoc {rs : List Arr} {l k : Str} : ∀ {ls : List Str} {x : Int}, Reads rs x (ls ++ [l]) k ↔ ∃ z, Go rs x ls z ∧ Fin rs z l k
  | [], x => ⟨fun h => ⟨x, rfl, h⟩, fun ⟨z, e, h⟩ => by
    have e : x = z := e
    rw [e]; exact h⟩
  | [a], x => by
    constructor
    · rintro ⟨r, hr, h1, h2, h3, h4⟩
      exact ⟨r.t, ⟨r, hr, h1, h2, h3, rfl⟩, h4⟩
    · rintro ⟨z, ⟨r, hr, h1, h2, h3, h4⟩, q⟩
      have h4 : r.t = z := h4
      exact ⟨r, hr, h1, h2, h3, h4 ▸ q⟩
  | a :: b :: ls, x => by
    constructor
    · rintro ⟨r, hr, h1, h2, h3, h4⟩
      obtain ⟨z, hz, q⟩ := (reads_snoc (ls := b :: ls)).mp h4
      exact ⟨z, ⟨r, hr, h1, h2, h3, hz⟩, q⟩
    · rintro ⟨z, ⟨r, hr, h1, h2, h3, h4⟩, q⟩
      exact ⟨r, hr, h1, h2, h3, (reads_snoc (ls := b :: ls)).mpr ⟨z, h4, q⟩⟩
/-- a format as it is read -/
structure FmtR (K : PySem.W.Frag) (C : Addr) (H : Hp) (a : Addr) (ls : Str) (n : Nat) (rs : List Arr) : Prop where
  good : Good ls n rs
  ex : ∃ dx t d, H a = some (.ins C dx (fFlds ls n t d)) ∧ ArrT K H t rs ∧ WyR K H d rs
theorem Wy.r {K : PySem.W.Frag} {H0 H : Hp} {d : Addr} {rs : List Arr} (W : Wy K H0 H d rs) : WyR K H d rs := by
  obtain ⟨kvs, e1, e2, e3, e4, _⟩ := W.ex
  exact ⟨kvs, e1, e3, fun s l v h => by
    obtain ⟨b, xs, a1, _, _, a4, a5⟩ := e4 s l v h
    exact ⟨b, xs, a1, a4, a5⟩⟩
theorem FmtAt.r {K : PySem.W.Frag} {C : Addr} {H : Hp} {a : Addr} {ls : Str} {n : Nat} {rs : List Arr} (F : FmtAt K C H a ls n rs) : FmtR K C H a ls n rs := by
  obtain ⟨g, dx, t, d, H0, ha, hA, wy⟩ := F
  exact ⟨g, dx, t, d, ha, hA, wy.r⟩
theorem FmtR.same {K : PySem.W.Frag} {C : Addr} {H H' : Hp} {a : Addr} {ls : Str} {n : Nat} {rs : List Arr} (F : FmtR K C H a ls n rs) (s : Same H H') : FmtR K C H' a ls n rs := by
  obtain ⟨g, dx, t, d, ha, hA, wy⟩ := F
  exact ⟨g, dx, t, d, s _ _ ha, hA.same s, wy.same s⟩
/-- the kinds of a word: ascending, each once -/
def KindsOf (rs : List Arr) (z : List Str) (ks : List Str) : Prop := Up ks ∧ ks.Nodup ∧ ∀ k, k ∈ ks ↔ Reads rs 0 z k
theorem KindsOf.one {rs : List Arr} {z ks ks' : List Str} (h : KindsOf rs z ks) (h' : KindsOf rs z ks') : ks = ks' := by
  refine up_uniq h.1 h'.1 ?_
  refine (List.perm_ext_iff_of_nodup h.2.1 h'.2.1).mpr fun k => ?_
  rw [h.2.2, h'.2.2]
theorem good_t {ls : Str} {n : Nat} {rs : List Arr} (g : Good ls n rs) (hn : n ≤ 64) : ∀ r ∈ rs, 0 ≤ r.t ∧ r.t < 64 := fun r hr => by
  have := (g.arr r hr).1
  unfold arrowB stateB at this
  simp only [Bool.and_eq_true, decide_eq_true_eq] at this
  have := this.1.1.2
  omega
def spKindsOf (K : PySem.W.Frag) (C : Addr) : Sp := fun vs H Q _ => ∃ (a : Addr) (ls : Str) (n : Nat) (rs : List Arr) (z : Str), vs = [.ref a, .str z] ∧ FmtR K C H a ls n rs ∧ n ≤ 64 ∧ rs.length ≤ 200 ∧ z.length ≤ 100000 ∧
  ∀ (H' : Hp) (q : Addr) (ks : List Str), Same H H' → SqT K H' q (ks.map V.str) → KindsOf rs (letts z) ks → ks.length ≤ 200 → Q (.ref q) H'
end Ami
namespace K06
open PySem PySem.Spec PyProof.Rows L2 Ami
section
variable {P : Program} {w : World} {K : PySem.W.Frag} {mg : Str → Option Value} {base : Heap}
abbrev iKindsOf : Stmt := inClass (top 46) 6
abbrev nKindsOf : List Str := ["self", "word", "group", "kinds", "letter"]
theorem scKindsOf : FnScope nKindsOf ["self", "word"] (defScope iKindsOf) := ⟨rfl, rfl, rfl, by decide +kernel, rfl, by decide +kernel, by decide +kernel⟩
theorem ok_kindsOf {f f1 C : Addr} {fd fd1 : FuncData} (F : Fun K "kinds_of" "Format.kinds_of" iKindsOf f fd) (c : FmtC K C) (T : Blt mg) (D1 : DefAt K mg "group_behind" sGroup ["ways", "group", "letter"] f1 fd1) :
    FnOk P w K mg base CX0 2 f fd ["self", "word"] (spKindsOf K C) := by
  have G1 : FnOk P w K mg base CX0 1 f1 fd1 ["ways", "group", "letter"] (spGroup K) := ok_group D1.F T
  refine F.ok scKindsOf (fun vs H Q E h => ?_) (fun cdv A outer s H vs Q E hr h => ?_)
  · obtain ⟨a, ls, n, rs, z, rfl, _⟩ := h
    rfl
  · obtain ⟨a, ls, n, rs, z, rfl, hF, hn, hrs, hz, k⟩ := h
    refine ⟨_, pss_cons (ps_set (i := 2) scKindsOf.nd rfl (Or.inl rfl) (pe_tup (pa_cons pe_int pa_nil)))
      (pss_cons (ps_set (i := 3) scKindsOf.nd rfl (Or.inl rfl) (pe_tup pa_nil))
      (pss_cons (ps_for PassesOwn.never rfl (pi_str (pv 1)) (pg_name (i := 4) scKindsOf.nd rfl (Or.inl rfl))
        (pss_one (ps_asg (pc D1 G1 hr (pa_cons (pe_fld (pv 0) rfl) (pa_cons (pv 2) (pa_cons (pv 4) pa_nil)))) (pg_tup (by rfl) (pgs_cons (pg_name (i := 2) scKindsOf.nd rfl (Or.inl rfl)) (pgs_cons (pg_name (i := 3) scKindsOf.nd rfl (Or.inl rfl)) pgs_nil))))))
      (pss_one (ps_ret (pv 3))))), ?_⟩
    have g := hF.good
    obtain ⟨dx, t, d, ha, hA, hW⟩ := hF.ex
    have hts := good_t g hn
    refine ⟨(by show 1 ≤ sizeLine; decide), fun p hp => ⟨Nat.zero_le _, fun q hq => ?_⟩⟩
    have s1 := Same.upd (o := .tup [V.int 0]) hp
    have s2 := Same.upd (o := .tup []) hq
    have ep := s2 _ _ (upd_same (H := H) (a := p) (o := HO.tup [V.int 0]))
    have eq1 : (upd (upd H p (.tup [V.int 0])) q (.tup [])) q = some (.tup []) := upd_same
    have s02 := s1.trans s2
    revert ep eq1 s02
    generalize upd (upd H p (.tup [V.int 0])) q (.tup []) = H2
    intro ep eq1 s02
    have lz : (letts z).length = z.length := letts_length z
    refine ⟨_, rfl, z, rfl, ?_⟩
    refine for_it walk_str (fun i σ H' => ∃ (p q : Addr) (xs : List Int) (ks : List Str) (v4 : Option V), σ = [some (.ref a), some (.str z), some (.ref p), some (.ref q), v4] ∧ Same H H' ∧ SqT K H' p (xs.map V.int) ∧ SqT K H' q (ks.map V.str) ∧ xs.length ≤ 64 ∧ ks.length ≤ 200 ∧
      (∀ x, x ∈ xs ↔ Go rs 0 ((letts z).take i) x) ∧ KindsOf rs ((letts z).take i) ks) ⟨p, q, [0], [], none, rfl, s02, SqT.of ep, SqT.of eq1, (by decide), Nat.zero_le _, fun x => ?_, .nil, List.nodup_nil, fun k => ?_⟩ (fun _ _ _ _ _ => trivial) ?_ ?_
    · rw [List.take_zero, List.mem_singleton]
      exact ⟨fun h => h.symm, fun h => Eq.symm h⟩
    · rw [List.take_zero]
      exact ⟨(fun h => nomatch h), fun h => h.elim⟩
    · rintro i x σ H3 H4 hi ⟨p, q, xs, ks, v4, rfl, sm, hp, hq, lx, lk, hx, hk⟩ ⟨rfl, c0, hc, rfl⟩
      have hc2 : (letts z)[i]? = some (one c0) := by
        unfold letts
        rw [List.getElem?_map, Array.getElem?_toList, hc]; rfl
      have etk := take_snoc hc2
      refine ⟨_, rfl, a, C, dx, _, _, rfl, sm _ _ ha, c.cls, c.n4, rfl, _, rfl, _, rfl, d, p, one c0, xs, rs, rfl, hW.same sm, hp, hrs, lx, hts, fun H5 t5 p5 q5 is ks5 s5 ht5 hp5 hq5 inn told li lk5 => ?_⟩
      refine ⟨t5, _, rfl, ht5, rfl, ?_⟩
      refine ⟨_, _, rfl, _, _, rfl, rfl, ?_⟩
      refine ⟨p5, q5, is, ks5, _, rfl, sm.trans s5, hp5, hq5, li, lk5, fun x => ?_, told.1, told.2.1, fun kd => ?_⟩
      · rw [etk, go_snoc, inn.2]
        constructor
        · rintro ⟨h0, r, hr', h1, h2, h3⟩
          exact ⟨r.s, (hx _).mp h1, r, hr', rfl, h2, h3 ▸ h0, h3⟩
        · rintro ⟨y, hy, r, hr', h1, h2, h3, h4⟩
          exact ⟨h4 ▸ h3, r, hr', h1 ▸ (hx _).mpr hy, h2, h4⟩
      · rw [etk, reads_snoc, told.2.2]
        constructor
        · rintro ⟨r, hr', h1, h2, h3, h4⟩
          exact ⟨r.s, (hx _).mp h1, r, hr', rfl, h2, h3, h4⟩
        · rintro ⟨y, hy, r, hr', h1, h2, h3, h4⟩
          exact ⟨r, hr', h1 ▸ (hx _).mpr hy, h2, h3, h4⟩
    · rintro σ H3 ⟨p, q, xs, ks, v4, rfl, sm, hp, hq, lx, lk, hx, hk⟩
      have e : (letts z).take z.cps.size = letts z := List.take_of_length_le (by rw [lz]; exact Nat.le_refl _)
      rw [e] at hk
      exact ⟨_, rfl, k _ q ks sm hq hk lk⟩
end
end K06

set_option Elab.async false
set_option linter.all false
set_option maxRecDepth 100000
set_option maxHeartbeats 2000000
namespace Ami
open PySem PySem.Spec PyProof.Rows L2
/-- the kinds of all arrows to the border -/
def KindsAll (rs : List Arr) (ks : List Str) : Prop := Up ks ∧ ks.Nodup ∧ ∀ k, k ∈ ks ↔ ∃ r ∈ rs, r.t = 0 ∧ r.k = k
theorem KindsAll.one {rs : List Arr} {ks ks' : List Str} (h : KindsAll rs ks) (h' : KindsAll rs ks') : ks = ks' := by
  refine up_uniq h.1 h'.1 ?_
  refine (List.perm_ext_iff_of_nodup h.2.1 h'.2.1).mpr fun k => ?_
  rw [h.2.2, h'.2.2]
theorem kinds_few {rs : List Arr} {ss : List Str} (nd : ss.Nodup) (h : ∀ k ∈ ss, ∃ r ∈ rs, r.k = k) : ss.length ≤ rs.length := by
  have h1 := nodup_sub (m := rs.map (·.k)) nd fun k hk => by
    obtain ⟨r, hr, e⟩ := h k hk
    exact List.mem_map.mpr ⟨r, hr, e⟩
  rwa [List.length_map] at h1
def spKinds (K : PySem.W.Frag) (C : Addr) : Sp := fun vs H Q _ => ∃ (a : Addr) (ls : Str) (n : Nat) (rs : List Arr), vs = [.ref a] ∧ FmtR K C H a ls n rs ∧ rs.length ≤ 200 ∧
  ∀ (H' : Hp) (q : Addr) (ks : List Str), Same H H' → SqT K H' q (ks.map V.str) → KindsAll rs ks → ks.length ≤ 200 → Q (.ref q) H'
end Ami
namespace K06
open PySem PySem.Spec PyProof.Rows L2 Ami
section
variable {P : Program} {w : World} {K : PySem.W.Frag} {mg : Str → Option Value} {base : Heap}
abbrev iKinds : Stmt := inClass (top 46) 5
theorem scKinds : FnScope ["self", "arrow"] ["self"] (defScope iKinds) := ⟨rfl, rfl, rfl, by decide +kernel, rfl, by decide +kernel, by decide +kernel⟩
theorem ok_kinds {f C : Addr} {fd : FuncData} (F : Fun K "kinds" "Format.kinds" iKinds f fd) (c : FmtC K C) (T : Blt mg) : FnOk P w K mg base CX0 1 f fd ["self"] (spKinds K C) := by
  refine F.ok scKinds (fun vs H Q E h => ?_) (fun cdv A outer s H vs Q E hr h => ?_)
  · obtain ⟨a, ls, n, rs, rfl, _⟩ := h
    rfl
  · obtain ⟨a, ls, n, rs, rfl, hF, hrs, k⟩ := h
    refine ⟨_, pss_one (ps_ret (pe_callTy call_tuple_of (by rfl) T.tuple (by decide +kernel) (pa_cons (pe_callB (cr_sortedWT rfl) (by rfl) T.sorted (by decide +kernel) (pa_cons
        (pe_stK (own := [("arrow", 1)]) (g := gName 1) rfl scKinds.nd (pi_tup (pe_fld (pv 0) rfl)) (blkOk_by (own := [("arrow", 1)]) (N := ["self", "arrow"]) (sc := defScope iKinds) (by decide +kernel))
          (fun _ _ _ _ _ => pg_name (i := 1) scKinds.nd rfl (Or.inl rfl)) (fun _ _ _ _ _ => pts_one (pt_cmpR op_eq (pe_ix (ix_seqK (K0 := K) rfl) (pv 1) pe_int (fun _ _ => rfl)) pe_int (nomark _)))
          (fun _ _ _ _ _ => pe_ix (ix_seqK (K0 := K) rfl) (pv 1) pe_int (fun _ _ => rfl))) pa_nil)) pa_nil))), ?_⟩
    obtain ⟨dx, t, d, ha, ⟨us, ht, hu⟩, hW⟩ := hF.ex
    refine ⟨_, rfl, a, C, dx, _, _, rfl, ha, c.cls, c.n3, rfl, t, rfl, ⟨us, ht⟩, fun Z hZ => ?_⟩
    refine st_it (walk_tup (K := K) (a := t) (xs := us)) (fun i H' => ∃ ss : List Str, H' Z = some (SW w Z (ss.map Sum.inr)) ∧ Same H H' ∧ ss.Nodup ∧ ∀ kd, kd ∈ ss ↔ ∃ r ∈ rs.take i, r.t = 0 ∧ r.k = kd) ⟨[], upd_same, Same.upd hZ, List.nodup_nil, fun x => ⟨(fun h => nomatch h), fun ⟨r, h, _⟩ => by rw [List.take_zero] at h; exact nomatch h⟩⟩ (fun i H' _ ⟨_, _, sm, _⟩ => sqT_same sm ht) ?_ ?_
    · rintro i v H5 H6 hi ⟨ss, eZ, sm, nd, hk⟩ ⟨rfl, hv⟩
      obtain ⟨r, hp, hat⟩ := hu.at hv
      obtain ⟨q, rfl, hq⟩ := hat.same sm
      have etk := take_snoc hp
      refine ⟨rfl, ?_⟩
      refine ⟨_, rfl, .inr (.inl ⟨q, _, ((2 : Nat) : Int), _, rfl, rfl, hq, atI_nat (j := 2) rfl, rfl, _, rfl, ?_⟩)⟩
      rw [dec_int, etk]
      by_cases h0 : r.t = 0
      · have e : (r.t == (0 : Int)) = true := by rw [h0]; rfl
        rw [e]
        refine iteT ?_
        have hl := kinds_few (rs := rs) nd fun k hk' => by
          obtain ⟨r, hr, _, h⟩ := (hk k).mp hk'
          exact ⟨r, List.mem_of_mem_take hr, h⟩
        refine ⟨_, rfl, .inr (.inl ⟨q, _, ((3 : Nat) : Int), _, rfl, rfl, hq, atI_nat (j := 3) rfl, ?_⟩)⟩
        refine ⟨.inr r.k, _, rfl, eZ, ?_, ?_⟩
        · rw [List.length_map]
          exact Nat.lt_of_le_of_lt (by omega : _ ≤ 201) (by decide)
        · rw [insK_inr]
          refine ⟨_, upd_same, keep_put sm hZ, ins_nd nd, fun x => ?_⟩
          rw [ins_mem, hk]
          constructor
          · rintro (⟨r', b, b2⟩ | rfl)
            · exact ⟨r', List.mem_append_left _ b, b2⟩
            · exact ⟨r, List.mem_append_right _ (List.mem_singleton.mpr rfl), h0, rfl⟩
          · rintro ⟨r', b, b2, b3⟩
            rcases List.mem_append.mp b with b | b
            · exact .inl ⟨r', b, b2, b3⟩
            · rw [List.mem_singleton.mp b] at b3
              exact .inr b3.symm
      · have e : (r.t == (0 : Int)) = false := beq_false_of_ne h0
        rw [e]
        refine iteF ⟨ss, eZ, sm, nd, fun x => ?_⟩
        rw [hk]
        constructor
        · rintro ⟨r', b, b2⟩
          exact ⟨r', List.mem_append_left _ b, b2⟩
        · rintro ⟨r', b, b2, b3⟩
          rcases List.mem_append.mp b with b | b
          · exact ⟨r', b, b2, b3⟩
          · rw [List.mem_singleton.mp b] at b2
            exact absurd b2 h0
    rintro H5 ⟨ss, eZ, s45, nds, hk⟩
    rw [List.take_of_length_le (by rw [← hu.len]; exact Nat.le_refl _)] at hk
    have lss := kinds_few (rs := rs) nds fun k hk' => by
      obtain ⟨r, hr, _, h⟩ := (hk k).mp hk'
      exact ⟨r, hr, h⟩
    refine ⟨Z, ss, rfl, eZ, fun ks p1 pmk upk hp1 => ?_⟩
    have s56 := Same.upd (o := .lst (ks.map V.str)) hp1
    refine ⟨p1, _, rfl, .inl ⟨SqL.of upd_same, fun q hq => ?_⟩⟩
    have s67 := Same.upd (o := .tup (ks.map V.str)) hq
    refine k _ q ks ((s45.trans s56).trans s67) (SqT.of upd_same) ⟨upk, pmk.nodup_iff.mpr nds, fun kd => ?_⟩ (by rw [pmk.length_eq]; omega)
    rw [pmk.mem_iff, hk]
end
end K06

set_option Elab.async false
set_option linter.all false
set_option maxRecDepth 100000
set_option maxHeartbeats 2000000
namespace Ami
open PySem PySem.Spec PyProof.Rows L2
/-- a short plain text -/
def Shrt (n : Nat) (z : Str) : Prop := Asc z ∧ z.length ≤ n
theorem shrt_add {n : Nat} {z y : Str} (h : Shrt n z) (hy : Asc y) (h1 : y.length = 1) : Shrt (n + 1) (z ++ y) := ⟨h.1.append hy, by rw [append_length, h1]; have := h.2; omega⟩
theorem Shrt.mono {n m : Nat} {z : Str} (h : Shrt n z) (k : n ≤ m) : Shrt m z := ⟨h.1, Nat.le_trans h.2 k⟩
/-- how many words there are, up to a length -/
def cntW (m : Nat) : Nat → Nat
  | 0 => 1
  | n + 1 => cntW m n + m ^ (n + 1)
theorem cntW_le {m : Nat} (h : m ≤ 3) : ∀ n, cntW m n ≤ 3 ^ (n + 1)
  | 0 => (by decide : 1 ≤ 3 ^ 1)
  | n + 1 => by
    have ih := cntW_le h n
    have := Nat.pow_le_pow_left h (n + 1)
    have e : (3 : Nat) ^ (n + 1 + 1) = 3 ^ (n + 1) * 3 := Nat.pow_succ ..
    show cntW m n + m ^ (n + 1) ≤ _
    omega
def spAll : Sp := fun vs H Q _ => ∃ (ls : Str) (n : Nat), vs = [.str ls, .int n] ∧ Asc ls ∧ ls.length ≤ 3 ∧ n ≤ 5 ∧
  ∀ (H' : Hp) (D : Addr) (zs : List Str), Same H H' → H D = none → H' D = some (.lst (zs.map V.str)) → zs.length ≤ cntW ls.length n → (∀ z ∈ zs, Shrt 5 z) → Q (.ref D) H'
end Ami
namespace K06
open PySem PySem.Spec PyProof.Rows L2 Ami
section
variable {P : Program} {w : World} {K : PySem.W.Frag} {mg : Str → Option Value} {base : Heap}
abbrev nAll : List Str := ["_law_signs_here", "_law_size", "_law_layer", "_law_found", "_law_k", "_law_longer", "_law_row", "_law_sign"]
theorem scAll : FnScope nAll ["_law_signs_here", "_law_size"] (defScope sAll) := ⟨rfl, rfl, rfl, by decide +kernel, rfl, by decide +kernel, by decide +kernel⟩
theorem ok_all {f : Addr} {fd : FuncData} (F : Fun K "_law_all" "_law_all" sAll f fd) (T : Blt mg) : FnOk P w K mg base CX0 1 f fd ["_law_signs_here", "_law_size"] spAll := by
  refine F.ok scAll (fun vs H Q E h => ?_) (fun cdv A outer s H vs Q E hr h => ?_)
  · obtain ⟨ls, n, rfl, _⟩ := h
    rfl
  · obtain ⟨ls, n, rfl, lA, l3, n5, k⟩ := h
    refine ⟨_, pss_cons (ps_par (i := 2) (j := 3) rfl scAll.nd rfl rfl (by decide) rfl rfl (pa_cons (pe_lst (pa_cons pe_str pa_nil)) (pa_cons (pe_lst (pa_cons pe_str pa_nil)) pa_nil)) (by rfl))
      (pss_cons (ps_for PassesOwn.never rfl (pi_range1 (by rfl) T.range (pa_cons (pv 1) pa_nil)) (pg_name (i := 4) scAll.nd rfl (Or.inl rfl))
        (pss_cons (ps_set (i := 5) scAll.nd rfl (Or.inl rfl) (pe_lst pa_nil))
        (pss_cons (ps_for PassesOwn.never rfl (pi_list (pv 2)) (pg_name (i := 6) scAll.nd rfl (Or.inr rfl))
          (pss_one (ps_expr (pe_bm PySem.F.plainAttrs_list PySem.F.slot_list_extend PySem.F.type_list_extend mt_extend (pv 5) (pa_cons
            (pe_lc (own := [("_law_sign", 7)]) (g := gName 7) (tt := tYes) rfl scAll.nd (pi_str (pv 0)) (blkOk_by (own := [("_law_sign", 7)]) (N := nAll) (sc := defScope sAll) (by decide +kernel)) (fun _ _ _ _ _ => pg_name (i := 7) scAll.nd rfl (Or.inl rfl)) (fun _ _ _ _ _ => pts_nil)
              (fun _ _ _ _ _ => pe_op op_add_str (pv 6) (pv 7))) pa_nil)))))
        (pss_cons (ps_expr (pe_bm PySem.F.plainAttrs_list PySem.F.slot_list_extend PySem.F.type_list_extend mt_extend (pv 3) (pa_cons (pv 5) pa_nil)))
        (pss_one (ps_set (i := 2) scAll.nd rfl (Or.inl rfl) (pv 5)))))))
      (pss_one (ps_ret (pv 3)))), ?_⟩
    have lcs : ls.cps.toList.length = ls.length := Array.length_toList
    refine ⟨(by show 1 ≤ sizeLine; decide), fun L hL => ⟨(by show 1 ≤ sizeLine; decide), fun F0 hF => ⟨_, _, rfl, ?_⟩⟩⟩
    have s1 := Same.upd (o := .lst [V.str ""]) hL
    have s2 := Same.upd (o := .lst [V.str ""]) hF
    have eF : (upd (upd H L (.lst [V.str ""])) F0 (.lst [V.str ""])) F0 = some (.lst (([""] : List Str).map V.str)) := upd_same
    have eL : (upd (upd H L (.lst [V.str ""])) F0 (.lst [V.str ""])) L = some (.lst (([""] : List Str).map V.str)) := s2 _ _ upd_same
    have hF0 := none_of s1 hF
    have nLF : L ≠ F0 := fun e => by rw [← e, upd_same] at hF; exact nomatch hF
    have s02 := s1.trans s2
    revert eF eL s02
    generalize upd (upd H L (.lst [V.str ""])) F0 (.lst [V.str ""]) = H2
    intro eF eL s02
    have emp : Shrt 0 "" := ⟨by unfold Asc; decide +kernel, by decide +kernel⟩
    refine ⟨_, rfl, n, rfl, by omega, by omega, ?_⟩
    have en : ((n : Nat) : Int).toNat = n := by omega
    try rw [en]
    refine for_range (lo := 0) (n := n) (fun i σ H' => ∃ (la : Addr) (lay fnd : List Str) (v4 v5 v6 : Option V), σ = [some (.str ls), some (.int n), some (.ref la), some (.ref F0), v4, v5, v6, none] ∧ Same H H' ∧ la ≠ F0 ∧ H' la = some (.lst (lay.map V.str)) ∧ H' F0 = some (.lst (fnd.map V.str)) ∧
      (∀ z ∈ lay, Shrt i z) ∧ (∀ z ∈ fnd, Shrt 5 z) ∧ lay.length ≤ ls.length ^ i ∧ fnd.length ≤ cntW ls.length i) ⟨L, [""], [""], none, none, none, rfl, s02, nLF, eL, eF, (fun z hz => by rw [List.mem_singleton.mp hz]; exact emp), (fun z hz => by rw [List.mem_singleton.mp hz]; exact emp.mono (by decide)), Nat.le_refl _, Nat.le_refl _⟩ ?_ ?_
    · rintro i σ H3 hi ⟨la, lay, fnd, v4, v5, v6, rfl, sm, nla, el, ef, hl, hf, cl, cf⟩
      have p5 : (3 : Nat) ^ i ≤ 3 ^ 5 := Nat.pow_le_pow_right (by decide) (by omega)
      have e5 : (3 : Nat) ^ 5 = 243 := by decide
      have p3 : ls.length ^ i ≤ 3 ^ i := Nat.pow_le_pow_left l3 i
      have ps : ls.length ^ (i + 1) = ls.length ^ i * ls.length := Nat.pow_succ ..
      have pc := cntW_le l3 i
      have p6 : (3 : Nat) ^ (i + 1) = 3 ^ i * 3 := Nat.pow_succ ..
      refine ⟨Nat.zero_le _, fun D hD => ?_⟩
      have sD := Same.upd (o := .lst []) hD
      have eD : (upd H3 D (.lst [])) D = some (.lst (([] : List Str).map V.str)) := upd_same
      have nlD : la ≠ D := fun e => by rw [← e, el] at hD; exact nomatch hD
      have nFD : F0 ≠ D := fun e => by rw [← e, ef] at hD; exact nomatch hD
      have hD0 := none_of sm hD
      have sm4 := sm.trans sD
      have el4 := sD _ _ el
      have ef4 := sD _ _ ef
      revert eD sm4 el4 ef4
      generalize upd H3 D (.lst []) = H4
      intro eD sm4 el4 ef4
      refine ⟨_, rfl, la, rfl, ⟨_, SqL.of el4⟩, ?_⟩
      refine for_list (K := K) (a := la) (xs := lay.map V.str) (fun j σ H' => ∃ (lon : List Str) (v6 : Option V), σ = [some (.str ls), some (.int n), some (.ref la), some (.ref F0), some (.int (0 + (i : Nat))), some (.ref D), v6, none] ∧ Same H H' ∧ H' la = some (.lst (lay.map V.str)) ∧ H' F0 = some (.lst (fnd.map V.str)) ∧ H' D = some (.lst (lon.map V.str)) ∧ (∀ z ∈ lon, Shrt (i + 1) z) ∧ lon.length ≤ j * ls.length)
        ⟨[], _, rfl, sm4, el4, ef4, eD, (fun z hz => nomatch hz), Nat.zero_le _⟩ (fun j σ H' _ ⟨_, _, _, _, h, _⟩ => SqL.of h) ?_ ?_
      · rintro j y σ H5 hy ⟨lon, v6, rfl, sm5, el5, ef5, eD5, hlon, clon⟩
        obtain ⟨z, hz, rfl⟩ : ∃ z, lay[j]? = some z ∧ y = V.str z := by
          rw [List.getElem?_map] at hy
          cases e : lay[j]? with
          | none => rw [e] at hy; exact nomatch hy
          | some z => rw [e] at hy; cases hy; exact ⟨z, rfl, rfl⟩
        have hzs := hl z (List.mem_of_getElem? hz)
        have hj : j < lay.length := (List.getElem?_eq_some_iff.mp hz).1
        have hjm : j * ls.length ≤ j * 3 := Nat.mul_le_mul_left _ l3
        have hjs : (j + 1) * ls.length = j * ls.length + ls.length := Nat.succ_mul ..
        refine ⟨_, rfl, .inl ⟨rfl, _, SqL.of eD5⟩, _, rfl, ls, rfl, fun C hC => ?_⟩
        refine lc_it walk_str (fun i2 H' => H' C = some (.lst (((ls.cps.toList.take i2).map fun c => z ++ one c).map V.str)) ∧ Same H5 H') ⟨upd_same, Same.upd hC⟩ (fun _ _ _ _ => trivial) ?_ ?_
        · rintro i2 v H6 H7 hi2 ⟨eC, sm6⟩ ⟨rfl, c, hc, rfl⟩
          have hc2 : ls.cps.toList[i2]? = some c := by rw [Array.getElem?_toList]; exact hc
          refine ⟨rfl, ?_⟩
          dsimp only [tYes]
          refine iteT ?_
          refine ⟨_, rfl, _, rfl, _, _, rfl, rfl, ?_, _, eC, ?_, ?_, keep_put sm6 hC⟩
          · have := hzs.2
            exact Nat.le_trans (by show z.length + 1 ≤ 1000; omega) (by decide)
          · rw [List.length_map, List.length_map, List.length_take]
            exact Nat.lt_of_le_of_lt (Nat.le_trans (Nat.min_le_right _ _) (by omega : _ ≤ 3)) (by decide)
          · rw [upd_same, take_snoc hc2, List.map_append, List.map_append]; rfl
        · rintro H6 ⟨eC, sm6⟩
          have e : ls.cps.toList.take ls.cps.size = ls.cps.toList := List.take_of_length_le (by rw [lcs]; exact Nat.le_refl _)
          rw [e] at eC
          have lC : (ls.cps.toList.map fun c => z ++ one c).length ≤ ls.length := by rw [List.length_map]; omega
          have hC' : ∀ y ∈ ls.cps.toList.map fun c => z ++ one c, Shrt (i + 1) y := fun y hy => by
            obtain ⟨c, hc, rfl⟩ := List.mem_map.mp hy
            exact shrt_add hzs (fun d hd => by rw [show d = c from List.mem_singleton.mp hd]; exact lA c hc) rfl
          revert eC lC hC'
          generalize (ls.cps.toList.map fun c => z ++ one c) = add
          intro eC lC hC'
          refine ⟨D, C, _, _, rfl, rfl, sm6 _ _ eD5, eC, ?_, ?_⟩
          · rw [List.length_map, List.length_map]
            exact Nat.le_trans (by omega : _ ≤ 3000) (by decide)
          · refine ⟨lon ++ add, _, rfl, keep_put (sm5.trans sm6) hD0, by rw [upd_ne nlD]; exact sm6 _ _ el5, by rw [upd_ne nFD]; exact sm6 _ _ ef5, by rw [upd_same, List.map_append], fun y hy => ?_, by rw [List.length_append]; omega⟩
            rcases List.mem_append.mp hy with h | h
            · exact hlon y h
            · exact hC' y h
      · rintro σ H5 ⟨lon, v6, rfl, sm5, el5, ef5, eD5, hlon, clon⟩
        rw [List.length_map] at clon
        have cl2 : lay.length * ls.length ≤ ls.length ^ i * ls.length := Nat.mul_le_mul_right _ cl
        have cl3 : ls.length ^ i * ls.length ≤ 3 ^ i * 3 := Nat.mul_le_mul p3 l3
        refine ⟨_, rfl, .inl ⟨rfl, _, SqL.of ef5⟩, _, rfl, F0, D, _, _, rfl, rfl, ef5, eD5, ?_, ?_⟩
        · rw [List.length_map, List.length_map]
          exact Nat.le_trans (by omega : _ ≤ 3000) (by decide)
        · refine ⟨_, rfl, D, lon, fnd ++ lon, _, _, _, rfl, keep_put sm5 hF0, Ne.symm nFD, by rw [upd_ne (Ne.symm nFD)]; exact eD5, by rw [upd_same, List.map_append], hlon, fun y hy => ?_, by omega, by rw [List.length_append]; show _ ≤ cntW ls.length i + ls.length ^ (i + 1); omega⟩
          rcases List.mem_append.mp hy with h | h
          · exact hf y h
          · exact (hlon y h).mono (by omega)
    · rintro σ H3 ⟨la, lay, fnd, v4, v5, v6, rfl, sm, nla, el, ef, hl, hf, cl, cf⟩
      exact ⟨_, rfl, k _ F0 fnd sm hF0 ef cf hf⟩
end
end K06

set_option Elab.async false
set_option linter.all false
set_option maxRecDepth 100000
set_option maxHeartbeats 2000000
namespace Ami
open PySem PySem.Spec PyProof.Rows L2
/-- an int and a value -/
def AtV (K : PySem.W.Frag) (H : Hp) (v : V) (p : Int × V) : Prop := ∃ q, v = .ref q ∧ SqT K H q [.int p.1, p.2]
theorem AtV.same {K : PySem.W.Frag} {H H' : Hp} (h : Same H H') {v : V} {p : Int × V} : AtV K H v p → AtV K H' v p := fun ⟨q, e, s⟩ => ⟨q, e, sqT_same h s⟩
/-- where the links of a state lead -/
def outsV (ps : List (Int × V)) (x : Int) : List V := (ps.filter fun p => decide (p.1 = x)).map (·.2)
theorem outsV_snoc (ps : List (Int × V)) (q : Int × V) (x : Int) : outsV (ps ++ [q]) x = outsV ps x ++ if q.1 = x then [q.2] else [] := by
  unfold outsV
  rw [List.filter_append, List.map_append]
  by_cases h : q.1 = x
  · rw [if_pos h, List.filter_cons_of_pos (by simpa using h)]; rfl
  · rw [if_neg h, List.filter_cons_of_neg (by simpa using h)]; rfl
/-- the dict of links at d; it and its lists are new since H0 -/
structure LkV (H0 H : Hp) (d : Addr) (ps : List (Int × V)) : Prop where
  old : Same H0 H
  dn : H0 d = none
  ex : ∃ kvs : List (Key × V), H d = some (.dK kvs) ∧ kvs.length ≤ ps.length ∧ (∀ x : Int, valV kvs (.inl x) = none → outsV ps x = []) ∧
    (∀ (x : Int) v, valV kvs (.inl x) = some v → ∃ b, v = .ref b ∧ b ≠ d ∧ H0 b = none ∧ H b = some (.lst (outsV ps x)) ∧ outsV ps x ≠ []) ∧
    ∀ (x y : Int) v, valV kvs (.inl x) = some v → valV kvs (.inl y) = some v → x = y
def spLinksV (K : PySem.W.Frag) : Sp := fun vs H Q _ => ∃ (l : Addr) (us : List V) (ps : List (Int × V)), vs = [.ref l] ∧ H l = some (.lst us) ∧ All2 (AtV K H) us ps ∧ ps.length ≤ 10000 ∧ ∀ H' d, LkV H H' d ps → Q (.ref d) H'
theorem mem_outsV {ps : List (Int × V)} {x : Int} {y : V} : y ∈ outsV ps x ↔ (x, y) ∈ ps := by
  unfold outsV
  rw [List.mem_map]
  constructor
  · rintro ⟨p, hp, rfl⟩
    obtain ⟨h1, h2⟩ := List.mem_filter.mp hp
    have := of_decide_eq_true h2
    subst this
    exact h1
  · intro h
    exact ⟨_, List.mem_filter.mpr ⟨h, decide_eq_true rfl⟩, rfl⟩
theorem outsV_len (ps : List (Int × V)) (x : Int) : (outsV ps x).length ≤ ps.length := by
  unfold outsV; rw [List.length_map]; exact List.length_filter_le _ _
/-- what the dict gives -/
theorem LkV.get {H0 H : Hp} {d : Addr} {ps : List (Int × V)} (L : LkV H0 H d ps) (x : Int) : ∃ o, DGet H d (.int x) o ∧ (o = none → outsV ps x = []) ∧ ∀ v, o = some v → ∃ c, v = .ref c ∧ H c = some (.lst (outsV ps x)) ∧ outsV ps x ≠ [] := by
  obtain ⟨kvs, ek, _, e0, ev, _⟩ := L.ex
  refine ⟨_, DGet.k (k := .inl x) ek, e0 x, fun v h => ?_⟩
  obtain ⟨c, rfl, _, _, hc, ne⟩ := ev x _ h
  exact ⟨c, rfl, hc, ne⟩
theorem LkV.same {H0 H H' : Hp} {d : Addr} {ps : List (Int × V)} (L : LkV H0 H d ps) (s : Same H H') : LkV H0 H' d ps := by
  obtain ⟨kvs, ek, el, e0, ev, ei⟩ := L.ex
  exact ⟨L.old.trans s, L.dn, kvs, s _ _ ek, el, e0, fun x v h => by
    obtain ⟨c, e1, e2, e3, e4, e5⟩ := ev x v h
    exact ⟨c, e1, e2, e3, s _ _ e4, e5⟩, ei⟩
end Ami
namespace K06
open PySem PySem.Spec PyProof.Rows L2 Ami
section
variable {P : Program} {w : World} {K : PySem.W.Frag} {mg : Str → Option Value} {base : Heap}
theorem scLinksV : FnScope ["pairs", "links", "one", "other"] ["pairs"] (defScope sLinks) := ⟨rfl, rfl, rfl, by decide +kernel, rfl, by decide +kernel, by decide +kernel⟩
theorem ok_linksV {f : Addr} {fd : FuncData} (F : Fun K "links_of" "links_of" sLinks f fd) : FnOk P w K mg base CX0 1 f fd ["pairs"] (spLinksV K) := by
  refine F.ok scLinksV (fun vs H Q E h => ?_) (fun cdv A outer s H vs Q E hr h => ?_)
  · obtain ⟨l, us, ps, rfl, _⟩ := h
    rfl
  · obtain ⟨l, us, ps, rfl, hl, hu, hn, k⟩ := h
    refine ⟨_, pss_cons (ps_set (i := 1) scLinksV.nd rfl (Or.inl rfl) pe_dnewK)
      (pss_cons (ps_for PassesOwn.never rfl (pi_list (pv 0)) (pg_tup (by rfl) (pgs_cons (pg_name (i := 2) scLinksV.nd rfl (Or.inl rfl)) (pgs_cons (pg_name (i := 3) scLinksV.nd rfl (Or.inl rfl)) pgs_nil)))
        (pss_one (ps_expr (pe_bm PySem.F.plainAttrs_list PySem.F.slot_list_append PySem.F.type_list_append mt_append (pe_dsetd (pv 1) (pv 2) (pe_lst pa_nil) ⟨by rfl, by rfl, by rfl, by rfl⟩) (pa_cons (pv 3) pa_nil)))))
      (pss_one (ps_ret (pv 1)))), ?_⟩
    refine fun d hd => ?_
    have s0 : Same H (upd H d (.dK [])) := Same.upd hd
    refine ⟨_, rfl, l, rfl, ⟨us, SqL.of (s0 _ _ hl)⟩, ?_⟩
    refine for_list (K := K) (a := l) (xs := us) (fun i σ H' => ∃ v2 v3 : Option V, σ = [some (.ref l), some (.ref d), v2, v3] ∧ LkV H H' d (ps.take i))
      ⟨_, _, rfl, ⟨s0, hd, [], upd_same, Nat.zero_le _, fun x _ => by rw [List.take_zero]; rfl, (fun x v z => nomatch z), fun x y v z => nomatch z⟩⟩ (fun i σ H' _ ⟨_, _, _, lk⟩ => SqL.of (lk.old _ _ hl)) ?_ ?_
    · rintro i x σ H1 hx ⟨v2, v3, rfl, ⟨old, dn, kvs, ek, el, e0, ev, ei⟩⟩
      obtain ⟨q, hq, at1⟩ := hu.at hx
      obtain ⟨p, rfl, hp⟩ := AtV.same old at1
      have etk := take_snoc hq
      have lps : (ps.take i).length ≤ 10000 := Nat.le_trans (List.length_take_le' _ _) hn
      refine ⟨p, _, rfl, hp, rfl, ?_⟩
      refine ⟨_, _, rfl, _, _, rfl, rfl, ?_⟩
      refine ⟨_, rfl, d, rfl, .inl ⟨kvs, .inl ek⟩, _, rfl, Nat.zero_le _, fun b hb => ?_⟩
      have nbd : b ≠ d := fun e => by rw [e, ek] at hb; exact nomatch hb
      have ek2 : upd H1 b (.lst []) d = some (.dK kvs) := by rw [upd_ne (Ne.symm nbd)]; exact ek
      have hb0 : H b = none := by
        cases z : H b with
        | none => rfl
        | some o => rw [old _ _ z] at hb; exact nomatch hb
      refine ⟨kvs, .inl q.1, ek2, rfl, Nat.lt_of_le_of_lt (Nat.le_trans el lps) (by decide), fun v hv => ?_, fun hv => ?_⟩
      · obtain ⟨c, rfl, cd, c0, ec, nec⟩ := ev _ _ hv
        have ncb : c ≠ b := fun e => by rw [e, hb] at ec; exact nomatch ec
        have ec2 : upd H1 b (.lst []) c = some (.lst (outsV (ps.take i) q.1)) := by rw [upd_ne ncb]; exact ec
        refine ⟨.inl ⟨rfl, _, SqL.of ec2⟩, _, rfl, c, _, _, rfl, rfl, ec2, ?_, ?_⟩
        · exact Nat.lt_of_le_of_lt (Nat.le_trans (by unfold outsV; rw [List.length_map]; exact List.length_filter_le _ _) lps) (by decide)
        rw [etk]
        refine ⟨_, _, rfl, ⟨keep_put (old.trans (Same.upd hb)) c0, dn, kvs, by rw [upd_ne (Ne.symm cd)]; exact ek2, by rw [List.length_append]; omega, fun x hx => ?_, fun x v hv' => ?_, ei⟩⟩
        · rw [outsV_snoc, e0 x hx, if_neg fun e => ?_]; rfl
          rw [← e, hv] at hx
          exact nomatch hx
        · obtain ⟨c', rfl, cd', c0', ec', nec'⟩ := ev x _ hv'
          refine ⟨c', rfl, cd', c0', ?_, by rw [outsV_snoc]; intro z; exact nec' (List.append_eq_nil_iff.mp z).1⟩
          rw [outsV_snoc]
          by_cases e : q.1 = x
          · subst e
            rw [hv] at hv'
            cases hv'
            rw [upd_same, if_pos rfl]
          · have ncc : c' ≠ c := fun z => e (ei q.1 x _ hv (by rw [hv', z]))
            have ncb' : c' ≠ b := fun z => by rw [z, hb] at ec'; exact nomatch ec'
            rw [upd_ne ncc, upd_ne ncb', if_neg e, List.append_nil]; exact ec'
      · have hbb : (upd (upd H1 b (.lst [])) d (.dK (putK kvs (.inl q.1) (.ref b)))) b = some (.lst []) := by rw [upd_ne nbd, upd_same]
        refine ⟨.inl ⟨rfl, _, SqL.of hbb⟩, _, rfl, b, _, _, rfl, rfl, hbb, by decide, ?_⟩
        rw [etk]
        have val := valV_put kvs (.inl q.1)
        refine ⟨_, _, rfl, ⟨keep_put (keep_put (old.trans (Same.upd hb)) dn) hb0, dn, putK kvs (.inl q.1) (.ref b), by rw [upd_ne (Ne.symm nbd), upd_same], ?_, fun x hx => ?_, fun x v hv' => ?_, fun x y v h1 h2 => ?_⟩⟩
        · rw [putK_new _ hv, List.length_append, List.length_append]; exact Nat.succ_le_succ el
        · rw [val] at hx
          by_cases e : q.1 = x
          · rw [if_pos (by rw [e])] at hx; exact nomatch hx
          · rw [if_neg (by intro z; exact e (Sum.inl.inj z).symm)] at hx
            rw [outsV_snoc, e0 x hx, if_neg e]; rfl
        · rw [val] at hv'
          rw [outsV_snoc]
          by_cases e : q.1 = x
          · subst e
            rw [if_pos rfl] at hv'
            cases hv'
            refine ⟨b, rfl, nbd, hb0, ?_, by rw [if_pos rfl]; intro z; exact nomatch (List.append_eq_nil_iff.mp z).2⟩
            rw [upd_same, if_pos rfl, e0 _ hv]
          · rw [if_neg (by intro z; exact e (Sum.inl.inj z).symm)] at hv'
            obtain ⟨c', rfl, cd', c0', ec', nec'⟩ := ev x _ hv'
            have ncb' : c' ≠ b := fun z => by rw [z, hb] at ec'; exact nomatch ec'
            refine ⟨c', rfl, cd', c0', ?_, by intro z; exact nec' (List.append_eq_nil_iff.mp z).1⟩
            rw [upd_ne ncb', upd_ne cd', upd_ne ncb', if_neg e, List.append_nil]; exact ec'
        · rw [val] at h1 h2
          have nob : ∀ z, valV kvs (.inl z) ≠ some (.ref b) := fun z hz => by
            obtain ⟨c', e1, _, _, e2, _⟩ := ev z _ hz
            cases e1
            rw [hb] at e2
            exact nomatch e2
          by_cases ex : q.1 = x <;> by_cases ey : q.1 = y
          · rw [← ex, ← ey]
          · rw [if_pos (by rw [ex])] at h1
            rw [if_neg (by intro z; exact ey (Sum.inl.inj z).symm)] at h2
            cases h1
            exact absurd h2 (nob y)
          · rw [if_pos (by rw [ey])] at h2
            rw [if_neg (by intro z; exact ex (Sum.inl.inj z).symm)] at h1
            cases h2
            exact absurd h1 (nob x)
          · rw [if_neg (by intro z; exact ex (Sum.inl.inj z).symm)] at h1
            rw [if_neg (by intro z; exact ey (Sum.inl.inj z).symm)] at h2
            exact ei x y v h1 h2
    · rintro σ H1 ⟨v2, v3, rfl, lk⟩
      rw [List.take_of_length_le (by rw [← hu.len]; exact Nat.le_refl _)] at lk
      exact ⟨_, rfl, k _ d lk⟩
end
end K06

set_option Elab.async false
set_option linter.all false
set_option maxRecDepth 100000
set_option maxHeartbeats 2000000
namespace Ami
open PySem PySem.Spec PyProof.Rows L2
/-- arrows to the border, the others -/
def toB (rs : List Arr) : List Arr := rs.filter fun r => decide (r.t = 0)
def toI (rs : List Arr) : List Arr := rs.filter fun r => decide (r.t ≠ 0)
theorem dec_txt {a b : Str} : decide (V.str a = V.str b) = decide (a = b) := decide_eq_decide.mpr ⟨V.str.inj, fun h => by rw [h]⟩
/-- the arrows on from some states with a letter -/
def goings (rs : List Arr) (hs : List Int) (l : Str) : List Arr := rs.filter fun r => decide (r.s ∈ hs) && decide (r.l = l)
theorem mem_goings {rs : List Arr} {hs : List Int} {l : Str} {r : Arr} : r ∈ goings rs hs l ↔ r ∈ rs ∧ r.s ∈ hs ∧ r.l = l := by
  unfold goings
  rw [List.mem_filter, Bool.and_eq_true, decide_eq_true_eq, decide_eq_true_eq]
theorem goings_snoc (rs : List Arr) (r : Arr) (hs : List Int) (l : Str) : goings (rs ++ [r]) hs l = goings rs hs l ++ if (decide (r.s ∈ hs) && decide (r.l = l)) = true then [r] else [] := by
  unfold goings
  rw [List.filter_append, List.filter_cons]
  split <;> rfl
def spKindsBy (K : PySem.W.Frag) : Sp := fun vs H Q _ => ∃ (t : Addr) (rs : List Arr) (z : Str), vs = [.ref t, .str z] ∧ ArrT K H t rs ∧ rs.length ≤ 40 ∧ z.length ≤ 1000 ∧
  ∀ (H' : Hp) (q : Addr) (ks : List Str), Same H H' → SqT K H' q (ks.map V.str) → KindsOf rs (letts z) ks → ks.length ≤ 40 → Q (.ref q) H'
end Ami
namespace K06
open PySem PySem.Spec PyProof.Rows L2 Ami
section
variable {P : Program} {w : World} {K : PySem.W.Frag} {mg : Str → Option Value} {base : Heap}
abbrev nKBy : List Str := ["_law_links", "_law_row", "_law_here", "_law_found", "_law_sign", "_law_it", "_law_goings"]
theorem scKBy : FnScope nKBy ["_law_links", "_law_row"] (defScope sKindsBy) := ⟨rfl, rfl, rfl, by decide +kernel, rfl, by decide +kernel, by decide +kernel⟩
theorem ok_kby {f : Addr} {fd : FuncData} (F : Fun K "_law_kinds_by" "_law_kinds_by" sKindsBy f fd) (T : Blt mg) : FnOk P w K mg base CX0 1 f fd ["_law_links", "_law_row"] (spKindsBy K) := by
  refine F.ok scKBy (fun vs H Q E h => ?_) (fun cdv A outer s H vs Q E hr h => ?_)
  · obtain ⟨t, rs, z, rfl, _⟩ := h
    rfl
  · obtain ⟨t, rs, z, rfl, ⟨us, ht, hu⟩, hrs, hz, k⟩ := h
    have hun := hr.units
    refine ⟨_, pss_cons (ps_asg (pe_tup (pa_cons (pe_lst (pa_cons pe_int pa_nil)) (pa_cons (pe_lst pa_nil) pa_nil))) (pg_tup (by rfl) (pgs_cons (pg_name (i := 2) scKBy.nd rfl (Or.inr rfl)) (pgs_cons (pg_name (i := 3) scKBy.nd rfl (Or.inl rfl)) pgs_nil))))
      (pss_cons (ps_for PassesOwn.never rfl (pi_str (pv 1)) (pg_name (i := 4) scKBy.nd rfl (Or.inr rfl))
        (pss_cons (ps_setLc (i := 6) (own := [("_law_it", 5)]) (g := gName 5) rfl scKBy.nd rfl rfl (by rfl) (pi_tup (pv 0)) (blkOk_by (own := [("_law_it", 5)]) (N := nKBy) (sc := defScope sKindsBy) (by decide +kernel))
          (fun _ _ _ _ _ => pg_name (i := 5) scKBy.nd rfl (Or.inl rfl))
          (fun _ _ _ _ _ => pts_one (PW.pt (pw_and (pt_cmpR (op_inK (K0 := K) rfl) (pe_ix (ix_seqK (K0 := K) rfl) (pv 5) pe_int (fun _ _ => rfl)) (pv 2) (by rfl)) (pw_and1 (pt_cmpR op_eq (pe_ix (ix_seqK (K0 := K) rfl) (pv 5) pe_int (fun _ _ => rfl)) (pv 4) (nomark _))))))
          (fun _ _ _ _ _ => pv 5))
        (pss_cons (ps_set (i := 3) scKBy.nd rfl (Or.inl rfl) (pe_callB (cr_sortedWT rfl) (by rfl) T.sorted (by decide +kernel) (pa_cons (pe_callTy (cr_setTx rfl) (by rfl) T.set (by decide +kernel) (pa_cons
            (pe_lc (own := [("_law_it", 5)]) (g := gName 5) rfl scKBy.nd (pi_list (pv 6)) (blkOk_by (own := [("_law_it", 5)]) (N := nKBy) (sc := defScope sKindsBy) (by decide +kernel)) (fun _ _ _ _ _ => pg_name (i := 5) scKBy.nd rfl (Or.inl rfl))
              (fun _ _ _ _ _ => pts_one (pt_cmpR op_eq (pe_ix (ix_seqK (K0 := K) rfl) (pv 5) pe_int (fun _ _ => rfl)) pe_int (nomark _))) (fun _ _ _ _ _ => pe_ix (ix_seqK (K0 := K) rfl) (pv 5) pe_int (fun _ _ => rfl))) pa_nil)) pa_nil)))
        (pss_one (ps_set (i := 2) scKBy.nd rfl (Or.inr rfl) (pe_callB (cr_sortedWI (w0 := w) rfl rfl) (by rfl) T.sorted (by decide +kernel) (pa_cons (pe_callTy (cr_setIL (K0 := K) (w0 := w) rfl rfl rfl) (by rfl) T.set (by decide +kernel) (pa_cons
            (pe_lc (own := [("_law_it", 5)]) (g := gName 5) rfl scKBy.nd (pi_list (pv 6)) (blkOk_by (own := [("_law_it", 5)]) (N := nKBy) (sc := defScope sKindsBy) (by decide +kernel)) (fun _ _ _ _ _ => pg_name (i := 5) scKBy.nd rfl (Or.inl rfl))
              (fun _ _ _ _ _ => pts_one (pt_cmpR op_ne (pe_ix (ix_seqK (K0 := K) rfl) (pv 5) pe_int (fun _ _ => rfl)) pe_int (nomark _))) (fun _ _ _ _ _ => pe_ix (ix_seqK (K0 := K) rfl) (pv 5) pe_int (fun _ _ => rfl))) pa_nil)) pa_nil)))))))
      (pss_one (ps_ret (pe_callTy call_tuple_of (by rfl) T.tuple (by decide +kernel) (pa_cons (pv 3) pa_nil))))), ?_⟩
    have lz : (letts z).length = z.length := letts_length z
    refine ⟨(by show 1 ≤ sizeLine; decide), fun p hp => ⟨Nat.zero_le _, fun q hq => ⟨(by show 2 ≤ sizeLine; decide), fun t2 ht2 => ?_⟩⟩⟩
    have s1 := Same.upd (o := .lst [V.int 0]) hp
    have s2 := Same.upd (o := .lst []) hq
    have s3 := Same.upd (o := .tup [V.ref p, V.ref q]) ht2
    refine ⟨t2, _, rfl, SqT.of upd_same, rfl, ?_⟩
    refine ⟨_, _, rfl, _, _, rfl, rfl, ?_⟩
    have ep := s3 _ _ (s2 _ _ (upd_same (H := H) (a := p) (o := HO.lst [V.int 0])))
    have eq1 := s3 _ _ (upd_same (H := upd H p (.lst [V.int 0])) (a := q) (o := HO.lst []))
    have s03 := (s1.trans s2).trans s3
    revert ep eq1 s03
    generalize upd (upd (upd H p (.lst [V.int 0])) q (.lst [])) t2 (.tup [V.ref p, V.ref q]) = H2
    intro ep eq1 s03
    refine ⟨_, rfl, z, rfl, ?_⟩
    refine for_it walk_str (fun i σ H' => ∃ (p q : Addr) (hs : List Int) (ks : List Str) (v4 v6 : Option V), σ = [some (.ref t), some (.str z), some (.ref p), some (.ref q), v4, none, v6] ∧ Same H H' ∧ H' p = some (.lst (hs.map V.int)) ∧ H' q = some (.lst (ks.map V.str)) ∧ hs.length ≤ 40 ∧ ks.length ≤ 40 ∧
      (∀ x, x ∈ hs ↔ Go rs 0 ((letts z).take i) x) ∧ KindsOf rs ((letts z).take i) ks) ⟨p, q, [0], [], none, none, rfl, s03, ep, eq1, (by decide), Nat.zero_le _, fun x => ?_, .nil, List.nodup_nil, fun k => ?_⟩ (fun _ _ _ _ _ => trivial) ?_ ?_
    · rw [List.take_zero, List.mem_singleton]
      exact ⟨fun h => h.symm, fun h => Eq.symm h⟩
    · rw [List.take_zero]
      exact ⟨(fun h => nomatch h), fun h => h.elim⟩
    · rintro i x σ H3 H4 hi ⟨p, q, hs, ks, v4, v6, rfl, sm, hp, hq, lh, lk, hx, hk⟩ ⟨rfl, c0, hc, rfl⟩
      have hc2 : (letts z)[i]? = some (one c0) := by
        unfold letts
        rw [List.getElem?_map, Array.getElem?_toList, hc]; rfl
      have etk := take_snoc hc2
      -- the goings
      refine ⟨_, rfl, t, rfl, ⟨us, sqT_same sm ht⟩, fun C hC => ?_⟩
      refine lc_tup (K := K) (a := t) (xs := us) (fun i H' => ∃ ys, H' C = some (.lst ys) ∧ All2 (AtA K H) ys (goings (rs.take i) hs (one c0)) ∧ Same H4 H') ⟨[], upd_same, (by rw [List.take_zero]; exact .nil), Same.upd hC⟩ (fun i H' _ ⟨_, _, _, sm'⟩ => sqT_same (sm.trans sm') ht) ?_ ?_
      · rintro j v H5 hv ⟨ys, eC, hys, sm'⟩
        obtain ⟨r, hr', at1⟩ := hu.at hv
        obtain ⟨a, rfl, ha⟩ := AtA.same (sm.trans sm') at1
        have hp5 := sm' _ _ hp
        refine ⟨rfl, ?_⟩
        refine and_two (a := decide (r.s ∈ hs)) (b := decide (r.l = one c0)) (fun Q' h => ⟨_, rfl, .inr (.inl ⟨a, _, ((0 : Nat) : Int), _, rfl, rfl, ha, atI_nat (j := 0) rfl, _, rfl, p, _, rfl, .inl (SqL.of hp5), rfl, flat_ints _, _, rfl, by rw [inV_ints]; exact h⟩)⟩)
          (fun Q' h => ⟨_, rfl, .inr (.inl ⟨a, _, ((1 : Nat) : Int), _, rfl, rfl, ha, atI_nat (j := 1) rfl, _, rfl, rfl, _, rfl, by rw [dec_txt]; exact h⟩)⟩) ?_
        rw [take_snoc hr', goings_snoc]
        cases hb : decide (r.s ∈ hs) && decide (r.l = one c0) with
        | true =>
          refine iteT ?_
          refine ⟨_, rfl, _, eC, ?_, ys ++ [.ref a], upd_same, hys.app (.cons at1 .nil), keep_put sm' hC⟩
          rw [hys.len]
          exact Nat.lt_of_le_of_lt (Nat.le_trans (List.length_filter_le _ _) (Nat.le_trans (List.length_take_le' _ _) hrs)) (by decide)
        | false =>
          refine iteF ⟨ys, eC, ?_, sm'⟩
          rw [if_neg (by decide), List.append_nil]
          exact hys
      rintro H5 ⟨gs, eC, hgs, s5⟩
      rw [List.take_of_length_le (by rw [← hu.len]; exact Nat.le_refl _)] at hgs
      have lgs : (goings rs hs (one c0)).length ≤ 40 := Nat.le_trans (List.length_filter_le _ _) hrs
      have mg : ∀ r, r ∈ goings rs hs (one c0) ↔ r ∈ rs ∧ Go rs 0 ((letts z).take i) r.s ∧ r.l = one c0 := fun r => by rw [mem_goings, hx]
      revert hgs lgs mg
      generalize goings rs hs (one c0) = G
      intro hgs lgs mg
      have s05 := sm.trans s5
      -- the kinds
      refine ⟨_, rfl, C, rfl, ⟨gs, SqL.of eC⟩, fun D hD => ?_⟩
      refine lc_list (K := K) (a := C) (xs := gs) (fun i H' => H' D = some (.lst (((toB (G.take i)).map (·.k)).map V.str)) ∧ Same H5 H') ⟨upd_same, Same.upd hD⟩ (fun i H' _ ⟨_, sm'⟩ => SqL.of (sm' _ _ eC)) ?_ ?_
      · rintro j v H6 hv ⟨eD, sm'⟩
        obtain ⟨r, hr', at1⟩ := hgs.at hv
        obtain ⟨a, rfl, ha⟩ := AtA.same (s05.trans sm') at1
        refine ⟨rfl, ?_⟩
        refine ⟨_, rfl, .inr (.inl ⟨a, _, ((2 : Nat) : Int), _, rfl, rfl, ha, atI_nat (j := 2) rfl, rfl, _, rfl, ?_⟩)⟩
        rw [show decide (V.int r.t = V.int 0) = decide (r.t = 0) from decide_eq_decide.mpr ⟨V.int.inj, fun h => by rw [h]⟩, take_snoc hr']
        unfold toB at eD ⊢
        rw [List.filter_append]
        by_cases h0 : r.t = 0
        · rw [decide_eq_true h0]
          refine iteT ?_
          refine ⟨_, rfl, .inr (.inl ⟨a, _, ((3 : Nat) : Int), _, rfl, rfl, ha, atI_nat (j := 3) rfl, ?_⟩)⟩
          refine ⟨_, eD, ?_, ?_, keep_put sm' hD⟩
          · rw [List.length_map, List.length_map]
            exact Nat.lt_of_le_of_lt (Nat.le_trans (List.length_filter_le _ _) (Nat.le_trans (List.length_take_le' _ _) lgs)) (by decide)
          · rw [upd_same, List.filter_cons_of_pos (by simpa using h0), List.map_append, List.map_append]; rfl
        · rw [decide_eq_false h0]
          refine iteF ⟨?_, sm'⟩
          rw [List.filter_cons_of_neg (by simpa using h0), List.filter_nil, List.append_nil]
          exact eD
      rintro H6 ⟨eD, s6⟩
      rw [List.take_of_length_le (by rw [hgs.len]; exact Nat.le_refl _)] at eD
      have lB : ((toB G).map (·.k)).length ≤ 40 := by
        rw [List.length_map]
        exact Nat.le_trans (List.length_filter_le _ _) lgs
      refine ⟨D, _, rfl, .inl (SqL.of eD), Nat.lt_of_le_of_lt lB (by decide), fun p1 l1 hp1 nd1 m1 => ?_⟩
      have sa := Same.upd (o := SW w p1 (l1.map Sum.inr)) hp1
      refine ⟨p1, l1, rfl, upd_same, fun ys q1 pm1 up1 hq1 => ?_⟩
      have sb := Same.upd (o := .lst (ys.map V.str)) hq1
      have ey : (upd (upd H6 p1 (SW w p1 (l1.map Sum.inr))) q1 (.lst (ys.map V.str))) q1 = some (.lst (ys.map V.str)) := upd_same
      have s57 := s6.trans (sa.trans sb)
      have eC7 := s57 _ _ eC
      have s07 := s05.trans s57
      have lys : ys.length ≤ 40 := by
        rw [pm1.length_eq]
        exact Nat.le_trans (nodup_sub nd1 fun x hx => (m1 x).mp hx) lB
      have kys : KindsOf rs ((letts z).take (i + 1)) ys := by
        refine ⟨up1, pm1.nodup_iff.mpr nd1, fun kd => ?_⟩
        rw [pm1.mem_iff, m1, etk, reads_snoc, List.mem_map]
        constructor
        · rintro ⟨r, hr', e⟩
          obtain ⟨h1, h2⟩ := List.mem_filter.mp hr'
          obtain ⟨h3, h4, h5⟩ := (mg r).mp h1
          exact ⟨r.s, h4, r, h3, rfl, h5, of_decide_eq_true h2, e⟩
        · rintro ⟨y, hy, r, h1, h2, h3, h4, h5⟩
          exact ⟨r, List.mem_filter.mpr ⟨(mg r).mpr ⟨h1, h2 ▸ hy, h3⟩, decide_eq_true h4⟩, h5⟩
      -- the states
      refine ⟨_, rfl, C, rfl, ⟨gs, SqL.of eC7⟩, fun D2 hD2 => ?_⟩
      refine lc_list (K := K) (a := C) (xs := gs) (fun i H' => H' D2 = some (.lst (((toI (G.take i)).map (·.t)).map V.int)) ∧ Same _ H') ⟨upd_same, Same.upd hD2⟩ (fun i H' _ ⟨_, sm'⟩ => SqL.of (sm' _ _ eC7)) ?_ ?_
      · rintro j v H8 hv ⟨eD2, sm'⟩
        obtain ⟨r, hr', at1⟩ := hgs.at hv
        obtain ⟨a, rfl, ha⟩ := AtA.same (s07.trans sm') at1
        refine ⟨rfl, ?_⟩
        refine ⟨_, rfl, .inr (.inl ⟨a, _, ((2 : Nat) : Int), _, rfl, rfl, ha, atI_nat (j := 2) rfl, rfl, _, rfl, ?_⟩)⟩
        rw [show decide (V.int r.t = V.int 0) = decide (r.t = 0) from decide_eq_decide.mpr ⟨V.int.inj, fun h => by rw [h]⟩, take_snoc hr']
        unfold toI at eD2 ⊢
        rw [List.filter_append]
        by_cases h0 : r.t = 0
        · rw [decide_eq_true h0]
          refine iteF ⟨?_, sm'⟩
          rw [List.filter_cons_of_neg (by simpa using h0), List.filter_nil, List.append_nil]
          exact eD2
        · rw [decide_eq_false h0]
          refine iteT ?_
          refine ⟨_, rfl, .inr (.inl ⟨a, _, ((2 : Nat) : Int), _, rfl, rfl, ha, atI_nat (j := 2) rfl, ?_⟩)⟩
          refine ⟨_, eD2, ?_, ?_, keep_put sm' hD2⟩
          · rw [List.length_map, List.length_map]
            exact Nat.lt_of_le_of_lt (Nat.le_trans (List.length_filter_le _ _) (Nat.le_trans (List.length_take_le' _ _) lgs)) (by decide)
          · rw [upd_same, List.filter_cons_of_pos (by simpa using h0), List.map_append, List.map_append]; rfl
      rintro H8 ⟨eD2, s8⟩
      rw [List.take_of_length_le (by rw [hgs.len]; exact Nat.le_refl _)] at eD2
      have lI : ((toI G).map (·.t)).length ≤ 40 := by
        rw [List.length_map]
        exact Nat.le_trans (List.length_filter_le _ _) lgs
      refine ⟨D2, _, rfl, SqL.of eD2, Nat.lt_of_le_of_lt lI (by decide), fun p2 l2 hp2 nd2 m2 => ?_⟩
      have sc := Same.upd (o := SW w p2 (l2.map Sum.inl)) hp2
      have ll2 : l2.length ≤ 40 := Nat.le_trans (nodup_sub nd2 fun x hx => (m2 x).mp hx) lI
      refine ⟨p2, l2, rfl, upd_same, by omega, fun xs q2 pm2 up2 hq2 => ?_⟩
      have sd := Same.upd (o := .lst (xs.map V.int)) hq2
      have s79 := s8.trans (sc.trans sd)
      refine ⟨q2, q1, xs, ys, _, _, rfl, s07.trans s79, upd_same, s79 _ _ ey, by rw [pm2.length_eq]; exact ll2, lys, fun x => ?_, kys⟩
      rw [pm2.mem_iff, m2, etk, go_snoc, List.mem_map]
      constructor
      · rintro ⟨r, hr', e⟩
        obtain ⟨h1, h2⟩ := List.mem_filter.mp hr'
        obtain ⟨h3, h4, h5⟩ := (mg r).mp h1
        exact ⟨r.s, h4, r, h3, rfl, h5, of_decide_eq_true h2, e⟩
      · rintro ⟨y, hy, r, h1, h2, h3, h4, h5⟩
        exact ⟨r, List.mem_filter.mpr ⟨(mg r).mpr ⟨h1, h2 ▸ hy, h3⟩, decide_eq_true h4⟩, h5⟩
    · rintro σ H3 ⟨p, q, hs, ks, v4, v6, rfl, sm, hp, hq, lh, lk, hx, hk⟩
      have e : (letts z).take z.cps.size = letts z := List.take_of_length_le (by rw [lz]; exact Nat.le_refl _)
      rw [e] at hk
      refine ⟨_, rfl, q, _, rfl, .inl ⟨SqL.of hq, fun T' hT => ?_⟩⟩
      exact k _ T' ks (sm.trans (Same.upd hT)) (SqT.of upd_same) hk lk
end
end K06

set_option Elab.async false
set_option linter.all false
set_option maxRecDepth 100000
set_option maxHeartbeats 2000000
namespace Ami
open PySem PySem.Spec PyProof.Rows L2
/-- a state beside n others: the border stays -/
def mvS (n : Nat) (x : Int) : Int := if x = 0 then 0 else x + n - 1
def mvA (n : Nat) (r : Arr) : Arr := ⟨mvS n r.s, r.l, mvS n r.t, r.k⟩
def spBeside (K : PySem.W.Frag) : Sp := fun vs H Q _ => ∃ (n : Nat) (t : Addr) (rs : List Arr), vs = [.int n, .ref t] ∧ ArrT K H t rs ∧ rs.length ≤ 1000 ∧
  ∀ (H' : Hp) (l : Addr) (us : List V), Same H H' → H l = none → H' l = some (.lst us) → All2 (AtA K H') us (rs.map (mvA n)) → Q (.ref l) H'
end Ami
namespace K06
open PySem PySem.Spec PyProof.Rows L2 Ami
section
variable {P : Program} {w : World} {K : PySem.W.Frag} {mg : Str → Option Value} {base : Heap}
abbrev nBeside : List Str := ["states", "arrows", "moved", "source", "letter", "target", "kind", "new_source", "new_target"]
theorem scBeside : FnScope nBeside ["states", "arrows"] (defScope sBeside) := ⟨rfl, rfl, rfl, by decide +kernel, rfl, by decide +kernel, by decide +kernel⟩
theorem mv_if {x : Int} {n i : Nat} {σ : L2.St} {Q : VK} {H : Hp} (h3 : σ[i]? = some (some (.int x))) (h0 : σ[0]? = some (some (.int n))) (h : Q (.int (mvS n x)) H) :
    if (!decide (V.int x = V.int 0)) = true then tOp (rI0 fun i j => V.int (i - j)) (tOp (rI0 fun i j => V.int (i + j)) (tVar i) (tVar 0)) (tC (V.int 1)) σ H Q else tC (V.int 0) σ H Q := by
  unfold mvS at h
  by_cases e : x = 0
  · rw [if_pos e] at h
    rw [if_neg (by rw [e]; decide)]
    exact h
  · rw [if_neg e] at h
    rw [if_pos (by rw [decide_eq_false fun z => e (V.int.inj z)]; rfl)]
    exact ⟨_, h3, _, h0, x, n, rfl, rfl, x + n, 1, rfl, rfl, h⟩
theorem ok_beside {f : Addr} {fd : FuncData} (F : Fun K "arrows_beside" "arrows_beside" sBeside f fd) : FnOk P w K mg base CX0 1 f fd ["states", "arrows"] (spBeside K) := by
  refine F.ok scBeside (fun vs H Q E h => ?_) (fun cdv A outer s H vs Q E hr h => ?_)
  · obtain ⟨n, t, rs, rfl, _⟩ := h
    rfl
  · obtain ⟨n, t, rs, rfl, ⟨us, ht, hu⟩, hn, k⟩ := h
    refine ⟨_, pss_cons (ps_set (i := 2) scBeside.nd rfl (Or.inl rfl) (pe_lst pa_nil))
      (pss_cons (ps_for PassesOwn.never rfl (pi_tup (pv 1)) (pg_tup (by rfl) (pgs_cons (pg_name (i := 3) scBeside.nd rfl (Or.inl rfl)) (pgs_cons (pg_name (i := 4) scBeside.nd rfl (Or.inl rfl)) (pgs_cons (pg_name (i := 5) scBeside.nd rfl (Or.inl rfl)) (pgs_cons (pg_name (i := 6) scBeside.nd rfl (Or.inl rfl)) pgs_nil)))))
        (pss_cons (ps_set (i := 7) scBeside.nd rfl (Or.inl rfl) (pe_ifExp (pt_cmpR op_ne (pv 3) pe_int (nomark _)) (pe_op op_sub (pe_op op_add (pv 3) (pv 0)) pe_int) pe_int))
        (pss_cons (ps_set (i := 8) scBeside.nd rfl (Or.inl rfl) (pe_ifExp (pt_cmpR op_ne (pv 5) pe_int (nomark _)) (pe_op op_sub (pe_op op_add (pv 5) (pv 0)) pe_int) pe_int))
        (pss_one (ps_expr (pe_bm PySem.F.plainAttrs_list PySem.F.slot_list_append PySem.F.type_list_append mt_append (pv 2) (pa_cons (pe_tup (pa_cons (pv 7) (pa_cons (pv 4) (pa_cons (pv 8) (pa_cons (pv 6) pa_nil))))) pa_nil)))))))
      (pss_one (ps_ret (pv 2)))), ?_⟩
    refine ⟨Nat.zero_le _, fun d hd => ?_⟩
    have s0 : Same H (upd H d (.lst [])) := Same.upd hd
    refine ⟨_, rfl, t, rfl, ⟨us, sqT_same s0 ht⟩, ?_⟩
    refine for_tup (K := K) (a := t) (xs := us) (fun i σ H' => ∃ (v3 v4 v5 v6 v7 v8 : Option V) (ys : List V), σ = [some (.int n), some (.ref t), some (.ref d), v3, v4, v5, v6, v7, v8] ∧ Same H H' ∧ H' d = some (.lst ys) ∧ All2 (AtA K H') ys ((rs.take i).map (mvA n)))
      ⟨_, _, _, _, _, _, [], rfl, s0, upd_same, (by rw [List.take_zero]; exact .nil)⟩ (fun i σ H' _ ⟨_, _, _, _, _, _, _, _, sm, _⟩ => sqT_same sm ht) ?_ ?_
    · rintro i x σ H1 hx ⟨v3, v4, v5, v6, v7, v8, ys, rfl, sm, ed, hys⟩
      obtain ⟨r, hr', at1⟩ := hu.at hx
      obtain ⟨p, rfl, hp⟩ := AtA.same sm at1
      refine ⟨p, _, rfl, hp, rfl, ?_⟩
      refine ⟨_, _, rfl, _, _, rfl, _, _, rfl, _, _, rfl, rfl, ?_⟩
      refine ⟨_, rfl, rfl, _, rfl, ?_⟩
      refine mv_if (i := 3) rfl rfl ?_
      refine ⟨_, rfl, rfl, _, rfl, ?_⟩
      refine mv_if (i := 5) rfl rfl ?_
      refine ⟨_, rfl, .inl ⟨rfl, _, SqL.of ed⟩, _, rfl, _, rfl, _, rfl, _, rfl, (by show 4 ≤ sizeLine; decide), fun q hq => ?_⟩
      have sq := Same.upd (o := .tup (mvA n r).vs) hq
      have ed1 := sq _ _ ed
      have hd1 : H d = none := hd
      refine ⟨d, ys, _, rfl, rfl, ed1, ?_, ?_⟩
      · rw [hys.len, List.length_map]
        exact Nat.lt_of_le_of_lt (Nat.le_trans (List.length_take_le' _ _) hn) (by decide)
      · refine ⟨_, _, _, _, _, _, ys ++ [.ref q], rfl, keep_put (sm.trans sq) hd, upd_same, ?_⟩
        have st : ∀ a xs, SqT K H1 a xs → SqT K (upd (upd H1 q (.tup (mvA n r).vs)) d (.lst (ys ++ [V.ref q]))) a xs := fun a xs h => sqT_put ed1 (sqT_same sq h)
        rw [take_snoc hr', List.map_append]
        exact (hys.imp fun _ _ h => AtA.to st h).app (.cons ⟨q, rfl, sqT_put ed1 (SqT.of upd_same)⟩ .nil)
    · rintro σ H1 ⟨v3, v4, v5, v6, v7, v8, ys, rfl, sm, ed, hys⟩
      rw [List.take_of_length_le (by rw [← hu.len]; exact Nat.le_refl _)] at hys
      exact ⟨_, rfl, k _ d ys sm hd ed hys⟩
end
end K06

set_option Elab.async false
set_option linter.all false
set_option maxRecDepth 100000
set_option maxHeartbeats 2000000
namespace Ami
open PySem PySem.Spec PyProof.Rows L2
theorem Rch.via {ps qs : List (Int × Int)} (φ : Int → Int) (h0 : φ 0 = 0) (h : ∀ p ∈ ps, (φ p.1, φ p.2) ∈ qs) {x : Int} (r : Rch ps x) : Rch qs (φ x) := by
  induction r with
  | one m =>
    have := h _ m
    rw [h0] at this
    exact .one this
  | step _ m ih => exact .step ih (h _ m)
theorem mvS_pos {n : Nat} {x : Int} (hx : 0 < x) : mvS n x = x + n - 1 := by
  unfold mvS
  rw [if_neg (by omega)]
theorem mvS_zero {n : Nat} : mvS n 0 = 0 := rfl
theorem mvS_nz {n : Nat} (hn : 1 ≤ n) {x : Int} (hx : 0 ≤ x) : mvS n x = 0 ↔ x = 0 := by
  unfold mvS
  by_cases h : x = 0
  · rw [if_pos h]; exact ⟨fun _ => h, fun _ => rfl⟩
  · rw [if_neg h]
    constructor
    · intro e; omega
    · intro e; exact absurd e h
/-- one format beside another -/
structure Beside (R rs1 rs2 : List Arr) (n : Nat) : Prop where
  mem : ∀ r, r ∈ R ↔ r ∈ rs1 ∨ ∃ q ∈ rs2, r = mvA n q
  n1 : 1 ≤ n
  b1 : ∀ r ∈ rs1, 0 ≤ r.s ∧ r.s < n ∧ 0 ≤ r.t ∧ r.t < n
  b2 : ∀ r ∈ rs2, 0 ≤ r.s ∧ 0 ≤ r.t
section
variable {R rs1 rs2 : List Arr} {n : Nat}
theorem Beside.src1 (B : Beside R rs1 rs2 n) {r : Arr} (h : r ∈ R) (h1 : 0 < r.s) (h2 : r.s < n) : r ∈ rs1 := by
  rcases (B.mem r).mp h with h | ⟨q, hq, rfl⟩
  · exact h
  · have h1 : 0 < mvS n q.s := h1
    have h2 : mvS n q.s < n := h2
    have hb := (B.b2 q hq).1
    unfold mvS at h1 h2
    by_cases e : q.s = 0
    · rw [if_pos e] at h1; omega
    · rw [if_neg e] at h2; omega
theorem Beside.src2 (B : Beside R rs1 rs2 n) {r : Arr} {y : Int} (h : r ∈ R) (h1 : r.s = y + n - 1) (h2 : 0 < y) : ∃ q ∈ rs2, r = mvA n q ∧ q.s = y := by
  rcases (B.mem r).mp h with h | ⟨q, hq, rfl⟩
  · have := B.b1 r h
    omega
  · refine ⟨q, hq, rfl, ?_⟩
    have h1 : mvS n q.s = y + n - 1 := h1
    have hn := B.n1
    unfold mvS at h1
    by_cases e : q.s = 0
    · rw [if_pos e] at h1; omega
    · rw [if_neg e] at h1; omega
theorem Beside.reads1 (B : Beside R rs1 rs2 n) {k : Str} : ∀ {z : List Str} {x : Int}, 0 < x → x < n → (Reads R x z k ↔ Reads rs1 x z k)
  | [], _, _, _ => Iff.rfl
  | [l], x, h1, h2 => by
    constructor
    · rintro ⟨r, hr, a, b, c, d⟩
      exact ⟨r, B.src1 hr (a ▸ h1) (a ▸ h2), a, b, c, d⟩
    · rintro ⟨r, hr, a, b, c, d⟩
      exact ⟨r, (B.mem r).mpr (.inl hr), a, b, c, d⟩
  | l :: l' :: ls, x, h1, h2 => by
    constructor
    · rintro ⟨r, hr, a, b, c, d⟩
      have hr1 := B.src1 hr (a ▸ h1) (a ▸ h2)
      have hb := B.b1 r hr1
      exact ⟨r, hr1, a, b, c, (B.reads1 (z := l' :: ls) (by omega) (by omega)).mp d⟩
    · rintro ⟨r, hr1, a, b, c, d⟩
      have hb := B.b1 r hr1
      exact ⟨r, (B.mem r).mpr (.inl hr1), a, b, c, (B.reads1 (z := l' :: ls) (by omega) (by omega)).mpr d⟩
theorem Beside.reads2 (B : Beside R rs1 rs2 n) {k : Str} : ∀ {z : List Str} {y : Int}, 0 < y → (Reads R (y + n - 1) z k ↔ Reads rs2 y z k)
  | [], _, _ => Iff.rfl
  | [l], y, h1 => by
    constructor
    · rintro ⟨r, hr, a, b, c, d⟩
      obtain ⟨q, hq, rfl, e⟩ := B.src2 hr a h1
      exact ⟨q, hq, e, b, (mvS_nz B.n1 (B.b2 q hq).2).mp c, d⟩
    · rintro ⟨q, hq, a, b, c, d⟩
      refine ⟨mvA n q, (B.mem _).mpr (.inr ⟨q, hq, rfl⟩), ?_, b, ?_, d⟩
      · show mvS n q.s = _
        rw [a, mvS_pos h1]
      · show mvS n q.t = 0
        rw [c]; rfl
  | l :: l' :: ls, y, h1 => by
    constructor
    · rintro ⟨r, hr, a, b, c, d⟩
      obtain ⟨q, hq, rfl, e⟩ := B.src2 hr a h1
      have hb := (B.b2 q hq).2
      have c : ¬ mvS n q.t = 0 := c
      rw [mvS_nz B.n1 hb] at c
      have d : Reads R (mvS n q.t) (l' :: ls) k := d
      rw [mvS_pos (by omega)] at d
      exact ⟨q, hq, e, b, c, (B.reads2 (z := l' :: ls) (by omega)).mp d⟩
    · rintro ⟨q, hq, a, b, c, d⟩
      have hb := (B.b2 q hq).2
      refine ⟨mvA n q, (B.mem _).mpr (.inr ⟨q, hq, rfl⟩), ?_, b, ?_, ?_⟩
      · show mvS n q.s = _
        rw [a, mvS_pos h1]
      · show mvS n q.t ≠ 0
        rw [Ne, mvS_nz B.n1 hb]
        exact c
      · show Reads R (mvS n q.t) (l' :: ls) k
        rw [mvS_pos (by omega)]
        exact (B.reads2 (z := l' :: ls) (by omega)).mpr d
/-- the records are those of both -/
theorem Beside.reads (B : Beside R rs1 rs2 n) {k : Str} : ∀ {z : List Str}, Reads R 0 z k ↔ Reads rs1 0 z k ∨ Reads rs2 0 z k
  | [] => ⟨fun h => h.elim, fun h => h.elim id id⟩
  | [l] => by
    constructor
    · rintro ⟨r, hr, a, b, c, d⟩
      rcases (B.mem r).mp hr with h | ⟨q, hq, rfl⟩
      · exact .inl ⟨r, h, a, b, c, d⟩
      · exact .inr ⟨q, hq, (mvS_nz B.n1 (B.b2 q hq).1).mp a, b, (mvS_nz B.n1 (B.b2 q hq).2).mp c, d⟩
    · rintro (⟨r, hr, a, b, c, d⟩ | ⟨q, hq, a, b, c, d⟩)
      · exact ⟨r, (B.mem r).mpr (.inl hr), a, b, c, d⟩
      · refine ⟨mvA n q, (B.mem _).mpr (.inr ⟨q, hq, rfl⟩), ?_, b, ?_, d⟩
        · show mvS n q.s = 0
          rw [a]; rfl
        · show mvS n q.t = 0
          rw [c]; rfl
  | l :: l' :: ls => by
    constructor
    · rintro ⟨r, hr, a, b, c, d⟩
      rcases (B.mem r).mp hr with h | ⟨q, hq, rfl⟩
      · have hb := B.b1 r h
        exact .inl ⟨r, h, a, b, c, (B.reads1 (z := l' :: ls) (by omega) (by omega)).mp d⟩
      · have hb := (B.b2 q hq).2
        have c : ¬ mvS n q.t = 0 := c
        rw [mvS_nz B.n1 hb] at c
        have d : Reads R (mvS n q.t) (l' :: ls) k := d
        rw [mvS_pos (by omega)] at d
        exact .inr ⟨q, hq, (mvS_nz B.n1 (B.b2 q hq).1).mp a, b, c, (B.reads2 (z := l' :: ls) (by omega)).mp d⟩
    · rintro (⟨r, hr, a, b, c, d⟩ | ⟨q, hq, a, b, c, d⟩)
      · have hb := B.b1 r hr
        exact ⟨r, (B.mem r).mpr (.inl hr), a, b, c, (B.reads1 (z := l' :: ls) (by omega) (by omega)).mpr d⟩
      · have hb := (B.b2 q hq).2
        refine ⟨mvA n q, (B.mem _).mpr (.inr ⟨q, hq, rfl⟩), ?_, b, ?_, ?_⟩
        · show mvS n q.s = 0
          rw [a]; rfl
        · show mvS n q.t ≠ 0
          rw [Ne, mvS_nz B.n1 hb]
          exact c
        · show Reads R (mvS n q.t) (l' :: ls) k
          rw [mvS_pos (by omega)]
          exact (B.reads2 (z := l' :: ls) (by omega)).mpr d
end
theorem good_b {ls : Str} {n : Nat} {rs : List Arr} (g : Good ls n rs) : ∀ r ∈ rs, 0 ≤ r.s ∧ r.s < n ∧ 0 ≤ r.t ∧ r.t < n := fun r hr => by
  have := (g.arr r hr).1
  unfold arrowB stateB at this
  simp only [Bool.and_eq_true, decide_eq_true_eq] at this
  obtain ⟨⟨⟨h1, h2⟩, _⟩, _⟩ := this
  exact ⟨h1.1, h1.2, h2.1, h2.2⟩
/-- and it is a good format -/
theorem good_beside {ls : Str} {n1 n2 : Nat} {R rs1 rs2 : List Arr} (g1 : Good ls n1 rs1) (g2 : Good ls n2 rs2) (hR : ∀ r, r ∈ R ↔ r ∈ rs1 ∨ ∃ q ∈ rs2, r = mvA n1 q) (up : ascB R = true) (hl : R.length ≤ 10000) : Good ls (n1 + n2 - 1) R := by
  have h1 := g1.n1
  have h2 := g2.n1
  have hne : 0 < R.length := by
    obtain ⟨r, hr⟩ := List.exists_mem_of_length_pos g1.ne
    exact List.length_pos_of_mem ((hR r).mpr (.inl hr))
  refine ⟨g1.lets, g1.plain, by omega, fun r hr => ?_, up, hne, hl, fun i hi => ?_⟩
  · rcases (hR r).mp hr with h | ⟨q, hq, rfl⟩
    · have hb := good_b g1 r h
      obtain ⟨a, b⟩ := g1.arr r h
      refine ⟨?_, b⟩
      unfold arrowB stateB at a ⊢
      simp only [Bool.and_eq_true, decide_eq_true_eq] at a ⊢
      refine ⟨⟨⟨⟨hb.1, by omega⟩, hb.2.2.1, by omega⟩, a.1.2⟩, a.2⟩
    · have hb := good_b g2 q hq
      obtain ⟨a, b⟩ := g2.arr q hq
      have bs : 0 ≤ mvS n1 q.s ∧ mvS n1 q.s < ((n1 + n2 - 1 : Nat) : Int) := by
        unfold mvS; split <;> omega
      have bt : 0 ≤ mvS n1 q.t ∧ mvS n1 q.t < ((n1 + n2 - 1 : Nat) : Int) := by
        unfold mvS; split <;> omega
      have e : (mvA n1 q).t = 0 ↔ q.t = 0 := mvS_nz h1 hb.2.2.1
      refine ⟨?_, b⟩
      unfold arrowB stateB at a ⊢
      simp only [Bool.and_eq_true, decide_eq_true_eq] at a ⊢
      refine ⟨⟨⟨⟨bs.1, bs.2⟩, bt.1, bt.2⟩, a.1.2⟩, ?_⟩
      have a2 := a.2
      by_cases h0 : q.t = 0
      · rw [if_pos h0] at a2
        rw [if_pos (e.mpr h0)]
        exact a2
      · rw [if_neg h0] at a2
        rw [if_neg fun z => h0 (e.mp z)]
        exact a2
  · by_cases hi1 : i < n1
    · obtain ⟨a, b⟩ := g1.busy i hi1
      refine ⟨a.via id rfl fun p hp => ?_, b.via id rfl fun p hp => ?_⟩
      · obtain ⟨r, hr, rfl⟩ := List.mem_map.mp hp
        exact List.mem_map.mpr ⟨r, (hR r).mpr (.inl hr), rfl⟩
      · obtain ⟨r, hr, rfl⟩ := List.mem_map.mp hp
        exact List.mem_map.mpr ⟨r, (hR r).mpr (.inl hr), rfl⟩
    · obtain ⟨a, b⟩ := g2.busy (i + 1 - n1) (by omega)
      have e : mvS n1 ((i + 1 - n1 : Nat) : Int) = (i : Int) := by
        rw [mvS_pos (by omega)]; omega
      rw [← e]
      refine ⟨a.via (mvS n1) rfl fun p hp => ?_, b.via (mvS n1) rfl fun p hp => ?_⟩
      · obtain ⟨r, hr, rfl⟩ := List.mem_map.mp hp
        exact List.mem_map.mpr ⟨mvA n1 r, (hR _).mpr (.inr ⟨r, hr, rfl⟩), rfl⟩
      · obtain ⟨r, hr, rfl⟩ := List.mem_map.mp hp
        exact List.mem_map.mpr ⟨mvA n1 r, (hR _).mpr (.inr ⟨r, hr, rfl⟩), rfl⟩
end Ami

set_option Elab.async false
set_option linter.all false
set_option maxRecDepth 100000
set_option maxHeartbeats 2000000
namespace Ami
open PySem PySem.Spec PyProof.Rows L2
/-- an inner state, and a kind to which it leads -/
inductive Kn (rs : List Arr) : Int → Str → Prop
  | fin {r : Arr} : r ∈ rs → r.s ≠ 0 → r.t = 0 → Kn rs r.s r.k
  | step {r : Arr} {k : Str} : r ∈ rs → r.s ≠ 0 → Kn rs r.t k → Kn rs r.s k
theorem Kn.nz {rs : List Arr} {x : Int} {k : Str} (h : Kn rs x k) : x ≠ 0 := by cases h <;> assumption
theorem Kn.src {rs : List Arr} {x : Int} {k : Str} (h : Kn rs x k) : ∃ r ∈ rs, r.s = x := by
  cases h with
  | fin hr _ _ => exact ⟨_, hr, rfl⟩
  | step hr _ _ => exact ⟨_, hr, rfl⟩
theorem Kn.kind {rs : List Arr} {x : Int} {k : Str} (h : Kn rs x k) : ∃ r ∈ rs, r.t = 0 ∧ r.k = k := by
  induction h with
  | fin hr _ h => exact ⟨_, hr, h, rfl⟩
  | step _ _ _ ih => exact ih
def inn (rs : List Arr) : List Arr := rs.filter fun r => decide (r.s ≠ 0)
def outsA (qs : List Arr) (x : Int) : List (Int × Str) := (qs.filter fun r => decide (r.t = x)).map fun r => (r.s, r.k)
theorem mem_inn {rs : List Arr} {r : Arr} : r ∈ inn rs ↔ r ∈ rs ∧ r.s ≠ 0 := by
  unfold inn
  rw [List.mem_filter, decide_eq_true_eq]
theorem inn_snoc (rs : List Arr) (r : Arr) : inn (rs ++ [r]) = inn rs ++ if r.s ≠ 0 then [r] else [] := by
  unfold inn
  rw [List.filter_append]
  by_cases h : r.s ≠ 0
  · rw [if_pos h, List.filter_cons_of_pos (by simpa using h)]; rfl
  · rw [if_neg h, List.filter_cons_of_neg (by simpa using h)]; rfl
theorem mem_outsA {qs : List Arr} {x : Int} {p : Int × Str} : p ∈ outsA qs x ↔ ∃ r ∈ qs, r.t = x ∧ (r.s, r.k) = p := by
  unfold outsA
  rw [List.mem_map]
  constructor
  · rintro ⟨r, h, e⟩
    obtain ⟨h1, h2⟩ := List.mem_filter.mp h
    exact ⟨r, h1, of_decide_eq_true h2, e⟩
  · rintro ⟨r, h1, h2, e⟩
    exact ⟨r, List.mem_filter.mpr ⟨h1, decide_eq_true h2⟩, e⟩
theorem outsA_len (qs : List Arr) (x : Int) : (outsA qs x).length ≤ qs.length := by
  unfold outsA; rw [List.length_map]; exact List.length_filter_le _ _
/-- a pair of an int and where (state, kind) stand -/
def PrA (K : PySem.W.Frag) (H : Hp) (p : Int × V) (r : Arr) : Prop := p.1 = r.t ∧ AtK K H p.2 (r.s, r.k)
theorem outs_rel {K : PySem.W.Frag} {H : Hp} {x : Int} : ∀ {ps : List (Int × V)} {qs : List Arr}, All2 (PrA K H) ps qs → All2 (AtK K H) (outsV ps x) (outsA qs x)
  | _, _, .nil => .nil
  | _, _, .cons (a := p) (b := r) (as := ps) (bs := qs) h t => by
    have ih := outs_rel (x := x) t
    unfold outsV outsA at ih ⊢
    by_cases e : r.t = x
    · rw [List.filter_cons_of_pos (by simpa [h.1] using e), List.filter_cons_of_pos (by simpa using e)]
      exact .cons h.2 ih
    · rw [List.filter_cons_of_neg (by simpa [h.1] using e), List.filter_cons_of_neg (by simpa using e)]
      exact ih
/-- what is still to be followed -/
def due {α : Type} [DecidableEq α] (f : α → Nat) (U R : List α) : Nat := ((U.filter fun y => decide (y ∉ R)).map f).sum
theorem due_mono {α : Type} [DecidableEq α] (f : α → Nat) (R : List α) (p : α) : ∀ U : List α, due f U (R ++ [p]) ≤ due f U R
  | [] => Nat.le_refl _
  | y :: U => by
    have ih := due_mono f R p U
    unfold due at ih ⊢
    by_cases h1 : y ∈ R
    · rw [List.filter_cons_of_neg (by simp [h1]), List.filter_cons_of_neg (by simp [h1])]
      exact ih
    · by_cases h2 : y = p
      · rw [List.filter_cons_of_neg (by simp [h2]), List.filter_cons_of_pos (by simpa using h1), List.map_cons, List.sum_cons]
        omega
      · rw [List.filter_cons_of_pos (by simp [h1, h2]), List.filter_cons_of_pos (by simpa using h1), List.map_cons, List.map_cons, List.sum_cons, List.sum_cons]
        omega
theorem due_step {α : Type} [DecidableEq α] (f : α → Nat) {R : List α} {p : α} (hp : p ∉ R) : ∀ {U : List α}, p ∈ U → due f U (R ++ [p]) + f p ≤ due f U R
  | y :: U, h => by
    by_cases h2 : y = p
    · subst h2
      have := due_mono f R y U
      unfold due at this ⊢
      rw [List.filter_cons_of_neg (by simp), List.filter_cons_of_pos (by simpa using hp), List.map_cons, List.sum_cons]
      omega
    · have hU : p ∈ U := (List.mem_cons.mp h).resolve_left fun e => h2 e.symm
      have ih := due_step f hp hU
      unfold due at ih ⊢
      by_cases h1 : y ∈ R
      · rw [List.filter_cons_of_neg (by simp [h1]), List.filter_cons_of_neg (by simp [h1])]
        exact ih
      · rw [List.filter_cons_of_pos (by simp [h1, h2]), List.filter_cons_of_pos (by simpa using h1), List.map_cons, List.map_cons, List.sum_cons, List.sum_cons]
        omega
theorem due_le {α : Type} [DecidableEq α] (f : α → Nat) (b : Nat) (h : ∀ a, f a ≤ b) (R : List α) : ∀ U : List α, due f U R ≤ U.length * b
  | [] => Nat.zero_le _
  | y :: U => by
    have ih := due_le f b h R U
    have hy := h y
    unfold due at ih ⊢
    rw [List.length_cons, Nat.succ_mul]
    by_cases h1 : y ∈ R
    · rw [List.filter_cons_of_neg (by simp [h1])]; omega
    · rw [List.filter_cons_of_pos (by simpa using h1), List.map_cons, List.sum_cons]; omega
/-- all pairs there can be -/
def allSK (rs : List Arr) : List (Int × Str) := rs.flatMap fun r => rs.map fun q => (r.s, q.k)
theorem mem_allSK {rs : List Arr} {x : Int} {k : Str} (h : Kn rs x k) : (x, k) ∈ allSK rs := by
  obtain ⟨r, hr, e⟩ := h.src
  obtain ⟨q, hq, _, e2⟩ := h.kind
  exact List.mem_flatMap.mpr ⟨r, hr, List.mem_map.mpr ⟨q, hq, by rw [e, e2]⟩⟩
theorem allSK_len (rs : List Arr) : (allSK rs).length = rs.length * rs.length := by
  unfold allSK
  have : ∀ l : List Arr, (l.flatMap fun r => rs.map fun q => (r.s, q.k)).length = l.length * rs.length := by
    intro l
    induction l with
    | nil => simp
    | cons a l ih => rw [List.flatMap_cons, List.length_append, ih, List.length_map, List.length_cons, Nat.succ_mul]; omega
  exact this rs
/-- the dict of what was found -/
def fKvs (R : List (Int × Str)) : List (List Key × V) := R.map fun p => (wkey p.1 p.2, V.bl true)
theorem fKvs_val (R : List (Int × Str)) (x : Int) (k : Str) : valV (fKvs R) (wkey x k) = if (x, k) ∈ R then some (.bl true) else none := by
  induction R with
  | nil => rfl
  | cons y R ih =>
    by_cases h : y = (x, k)
    · subst h
      rw [if_pos List.mem_cons_self]
      exact valV_pos rfl
    · show valV ((wkey y.1 y.2, V.bl true) :: fKvs R) (wkey x k) = _
      rw [valV_neg (fun z => h (by obtain ⟨a, b⟩ := wkey_inj.mp z; exact Prod.ext a b)), ih]
      by_cases h2 : (x, k) ∈ R
      · rw [if_pos h2, if_pos (List.mem_cons_of_mem _ h2)]
      · rw [if_neg h2, if_neg (by simp [h2, Ne.symm h])]
theorem LkV.getb {H0 H : Hp} {d : Addr} {ps : List (Int × V)} (L : LkV H0 H d ps) (x : Int) {b : Addr} (hb : H b = some (.lst [])) : ∃ o, DGet H d (.int x) o ∧ ∃ c, o.getD (.ref b) = .ref c ∧ H c = some (.lst (outsV ps x)) := by
  obtain ⟨o, g, g0, g1⟩ := L.get x
  refine ⟨o, g, ?_⟩
  cases o with
  | none => exact ⟨b, rfl, by rw [g0 rfl]; exact hb⟩
  | some v =>
    obtain ⟨c, rfl, hc, _⟩ := g1 v rfl
    exact ⟨c, rfl, hc⟩
theorem LkV.isD {H0 H : Hp} {d : Addr} {ps : List (Int × V)} (L : LkV H0 H d ps) : IsD H d := .inl ⟨_, .inl L.ex.choose_spec.1⟩
def unkey : List Key → Int × Str
  | [.inl s, .inr l] => (s, l)
  | _ => (0, Str.empty)
theorem PrA.to {K : PySem.W.Frag} {H H' : Hp} (t : ∀ a xs, SqT K H a xs → SqT K H' a xs) {p : Int × V} {r : Arr} (h : PrA K H p r) : PrA K H' p r := ⟨h.1, h.2.keep t⟩
theorem AtV.to {K : PySem.W.Frag} {H H' : Hp} (t : ∀ a xs, SqT K H a xs → SqT K H' a xs) {v : V} {p : Int × V} : AtV K H v p → AtV K H' v p := fun ⟨q, e, s⟩ => ⟨q, e, t _ _ s⟩
def spAhead (K : PySem.W.Frag) : Sp := fun vs H Q _ => ∃ (t : Addr) (rs : List Arr), vs = [.ref t] ∧ ArrT K H t rs ∧ rs.length ≤ 100 ∧
  ∀ (H' : Hp) (l : Addr) (L : List (Addr × Int × Str)), Same H H' → H l = none → H' l = some (.lst (L.map fun x => V.ref x.1)) → (∀ x ∈ L, H' x.1 = some (.tup [.int x.2.1, .str x.2.2])) → (L.map (·.2)).Nodup → (∀ x k, (x, k) ∈ L.map (·.2) ↔ Kn rs x k) → Q (.ref l) H'
end Ami
namespace K06
open PySem PySem.Spec PyProof.Rows L2 Ami
section
variable {P : Program} {w : World} {K : PySem.W.Frag} {mg : Str → Option Value} {base : Heap}
abbrev nAhead : List Str := ["arrows", "arrow", "back", "found", "todo", "state", "kind", "before", "_"]
theorem scAhead : FnScope nAhead ["arrows"] (defScope sAhead) := ⟨rfl, rfl, rfl, by decide +kernel, rfl, by decide +kernel, by decide +kernel⟩
theorem ok_ahead {f f1 : Addr} {fd fd1 : FuncData} (F : Fun K "kinds_ahead" "kinds_ahead" sAhead f fd) (T : Blt mg) (D1 : DefAt K mg "links_of" sLinks ["pairs"] f1 fd1) : FnOk P w K mg base CX0 2 f fd ["arrows"] (spAhead K) := by
  have G1 : FnOk P w K mg base CX0 1 f1 fd1 ["pairs"] (spLinksV K) := ok_linksV D1.F
  refine F.ok scAhead (fun vs H Q E h => ?_) (fun cdv A outer s H vs Q E hr h => ?_)
  · obtain ⟨t, rs, rfl, _⟩ := h
    rfl
  · obtain ⟨t, rs, rfl, ⟨us, ht, hu⟩, hn, k⟩ := h
    have hu1 := hu_of hr
    have hun := hr.units
    refine ⟨_, pss_cons (ps_set (i := 2) scAhead.nd rfl (Or.inl rfl) (pc D1 G1 hr (pa_cons
        (pe_lc (own := [("arrow", 1)]) (g := gName 1) rfl scAhead.nd (pi_tup (pv 0)) (blkOk_by (own := [("arrow", 1)]) (N := nAhead) (sc := defScope sAhead) (by decide +kernel)) (fun _ _ _ _ _ => pg_name (i := 1) scAhead.nd rfl (Or.inl rfl))
          (fun _ _ _ _ _ => pts_one (pt_cmpR op_ne (pe_ix (ix_seqK (K0 := K) rfl) (pv 1) pe_int (fun _ _ => rfl)) pe_int (nomark _)))
          (fun _ _ _ _ _ => pe_tup (pa_cons (pe_ix (ix_seqK (K0 := K) rfl) (pv 1) pe_int (fun _ _ => rfl)) (pa_cons (pe_tup (pa_cons (pe_ix (ix_seqK (K0 := K) rfl) (pv 1) pe_int (fun _ _ => rfl)) (pa_cons (pe_ix (ix_seqK (K0 := K) rfl) (pv 1) pe_int (fun _ _ => rfl)) pa_nil))) pa_nil)))) pa_nil)))
      (pss_cons (ps_set (i := 3) scAhead.nd rfl (Or.inl rfl) pe_dnewT)
      (pss_cons (ps_set (i := 4) scAhead.nd rfl (Or.inl rfl) (pe_callTy call_list_of (by rfl) T.list (by decide +kernel) (pa_cons (pe_dget2 hu1 (pv 2) pe_int (pe_lst pa_nil) ⟨by rfl, by rfl, by rfl, by rfl⟩) pa_nil)))
      (pss_cons (ps_while PassesOwn.never (pt_truth (pv 4) (fun _ => rfl))
        (pss_cons (ps_asg (pe_bm0 PySem.F.plainAttrs_list PySem.F.slot_list_pop PySem.F.type_list_pop mt_pop (pv 4)) (pg_tup (by rfl) (pgs_cons (pg_name (i := 5) scAhead.nd rfl (Or.inl rfl)) (pgs_cons (pg_name (i := 6) scAhead.nd rfl (Or.inr rfl)) pgs_nil))))
        (pss_one (ps_if (pt_cmp (pc_dnotin hu1 (pe_tup (pa_cons (pv 5) (pa_cons (pv 6) pa_nil))) (pv 3)))
          (pss_cons (ps_dput hu1 (pv 3) (pe_tup (pa_cons (pv 5) (pa_cons (pv 6) pa_nil))) pe_bl rfl)
          (pss_one (ps_expr (pe_bm PySem.F.plainAttrs_list PySem.F.slot_list_extend PySem.F.type_list_extend mt_extend (pv 4) (pa_cons
            (pe_lc (own := [("before", 7), ("_", 8)]) (g := gTup K 2 (gCons (gName 7) (gCons (gName 8) gNil))) (tt := tYes) rfl scAhead.nd (pi_list (pe_dget2 hu1 (pv 2) (pv 5) (pe_lst pa_nil) ⟨by rfl, by rfl, by rfl, by rfl⟩))
              (blkOk_by (own := [("before", 7), ("_", 8)]) (N := nAhead) (sc := defScope sAhead) (by decide +kernel)) (fun _ _ _ _ _ => pg_tup (by rfl) (pgs_cons (pg_name (i := 7) scAhead.nd rfl (Or.inl rfl)) (pgs_cons (pg_name (i := 8) scAhead.nd rfl (Or.inl rfl)) pgs_nil))) (fun _ _ _ _ _ => pts_nil)
              (fun _ _ _ _ _ => pe_tup (pa_cons (pv 7) (pa_cons (pv 6) pa_nil)))) pa_nil))))) pss_nil))))
      (pss_one (ps_ret (pe_callB (cr_sortDT rfl hun) (by rfl) T.sorted (by decide +kernel) (pa_cons (pv 3) pa_nil))))))), ?_⟩
    -- the links back
    refine ⟨_, rfl, t, rfl, ⟨us, ht⟩, fun C hC => ?_⟩
    refine lc_tup (K := K) (a := t) (xs := us) (fun i H' => ∃ ws ps, H' C = some (.lst ws) ∧ All2 (AtV K H') ws ps ∧ All2 (PrA K H') ps (inn (rs.take i)) ∧ Same H H') ⟨[], [], upd_same, .nil, (by rw [List.take_zero]; exact .nil), Same.upd hC⟩ (fun i H' _ ⟨_, _, _, _, _, sm⟩ => sqT_same sm ht) ?_ ?_
    · rintro i v H5 hv ⟨ws, ps, eC, hws, hps, sm⟩
      obtain ⟨r, hr', at1⟩ := hu.at hv
      obtain ⟨a, rfl, ha⟩ := AtA.same sm at1
      refine ⟨rfl, ?_⟩
      refine ⟨_, rfl, .inr (.inl ⟨a, _, ((0 : Nat) : Int), _, rfl, rfl, ha, atI_nat (j := 0) rfl, rfl, _, rfl, ?_⟩)⟩
      rw [dec_int, take_snoc hr', inn_snoc]
      by_cases h0 : r.s = 0
      · rw [beq_iff_eq.mpr h0]
        refine iteF ?_
        rw [if_neg (by simpa using h0), List.append_nil]
        exact ⟨ws, ps, eC, hws, hps, sm⟩
      · rw [beq_false_of_ne h0]
        refine iteT ?_
        rw [if_pos h0]
        refine ⟨_, rfl, .inr (.inl ⟨a, _, ((2 : Nat) : Int), _, rfl, rfl, ha, atI_nat (j := 2) rfl, ?_⟩)⟩
        refine ⟨_, rfl, .inr (.inl ⟨a, _, ((0 : Nat) : Int), _, rfl, rfl, ha, atI_nat (j := 0) rfl, ?_⟩)⟩
        refine ⟨_, rfl, .inr (.inl ⟨a, _, ((3 : Nat) : Int), _, rfl, rfl, ha, atI_nat (j := 3) rfl, ?_⟩)⟩
        refine ⟨(by show 2 ≤ sizeLine; decide), fun q hq => ⟨(by show 2 ≤ sizeLine; decide), fun p hp => ?_⟩⟩
        have s1 := Same.upd (o := .tup [.int r.s, .str r.k]) hq
        have s2 := Same.upd (o := .tup [.int r.t, .ref q]) hp
        have eq2 := s2 _ _ (upd_same (H := H5) (a := q) (o := HO.tup [.int r.s, .str r.k]))
        have ep2 : (upd (upd H5 q (.tup [.int r.s, .str r.k])) p (.tup [.int r.t, .ref q])) p = some (.tup [.int r.t, .ref q]) := upd_same
        have s12 := s1.trans s2
        revert eq2 ep2 s12
        generalize upd (upd H5 q (.tup [.int r.s, .str r.k])) p (.tup [.int r.t, .ref q]) = H6
        intro eq2 ep2 s12
        have eC6 := s12 _ _ eC
        have st : ∀ y, ∀ a xs, SqT K H5 a xs → SqT K (upd H6 C (.lst (ws ++ [y]))) a xs := fun y a xs h => sqT_put eC6 (sqT_same s12 h)
        refine ⟨ws, eC6, ?_, ws ++ [.ref p], ps ++ [(r.t, .ref q)], upd_same, (hws.imp fun _ _ => AtV.to (st _)).app (.cons ⟨p, rfl, sqT_put eC6 (SqT.of ep2)⟩ .nil), (hps.imp fun _ _ => PrA.to (st _)).app (.cons ⟨rfl, q, rfl, sqT_put eC6 (SqT.of eq2)⟩ .nil), keep_put (sm.trans s12) hC⟩
        rw [hws.len, hps.len]
        exact Nat.lt_of_le_of_lt (Nat.le_trans (List.length_filter_le _ _) (Nat.le_trans (List.length_take_le' _ _) hn)) (by decide)
    rintro H1 ⟨ws, ps, eC, hws, hps, s1⟩
    rw [List.take_of_length_le (by rw [← hu.len]; exact Nat.le_refl _)] at hps
    have lps : ps.length ≤ 100 := by rw [hps.len]; exact Nat.le_trans (List.length_filter_le _ _) hn
    refine ⟨C, ws, ps, rfl, eC, hws, by omega, fun H2 d L => ?_⟩
    have s2 := s1.trans L.old
    have hps2 : All2 (PrA K H2) ps (inn rs) := hps.imp fun _ _ => PrA.to fun _ _ h => sqT_same L.old h
    -- found and todo
    refine fun fnd hfn => ?_
    have s3 : Same H2 (upd H2 fnd (.dT [])) := Same.upd hfn
    have ef : (upd H2 fnd (.dT [])) fnd = some (.dT []) := upd_same
    have L3 := L.same s3
    revert s3 ef L3
    generalize upd H2 fnd (.dT []) = H3
    intro s3 ef L3
    refine ⟨_, rfl, d, rfl, L3.isD, Nat.zero_le _, fun b hb => ?_⟩
    have s4 : Same H3 (upd H3 b (.lst [])) := Same.upd hb
    have eb : (upd H3 b (.lst [])) b = some (.lst []) := upd_same
    have L4 := L3.same s4
    have ef4 := s4 _ _ ef
    revert s4 eb L4 ef4
    generalize upd H3 b (.lst []) = H4
    intro s4 eb L4 ef4
    obtain ⟨o, g, c, ec, hc⟩ := L4.getb 0 eb
    refine ⟨o, g, c, _, by rw [ec], .inl (SqL.of hc), fun td htd => ?_⟩
    have s5 : Same H4 (upd H4 td (.lst (outsV ps 0))) := Same.upd htd
    have et : (upd H4 td (.lst (outsV ps 0))) td = some (.lst (outsV ps 0)) := upd_same
    have ef5 := s5 _ _ ef4
    have nft : fnd ≠ td := fun e => by rw [← e, ef4] at htd; exact nomatch htd
    have s25 := (s3.trans s4).trans s5
    have htd2 : H2 td = none := none_of (s3.trans s4) htd
    revert s25 et ef5
    generalize upd H4 td (.lst (outsV ps 0)) = H5
    intro et ef5 s25
    have s05 := s2.trans s25
    have hT0 : All2 (AtK K H5) (outsV ps 0) (outsA (inn rs) 0) := (outs_rel hps2).imp fun _ _ => AtK.keep fun _ _ h => sqT_same s25 h
    have linn : (inn rs).length ≤ 100 := Nat.le_trans (List.length_filter_le _ _) hn
    have lU : (allSK rs).length ≤ 10000 := by
      rw [allSK_len]
      exact Nat.mul_le_mul hn hn
    have dle : ∀ R, due (fun p : Int × Str => (outsA (inn rs) p.1).length) (allSK rs) R ≤ 1000000 := fun R =>
      Nat.le_trans (due_le _ 100 (fun p => Nat.le_trans (outsA_len _ _) linn) R _) (by omega)
    have kn0 : ∀ p ∈ outsA (inn rs) 0, Kn rs p.1 p.2 := fun p hp => by
      obtain ⟨r, hr', e1, rfl⟩ := mem_outsA.mp hp
      obtain ⟨h1, h2⟩ := mem_inn.mp hr'
      exact .fin h1 h2 e1
    refine ⟨fun m σ H' => ∃ (R T : List (Int × Str)) (ts : List V) (v5 v6 : Option V), σ = [some (.ref t), none, some (.ref d), some (.ref fnd), some (.ref td), v5, v6, none, none] ∧ Same H2 H' ∧ H' fnd = some (.dT (fKvs R)) ∧ H' td = some (.lst ts) ∧ All2 (AtK K H') ts T ∧ R.Nodup ∧ (∀ p ∈ R, Kn rs p.1 p.2) ∧ (∀ p ∈ T, Kn rs p.1 p.2) ∧
      (∀ p ∈ outsA (inn rs) 0, p ∈ R ∨ p ∈ T) ∧ (∀ p ∈ R, ∀ q ∈ outsA (inn rs) p.1, (q.1, p.2) ∈ R ∨ (q.1, p.2) ∈ T) ∧ m = T.length + due (fun p : Int × Str => (outsA (inn rs) p.1).length) (allSK rs) R ∧ m ≤ 1000100,
      ⟨_, [], outsA (inn rs) 0, outsV ps 0, none, none, rfl, s25, ef5, et, hT0, List.nodup_nil, (fun p hp => nomatch hp), kn0, (fun p hp => .inr hp), (fun p hp => nomatch hp), rfl, ?_⟩, ?_⟩
    · have := dle []
      have := outsA_len (inn rs) 0
      omega
    rintro m σ H6 ⟨R, T, ts, v5, v6, rfl, s6, ef6, et6, hT, nR, kR, kT, h0, hcl, hm, hm2⟩
    refine ⟨_, rfl, !ts.isEmpty, .inl ⟨_, SqL.of et6, rfl⟩, ?_⟩
    rcases List.eq_nil_or_concat T with rfl | ⟨T', p, rfl⟩
    · have e : ts = [] := List.eq_nil_of_length_eq_zero (by rw [hT.len]; rfl)
      subst e
      refine iteF ?_
      refine ⟨_, rfl, fnd, fKvs R, rfl, ef6, ?_, ?_, fun Ls l pm _ tl hl => ?_⟩
      · rintro a ha c hc
        obtain ⟨x, _, rfl⟩ := List.mem_map.mp ha
        obtain ⟨y, _, rfl⟩ := List.mem_map.mp hc
        rfl
      · rintro a ha
        obtain ⟨x, _, rfl⟩ := List.mem_map.mp ha
        exact fun z => nomatch z
      have s7 := Same.upd (o := .lst (Ls.map fun x => V.ref x.1)) hl
      have keys : ∀ x ∈ Ls, ∃ p ∈ R, x.2 = wkey p.1 p.2 := fun x hx => by
        have := pm.mem_iff.mp (List.mem_map.mpr ⟨x, hx, rfl⟩)
        unfold fKvs at this
        rw [List.map_map] at this
        obtain ⟨p, hp, e⟩ := List.mem_map.mp this
        exact ⟨p, hp, e.symm⟩
      have pm2 : ((Ls.map fun x => (x.1, unkey x.2)).map (·.2)).Perm R := by
        have q := pm.map unkey
        have e1 : (Ls.map (·.2)).map unkey = (Ls.map fun x => (x.1, unkey x.2)).map (·.2) := by rw [List.map_map, List.map_map]; rfl
        have e2 : ((fKvs R).map (·.1)).map unkey = R := by
          unfold fKvs
          rw [List.map_map, List.map_map]
          exact (List.map_congr_left fun p _ => (rfl : _ = id p)).trans (List.map_id _)
        rw [e1, e2] at q
        exact q
      refine k _ l (Ls.map fun x => (x.1, unkey x.2)) ((s2.trans s6).trans s7) (none_of (s2.trans s6) hl) ?_ (fun x hx => ?_) (pm2.nodup_iff.mpr nR) fun x kd => ?_
      · rw [upd_same, List.map_map]; rfl
      · obtain ⟨y, hy, rfl⟩ := List.mem_map.mp hx
        obtain ⟨p, _, e⟩ := keys y hy
        have z := s7 _ _ (tl y hy)
        rw [e] at z
        show _ = some (HO.tup [V.int (unkey y.2).1, V.str (unkey y.2).2])
        rw [e]
        exact z
      · rw [pm2.mem_iff]
        refine ⟨fun h => kR _ h, fun h => ?_⟩
        induction h with
        | @fin r hr' h1 h2 => exact (h0 _ (mem_outsA.mpr ⟨r, mem_inn.mpr ⟨hr', h1⟩, h2, rfl⟩)).elim id fun z => nomatch z
        | @step r k' hr' h1 _ ih => exact (hcl _ ih _ (mem_outsA.mpr ⟨r, mem_inn.mpr ⟨hr', h1⟩, rfl, rfl⟩)).elim id fun z => nomatch z
    · rw [List.concat_eq_append] at *
      obtain ⟨ts', v, rfl⟩ : ∃ ts' v, ts = ts' ++ [v] := by
        rcases List.eq_nil_or_concat ts with rfl | ⟨ts', v, rfl⟩
        · have := hT.len
          rw [List.length_append] at this
          exact absurd this (by simp)
        · exact ⟨ts', v, List.concat_eq_append⟩
      have lT := hT.len
      rw [List.length_append, List.length_append] at lT
      have ne : (!(ts' ++ [v]).isEmpty) = true := by cases ts' <;> rfl
      rw [ne]
      refine iteT ?_
      have ex : (ts' ++ [v])[(ts' ++ [v]).length - 1]? = some v := by
        rw [List.length_append]
        show _[ts'.length + 1 - 1]? = _
        rw [Nat.add_sub_cancel, List.getElem?_append_right (Nat.le_refl _), Nat.sub_self]; rfl
      have lts : ts'.length = T'.length := by
        have e1 : [v].length = 1 := rfl
        have e2 : [p].length = 1 := rfl
        omega
      have hTp := hT.at ex
      obtain ⟨p', hp', atp⟩ := hTp
      have ep : p' = p := by
        rw [List.length_append, lts] at hp'
        rw [show T'.length + [v].length - 1 = T'.length from rfl, List.getElem?_append_right (Nat.le_refl _), Nat.sub_self] at hp'
        cases hp'; rfl
      subst ep
      obtain ⟨q, rfl, hq⟩ := atp
      have hT' : All2 (AtK K H6) ts' T' := by
        have := hT.take ts'.length
        rw [List.take_left' rfl, List.take_left' lts.symm] at this
        exact this
      have edl : (ts' ++ [V.ref q]).dropLast = ts' := List.dropLast_concat
      have lm : (T' ++ [p']).length = T'.length + 1 := List.length_append
      refine ⟨fun σ' H' => ∃ (R T : List (Int × Str)) (ts : List V) (v5 v6 : Option V), σ' = [some (.ref t), none, some (.ref d), some (.ref fnd), some (.ref td), v5, v6, none, none] ∧ Same H2 H' ∧ H' fnd = some (.dT (fKvs R)) ∧ H' td = some (.lst ts) ∧ All2 (AtK K H') ts T ∧ R.Nodup ∧ (∀ p ∈ R, Kn rs p.1 p.2) ∧ (∀ p ∈ T, Kn rs p.1 p.2) ∧
        (∀ p ∈ outsA (inn rs) 0, p ∈ R ∨ p ∈ T) ∧ (∀ p ∈ R, ∀ q ∈ outsA (inn rs) p.1, (q.1, p.2) ∈ R ∨ (q.1, p.2) ∈ T) ∧ T.length + due (fun p : Int × Str => (outsA (inn rs) p.1).length) (allSK rs) R < m,
        fun σ' H' ⟨R, T, ts, v5, v6, e1, e2, e3, e4, e5, e6, e7, e8, e9, e10, lt⟩ => ⟨_, lt, R, T, ts, v5, v6, e1, e2, e3, e4, e5, e6, e7, e8, e9, e10, rfl, by omega⟩, ?_⟩
      refine ⟨_, rfl, .inl ⟨rfl, _, SqL.of et6⟩, td, _, _, rfl, rfl, et6, ex, ?_⟩
      rw [edl]
      have s7 : Same H2 (upd H6 td (.lst ts')) := keep_put s6 htd2
      have ef7 : (upd H6 td (.lst ts')) fnd = some (.dT (fKvs R)) := by rw [upd_ne nft]; exact ef6
      have et7 : (upd H6 td (.lst ts')) td = some (.lst ts') := upd_same
      have hq7 : SqT K (upd H6 td (.lst ts')) q [.int p'.1, .str p'.2] := sqT_put et6 hq
      have hT7 : All2 (AtK K (upd H6 td (.lst ts'))) ts' T' := hT'.imp fun _ _ => AtK.keep fun _ _ h => sqT_put et6 h
      revert s7 ef7 et7 hq7 hT7
      generalize upd H6 td (.lst ts') = H7
      intro s7 ef7 et7 hq7 hT7
      clear hT hT' et6 ef6
      refine ⟨q, _, rfl, hq7, rfl, ?_⟩
      refine ⟨_, _, rfl, _, _, rfl, rfl, ?_⟩
      refine ⟨_, rfl, _, rfl, (by show 2 ≤ sizeLine; decide), fun p1 hp1 => ?_⟩
      have s8 := Same.upd (o := .tup [V.int p'.1, .str p'.2]) hp1
      have ep1 : (upd H7 p1 (.tup [V.int p'.1, .str p'.2])) p1 = some (.tup ((wkey p'.1 p'.2).map kV)) := upd_same
      have ef8 := s8 _ _ ef7
      have et8 := s8 _ _ et7
      have hT8 : All2 (AtK K (upd H7 p1 (.tup [V.int p'.1, .str p'.2]))) ts' T' := hT7.imp fun _ _ => AtK.keep fun _ _ h => sqT_same s8 h
      have s28 := s7.trans s8
      revert ep1 ef8 et8 hT8 s28
      generalize upd H7 p1 (.tup [V.int p'.1, .str p'.2]) = H8
      intro ep1 ef8 et8 hT8 s28
      refine ⟨_, rfl, fnd, _, rfl, DGet.t (k := wkey p'.1 p'.2) ef8 ep1, _, rfl, ?_⟩
      rw [fKvs_val]
      by_cases hx : (p'.1, p'.2) ∈ R
      · rw [if_pos hx]
        refine iteF ?_
        refine ⟨R, T', ts', _, _, rfl, s28, ef8, et8, hT8, nR, kR, (fun y hy => kT y (List.mem_append_left _ hy)), fun y hy => ?_, fun z hz y hy => ?_, by omega⟩
        · rcases h0 y hy with h | h
          · exact .inl h
          · rcases List.mem_append.mp h with h | h
            · exact .inr h
            · rw [List.mem_singleton.mp h]; exact .inl hx
        · rcases hcl z hz y hy with h | h
          · exact .inl h
          · rcases List.mem_append.mp h with h | h
            · exact .inr h
            · rw [List.mem_singleton.mp h]; exact .inl hx
      · rw [if_neg hx]
        refine iteT ?_
        have hx' : p' ∉ R := hx
        have kp : Kn rs p'.1 p'.2 := kT p' (List.mem_append_right _ List.mem_cons_self)
        have hnone : valV (fKvs R) (wkey p'.1 p'.2) = none := by rw [fKvs_val, if_neg hx]
        have eput : putK (fKvs R) (wkey p'.1 p'.2) (.bl true) = fKvs (R ++ [p']) := by
          rw [putK_new _ hnone]
          unfold fKvs
          rw [List.map_append]; rfl
        have lR : R.length ≤ 10000 := Nat.le_trans (nodup_sub nR fun y hy => mem_allSK (kR y hy)) lU
        have ls := due_step (fun p : Int × Str => (outsA (inn rs) p.1).length) hx' (mem_allSK kp)
        refine ⟨_, rfl, _, rfl, _, rfl, (by show 2 ≤ sizeLine; decide), fun p2 hp2 => ?_⟩
        have s9 := Same.upd (o := .tup [V.int p'.1, .str p'.2]) hp2
        have ep2 : (upd H8 p2 (.tup [V.int p'.1, .str p'.2])) p2 = some (.tup ((wkey p'.1 p'.2).map kV)) := upd_same
        have ef9 := s9 _ _ ef8
        have et9 := s9 _ _ et8
        have hT9 : All2 (AtK K (upd H8 p2 (.tup [V.int p'.1, .str p'.2]))) ts' T' := hT8.imp fun _ _ => AtK.keep fun _ _ h => sqT_same s9 h
        have s29 := s28.trans s9
        revert ep2 ef9 et9 hT9 s29
        generalize upd H8 p2 (.tup [V.int p'.1, .str p'.2]) = H9
        intro ep2 ef9 et9 hT9 s29
        refine ⟨fnd, _, rfl, DPut.t (k := wkey p'.1 p'.2) ef9 ep2 ?_, ?_⟩
        · unfold fKvs
          rw [List.length_map]
          exact Nat.lt_of_le_of_lt lR (by decide)
        rw [eput]
        have stT : ∀ a xs, SqT K H9 a xs → SqT K (upd H9 fnd (.dT (fKvs (R ++ [p'])))) a xs := fun a xs h => sqT_upd (fun ys z => by rw [ef9] at z; exact nomatch z) (fun u ys z => by rw [ef9] at z; exact nomatch z) h
        have sA : Same H2 (upd H9 fnd (.dT (fKvs (R ++ [p'])))) := keep_put s29 hfn
        have efA : (upd H9 fnd (.dT (fKvs (R ++ [p'])))) fnd = some (.dT (fKvs (R ++ [p']))) := upd_same
        have etA : (upd H9 fnd (.dT (fKvs (R ++ [p'])))) td = some (.lst ts') := by rw [upd_ne (Ne.symm nft)]; exact et9
        have hTA : All2 (AtK K (upd H9 fnd (.dT (fKvs (R ++ [p']))))) ts' T' := hT9.imp fun _ _ => AtK.keep stT
        clear stT
        revert sA efA etA hTA
        generalize upd H9 fnd (.dT (fKvs (R ++ [p']))) = HA
        intro sA efA etA hTA
        have LA := L.same sA
        refine ⟨_, rfl, .inl ⟨rfl, _, SqL.of etA⟩, _, rfl, d, rfl, LA.isD, _, rfl, Nat.zero_le _, fun b2 hb2 => ?_⟩
        have sB := Same.upd (o := .lst []) hb2
        have LB := LA.same sB
        obtain ⟨o2, g2, c2, ec2, hc2⟩ := LB.getb p'.1 upd_same
        have efB := sB _ _ efA
        have etB := sB _ _ etA
        have hTB : All2 (AtK K (upd HA b2 (.lst []))) ts' T' := hTA.imp fun _ _ => AtK.keep fun _ _ h => sqT_same sB h
        have sAB := sA.trans sB
        revert g2 hc2 efB etB hTB sAB
        generalize upd HA b2 (.lst []) = HB
        intro g2 hc2 efB etB hTB sAB
        have hO : All2 (AtK K HB) (outsV ps p'.1) (outsA (inn rs) p'.1) := (outs_rel hps2).imp fun _ _ => AtK.keep fun _ _ h => sqT_same sAB h
        refine ⟨o2, g2, c2, by rw [ec2], ⟨_, SqL.of hc2⟩, fun D hD => ?_⟩
        refine lc_list (K := K) (a := c2) (xs := outsV ps p'.1) (fun i H' => ∃ xs, H' D = some (.lst xs) ∧ All2 (AtK K H') xs (((outsA (inn rs) p'.1).take i).map fun q => (q.1, p'.2)) ∧ Same HB H') ⟨[], upd_same, (by rw [List.take_zero]; exact .nil), Same.upd hD⟩ (fun i H' _ ⟨_, _, _, sm⟩ => SqL.of (sm _ _ hc2)) ?_ ?_
        · rintro i y HC hy ⟨xs, eD, hxs, sm⟩
          obtain ⟨q2, hq2, q3, rfl, hq3⟩ := hO.at hy
          have hq3' := sqT_same sm hq3
          refine ⟨q3, _, rfl, hq3', rfl, ?_⟩
          refine ⟨_, _, rfl, _, _, rfl, rfl, rfl, ?_⟩
          dsimp only [tYes]
          refine iteT ?_
          refine ⟨_, rfl, _, rfl, (by show 2 ≤ sizeLine; decide), fun p3 hp3 => ?_⟩
          have sC := Same.upd (o := .tup [V.int q2.1, .str p'.2]) hp3
          have eD' := sC _ _ eD
          refine ⟨xs, eD', ?_, xs ++ [.ref p3], upd_same, ?_, keep_put (sm.trans sC) hD⟩
          · rw [hxs.len, List.length_map]
            exact Nat.lt_of_le_of_lt (Nat.le_trans (List.length_take_le' _ _) (Nat.le_trans (outsA_len _ _) linn)) (by decide)
          · rw [take_snoc hq2, List.map_append]
            exact (hxs.imp fun _ _ => AtK.keep fun _ _ h => sqT_put eD' (sqT_same sC h)).app (.cons ⟨p3, rfl, sqT_put eD' (SqT.of upd_same)⟩ .nil)
        rintro HC ⟨xs, eD, hxs, sm⟩
        rw [List.take_of_length_le (by rw [← hO.len]; exact Nat.le_refl _)] at hxs
        have etC := sm _ _ etB
        have efC := sm _ _ efB
        have lxs : xs.length ≤ 100 := by rw [hxs.len, List.length_map]; exact Nat.le_trans (outsA_len _ _) linn
        refine ⟨td, D, _, _, rfl, rfl, etC, eD, ?_, ?_⟩
        · exact Nat.le_trans (by omega : _ ≤ 2000000) (by decide)
        have xR : ∀ y : Int × Str, y = p' → y ∈ R ++ [p'] := fun y e => by rw [e]; exact List.mem_append_right _ List.mem_cons_self
        have mv : ∀ y, y ∈ R ∨ y ∈ T' ++ [p'] → y ∈ R ++ [p'] ∨ y ∈ T' ++ (outsA (inn rs) p'.1).map fun q => (q.1, p'.2) := fun y q => by
          rcases q with q | q
          · exact .inl (List.mem_append_left _ q)
          · rcases List.mem_append.mp q with q | q
            · exact .inr (List.mem_append_left _ q)
            · exact .inl (xR y (List.mem_singleton.mp q))
        have stE : ∀ z, ∀ a ys, SqT K HC a ys → SqT K (upd HC td (.lst z)) a ys := fun z a ys h => sqT_put etC h
        refine ⟨R ++ [p'], T' ++ (outsA (inn rs) p'.1).map fun q => (q.1, p'.2), ts' ++ xs, _, _, rfl, keep_put (sAB.trans sm) htd2, by rw [upd_ne nft]; exact efC, upd_same, (hTB.imp fun _ _ => AtK.keep fun a ys h => stE _ a ys (sqT_same sm h)).app (hxs.imp fun _ _ => AtK.keep (stE _)), ?_, fun z hz => ?_, fun z hz => ?_, fun y hy => mv y (h0 y hy), fun z hz y hy => ?_, ?_⟩
        · rw [List.nodup_append]
          refine ⟨nR, by simp, fun a ha b hb e => ?_⟩
          rw [List.mem_singleton.mp hb] at e
          exact hx' (e ▸ ha)
        · rcases List.mem_append.mp hz with q | q
          · exact kR z q
          · rw [List.mem_singleton.mp q]; exact kp
        · rcases List.mem_append.mp hz with q | q
          · exact kT z (List.mem_append_left _ q)
          · obtain ⟨y, hy, rfl⟩ := List.mem_map.mp q
            obtain ⟨r, hr', e1, rfl⟩ := mem_outsA.mp hy
            obtain ⟨i1, i2⟩ := mem_inn.mp hr'
            exact .step i1 i2 (e1 ▸ kp)
        · rcases List.mem_append.mp hz with q | q
          · exact mv _ (hcl z q y hy)
          · rw [List.mem_singleton.mp q] at hy ⊢
            exact .inr (List.mem_append_right _ (List.mem_map.mpr ⟨y, hy, rfl⟩))
        · rw [List.length_append, List.length_map]
          omega
end
end K06

set_option Elab.async false
set_option linter.all false
set_option maxRecDepth 100000
set_option maxHeartbeats 2000000
namespace Ami
open PySem PySem.Spec PyProof.Rows L2
/-- the number of a pair; 0 if it has none -/
def nm (L : List (Int × Str)) (p : Int × Str) : Int := if p ∈ L then ((L.idxOf p + 1 : Nat) : Int) else 0
theorem nm_pos {L : List (Int × Str)} {p : Int × Str} (h : p ∈ L) : 1 ≤ nm L p ∧ nm L p ≤ L.length := by
  unfold nm
  rw [if_pos h]
  have := List.idxOf_lt_length_iff.mpr h
  omega
theorem nm_zero {L : List (Int × Str)} {p : Int × Str} : nm L p = 0 ↔ p ∉ L := by
  by_cases h : p ∈ L
  · have := (nm_pos h).1
    exact ⟨fun e => by omega, fun n => absurd h n⟩
  · unfold nm
    rw [if_neg h]
    exact ⟨fun _ => h, fun _ => rfl⟩
theorem nm_range (L : List (Int × Str)) (p : Int × Str) : 0 ≤ nm L p ∧ nm L p ≤ L.length := by
  by_cases h : p ∈ L
  · have := nm_pos h
    omega
  · rw [nm_zero.mpr h]; omega
theorem nm_inj {L : List (Int × Str)} {p q : Int × Str} (hp : p ∈ L) (e : nm L p = nm L q) : p = q := by
  have hq : q ∈ L := by
    refine Decidable.byContradiction fun z => ?_
    rw [nm_zero.mpr z] at e
    have := (nm_pos hp).1
    omega
  unfold nm at e
  rw [if_pos hp, if_pos hq] at e
  have e1 : L.idxOf p = L.idxOf q := by omega
  have h1 := List.getElem_idxOf (List.idxOf_lt_length_iff.mpr hp)
  have h2 := List.getElem_idxOf (List.idxOf_lt_length_iff.mpr hq)
  rw [← h1, ← h2]
  simp only [e1]
theorem nm_at {L : List (Int × Str)} (nd : L.Nodup) {i : Nat} (h : i < L.length) : nm L L[i] = ((i + 1 : Nat) : Int) := by
  unfold nm
  rw [if_pos (List.getElem_mem h), List.Nodup.idxOf_getElem nd i h]
/-- the kinds that are met with an arrow, backward -/
def knows (L : List (Int × Str)) (x : Int) : List Str := (L.filter fun p => decide (p.1 = x)).map (·.2)
theorem mem_knows {L : List (Int × Str)} {x : Int} {k : Str} : k ∈ knows L x ↔ (x, k) ∈ L := by
  unfold knows
  rw [List.mem_map]
  constructor
  · rintro ⟨p, hp, rfl⟩
    obtain ⟨h1, h2⟩ := List.mem_filter.mp hp
    have := of_decide_eq_true h2
    subst this
    exact h1
  · intro h
    exact ⟨_, List.mem_filter.mpr ⟨h, decide_eq_true rfl⟩, rfl⟩
theorem knows_nd {L : List (Int × Str)} (nd : L.Nodup) (x : Int) : (knows L x).Nodup := by
  unfold knows
  refine List.pairwise_map.mpr ((nd.filter _).imp_of_mem fun {a b} ha hb h e => ?_)
  have h1 := of_decide_eq_true (List.mem_filter.mp ha).2
  have h2 := of_decide_eq_true (List.mem_filter.mp hb).2
  exact h (Prod.ext (h1.trans h2.symm) e)
def knowns (L : List (Int × Str)) (r : Arr) : List Str := if knows L r.t = [] then [r.k] else knows L r.t
def turn1 (L : List (Int × Str)) (r : Arr) (k : Str) : Arr := ⟨nm L (r.t, k), r.l, nm L (r.s, k), if nm L (r.s, k) = 0 then k else ""⟩
def turnedL (L : List (Int × Str)) (rs : List Arr) : List Arr := rs.flatMap fun r => (knowns L r).map (turn1 L r)
/-- what is asked of the pairs -/
structure Prs (rs : List Arr) (L : List (Int × Str)) : Prop where
  nd : L.Nodup
  mem : ∀ x k, (x, k) ∈ L ↔ Kn rs x k
/-- the kind of an arrow to the border, or one to which it leads -/
def Kw (rs : List Arr) (r : Arr) (k : Str) : Prop := (r.t = 0 ∧ r.k = k) ∨ (r.t ≠ 0 ∧ Kn rs r.t k)
theorem kn_busy {rs : List Arr} {x : Int} (h : Rch (bwd rs) x) : x ≠ 0 → ∃ k, Kn rs x k := by
  induction h with
  | one m =>
    intro hx
    obtain ⟨r, hr, e1, e2⟩ := mem_bwd.mp m
    exact ⟨r.k, e2 ▸ .fin hr (by rw [e2]; exact hx) e1⟩
  | @step x y hx m ih =>
    intro hy
    obtain ⟨r, hr, e1, e2⟩ := mem_bwd.mp m
    by_cases h0 : x = 0
    · exact ⟨r.k, e2 ▸ .fin hr (by rw [e2]; exact hy) (e1.trans h0)⟩
    · obtain ⟨k, hk⟩ := ih h0
      exact ⟨k, e2 ▸ .step hr (by rw [e2]; exact hy) (by rw [e1]; exact hk)⟩
section
variable {ls : Str} {n : Nat} {rs : List Arr} {L : List (Int × Str)}
theorem good_tb (g : Good ls n rs) {r : Arr} (hr : r ∈ rs) : Busy rs r.t ∧ Busy rs r.s := by
  obtain ⟨a, b, c, d⟩ := good_b g r hr
  have h1 := g.busy r.t.toNat (by omega)
  have h2 := g.busy r.s.toNat (by omega)
  rw [show ((r.t.toNat : Nat) : Int) = r.t by omega] at h1
  rw [show ((r.s.toNat : Nat) : Int) = r.s by omega] at h2
  exact ⟨h1, h2⟩
theorem knowns_kw (g : Good ls n rs) (P : Prs rs L) {r : Arr} (hr : r ∈ rs) (k : Str) : k ∈ knowns L r ↔ Kw rs r k := by
  unfold knowns Kw
  by_cases h0 : r.t = 0
  · have e : knows L r.t = [] := by
      refine List.eq_nil_iff_forall_not_mem.mpr fun k hk => ?_
      rw [mem_knows, P.mem] at hk
      exact hk.nz h0
    rw [if_pos e, List.mem_singleton]
    exact ⟨fun h => .inl ⟨h0, h.symm⟩, fun h => h.elim (fun q => q.2.symm) fun q => absurd h0 q.1⟩
  · obtain ⟨k', hk'⟩ := kn_busy (good_tb g hr).1.2 h0
    have ne : knows L r.t ≠ [] := fun e => by
      have := mem_knows.mpr ((P.mem _ _).mpr hk')
      rw [e] at this
      exact nomatch this
    rw [if_neg ne, mem_knows, P.mem]
    exact ⟨fun h => .inr ⟨h0, h⟩, fun h => h.elim (fun q => absurd q.1 h0) fun q => q.2⟩
theorem mem_turned (g : Good ls n rs) (P : Prs rs L) {q : Arr} : q ∈ turnedL L rs ↔ ∃ r ∈ rs, ∃ k, Kw rs r k ∧ q = turn1 L r k := by
  unfold turnedL
  rw [List.mem_flatMap]
  constructor
  · rintro ⟨r, hr, h⟩
    obtain ⟨k, hk, e⟩ := List.mem_map.mp h
    exact ⟨r, hr, k, (knowns_kw g P hr k).mp hk, e.symm⟩
  · rintro ⟨r, hr, k, hk, e⟩
    exact ⟨r, hr, List.mem_map.mpr ⟨k, (knowns_kw g P hr k).mpr hk, e.symm⟩⟩
/-- what its ends are -/
theorem src_z (P : Prs rs L) {r : Arr} (hr : r ∈ rs) {k : Str} (h : Kw rs r k) : nm L (r.t, k) = 0 ↔ r.t = 0 := by
  rw [nm_zero, P.mem]
  constructor
  · intro z
    rcases h with h | h
    · exact h.1
    · exact absurd h.2 z
  · intro e z
    exact z.nz e
theorem kw_src {r : Arr} (hr : r ∈ rs) {k : Str} (h : Kw rs r k) (hs : r.s ≠ 0) : Kn rs r.s k := by
  rcases h with h | h
  · exact h.2 ▸ .fin hr hs h.1
  · exact .step hr hs h.2
theorem tgt_z (P : Prs rs L) {r : Arr} (hr : r ∈ rs) {k : Str} (h : Kw rs r k) : nm L (r.s, k) = 0 ↔ r.s = 0 := by
  rw [nm_zero, P.mem]
  constructor
  · intro z
    exact Decidable.byContradiction fun hs => z (kw_src hr h hs)
  · intro e z
    exact z.nz e
theorem src_mem (P : Prs rs L) {r : Arr} {k : Str} (h : Kw rs r k) (h0 : r.t ≠ 0) : (r.t, k) ∈ L := (P.mem _ _).mpr (h.elim (fun q => absurd q.1 h0) fun q => q.2)
theorem tgt_mem (P : Prs rs L) {r : Arr} (hr : r ∈ rs) {k : Str} (h : Kw rs r k) (h0 : r.s ≠ 0) : (r.s, k) ∈ L := (P.mem _ _).mpr (kw_src hr h h0)
theorem good_kz (g : Good ls n rs) {r : Arr} (hr : r ∈ rs) (h0 : r.t ≠ 0) : r.k = "" := by
  have h1 := (g.arr r hr).1
  unfold arrowB at h1
  rw [Bool.and_eq_true, if_neg h0] at h1
  have h2 := of_decide_eq_true h1.2
  exact V.str.inj (of_decide_eq_true ((str_empty (z := r.k)).trans (decide_eq_true h2)))
/-- each comes once -/
theorem turn_inj (g : Good ls n rs) (P : Prs rs L) {r r' : Arr} (hr : r ∈ rs) (hr' : r' ∈ rs) {k k' : Str} (h : Kw rs r k) (h' : Kw rs r' k') (e : turn1 L r k = turn1 L r' k') : r = r' ∧ k = k' := by
  have e1 : nm L (r.t, k) = nm L (r'.t, k') := (congrArg Arr.s e : (turn1 L r k).s = (turn1 L r' k').s)
  have e2 : r.l = r'.l := (congrArg Arr.l e : (turn1 L r k).l = (turn1 L r' k').l)
  have e3 : nm L (r.s, k) = nm L (r'.s, k') := (congrArg Arr.t e : (turn1 L r k).t = (turn1 L r' k').t)
  have e4 : (turn1 L r k).k = (turn1 L r' k').k := congrArg Arr.k e
  have z1 := src_z P hr h
  have z2 := src_z P hr' h'
  have y1 := tgt_z P hr h
  have y2 := tgt_z P hr' h'
  have fin : r.s = r'.s → r.t = r'.t → k = k' → r = r' ∧ k = k' := fun a b c => by
    refine ⟨?_, c⟩
    have ek : r.k = r'.k := by
      by_cases h0 : r.t = 0
      · rcases h with q | q
        · rcases h' with q' | q'
          · rw [q.2, q'.2, c]
          · exact absurd (b ▸ h0) q'.1
        · exact absurd h0 q.1
      · rw [good_kz g hr h0, good_kz g hr' (b ▸ h0)]
    cases r
    cases r'
    simp only at a b e2 ek
    subst a b e2 ek
    rfl
  by_cases h0 : r.t = 0
  · have h0' : r'.t = 0 := z2.mp (e1 ▸ z1.mpr h0)
    by_cases hs : r.s = 0
    · have hs' : r'.s = 0 := y2.mp (e3 ▸ y1.mpr hs)
      have : k = k' := by
        unfold turn1 at e4
        simp only [y1.mpr hs, y2.mpr hs', if_true] at e4
        exact e4
      exact fin (hs.trans hs'.symm) (h0.trans h0'.symm) this
    · have := nm_inj (tgt_mem P hr h hs) e3
      exact fin (congrArg (·.1) this) (h0.trans h0'.symm) (congrArg (·.2) this)
  · have := nm_inj (src_mem P h h0) e1
    have ek : k = k' := congrArg (·.2) this
    have et : r.t = r'.t := congrArg (·.1) this
    by_cases hs : r.s = 0
    · have hs' : r'.s = 0 := y2.mp (e3 ▸ y1.mpr hs)
      exact fin (hs.trans hs'.symm) et ek
    · have := nm_inj (tgt_mem P hr h hs) e3
      exact fin (congrArg (·.1) this) et ek
theorem turned_nd (g : Good ls n rs) (P : Prs rs L) (nd : rs.Nodup) : (turnedL L rs).Nodup := by
  unfold turnedL
  refine List.pairwise_flatMap.mpr ⟨fun r hr => ?_, nd.imp_of_mem fun {r r'} hr hr' ne => ?_⟩
  · refine List.pairwise_map.mpr ?_
    have : (knowns L r).Nodup := by
      unfold knowns
      split
      · exact List.pairwise_singleton _ _
      · exact knows_nd P.nd _
    exact this.imp_of_mem fun {k k'} hk hk' h e => h (turn_inj g P hr hr ((knowns_kw g P hr k).mp hk) ((knowns_kw g P hr k').mp hk') e).2
  · intro x hx y hy e
    obtain ⟨k, hk, rfl⟩ := List.mem_map.mp hx
    obtain ⟨k', hk', rfl⟩ := List.mem_map.mp hy
    exact ne (turn_inj g P hr hr' ((knowns_kw g P hr k).mp hk) ((knowns_kw g P hr' k').mp hk') e).1
/-- from a pair on, backward -/
theorem turned_go (g : Good ls n rs) (P : Prs rs L) {R : List Arr} (hR : ∀ q, q ∈ R ↔ q ∈ turnedL L rs) {k' : Str} : ∀ {w : List Str} {y : Int} {k : Str}, w ≠ [] → (y, k) ∈ L → (Reads R (nm L (y, k)) w k' ↔ k' = k ∧ Go rs 0 w.reverse y)
  | [], _, _, ne, _ => absurd rfl ne
  | [l], y, k, _, hy => by
    have nz := (nm_pos hy).1
    have ynz : y ≠ 0 := ((P.mem _ _).mp hy).nz
    show Fin R _ l k' ↔ _
    constructor
    · rintro ⟨q, hq, a, b, c, d⟩
      obtain ⟨r, hr, kn, hk, rfl⟩ := (mem_turned g P).mp ((hR _).mp hq)
      have e := nm_inj hy (Eq.symm a)
      cases e
      have hs := (tgt_z P hr hk).mp c
      have d : (if nm L (r.s, k) = 0 then k else "") = k' := d
      rw [if_pos (show nm L (r.s, k) = 0 from c)] at d
      exact ⟨d.symm, r, hr, hs, b, ynz, rfl⟩
    · rintro ⟨rfl, r, hr, a, b, c, d⟩
      have d : r.t = y := d
      have hk : Kw rs r k' := .inr ⟨c, d ▸ (P.mem _ _).mp hy⟩
      have z := (tgt_z P hr hk).mpr a
      refine ⟨turn1 L r k', (hR _).mpr ((mem_turned g P).mpr ⟨r, hr, k', hk, rfl⟩), by show nm L (r.t, k') = _; rw [d], b, z, ?_⟩
      show (if nm L (r.s, k') = 0 then k' else "") = k'
      rw [if_pos z]
  | l :: l' :: w, y, k, _, hy => by
    have nz := (nm_pos hy).1
    have ynz : y ≠ 0 := ((P.mem _ _).mp hy).nz
    rw [List.reverse_cons, go_snoc]
    constructor
    · rintro ⟨q, hq, a, b, c, d⟩
      obtain ⟨r, hr, kn, hk, rfl⟩ := (mem_turned g P).mp ((hR _).mp hq)
      have e := nm_inj hy (Eq.symm a)
      cases e
      have hs : r.s ≠ 0 := fun z => c ((tgt_z P hr hk).mpr z)
      obtain ⟨rfl, h⟩ := (turned_go g P hR (w := l' :: w) (by simp) (tgt_mem P hr hk hs)).mp d
      exact ⟨rfl, r.s, h, r, hr, rfl, b, ynz, rfl⟩
    · rintro ⟨rfl, z, hz, r, hr, rfl, b, c, d⟩
      have hk : Kw rs r k' := .inr ⟨c, d ▸ (P.mem _ _).mp hy⟩
      have hs : r.s ≠ 0 := by
        rw [List.reverse_cons] at hz
        obtain ⟨_, _, q, _, _, _, h3, h4⟩ := go_snoc.mp hz
        rw [← h4]; exact h3
      refine ⟨turn1 L r k', (hR _).mpr ((mem_turned g P).mpr ⟨r, hr, k', hk, rfl⟩), by show nm L (r.t, k') = _; rw [d], b, fun z => hs ((tgt_z P hr hk).mp z), ?_⟩
      exact (turned_go g P hR (w := l' :: w) (by simp) (tgt_mem P hr hk hs)).mpr ⟨rfl, hz⟩
/-- the words are those turned round -/
theorem turned_reads (g : Good ls n rs) (P : Prs rs L) {R : List Arr} (hR : ∀ q, q ∈ R ↔ q ∈ turnedL L rs) {k : Str} : ∀ {w : List Str}, Reads R 0 w k ↔ Reads rs 0 w.reverse k
  | [] => Iff.rfl
  | [l] => by
    show Fin R 0 l k ↔ Fin rs 0 l k
    constructor
    · rintro ⟨q, hq, a, b, c, d⟩
      obtain ⟨r, hr, kn, hk, rfl⟩ := (mem_turned g P).mp ((hR _).mp hq)
      have h0 := (src_z P hr hk).mp a
      have d : (if nm L (r.s, kn) = 0 then kn else "") = k := d
      rw [if_pos (show nm L (r.s, kn) = 0 from c)] at d
      exact ⟨r, hr, (tgt_z P hr hk).mp c, b, h0, (hk.elim (fun q => q.2) fun q => absurd h0 q.1).trans d⟩
    · rintro ⟨r, hr, a, b, c, rfl⟩
      have hk : Kw rs r r.k := .inl ⟨c, rfl⟩
      have z := (tgt_z P hr hk).mpr a
      refine ⟨turn1 L r r.k, (hR _).mpr ((mem_turned g P).mpr ⟨r, hr, r.k, hk, rfl⟩), (src_z P hr hk).mpr c, b, z, ?_⟩
      show (if nm L (r.s, r.k) = 0 then r.k else "") = r.k
      rw [if_pos z]
  | l :: l' :: w => by
    rw [List.reverse_cons, reads_snoc]
    constructor
    · rintro ⟨q, hq, a, b, c, d⟩
      obtain ⟨r, hr, kn, hk, rfl⟩ := (mem_turned g P).mp ((hR _).mp hq)
      have h0 := (src_z P hr hk).mp a
      have hs : r.s ≠ 0 := fun z => c ((tgt_z P hr hk).mpr z)
      obtain ⟨rfl, h⟩ := (turned_go g P hR (w := l' :: w) (by simp) (tgt_mem P hr hk hs)).mp d
      exact ⟨r.s, h, r, hr, rfl, b, h0, hk.elim (fun q => q.2) fun q => absurd h0 q.1⟩
    · rintro ⟨z, hz, r, hr, rfl, b, c, rfl⟩
      have hk : Kw rs r r.k := .inl ⟨c, rfl⟩
      have hs : r.s ≠ 0 := by
        rw [List.reverse_cons] at hz
        obtain ⟨_, _, q, _, _, _, h3, h4⟩ := go_snoc.mp hz
        rw [← h4]; exact h3
      refine ⟨turn1 L r r.k, (hR _).mpr ((mem_turned g P).mpr ⟨r, hr, r.k, hk, rfl⟩), (src_z P hr hk).mpr c, b, fun z => hs ((tgt_z P hr hk).mp z), ?_⟩
      exact (turned_go g P hR (w := l' :: w) (by simp) (tgt_mem P hr hk hs)).mpr ⟨rfl, hz⟩
/-- the pairs lie on ways -/
theorem turned_f (g : Good ls n rs) (P : Prs rs L) {R : List Arr} (hR : ∀ q, q ∈ R ↔ q ∈ turnedL L rs) {x : Int} {k : Str} (h : Kn rs x k) : Rch (fwd R) (nm L (x, k)) := by
  induction h with
  | @fin r hr hs ht =>
    have hk : Kw rs r r.k := .inl ⟨ht, rfl⟩
    exact .one (mem_fwd.mpr ⟨turn1 L r r.k, (hR _).mpr ((mem_turned g P).mpr ⟨r, hr, r.k, hk, rfl⟩), (src_z P hr hk).mpr ht, rfl⟩)
  | @step r k hr hs hk' ih =>
    have hk : Kw rs r k := .inr ⟨hk'.nz, hk'⟩
    exact .step ih (mem_fwd.mpr ⟨turn1 L r k, (hR _).mpr ((mem_turned g P).mpr ⟨r, hr, k, hk, rfl⟩), rfl, rfl⟩)
theorem turned_b (g : Good ls n rs) (P : Prs rs L) {R : List Arr} (hR : ∀ q, q ∈ R ↔ q ∈ turnedL L rs) {x : Int} (h : Rch (fwd rs) x) : ∀ {k : Str}, Kn rs x k → Rch (bwd R) (nm L (x, k)) := by
  have one : ∀ {r : Arr} {k : Str}, r ∈ rs → r.s = 0 → Kn rs r.t k → Rch (bwd R) (nm L (r.t, k)) := fun {r k} hr hs h => by
    have hk : Kw rs r k := .inr ⟨h.nz, h⟩
    exact .one (mem_bwd.mpr ⟨turn1 L r k, (hR _).mpr ((mem_turned g P).mpr ⟨r, hr, k, hk, rfl⟩), (tgt_z P hr hk).mpr hs, rfl⟩)
  induction h with
  | one m =>
    intro k hk
    obtain ⟨r, hr, e1, rfl⟩ := mem_fwd.mp m
    exact one hr e1 hk
  | @step x y hx m ih =>
    intro k hk
    obtain ⟨r, hr, rfl, rfl⟩ := mem_fwd.mp m
    by_cases h0 : r.s = 0
    · exact one hr h0 hk
    · have hw : Kw rs r k := .inr ⟨hk.nz, hk⟩
      exact .step (ih (.step hr h0 hk)) (mem_bwd.mpr ⟨turn1 L r k, (hR _).mpr ((mem_turned g P).mpr ⟨r, hr, k, hw, rfl⟩), rfl, rfl⟩)
theorem busy_zero {rs : List Arr} (ne : 0 < rs.length) (ends : ∀ x : Int, x ≠ 0 → (∃ r ∈ rs, x = r.s ∨ x = r.t) → Busy rs x) : Busy rs 0 := by
  obtain ⟨r, hr⟩ := List.exists_mem_of_length_pos ne
  constructor
  · by_cases ht : r.t = 0
    · by_cases hs : r.s = 0
      · exact .one (mem_fwd.mpr ⟨r, hr, hs, ht⟩)
      · exact .step (ends r.s hs ⟨r, hr, .inl rfl⟩).1 (mem_fwd.mpr ⟨r, hr, rfl, ht⟩)
    · have b := ends r.t ht ⟨r, hr, .inr rfl⟩
      exact loop_f b.2 b.1
  · by_cases hs : r.s = 0
    · by_cases ht : r.t = 0
      · exact .one (mem_bwd.mpr ⟨r, hr, ht, hs⟩)
      · exact .step (ends r.t ht ⟨r, hr, .inr rfl⟩).2 (mem_bwd.mpr ⟨r, hr, rfl, hs⟩)
    · have b := ends r.s hs ⟨r, hr, .inl rfl⟩
      exact loop_b b.1 b.2
/-- a kind that is met is a good one -/
theorem kw_good (g : Good ls n rs) {r : Arr} (hr : r ∈ rs) {k : Str} (h : Kw rs r k) : kindB k = true ∧ k.length ≤ 100000 ∧ Asc k := by
  obtain ⟨q, hq, ht, rfl⟩ : ∃ q ∈ rs, q.t = 0 ∧ q.k = k := by
    rcases h with h | h
    · exact ⟨r, hr, h.1, h.2⟩
    · exact h.2.kind
  obtain ⟨a, _, _, b⟩ := g.arr q hq
  unfold arrowB at a
  rw [Bool.and_eq_true, if_pos ht] at a
  exact ⟨a.2, b⟩
theorem kw_some (g : Good ls n rs) {r : Arr} (hr : r ∈ rs) : ∃ k, Kw rs r k := by
  by_cases h0 : r.t = 0
  · exact ⟨r.k, .inl ⟨h0, rfl⟩⟩
  · obtain ⟨k, hk⟩ := kn_busy (good_tb g hr).1.2 h0
    exact ⟨k, .inr ⟨h0, hk⟩⟩
theorem good_turned (g : Good ls n rs) (P : Prs rs L) {R : List Arr} (hR : ∀ q, q ∈ R ↔ q ∈ turnedL L rs) (up : ascB R = true) (hl : R.length ≤ 10000) : Good ls (L.length + 1) R := by
  have pairs : ∀ x k, Kn rs x k → Busy R (nm L (x, k)) := fun x k h => by
    refine ⟨turned_f g P hR h, turned_b g P hR ?_ h⟩
    obtain ⟨r, hr, e⟩ := h.src
    exact e ▸ (good_tb g hr).2.1
  have hne : 0 < R.length := by
    obtain ⟨r, hr⟩ := List.exists_mem_of_length_pos g.ne
    obtain ⟨k, hk⟩ := kw_some g hr
    exact List.length_pos_of_mem ((hR _).mpr ((mem_turned g P).mpr ⟨r, hr, k, hk, rfl⟩))
  refine ⟨g.lets, g.plain, by omega, fun q hq => ?_, up, hne, hl, fun i hi => ?_⟩
  · obtain ⟨r, hr, k, hk, rfl⟩ := (mem_turned g P).mp ((hR _).mp hq)
    obtain ⟨a, b1, b2, _⟩ := g.arr r hr
    obtain ⟨k1, k2, k3⟩ := kw_good g hr hk
    have h1 := nm_range L (r.t, k)
    have h2 := nm_range L (r.s, k)
    have emp : (Str.ofString "").length ≤ 100000 ∧ Asc "" := ⟨by decide +kernel, by unfold Asc; decide +kernel⟩
    refine ⟨?_, b1, b2, ?_⟩
    · unfold arrowB stateB at a ⊢
      simp only [Bool.and_eq_true, decide_eq_true_eq] at a ⊢
      refine ⟨⟨⟨⟨h1.1, ?_⟩, h2.1, ?_⟩, a.1.2⟩, ?_⟩
      · show nm L (r.t, k) < _; omega
      · show nm L (r.s, k) < _; omega
      · show (if nm L (r.s, k) = 0 then kindB (if nm L (r.s, k) = 0 then k else "") else decide ((if nm L (r.s, k) = 0 then k else "").length = 0)) = true
        by_cases z : nm L (r.s, k) = 0
        · rw [if_pos z, if_pos z]; exact k1
        · rw [if_neg z, if_neg z]; decide +kernel
    · show (if nm L (r.s, k) = 0 then k else "").length ≤ 100000 ∧ Asc (if nm L (r.s, k) = 0 then k else "")
      by_cases z : nm L (r.s, k) = 0
      · rw [if_pos z]; exact ⟨k2, k3⟩
      · rw [if_neg z]; exact emp
  · by_cases h0 : i = 0
    · subst h0
      refine busy_zero hne fun x hx ⟨q, hq, e⟩ => ?_
      obtain ⟨r, hr, k, hk, rfl⟩ := (mem_turned g P).mp ((hR _).mp hq)
      rcases e with rfl | rfl
      · exact pairs _ _ ((P.mem _ _).mp (Decidable.byContradiction fun z => hx (nm_zero.mpr z)))
      · exact pairs _ _ ((P.mem _ _).mp (Decidable.byContradiction fun z => hx (nm_zero.mpr z)))
    · have hi' : i - 1 < L.length := by omega
      have e := nm_at P.nd hi'
      rw [show i - 1 + 1 = i by omega] at e
      rw [← e]
      exact pairs _ _ ((P.mem _ _).mp (List.getElem_mem hi'))
/-- how many there are -/
theorem prs_len (g : Good ls n rs) (P : Prs rs L) {ks : List Str} (hk : ∀ r ∈ rs, r.t = 0 → r.k ∈ ks) : L.length ≤ (n - 1) * ks.length := by
  have h := nodup_sub (m := ((List.range (n - 1)).flatMap fun i => ks.map fun k => (((i + 1 : Nat) : Int), k))) P.nd fun p hp => by
    have kn := (P.mem p.1 p.2).mp hp
    obtain ⟨r, hr, e⟩ := kn.src
    have b := good_b g r hr
    have nz := kn.nz
    refine List.mem_flatMap.mpr ⟨p.1.toNat - 1, List.mem_range.mpr (by omega), List.mem_map.mpr ⟨p.2, by obtain ⟨r', h1, h2, e'⟩ := kn.kind; exact e' ▸ hk r' h1 h2, ?_⟩⟩
    exact Prod.ext (by show ((p.1.toNat - 1 + 1 : Nat) : Int) = p.1; omega) rfl
  have len : ∀ l : List Nat, (l.flatMap fun i => ks.map fun k => (((i + 1 : Nat) : Int), k)).length = l.length * ks.length := by
    intro l
    induction l with
    | nil => simp
    | cons a l ih => rw [List.flatMap_cons, List.length_append, ih, List.length_map, List.length_cons, Nat.succ_mul]; omega
  rw [len, List.length_range] at h
  exact h
theorem turned_len (g : Good ls n rs) (P : Prs rs L) {ks : List Str} (hk : ∀ r ∈ rs, r.t = 0 → r.k ∈ ks) : (turnedL L rs).length ≤ rs.length * ks.length := by
  have one : ∀ r ∈ rs, (knowns L r).length ≤ ks.length := fun r hr => by
    have nd : (knowns L r).Nodup := by
      unfold knowns
      split
      · exact List.pairwise_singleton _ _
      · exact knows_nd P.nd _
    refine nodup_sub nd fun k h => ?_
    rcases (knowns_kw g P hr k).mp h with q | q
    · exact q.2 ▸ hk r hr q.1
    · obtain ⟨r', h1, h2, e⟩ := q.2.kind
      exact e ▸ hk r' h1 h2
  have : ∀ l : List Arr, (∀ r ∈ l, r ∈ rs) → (l.flatMap fun r => (knowns L r).map (turn1 L r)).length ≤ l.length * ks.length := by
    intro l
    induction l with
    | nil => intro _; simp
    | cons a l ih =>
      intro h
      have h1 := ih fun r hr => h r (List.mem_cons_of_mem _ hr)
      have h2 := one a (h a List.mem_cons_self)
      rw [List.flatMap_cons, List.length_append, List.length_map, List.length_cons, Nat.succ_mul]
      omega
  exact this rs fun _ h => h
theorem reads_kind {rs : List Arr} {k : Str} : ∀ {ls : List Str} {x : Int}, Reads rs x ls k → ∃ r ∈ rs, r.t = 0 ∧ r.k = k
  | [], _, h => h.elim
  | [_], _, ⟨r, hr, _, _, h3, h4⟩ => ⟨r, hr, h3, h4⟩
  | _ :: b :: ls, _, ⟨_, _, _, _, _, h⟩ => reads_kind (ls := b :: ls) h
/-- a kind is that of a word -/
theorem rch_go (hx : Rch (fwd rs) x) : x ≠ 0 → ∃ w, Go rs 0 w x := by
  have one : ∀ r ∈ rs, r.s = 0 → r.t ≠ 0 → ∃ w, Go rs 0 w r.t := fun r hr hs ht => ⟨[r.l], r, hr, hs, rfl, ht, rfl⟩
  induction hx with
  | one m =>
    intro h
    obtain ⟨r, hr, e1, rfl⟩ := mem_fwd.mp m
    exact one r hr e1 h
  | @step x y _ m ih =>
    intro h
    obtain ⟨r, hr, rfl, rfl⟩ := mem_fwd.mp m
    by_cases h0 : r.s = 0
    · exact one r hr h0 h
    · obtain ⟨w, hw⟩ := ih h0
      exact ⟨w ++ [r.l], go_snoc.mpr ⟨r.s, hw, r, hr, rfl, rfl, h, rfl⟩⟩
theorem kinds_read (g : Good ls n rs) {k : Str} : (∃ r ∈ rs, r.t = 0 ∧ r.k = k) ↔ ∃ w, Reads rs 0 w k := by
  constructor
  · rintro ⟨r, hr, ht, rfl⟩
    by_cases h0 : r.s = 0
    · exact ⟨[r.l], r, hr, h0, rfl, ht, rfl⟩
    · obtain ⟨w, hw⟩ := rch_go (good_tb g hr).2.1 h0
      exact ⟨w ++ [r.l], reads_snoc.mpr ⟨r.s, hw, r, hr, rfl, rfl, ht, rfl⟩⟩
  · rintro ⟨w, hw⟩
    exact reads_kind hw
end
end Ami

set_option Elab.async false
set_option linter.all false
set_option maxRecDepth 100000
set_option maxHeartbeats 4000000
namespace Ami
open PySem PySem.Spec PyProof.Rows L2
theorem knows_outs (L' : List (Addr × Int × Str)) (x : Int) : outsV (L'.map fun y => (y.2.1, V.str y.2.2)) x = (knows (L'.map (·.2)) x).map V.str := by
  unfold outsV knows
  induction L' with
  | nil => rfl
  | cons y L' ih =>
    rw [List.map_cons, List.map_cons]
    by_cases e : y.2.1 = x
    · rw [List.filter_cons_of_pos (by simpa using e), List.filter_cons_of_pos (by simpa using e), List.map_cons, List.map_cons, List.map_cons, ih]
    · rw [List.filter_cons_of_neg (by simpa using e), List.filter_cons_of_neg (by simpa using e), ih]
theorem turnedL_snoc (L : List (Int × Str)) (rs : List Arr) (r : Arr) : turnedL L (rs ++ [r]) = turnedL L rs ++ (knowns L r).map (turn1 L r) := by
  unfold turnedL
  rw [List.flatMap_append, List.flatMap_cons, List.flatMap_nil, List.append_nil]
theorem turnedL_app (L : List (Int × Str)) (rs qs : List Arr) : turnedL L (rs ++ qs) = turnedL L rs ++ turnedL L qs := by
  unfold turnedL
  rw [List.flatMap_append]
theorem turnedL_part (L : List (Int × Str)) {rs : List Arr} {i : Nat} {r : Arr} (h : rs[i]? = some r) (j : Nat) : (turnedL L (rs.take i)).length + min j (knowns L r).length ≤ (turnedL L rs).length := by
  have e : turnedL L rs = (turnedL L (rs.take i) ++ (knowns L r).map (turn1 L r)) ++ turnedL L (rs.drop (i + 1)) := by
    rw [← turnedL_snoc, ← take_snoc h, ← turnedL_app, List.take_append_drop]
  rw [e, List.length_append, List.length_append, List.length_map]
  omega
theorem asc_pair : ∀ {rs : List Arr}, ascB rs = true → rs.Pairwise fun a b => aLt a b = true
  | [], _ => .nil
  | [_], _ => List.pairwise_singleton _ _
  | a :: b :: rs, h => by
    have h : (aLt a b && ascB (b :: rs)) = true := h
    rw [Bool.and_eq_true] at h
    have ih := asc_pair h.2
    refine List.pairwise_cons.mpr ⟨fun x hx => ?_, ih⟩
    rcases List.mem_cons.mp hx with e | e
    · rw [e]; exact h.1
    · exact lex_trans (O := itemOrd) _ _ _ h.1 ((List.pairwise_cons.mp ih).1 x e)
theorem good_nodup {ls : Str} {n : Nat} {rs : List Arr} (g : Good ls n rs) : rs.Nodup :=
  (asc_pair g.asc).imp fun {a b} h e => by
    subst e
    have : aLt a a = false := lex_irrefl (O := itemOrd) _
    rw [this] at h
    exact nomatch h
/-- the numbers of the pairs, as a dict has them -/
structure Nums (K : PySem.W.Frag) (H : Hp) (d : Addr) (L : List (Int × Str)) : Prop where
  ex : ∃ kvs : List (List Key × V), H d = some (.dT kvs) ∧ ∀ x k, valV kvs (wkey x k) = if (x, k) ∈ L then some (.int (nm L (x, k))) else none
theorem Nums.same {K : PySem.W.Frag} {H H' : Hp} {d : Addr} {L : List (Int × Str)} (N : Nums K H d L) (s : Same H H') : Nums K H' d L := by
  obtain ⟨kvs, e, h⟩ := N.ex
  exact ⟨kvs, s _ _ e, h⟩
theorem Nums.isD {K : PySem.W.Frag} {H : Hp} {d : Addr} {L : List (Int × Str)} (N : Nums K H d L) : IsD H d := by
  obtain ⟨kvs, e, _⟩ := N.ex
  exact .inr ⟨kvs, .inl e⟩
theorem Nums.get {K : PySem.W.Frag} {H : Hp} {d p : Addr} {L : List (Int × Str)} (N : Nums K H d L) {x : Int} {k : Str} (ep : H p = some (.tup ((wkey x k).map kV))) : ∃ o, DGet H d (.ref p) o ∧ o.getD (.int 0) = .int (nm L (x, k)) := by
  obtain ⟨kvs, e, h⟩ := N.ex
  refine ⟨_, DGet.t e ep, ?_⟩
  rw [h]
  by_cases z : (x, k) ∈ L
  · rw [if_pos z]; rfl
  · rw [if_neg z, nm_zero.mpr z]; rfl
def spBackOf (K : PySem.W.Frag) : Sp := fun vs H Q _ => ∃ (t : Addr) (ls : Str) (n : Nat) (rs : List Arr) (ks : List Str), vs = [.ref t] ∧ ArrT K H t rs ∧ Good ls n rs ∧ rs.length ≤ 100 ∧ (∀ r ∈ rs, r.t = 0 → r.k ∈ ks) ∧ rs.length * ks.length ≤ 10000 ∧
  ∀ (H' : Hp) (q a : Addr) (R : List Arr) (L : List (Int × Str)), Same H H' → SqT K H' q [.int ((L.length + 1 : Nat) : Int), .ref a] → ArrT K H' a R → Prs rs L → (∀ x, x ∈ R ↔ x ∈ turnedL L rs) → ascB R = true → R.length = (turnedL L rs).length → Q (.ref q) H'
end Ami
namespace K06
open PySem PySem.Spec PyProof.Rows L2 Ami
section
variable {P : Program} {w : World} {K : PySem.W.Frag} {mg : Str → Option Value} {base : Heap}
abbrev nBackOf : List Str := ["arrows", "pairs", "number", "pair", "numbers", "kinds", "turned", "source", "letter", "target", "kind", "known", "new_source", "new_target"]
theorem scBackOf : FnScope nBackOf ["arrows"] (defScope sBackOf) := ⟨rfl, rfl, rfl, by decide +kernel, rfl, by decide +kernel, by decide +kernel⟩
theorem ok_backOf {f f1 f2 : Addr} {fd fd1 fd2 : FuncData} (F : Fun K "backward_of" "backward_of" sBackOf f fd) (T : Blt mg) (D1 : DefAt K mg "links_of" sLinks ["pairs"] f1 fd1) (D2 : DefAt K mg "kinds_ahead" sAhead ["arrows"] f2 fd2) :
    FnOk P w K mg base CX0 3 f fd ["arrows"] (spBackOf K) := by
  have G1 : FnOk P w K mg base CX0 1 f1 fd1 ["pairs"] (spLinksV K) := ok_linksV D1.F
  have G2 : FnOk P w K mg base CX0 2 f2 fd2 ["arrows"] (spAhead K) := ok_ahead D2.F T D1
  refine F.ok scBackOf (fun vs H Q E h => ?_) (fun cdv A outer s H vs Q E hr h => ?_)
  · obtain ⟨t, ls, n, rs, ks, rfl, _⟩ := h
    rfl
  · obtain ⟨t, ls, n, rs, ks, rfl, ⟨us, ht, hu⟩, g, hn, hks, hlen, k⟩ := h
    have hu1 := hu_of hr
    have hun := hr.units
    have hr1 := hr.mono (j := 1) (by decide)
    refine ⟨_, pss_cons (ps_set (i := 1) scBackOf.nd rfl (Or.inl rfl) (pc D2 G2 hr (pa_cons (pv 0) pa_nil)))
      (pss_cons (ps_setDcT (i := 4) (own := [("number", 2), ("pair", 3)]) (g := gTup K 2 (gCons (gName 2) (gCons (gName 3) gNil))) (tt := tYes) rfl rfl (by rfl) hu1 rfl scBackOf.nd (pi_enumF (by rfl) T.enumerate (pa_cons (pv 1) pa_nil) (pk_cons pe_int pk_nil))
        (blkOk_by (own := [("number", 2), ("pair", 3)]) (N := nBackOf) (sc := defScope sBackOf) (by decide +kernel)) (fun _ _ _ _ _ => pg_tup (by rfl) (pgs_cons (pg_name (i := 2) scBackOf.nd rfl (Or.inl rfl)) (pgs_cons (pg_name (i := 3) scBackOf.nd rfl (Or.inl rfl)) pgs_nil))) (fun _ _ _ _ _ => pts_nil)
        (fun _ _ _ _ _ => pv 3) (fun _ _ _ _ _ => pv 2))
      (pss_cons (ps_set (i := 5) scBackOf.nd rfl (Or.inl rfl) (pc D1 G1 hr1 (pa_cons (pv 1) pa_nil)))
      (pss_cons (ps_set (i := 6) scBackOf.nd rfl (Or.inl rfl) (pe_lst pa_nil))
      (pss_cons (ps_for PassesOwn.never rfl (pi_tup (pv 0)) (pg_tup (by rfl) (pgs_cons (pg_name (i := 7) scBackOf.nd rfl (Or.inl rfl)) (pgs_cons (pg_name (i := 8) scBackOf.nd rfl (Or.inl rfl)) (pgs_cons (pg_name (i := 9) scBackOf.nd rfl (Or.inl rfl)) (pgs_cons (pg_name (i := 10) scBackOf.nd rfl (Or.inl rfl)) pgs_nil)))))
        (pss_one (ps_for PassesOwn.never rfl (pi_list (pe_dget2 hu1 (pv 5) (pv 9) (pe_lst (pa_cons (pv 10) pa_nil)) ⟨by rfl, by rfl, by rfl, by rfl⟩)) (pg_name (i := 11) scBackOf.nd rfl (Or.inl rfl))
          (pss_cons (ps_set (i := 12) scBackOf.nd rfl (Or.inl rfl) (pe_dget2 hu1 (pv 4) (pe_tup (pa_cons (pv 9) (pa_cons (pv 11) pa_nil))) pe_int ⟨by rfl, by rfl, by rfl, by rfl⟩))
          (pss_cons (ps_set (i := 13) scBackOf.nd rfl (Or.inl rfl) (pe_dget2 hu1 (pv 4) (pe_tup (pa_cons (pv 7) (pa_cons (pv 11) pa_nil))) pe_int ⟨by rfl, by rfl, by rfl, by rfl⟩))
          (pss_one (ps_expr (pe_bm PySem.F.plainAttrs_list PySem.F.slot_list_append PySem.F.type_list_append mt_append (pv 6) (pa_cons (pe_tup (pa_cons (pv 12) (pa_cons (pv 8) (pa_cons (pv 13) (pa_cons (pe_ifExp (pt_cmpR op_eq (pv 13) pe_int (nomark _)) (pv 11) pe_str) pa_nil))))) pa_nil)))))))))
      (pss_one (ps_ret (pe_tup (pa_cons (pe_op op_add (pe_callB call_len (by rfl) T.len PySem.boot_len (pa_cons (pv 1) pa_nil)) pe_int) (pa_cons (pe_callTy call_tuple_of (by rfl) T.tuple (by decide +kernel) (pa_cons (pe_callB (cr_sortN (K0 := K) rfl hun) (by rfl) T.sorted (by decide +kernel) (pa_cons (pv 6) pa_nil)) pa_nil)) pa_nil))))))))), ?_⟩
    refine ⟨_, rfl, t, rs, rfl, ⟨us, ht, hu⟩, hn, fun H1 l L' s1 hl0 el tups nd mem => ?_⟩
    obtain ⟨L, hL⟩ : ∃ L, L'.map (·.2) = L := ⟨_, rfl⟩
    rw [hL] at nd mem
    have P0 : Prs rs L := ⟨nd, mem⟩
    have lL : L.length = L'.length := by rw [← hL, List.length_map]
    have atL : ∀ {i : Nat} {y : Addr × Int × Str}, L'[i]? = some y → L[i]? = some y.2 := fun {i y} h => by rw [← hL, List.getElem?_map, h]; rfl
    have few : L.length ≤ 10000 := by
      rw [← Nat.mul_one L.length]
      have h1 := prs_len g P0 hks
      have h2 := turned_len g P0 hks
      have : L.length ≤ rs.length * rs.length := by
        have := nodup_sub P0.nd fun p hp => mem_allSK ((P0.mem p.1 p.2).mp hp)
        rwa [allSK_len] at this
      have := Nat.le_trans this (Nat.mul_le_mul hn hn)
      omega
    -- their numbers
    refine ⟨_, rfl, l, L'.map (fun x => V.ref x.1), 1, rfl, rfl, SqL.of el, by decide, by decide, fun nd' hnd => ?_⟩
    have nln : nd' ≠ l := fun e => by rw [e, el] at hnd; exact nomatch hnd
    refine dct_it (walk_enumF (K := K) (a := l) (k := 1) (xs := L'.map fun x => V.ref x.1)) (fun i H' => Same H1 H' ∧ ∃ kvs : List (List Key × V), H' nd' = some (.dT kvs) ∧ kvs.length ≤ i ∧ ∀ x k, valV kvs (wkey x k) = if (x, k) ∈ L.take i then some (.int (nm L (x, k))) else none)
      ⟨Same.upd hnd, [], upd_same, Nat.le_refl _, fun x k => by rw [List.take_zero, if_neg (fun h => nomatch h)]; rfl⟩ (fun i H' _ ⟨sm, _⟩ => SqL.of (sm _ _ el)) ?_ ?_
    · rintro i v H2 H3 hi ⟨sm, kvs, ek, lk, hv⟩ ⟨T0, x, rfl, hT0, rfl, hx⟩
      rw [List.getElem?_map] at hx
      obtain ⟨y, hy, rfl⟩ : ∃ y, L'[i]? = some y ∧ x = V.ref y.1 := by
        cases e : L'[i]? with
        | none => rw [e] at hx; exact nomatch hx
        | some y => rw [e] at hx; cases hx; exact ⟨y, rfl, rfl⟩
      have hyL := atL hy
      have hiL : i < L.length := (List.getElem?_eq_some_iff.mp hyL).1
      have sT := Same.upd (o := .tup [V.int (1 + (i : Nat)), V.ref y.1]) hT0
      refine ⟨T0, _, rfl, SqT.of upd_same, rfl, ?_⟩
      refine ⟨_, _, rfl, _, _, rfl, rfl, rfl, ?_⟩
      dsimp only [tYes]
      refine iteT ?_
      have ey := (sm.trans sT) _ _ (tups y (List.mem_of_getElem? hy))
      refine ⟨_, rfl, _, rfl, y.1, wkey y.2.1 y.2.2, kvs, rfl, ey, sT _ _ ek, ?_, ?_⟩
      · exact Nat.lt_of_le_of_lt (by omega : _ ≤ 10000) (by decide)
      · refine ⟨keep_put (sm.trans sT) hnd, _, upd_same, Nat.le_trans (length_putK _ _ _) (Nat.succ_le_succ lk), fun x k => ?_⟩
        rw [valV_put, hv, take_snoc hyL]
        have en : nm L y.2 = 1 + (i : Int) := by
          have := nm_at P0.nd hiL
          have e2 : L[i] = y.2 := by
            have := List.getElem?_eq_getElem hiL
            rw [hyL] at this
            exact (Option.some.inj this).symm
          rw [e2] at this
          omega
        by_cases e : (x, k) = y.2
        · have e1 : wkey x k = wkey y.2.1 y.2.2 := by rw [← e]
          rw [if_pos e1, if_pos (List.mem_append_right _ (List.mem_singleton.mpr e)), e, en]
        · have e1 : ¬ wkey x k = wkey y.2.1 y.2.2 := fun z => e (by
            obtain ⟨a, b⟩ := wkey_inj.mp z
            rw [a, b])
          rw [if_neg e1]
          by_cases z : (x, k) ∈ L.take i
          · rw [if_pos z, if_pos (List.mem_append_left _ z)]
          · rw [if_neg z, if_neg fun q => (List.mem_append.mp q).elim z fun q => e (List.mem_singleton.mp q)]
    rintro H2 ⟨s2, kvs, ek, _, hv⟩
    rw [List.length_map, ← lL, List.take_length] at hv
    have N2 : Nums K H2 nd' L := ⟨kvs, ek, hv⟩
    clear hv ek
    -- the kinds of states
    have s02 := s1.trans s2
    refine ⟨_, rfl, l, L'.map (fun x => V.ref x.1), L'.map (fun y => (y.2.1, V.str y.2.2)), rfl, s2 _ _ el, ?_, by rw [List.length_map, ← lL]; exact few, fun H3 kd LK => ?_⟩
    · refine All2.map _ _ fun x hx => ⟨x.1, rfl, SqT.of (s2 _ _ (tups x hx))⟩
    have s03 := s02.trans LK.old
    have N3 := N2.same LK.old
    have el3 := LK.old _ _ (s2 _ _ el)
    refine ⟨Nat.zero_le _, fun td htd => ?_⟩
    have s4 : Same H3 (upd H3 td (.lst [])) := Same.upd htd
    have s04 := s03.trans s4
    have htd0 := none_of s03 htd
    refine ⟨_, rfl, t, rfl, ⟨us, sqT_same s04 ht⟩, ?_⟩
    have stayN : ∀ {H' : Hp}, Same H3 H' → Nums K H' nd' L := fun s => N3.same s
    have LK3 := LK
    refine for_tup (K := K) (a := t) (xs := us) (fun i σ H' => ∃ (v7 v8 v9 v10 v11 v12 v13 : Option V) (ys : List V), σ = [some (.ref t), some (.ref l), none, none, some (.ref nd'), some (.ref kd), some (.ref td), v7, v8, v9, v10, v11, v12, v13] ∧ Same H3 H' ∧ H' td = some (.lst ys) ∧ All2 (AtA K H') ys (turnedL L (rs.take i)))
      ⟨none, none, none, none, none, none, none, [], rfl, s4, upd_same, (by rw [List.take_zero]; exact .nil)⟩ (fun i σ H' _ ⟨_, _, _, _, _, _, _, _, _, sm, _⟩ => sqT_same (s03.trans sm) ht) ?_ ?_
    · rintro i x σ H5 hx ⟨v7, v8, v9, v10, v11, v12, v13, ys, rfl, s5, et, hys⟩
      obtain ⟨r, hr', at1⟩ := hu.at hx
      have hrm := List.mem_of_getElem? hr'
      obtain ⟨a, rfl, ha⟩ := AtA.same (s03.trans s5) at1
      have LK5 := LK.same s5
      refine ⟨a, _, rfl, ha, rfl, ?_⟩
      refine ⟨_, _, rfl, _, _, rfl, _, _, rfl, _, _, rfl, rfl, ?_⟩
      refine ⟨_, rfl, kd, rfl, LK5.isD, _, rfl, _, rfl, (by show 1 ≤ sizeLine; decide), fun b hb => ?_⟩
      have sb := Same.upd (o := .lst [V.str r.k]) hb
      have eb : (upd H5 b (.lst [V.str r.k])) b = some (.lst [V.str r.k]) := upd_same
      have LK6 := LK5.same sb
      have et6 := sb _ _ et
      have s6 := s5.trans sb
      have hys6 : All2 (AtA K (upd H5 b (.lst [V.str r.k]))) ys (turnedL L (rs.take i)) := hys.imp fun _ _ => AtA.to fun _ _ h => sqT_same sb h
      have nbt : b ≠ td := fun e => by rw [e, et] at hb; exact nomatch hb
      revert eb LK6 et6 s6 hys6
      generalize upd H5 b (.lst [V.str r.k]) = H6
      intro eb LK6 et6 s6 hys6
      obtain ⟨o, go, g0, g1⟩ := LK6.get r.t
      have kno : ∃ c, o.getD (.ref b) = .ref c ∧ H6 c = some (.lst ((knowns L r).map V.str)) ∧ c ≠ td := by
        rw [knows_outs, hL] at g0 g1
        unfold knowns
        cases o with
        | none =>
          have := g0 rfl
          rw [List.map_eq_nil_iff] at this
          rw [if_pos this]
          exact ⟨b, rfl, eb, nbt⟩
        | some v =>
          obtain ⟨c, rfl, hc, ne⟩ := g1 v rfl
          rw [if_neg fun z => ne (by rw [z]; rfl)]
          refine ⟨c, rfl, hc, fun e => ?_⟩
          rw [e, et6] at hc
          obtain ⟨kvs', q1, _, _, q2, _⟩ := LK3.ex
          obtain ⟨kvs6, q3, _, _, q4, _⟩ := LK6.ex
          have := LK6.old
          rcases go with ⟨kv1, k1, r1, r2, r3⟩ | ⟨kv1, k1, b1, r1, r2, r3, r4⟩
          · have e6 : H6 kd = some (.dK kvs') := s6 _ _ q1
            have e7 : k1 = .inl r.t := by
              cases k1 with
              | inl j => cases r2; rfl
              | inr j => exact nomatch r2
            subst e7
            have e8 : kv1 = kvs' := by
              rcases r1 with r1 | ⟨u, r1⟩
              · rw [e6] at r1; cases r1; rfl
              · rw [e6] at r1; exact nomatch r1
            rw [e8] at r3
            obtain ⟨b2, w1, _, w2, w3, _⟩ := q2 _ _ r3.symm
            cases w1
            rw [e] at w3
            rw [htd] at w3
            exact nomatch w3
          · exact nomatch r2
      obtain ⟨c, ec, hc, nct⟩ := kno
      refine ⟨o, go, c, by rw [ec], ⟨_, SqL.of hc⟩, ?_⟩
      rw [take_snoc hr', turnedL_snoc]
      refine for_list (K := K) (a := c) (xs := (knowns L r).map V.str) (fun j σ H' => ∃ (v11 v12 v13 : Option V) (zs : List V), σ = [some (.ref t), some (.ref l), none, none, some (.ref nd'), some (.ref kd), some (.ref td), some (.int r.s), some (.str r.l), some (.int r.t), some (.str r.k), v11, v12, v13] ∧ Same H3 H' ∧ H' c = some (.lst ((knowns L r).map V.str)) ∧ H' td = some (.lst zs) ∧ All2 (AtA K H') zs (turnedL L (rs.take i) ++ ((knowns L r).take j).map (turn1 L r)))
        ⟨v11, v12, v13, ys, rfl, s6, hc, et6, (by rw [List.take_zero, List.map_nil, List.append_nil]; exact hys6)⟩ (fun j σ H' _ ⟨_, _, _, _, _, _, ec, _⟩ => SqL.of ec) ?_ ?_
      · rintro j y σ H7 hy ⟨v11, v12, v13, zs, rfl, s7, ec7, et7, hzs⟩
        obtain ⟨kn, hkn, rfl⟩ : ∃ kn, (knowns L r)[j]? = some kn ∧ y = V.str kn := by
          rw [List.getElem?_map] at hy
          cases e : (knowns L r)[j]? with
          | none => rw [e] at hy; exact nomatch hy
          | some z => rw [e] at hy; cases hy; exact ⟨z, rfl, rfl⟩
        have lz : zs.length ≤ 10000 := by
          have h1 := hzs.len
          have h2 := turned_len g P0 hks
          have h3 := turnedL_part L hr' j
          rw [List.length_append, List.length_map, List.length_take] at h1
          omega
        refine ⟨_, rfl, nd', rfl, (stayN s7).isD, _, rfl, _, rfl, (by show 2 ≤ sizeLine; decide), fun p1 hp1 => ?_⟩
        have sa := Same.upd (o := .tup [V.int r.t, .str kn]) hp1
        obtain ⟨o1, d1, e1⟩ := (stayN (s7.trans sa)).get (x := r.t) (k := kn) (p := p1) upd_same
        refine ⟨o1, d1, ?_⟩
        rw [e1]
        refine ⟨_, rfl, nd', rfl, (stayN (s7.trans sa)).isD, _, rfl, _, rfl, (by show 2 ≤ sizeLine; decide), fun p2 hp2 => ?_⟩
        have sb2 := Same.upd (o := .tup [V.int r.s, .str kn]) hp2
        obtain ⟨o2, d2, e2⟩ := (stayN ((s7.trans sa).trans sb2)).get (x := r.s) (k := kn) (p := p2) upd_same
        refine ⟨o2, d2, ?_⟩
        rw [e2]
        have s78 := sa.trans sb2
        clear d1 d2
        revert s78
        generalize upd (upd H7 p1 (.tup [V.int r.t, .str kn])) p2 (.tup [V.int r.s, .str kn]) = H8
        intro s78
        have et8 := s78 _ _ et7
        refine ⟨_, rfl, .inl ⟨rfl, _, SqL.of et8⟩, _, rfl, _, rfl, _, rfl, ?_⟩
        have ec8 := s78 _ _ ec7
        have fin : ∀ q, H8 q = none → Same H3 (upd (upd H8 q (.tup (turn1 L r kn).vs)) td (.lst (zs ++ [.ref q]))) ∧ (upd (upd H8 q (.tup (turn1 L r kn).vs)) td (.lst (zs ++ [.ref q]))) c = some (.lst ((knowns L r).map V.str)) ∧
            All2 (AtA K (upd (upd H8 q (.tup (turn1 L r kn).vs)) td (.lst (zs ++ [.ref q])))) (zs ++ [.ref q]) (turnedL L (rs.take i) ++ ((knowns L r).take (j + 1)).map (turn1 L r)) := fun q hq => by
          have sq := Same.upd (o := .tup (turn1 L r kn).vs) hq
          have et9 := sq _ _ et8
          refine ⟨keep_put ((s7.trans s78).trans sq) htd, by rw [upd_ne nct]; exact sq _ _ ec8, ?_⟩
          rw [take_snoc hkn, List.map_append, ← List.append_assoc]
          exact (hzs.imp fun _ _ => AtA.to fun _ _ h => sqT_put et9 (sqT_same (s78.trans sq) h)).app (.cons ⟨q, rfl, sqT_put et9 (SqT.of upd_same)⟩ .nil)
        refine ⟨_, rfl, rfl, _, rfl, ?_⟩
        dsimp only
        by_cases z : nm L (r.s, kn) = 0
        · have ev : (turn1 L r kn).vs = [.int (nm L (r.t, kn)), .str r.l, .int (nm L (r.s, kn)), .str kn] := by
            unfold turn1 Arr.vs
            rw [if_pos z]
          rw [ev] at fin
          rw [show decide (V.int (nm L (r.s, kn)) = V.int 0) = true from decide_eq_true (by rw [z])]
          refine iteT ?_
          refine ⟨_, rfl, (by show 4 ≤ sizeLine; decide), fun q hq => ?_⟩
          obtain ⟨f1, f2, f3⟩ := fin q hq
          exact ⟨td, zs, _, rfl, rfl, (Same.upd hq) _ _ et8, Nat.lt_of_le_of_lt lz (by decide), _, _, _, zs ++ [.ref q], rfl, f1, f2, upd_same, f3⟩
        · have ev : (turn1 L r kn).vs = [.int (nm L (r.t, kn)), .str r.l, .int (nm L (r.s, kn)), .str ""] := by
            unfold turn1 Arr.vs
            rw [if_neg z]
          rw [ev] at fin
          rw [show decide (V.int (nm L (r.s, kn)) = V.int 0) = false from decide_eq_false fun q => z (V.int.inj q)]
          refine iteF ?_
          refine ⟨(by show 4 ≤ sizeLine; decide), fun q hq => ?_⟩
          obtain ⟨f1, f2, f3⟩ := fin q hq
          exact ⟨td, zs, _, rfl, rfl, (Same.upd hq) _ _ et8, Nat.lt_of_le_of_lt lz (by decide), _, _, _, zs ++ [.ref q], rfl, f1, f2, upd_same, f3⟩
      · rintro σ H7 ⟨v11, v12, v13, zs, rfl, s7, ec7, et7, hzs⟩
        rw [List.length_map, List.take_length] at hzs
        exact ⟨_, _, _, _, _, _, _, zs, rfl, s7, et7, hzs⟩
    · rintro σ H5 ⟨v7, v8, v9, v10, v11, v12, v13, ys, rfl, s5, et, hys⟩
      rw [List.take_of_length_le (by rw [← hu.len]; exact Nat.le_refl _)] at hys
      refine ⟨_, rfl, _, _, rfl, .inl ⟨_, SqL.of (s5 _ _ el3), rfl⟩, ?_⟩
      refine ⟨_, 1, rfl, rfl, ?_⟩
      obtain ⟨ks0, e1, e2, hks0⟩ := rows_keys hys
      have eq1 : ks0.length = (turnedL L rs).length := by
        have := congrArg List.length e2
        rwa [List.length_map, List.length_map] at this
      refine ⟨_, rfl, td, ks0, rfl, by rw [← e1]; exact SqL.of et, fun p hp => by obtain ⟨r, _, e, h⟩ := hks0 p hp; exact keys_memb e h, keys_comp fun p hp => by obtain ⟨r, _, e, _⟩ := hks0 p hp; exact ⟨r, e⟩, fun ks' p pm up hp => ?_⟩
      have s6 := Same.upd (o := .lst (ks'.map fun p => V.ref p.1)) hp
      obtain ⟨qs, hq1, hq2⟩ := keys_rows (K := K) (H := upd H5 p (.lst (ks'.map fun p => V.ref p.1))) (L := ks') fun x hx => by
        obtain ⟨r, _, e, h⟩ := hks0 x (pm.mem_iff.mp hx)
        exact ⟨r, e, h.same s6⟩
      have nd0 : (ks0.map (·.2)).Nodup := by
        rw [e2]
        exact List.pairwise_map.mpr ((turned_nd g P0 (good_nodup g)).imp fun h e => h (nkA_inj e))
      have upq := rows_up hq2 up ((pm.map (·.2)).nodup_iff.mpr nd0)
      have pq : (qs.map nkA).Perm ((turnedL L rs).map nkA) := by
        rw [← hq2, ← e2]
        exact pm.map _
      have lq : qs.length = (turnedL L rs).length := by
        have := pq.length_eq
        rwa [List.length_map, List.length_map] at this
      refine ⟨p, _, rfl, .inl ⟨SqL.of upd_same, fun a hT => ?_⟩⟩
      have s7 := Same.upd (o := .tup (ks'.map fun p => V.ref p.1)) hT
      refine ⟨(by show 2 ≤ sizeLine; decide), fun q hq => ?_⟩
      have en : ((L'.map fun x => V.ref x.1).length : Int) + 1 = ((L.length + 1 : Nat) : Int) := by
        rw [List.length_map, lL]; omega
      have s8 := Same.upd (o := .tup [V.int (((L'.map fun x => V.ref x.1).length : Int) + 1), .ref a]) hq
      refine k _ q a qs L (((s03.trans s5).trans s6).trans (s7.trans s8)) ?_ ⟨_, sqT_same s8 (SqT.of upd_same), hq1.imp fun _ _ h => h.same (s7.trans s8)⟩ P0 (fun x => ?_) upq lq
      · rw [← en]
        exact SqT.of upd_same
      · have h1 : nkA x ∈ qs.map nkA ↔ nkA x ∈ (turnedL L rs).map nkA := pq.mem_iff
        have h2 : ∀ l : List Arr, nkA x ∈ l.map nkA ↔ x ∈ l := fun l => ⟨fun h => by
          obtain ⟨y, hy, e⟩ := List.mem_map.mp h
          exact nkA_inj e ▸ hy, fun h => List.mem_map.mpr ⟨x, h, rfl⟩⟩
        rw [h2, h2] at h1
        exact h1
end
end K06

set_option Elab.async false
set_option linter.all false
set_option maxRecDepth 100000
set_option maxHeartbeats 4000000
namespace Ami
open PySem PySem.Spec PyProof.Rows L2
theorem iteN {b : Bool} {p q : Prop} (h : b = true) (k : q) : if (!b) = true then p else q := by
  rw [h]
  exact iteF k
/-- one by position, one by keyword -/
def g11 {α : Type} : List α → List α → List α
  | [c], [t] => [c, t]
  | _, _ => []
theorem g11_rel {vs : List V} {us : List Value} {zs : List V} {ws : List Value} (r : Vals vs us) (rz : Vals zs ws) : Vals (g11 vs zs) (g11 us ws) := by
  cases r with
  | nil => exact .nil
  | cons a b =>
    cases b with
    | cons _ _ => exact .nil
    | nil =>
      cases rz with
      | nil => exact .nil
      | cons c d =>
        cases d with
        | nil => exact .cons a (.cons c .nil)
        | cons _ _ => exact .nil
theorem sum_few {ks : List Str} (h : ∀ y ∈ ks, y.length ≤ 100) : (ks.map fun y => y.length).sum ≤ 100 * ks.length := by
  induction ks with
  | nil => exact Nat.le_refl _
  | cons a r ih =>
    have h1 := h a List.mem_cons_self
    have h2 := ih fun y hy => h y (List.mem_cons_of_mem _ hy)
    rw [List.map_cons, List.sum_cons, List.length_cons]
    omega
/-- the kinds of a format are short -/
theorem good_kind {ls : Str} {n : Nat} {rs : List Arr} (g : Good ls n rs) {r : Arr} (hr : r ∈ rs) (h0 : r.t = 0) : Asc r.k ∧ r.k.length ≤ 8 := by
  obtain ⟨h1, _, _, _, h5⟩ := g.arr r hr
  unfold arrowB at h1
  rw [Bool.and_eq_true, if_pos h0] at h1
  have := h1.2
  unfold kindB at this
  simp only [Bool.and_eq_true, decide_eq_true_eq] at this
  exact ⟨h5, this.2.2⟩
theorem kindsOf_short {ls : Str} {n : Nat} {rs : List Arr} (g : Good ls n rs) {zs ks : List Str} (h : KindsOf rs zs ks) : ∀ y ∈ ks, Asc y ∧ y.length ≤ 100 := fun y hy => by
  obtain ⟨r, hr, h0, rfl⟩ := reads_kind ((h.2.2 y).mp hy)
  have := good_kind g hr h0
  exact ⟨this.1, by omega⟩
theorem Wy.weak {K : PySem.W.Frag} {H0 H H' : Hp} {d : Addr} {rs : List Arr} (W : Wy K H0 H d rs) (kd : ∀ kvs, H d = some (.dT kvs) → H' d = some (.dT kvs)) (kl : ∀ b xs, H b = some (.lst xs) → H' b = some (.lst xs)) (kt : ∀ a ys, SqT K H a ys → SqT K H' a ys) : Wy K (fun _ => none) H' d rs := by
  obtain ⟨kvs, e1, e2, e3, e4, e5⟩ := W.ex
  refine ⟨(fun a o h => nomatch h), rfl, kvs, kd _ e1, e2, e3, fun s l v h => ?_, e5⟩
  obtain ⟨b, xs, a1, a2, a3, a4, a5⟩ := e4 s l v h
  exact ⟨b, xs, a1, a2, rfl, kl _ _ a4, a5.imp fun _ _ => AtK.keep kt⟩
theorem FmtAt.same {K : PySem.W.Frag} {C : Addr} {H H' : Hp} {a : Addr} {ls : Str} {n : Nat} {rs : List Arr} (F : FmtAt K C H a ls n rs) (s : Same H H') : FmtAt K C H' a ls n rs := by
  obtain ⟨dx, t, d, H0, h1, h2, h3⟩ := F.ex
  exact ⟨F.good, dx, t, d, _, s _ _ h1, h2.same s, h3.weak (fun _ h => s _ _ h) (fun _ _ h => s _ _ h) fun _ _ h => sqT_same s h⟩
/-- a new format -/
theorem made_fmtR {K : PySem.W.Frag} {C x dx t : Addr} {H : Hp} {ls : Str} {n : Nat} {rs : List Arr} {R : VK} {E : XK} (hx : H x = none) (hdx : H dx = none) (ne : dx ≠ x) (g : Good ls n rs) (hA : ArrT K H t rs)
    (k : ∀ H', Same H H' → FmtAt K C H' x ls n rs → R .non H') : spInit K C [.ref x, .str ls, .int n, .ref t] (upd (upd H dx (.own x)) x (.ins C dx [])) R E := by
  have hx' : upd H dx (.own x) x = none := by rw [upd_ne (Ne.symm ne)]; exact hx
  have s0 : Same H (upd (upd H dx (.own x)) x (.ins C dx [])) := (Same.upd hdx).trans (Same.upd hx')
  refine ⟨x, dx, ls, n, t, rs, rfl, upd_same, g, hA.same s0, fun H1 H2 d s1 wy => ?_⟩
  have hx2 := wy.old x _ upd_same
  have sm : Same H (upd H2 x (.ins C dx (fFlds ls n t d))) := fun a o h => by
    have na : a ≠ x := fun e => by rw [e, hx] at h; exact nomatch h
    rw [upd_ne na]
    refine wy.old a o ?_
    rw [upd_ne na]
    exact s1 _ _ (s0 _ _ h)
  have ins_t : ∀ a ys, SqT K H2 a ys → SqT K (upd H2 x (.ins C dx (fFlds ls n t d))) a ys := fun a ys h => sqT_upd (fun ys z => by rw [hx2] at z; exact nomatch z) (fun u ys z => by rw [hx2] at z; exact nomatch z) h
  refine k _ sm ⟨g, dx, t, d, _, upd_same, hA.same sm, wy.weak (fun kvs h => ?_) (fun b xs h => ?_) ins_t⟩
  · rw [upd_ne (fun e => by rw [e, hx2] at h; exact nomatch h)]; exact h
  · rw [upd_ne (fun e => by rw [e, hx2] at h; exact nomatch h)]; exact h
theorem made_fmt {K : PySem.W.Frag} {C x dx t : Addr} {H : Hp} {ls : Str} {n : Nat} {rs : List Arr} {Q : VK} {E : XK} (hx : H x = none) (hdx : H dx = none) (ne : dx ≠ x) (g : Good ls n rs) (hA : ArrT K H t rs)
    (k : ∀ H', Same H H' → FmtAt K C H' x ls n rs → Q (.ref x) H') : spInit K C [.ref x, .str ls, .int n, .ref t] (upd (upd H dx (.own x)) x (.ins C dx [])) (fun v H2 => v = .non ∧ Q (.ref x) H2) E :=
  made_fmtR hx hdx ne g hA fun H' s f => ⟨rfl, k H' s f⟩
/-- a tuple of texts stands there -/
def TupA (K : PySem.W.Frag) (H : Hp) (v : V) (ks : List Str) : Prop := ∃ q, v = .ref q ∧ SqT K H q (ks.map V.str)
theorem TupA.same {K : PySem.W.Frag} {H H' : Hp} (s : Same H H') {v : V} {ks : List Str} : TupA K H v ks → TupA K H' v ks := fun ⟨q, e, h⟩ => ⟨q, e, sqT_same s h⟩
theorem TupA.to {K : PySem.W.Frag} {H H' : Hp} {v : V} {ks : List Str} (t : ∀ a xs, SqT K H a xs → SqT K H' a xs) : TupA K H v ks → TupA K H' v ks := fun ⟨q, e, h⟩ => ⟨q, e, t _ _ h⟩
abbrev dTs (kss : List (List Str)) : PyData := .list (kss.map fun ks => .tuple ((ks.map V.str).map fD))
theorem dqs_tup {K : PySem.W.Frag} {H : Hp} : ∀ {vs : List V} {kss : List (List Str)}, All2 (TupA K H) vs kss → (∀ ks ∈ kss, ∀ y ∈ ks, Asc y) → DqAll K H vs (kss.map fun ks => .tuple ((ks.map V.str).map fD))
  | _, _, .nil, _ => .nil
  | _, _, .cons ⟨q, e, h⟩ t, a => by
    subst e
    exact .cons (.tup h (dqAll_flat (okF_texts (a _ List.mem_cons_self)))) (dqs_tup t fun ks hk => a ks (List.mem_cons_of_mem _ hk))
def spOr (K : PySem.W.Frag) (C : Addr) : Sp := fun vs H Q _ => ∃ (a b : Addr) (ls : Str) (n1 n2 : Nat) (rs1 rs2 : List Arr), vs = [.ref a, .ref b] ∧ FmtR K C H a ls n1 rs1 ∧ FmtR K C H b ls n2 rs2 ∧ rs1.length + rs2.length < 64 ∧
  ∀ (H' : Hp) (x : Addr) (R : List Arr), Same H H' → FmtR K C H' x ls (n1 + n2 - 1) R → (∀ r, r ∈ R ↔ r ∈ rs1 ∨ ∃ q ∈ rs2, r = mvA n1 q) → R.length ≤ rs1.length + rs2.length → Q (.ref x) H'
def spBackward (K : PySem.W.Frag) (C : Addr) : Sp := fun vs H Q _ => ∃ (a : Addr) (ls : Str) (n : Nat) (rs : List Arr) (ks : List Str), vs = [.ref a] ∧ FmtR K C H a ls n rs ∧ rs.length ≤ 100 ∧ (∀ r ∈ rs, r.t = 0 → r.k ∈ ks) ∧ rs.length * ks.length ≤ 10000 ∧
  ∀ (H' : Hp) (x : Addr) (R : List Arr) (L : List (Int × Str)), Same H H' → FmtR K C H' x ls (L.length + 1) R → Prs rs L → (∀ q, q ∈ R ↔ q ∈ turnedL L rs) → R.length = (turnedL L rs).length → Q (.ref x) H'
end Ami
namespace K06
open PySem PySem.Spec PyProof.Rows L2 Ami
section
variable {P : Program} {w : World} {K : PySem.W.Frag} {mg : Str → Option Value} {base : Heap}
abbrev iBackward : Stmt := inClass (top 46) 7
abbrev iOr : Stmt := inClass (top 46) 10
theorem scBackward : FnScope ["self", "states", "arrows"] ["self"] (defScope iBackward) := ⟨rfl, rfl, rfl, by decide +kernel, rfl, by decide +kernel, by decide +kernel⟩
theorem scOr : FnScope ["self", "other", "beside", "arrows"] ["self", "other"] (defScope iOr) := ⟨rfl, rfl, rfl, by decide +kernel, rfl, by decide +kernel, by decide +kernel⟩
theorem ok_backward {f f1 fI C : Addr} {fd fd1 fdI : FuncData} (F : Fun K "backward" "Format.backward" iBackward f fd) (c : FmtC K C) (hC : mg "Format" = some (.ref C)) (M : Mk K C fI) (bI : Binds K fdI ["self", "letters", "states", "arrows"] []) (GI : FnOk P w K mg base CX0 5 fI fdI ["self", "letters", "states", "arrows"] (spInit K C))
    (D1 : DefAt K mg "backward_of" sBackOf ["arrows"] f1 fd1) (G1 : FnOk P w K mg base CX0 3 f1 fd1 ["arrows"] (spBackOf K)) : FnOk P w K mg base CX0 7 f fd ["self"] (spBackward K C) := by
  refine F.ok scBackward (fun vs H Q E h => ?_) (fun cdv A outer s H vs Q E hr h => ?_)
  · obtain ⟨a, ls, n, rs, ks, rfl, _⟩ := h
    rfl
  · obtain ⟨a, ls, n, rs, ks, rfl, hF, hn, hks, hlen, k⟩ := h
    have hr3 := hr.mono (j := 3) (by decide)
    refine ⟨_, pss_cons (ps_asg (pc D1 G1 hr3 (pa_cons (pe_fld (pv 0) rfl) pa_nil)) (pg_tup (by rfl) (pgs_cons (pg_name (i := 1) scBackward.nd rfl (Or.inl rfl)) (pgs_cons (pg_name (i := 2) scBackward.nd rfl (Or.inl rfl)) pgs_nil))))
      (pss_one (ps_ret (pe_make M GI hr (by rfl) hC bI .nil pass0 (pa_cons (pe_fld (pv 0) rfl) (pa_cons (pv 1) (pa_cons (pv 2) pa_nil)))))), ?_⟩
    obtain ⟨dx, t, d, ha, hA, hW⟩ := hF.ex
    refine ⟨_, rfl, a, C, dx, _, _, rfl, ha, c.cls, c.n3, rfl, t, ls, n, rs, ks, rfl, hA, hF.good, hn, hks, hlen, fun H1 q ar R L s1 hq hR P0 mem up lR => ?_⟩
    refine ⟨q, _, rfl, hq, rfl, ?_⟩
    refine ⟨_, _, rfl, _, _, rfl, rfl, ?_⟩
    refine ⟨_, rfl, a, C, dx, _, _, rfl, s1 _ _ ha, c.cls, c.n1, rfl, _, rfl, _, rfl, ?_⟩
    refine fun x dx' hx hdx nex => ?_
    have g := good_turned hF.good P0 mem up (by
      rw [lR]
      exact Nat.le_trans (turned_len hF.good P0 hks) hlen)
    refine made_fmtR hx hdx nex g hR fun H9 s9 fm => ⟨rfl, ?_⟩
    exact k H9 x R L (s1.trans s9) fm.r P0 mem lR
theorem ok_or {f f1 fI C : Addr} {fd fd1 fdI : FuncData} (F : Fun K "__or__" "Format.__or__" iOr f fd) (T : Blt mg) (c : FmtC K C) (hC : mg "Format" = some (.ref C)) (M : Mk K C fI) (bI : Binds K fdI ["self", "letters", "states", "arrows"] []) (GI : FnOk P w K mg base CX0 5 fI fdI ["self", "letters", "states", "arrows"] (spInit K C))
    (D1 : DefAt K mg "arrows_beside" sBeside ["states", "arrows"] f1 fd1) : FnOk P w K mg base CX0 7 f fd ["self", "other"] (spOr K C) := by
  have G1 : FnOk P w K mg base CX0 1 f1 fd1 ["states", "arrows"] (spBeside K) := ok_beside D1.F
  refine F.ok scOr (fun vs H Q E h => ?_) (fun cdv A outer s H vs Q E hr h => ?_)
  · obtain ⟨a, b, ls, n1, n2, rs1, rs2, rfl, _⟩ := h
    rfl
  · obtain ⟨a, b, ls, n1, n2, rs1, rs2, rfl, hF1, hF2, hlen, k⟩ := h
    have hr1 := hr.mono (j := 1) (by decide)
    have hun := hr.units
    refine ⟨_, pss_cons (ps_if (pt_cmpR op_ne (pe_fld (pv 0) rfl) (pe_fld (pv 1) rfl) (nomark _)) (pss_one ps_dead) pss_nil)
      (pss_cons (ps_set (i := 2) scOr.nd rfl (Or.inl rfl) (pc D1 G1 hr1 (pa_cons (pe_fld (pv 0) rfl) (pa_cons (pe_fld (pv 1) rfl) pa_nil))))
      (pss_cons (ps_set (i := 3) scOr.nd rfl (Or.inl rfl) (pe_callTy call_tuple_of (by rfl) T.tuple (by decide +kernel) (pa_cons (pe_callB (cr_sortSN (K0 := K) (P0 := P) (w0 := w) rfl rfl rfl rfl hun) (by rfl) T.sorted (by decide +kernel)
          (pa_cons (pe_callTy (cr_setN (K0 := K) (P0 := P) (w0 := w) rfl rfl rfl rfl hun) (by rfl) T.set (by decide +kernel) (pa_cons (pe_op op_cat (pe_callTy call_list_of (by rfl) T.list (by decide +kernel) (pa_cons (pe_fld (pv 0) rfl) pa_nil)) (pv 2)) pa_nil)) pa_nil)) pa_nil)))
      (pss_one (ps_ret (pe_make M GI hr (by rfl) hC bI .nil pass0 (pa_cons (pe_fld (pv 0) rfl) (pa_cons (pe_op op_sub (pe_op op_add (pe_fld (pv 0) rfl) (pe_fld (pv 1) rfl)) pe_int) (pa_cons (pv 3) pa_nil)))))))), ?_⟩
    obtain ⟨dx, t, d, ha, ⟨us, ht, hu⟩, hW⟩ := hF1.ex
    obtain ⟨dy, t2, d2, hb, hA2, hW2⟩ := hF2.ex
    refine ⟨_, rfl, a, C, dx, _, _, rfl, ha, c.cls, c.n1, rfl, _, rfl, b, C, dy, _, _, rfl, hb, c.cls, c.n1, rfl, rfl, _, rfl, ?_⟩
    refine iteN (decide_eq_true rfl) ?_
    refine ⟨_, rfl, a, C, dx, _, _, rfl, ha, c.cls, c.n2, rfl, _, rfl, b, C, dy, _, _, rfl, hb, c.cls, c.n3, rfl, n1, t2, rs2, rfl, hA2, by omega, fun H1 l vs s1 hl0 hl hvs => ?_⟩
    refine ⟨_, rfl, a, C, dx, _, _, rfl, s1 _ _ ha, c.cls, c.n3, rfl, t, _, rfl, .inr (sqT_same s1 ht), fun l2 hl2 => ?_⟩
    have s2 := Same.upd (o := .lst us) hl2
    refine ⟨_, rfl, l2, l, us, vs, rfl, rfl, upd_same, s2 _ _ hl, ?_, fun l3 hl3 => ?_⟩
    · have h1 := hu.len
      have h2 := hvs.len
      rw [List.length_map] at h2
      exact Nat.le_trans (by omega : _ ≤ 64) (by decide)
    have s3 := Same.upd (o := .lst (us ++ vs)) hl3
    have s13 := (s1.trans s2).trans s3
    have e3 : (upd (upd H1 l2 (.lst us)) l3 (.lst (us ++ vs))) l3 = some (.lst (us ++ vs)) := upd_same
    have hall : All2 (AtA K (upd (upd H1 l2 (.lst us)) l3 (.lst (us ++ vs)))) (us ++ vs) (rs1 ++ rs2.map (mvA n1)) := (hu.imp fun _ _ => AtA.same s13).app (hvs.imp fun _ _ => AtA.same (s2.trans s3))
    revert s13 e3 hall
    generalize upd (upd H1 l2 (.lst us)) l3 (.lst (us ++ vs)) = H3
    intro s13 e3 hall
    obtain ⟨ks, k1, k2, k3⟩ := rows_keys hall
    have lk : ks.length = rs1.length + rs2.length := by
      have := congrArg List.length k2
      rwa [List.length_map, List.length_map, List.length_append, List.length_map] at this
    refine ⟨l3, ks, rfl, .inl (by rw [← k1]; exact SqL.of e3), fun p hp => by obtain ⟨r, _, e, h⟩ := k3 p hp; exact keys_memb e h, by omega, fun S L hS sub all ndL => ?_⟩
    have s4 := Same.upd (o := NSO P w S L) hS
    have at4 : ∀ p ∈ L, ∃ r, p.2 = nkA r ∧ AtA K (upd H3 S (NSO P w S L)) (.ref p.1) r := fun p hp => by
      obtain ⟨r, _, e, h⟩ := k3 p (sub p hp)
      exact ⟨r, e, h.same s4⟩
    refine ⟨S, L, rfl, upd_same, fun p hp => by obtain ⟨r, e, h⟩ := at4 p hp; exact keys_memb e h, keys_comp fun p hp => by obtain ⟨r, e, _⟩ := at4 p hp; exact ⟨r, e⟩, fun L' p pm up nd' hp => ?_⟩
    have s5 := Same.upd (o := .lst (L'.map fun p => V.ref p.1)) hp
    obtain ⟨qs, q1, q2⟩ := keys_rows (K := K) (H := upd (upd H3 S (NSO P w S L)) p (.lst (L'.map fun p => V.ref p.1))) (L := L') fun x hx => by
      obtain ⟨r, e, h⟩ := at4 x (pm.mem_iff.mp hx)
      exact ⟨r, e, h.same s5⟩
    have upq := rows_up q2 up nd'
    refine ⟨p, _, rfl, .inl ⟨SqL.of upd_same, fun T0 hT => ?_⟩⟩
    have s6 := Same.upd (o := .tup (L'.map fun p => V.ref p.1)) hT
    have mem : ∀ r, r ∈ qs ↔ r ∈ rs1 ∨ ∃ q ∈ rs2, r = mvA n1 q := fun r => by
      have hm : ∀ l : List Arr, nkA r ∈ l.map nkA ↔ r ∈ l := fun l => ⟨fun h => by
        obtain ⟨y, hy, e⟩ := List.mem_map.mp h
        exact nkA_inj e ▸ hy, fun h => List.mem_map.mpr ⟨r, h, rfl⟩⟩
      rw [← hm qs, ← q2, (pm.map (·.2)).mem_iff]
      have : nkA r ∈ L.map (·.2) ↔ nkA r ∈ ks.map (·.2) := ⟨fun h => by
        obtain ⟨x, hx, e⟩ := List.mem_map.mp h
        exact List.mem_map.mpr ⟨x, sub x hx, e⟩, fun h => by
        obtain ⟨x, hx, e⟩ := List.mem_map.mp h
        exact e ▸ all x hx⟩
      rw [this, k2, hm, List.mem_append, List.mem_map]
      exact ⟨fun h => h.imp id fun ⟨q, hq, e⟩ => ⟨q, hq, e.symm⟩, fun h => h.imp id fun ⟨q, hq, e⟩ => ⟨q, hq, e.symm⟩⟩
    have ndq : qs.Nodup := by
      rw [q2] at nd'
      exact (List.pairwise_map.mp nd').imp fun h z => h (by rw [z])
    have lq : qs.length ≤ rs1.length + rs2.length := by
      have := nodup_sub (m := rs1 ++ rs2.map (mvA n1)) ndq fun r hr => by
        rcases (mem r).mp hr with h | ⟨q, hq, e⟩
        · exact List.mem_append_left _ h
        · exact List.mem_append_right _ (List.mem_map.mpr ⟨q, hq, e.symm⟩)
      rwa [List.length_append, List.length_map] at this
    have s46 := (s4.trans s5).trans s6
    have eT : (upd (upd (upd H3 S (NSO P w S L)) p (.lst (L'.map fun p => V.ref p.1))) T0 (.tup (L'.map fun p => V.ref p.1))) T0 = some (.tup (L'.map fun p => V.ref p.1)) := upd_same
    have q6 : All2 (AtA K (upd (upd (upd H3 S (NSO P w S L)) p (.lst (L'.map fun p => V.ref p.1))) T0 (.tup (L'.map fun p => V.ref p.1)))) (L'.map fun p => V.ref p.1) qs := q1.imp fun _ _ => AtA.same s6
    revert s46 eT q6
    generalize upd (upd (upd H3 S (NSO P w S L)) p (.lst (L'.map fun p => V.ref p.1))) T0 (.tup (L'.map fun p => V.ref p.1)) = H6
    intro s46 eT q6
    have s16 := s13.trans s46
    refine ⟨_, rfl, a, C, dx, _, _, rfl, s16 _ _ ha, c.cls, c.n1, rfl, ?_⟩
    refine ⟨_, rfl, a, C, dx, _, _, rfl, s16 _ _ ha, c.cls, c.n2, rfl, _, rfl, b, C, dy, _, _, rfl, s16 _ _ hb, c.cls, c.n2, rfl, n1, n2, rfl, rfl, _, 1, rfl, rfl, _, rfl, ?_⟩
    have b1 := hF1.good.n1
    have b2 := hF2.good.n1
    have en : (n1 : Int) + n2 - 1 = ((n1 + n2 - 1 : Nat) : Int) := by omega
    have g := good_beside hF1.good hF2.good mem upq (by omega)
    refine fun x dx' hx hdx nex => ?_
    show spInit K C [.ref x, .str ls, .int ((n1 : Int) + n2 - 1), .ref T0] _ _ _
    rw [en]
    refine made_fmtR hx hdx nex g ⟨_, SqT.of eT, q6⟩ fun H9 s9 fm => ⟨rfl, ?_⟩
    exact k H9 x qs (s16.trans s9) fm.r mem lq
end
end K06

set_option Elab.async false
set_option linter.all false
set_option maxRecDepth 100000
set_option maxHeartbeats 4000000
namespace Ami
open PySem PySem.Spec PyProof.Rows L2
def spInit0 : Sp := fun vs H Q _ => ∃ a : Addr, vs = [.ref a] ∧ Q .non H
/-- the arguments in their order, by position -/
def gP {α : Type} : List α → List α → List α := fun us _ => us
/-- a class of errors as it stands at C, its __init__ at fI -/
structure Cl (K : PySem.W.Frag) (mg : Str → Option Value) (x qual : Str) (st : Stmt) (C fI : Addr) (fd : FuncData) : Prop where
  g : mg x = some (.ref C)
  T : EX K C
  iC : PySem.W.findIn K (.ref C) "__init__" = some (some (.ref fI))
  tI : PySem.W.typeIn K (.ref fI) = some (.type "function")
  F : Fun K "__init__" qual st fI fd
theorem made_bare {H : Hp} {a C : Addr} (ha : H a = none) : Same H (delH (upd H a (exo a C none)) a) := fun b o e => by
  rw [delH_ne (ne_of_none e ha), upd_ne (ne_of_none e ha)]
  exact e
def spOrE (K : PySem.W.Frag) (C CO : Addr) : Sp := fun vs H Q E => ∃ (a b : Addr) (l1 l2 : Str) (n1 n2 : Nat) (rs1 rs2 : List Arr), vs = [.ref a, .ref b] ∧ FmtR K C H a l1 n1 rs1 ∧ FmtR K C H b l2 n2 rs2 ∧ l1 ≠ l2 ∧ ∀ H', Same H H' → E (.ref CO) none H'
def spJoined (K : PySem.W.Frag) (C : Addr) : Sp := fun vs H Q _ => ∃ (a b : Addr) (l1 l2 : Str) (n1 n2 : Nat) (rs1 rs2 : List Arr), vs = [.ref a, .ref b] ∧ FmtR K C H a l1 n1 rs1 ∧ FmtR K C H b l2 n2 rs2 ∧ l1 ≠ l2 ∧ ∀ H', Same H H' → Q (.str "unlike") H'
end Ami
namespace K06
open PySem PySem.Spec PyProof.Rows L2 Ami
section
variable {P : Program} {w : World} {K : PySem.W.Frag} {mg : Str → Option Value} {base : Heap}
abbrev iOther : Stmt := inClass (top 6) 0
theorem scOther : FnScope ["self"] ["self"] (defScope iOther) := ⟨rfl, rfl, rfl, by decide +kernel, rfl, by decide +kernel, by decide +kernel⟩
theorem ok_other {f : Addr} {fd : FuncData} (F : Fun K "__init__" "OtherLetters.__init__" iOther f fd) : FnOk P w K mg base CX0 1 f fd ["self"] spInit0 := by
  refine F.ok scOther (fun vs H Q E h => ?_) (fun cdv A outer s H vs Q E hr h => ?_)
  · obtain ⟨a, rfl, _⟩ := h
    rfl
  · obtain ⟨a, rfl, k⟩ := h
    exact ⟨_, pss_one ps_pass, k⟩
theorem kp_other {f : Addr} {fd : FuncData} (F : Fun K "__init__" "OtherLetters.__init__" iOther f fd) : KBinds K fd ["self"] [] gP gP := by
  obtain ⟨oc, od, kV, doc, pm, an, cdv, ct, osl, rfl, lk, hcd⟩ := F.ex
  exact ⟨fun s us ws _ hl => match us, hl with | [_], _ => .of_eq rfl, fun r _ => r⟩
theorem ok_orE {f C CO fI : Addr} {fd dI : FuncData} (F : Fun K "__or__" "Format.__or__" iOr f fd) (c : FmtC K C) (E0 : Cl K mg "OtherLetters" "OtherLetters.__init__" iOther CO fI dI) : FnOk P w K mg base (L2N.CX P w) 3 f fd ["self", "other"] (spOrE K C CO) := by
  refine Fun.okN (k := 2) F scOr (fun vs H Q E h => ?_) (fun cdv A outer s H vs Q E hr h => ?_)
  · obtain ⟨a, b, l1, l2, n1, n2, rs1, rs2, rfl, _⟩ := h
    rfl
  · obtain ⟨a, b, l1, l2, n1, n2, rs1, rs2, rfl, hF1, hF2, ne, k⟩ := h
    refine ⟨_, pss_cons (ps_if (pt_cmpR op_ne (pe_fld (pv 0) rfl) (pe_fld (pv 1) rfl) (nomark _)) (pss_one (ps_raiseM (K0 := K) (H0 := H) rfl rfl rfl rfl (L2N.takes_of rfl rfl rfl rfl) (pe_madeK E0.T E0.iC E0.tI (ok_other E0.F) hr (kp_other E0.F) pass0 E0.g pk_nil))) pss_nil)
      (pss_cons ps_dead (pss_cons ps_dead (pss_one ps_dead))), ?_⟩
    obtain ⟨dx, t, d, ha, _, _⟩ := hF1.ex
    obtain ⟨dy, t2, d2, hb, _, _⟩ := hF2.ex
    refine ⟨_, rfl, a, C, dx, _, _, rfl, ha, c.cls, c.n1, rfl, _, rfl, b, C, dy, _, _, rfl, hb, c.cls, c.n1, rfl, rfl, _, rfl, ?_⟩
    dsimp only
    rw [show decide (V.str l1 = V.str l2) = false from decide_eq_false fun e => ne (V.str.inj e)]
    refine iteT ?_
    refine ⟨(by show 0 ≤ 1000; decide), fun x hx => ⟨x, rfl, rfl, ⟨none, upd_same⟩, ?_⟩⟩
    exact ⟨x, CO, none, rfl, upd_same, fr0_none hx, E0.T, k _ (made_bare hx)⟩
abbrev nJoined : List Str := ["_law_one", "_law_two", "_law_found", "e"]
theorem scJoined : FnScope nJoined ["_law_one", "_law_two"] (defScope sJoined) := ⟨rfl, rfl, rfl, by decide +kernel, rfl, by decide +kernel, by decide +kernel⟩
theorem ok_joined {f fo C CO R fI : Addr} {fd fdo dI : FuncData} (F : Fun K "_law_joined" "_law_joined" sJoined f fd) (T : Blt mg) (E0 : Cl K mg "OtherLetters" "OtherLetters.__init__" iOther CO fI dI)
    (gR : mg "ReadError" = some (.ref R)) (kR : PySem.W.kitOne K (.ref CO) (.ref R) = some true) (xR : PySem.W.exmOne K (.ref CO) (.ref CO) = some true)
    (sf : PySem.W.selfFirst K C = true) (eo : PySem.W.findIn K (.ref C) "__or__" = some (some (.ref fo))) (fno : PySem.W.isFn K (.ref fo) = true) (bo : Binds K fdo ["self", "other"] []) (Go : FnOk P w K mg base (L2N.CX P w) 3 fo fdo ["self", "other"] (spOrE K C CO)) :
    FnOk P w K mg base CX0 4 f fd ["_law_one", "_law_two"] (spJoined K C) := by
  refine Fun.ok (k := 3) F scJoined (fun vs H Q E h => ?_) (fun cdv A' outer s H vs Q E hr h => ?_)
  · obtain ⟨a, b, l1, l2, n1, n2, rs1, rs2, rfl, _⟩ := h
    rfl
  · obtain ⟨a, b, l1, l2, n1, n2, rs1, rs2, rfl, hF1, hF2, ne, k⟩ := h
    refine ⟨_, pss_cons (ps_set (i := 2) scJoined.nd rfl (Or.inl rfl) pe_str)
      (pss_cons (L2N.ps_try_as (i := 3) rfl rfl scJoined.nd rfl rfl ⟨rfl, by decide, .inl E0.g⟩ takesN0
        (fun W pn xe tk _ => pss_one (ps_set (i := 2) scJoined.nd rfl (Or.inl rfl) (pe_binS (C := C) Go hr sf eo fno bo (fun σ => L2N.passAt tk σ) (pv 0) (pv 1))))
        (fun a oe cv od pn hz hf => pss_one (ps_set (i := 2) scJoined.nd rfl (Or.inl rfl) (pe_ifExp (pt_val (pe_callB (call_isC (K0 := K) rfl ⟨hz.1, hz.2.1⟩ hf List.mem_cons_self) (by rfl) T.isi (by decide +kernel) (pa_cons (pv 3) (pa_cons (pe_glob (v := .ref R) (by rfl) gR rfl) pa_nil)))) pe_str pe_str))))
      (pss_one (ps_ret (pv 2)))), ?_⟩
    obtain ⟨dx, t, d, ha, _, _⟩ := hF1.ex
    obtain ⟨dy, t2, d2, hb, _, _⟩ := hF2.ex
    refine ⟨_, rfl, _, rfl, a, b, dx, dy, _, _, rfl, rfl, ha, hb, a, b, l1, l2, n1, n2, rs1, rs2, rfl, hF1, hF2, ne, fun H1 s1 => ?_⟩
    refine ⟨true, xR, fun _ x hx => ?_, fun q => Bool.noConfusion q⟩
    refine ⟨_, rfl, CO, _, .ref R, true, rfl, E0.T, rfl, (fun d' e' => nomatch e'), fun u h => h, kR, _, rfl, ?_⟩
    refine iteT ?_
    exact ⟨_, rfl, k _ s1⟩
end
end K06

set_option Elab.async false
set_option linter.all false
set_option maxRecDepth 100000
set_option maxHeartbeats 4000000
namespace Ami
open PySem PySem.Spec PyProof.Rows L2
abbrev tD (ks : List Str) : PyData := .tuple ((ks.map V.str).map fD)
theorem showable_ts : ∀ kss : List (List Str), PyData.showableAll (kss.map tD) = true
  | [] => rfl
  | ks :: kss => by
    show (PyData.showableAll ((ks.map V.str).map fD) && PyData.showableAll (kss.map tD)) = true
    rw [showable_texts, showable_ts kss]; rfl
theorem leaves_ts : ∀ {kss : List (List Str)}, (∀ ks ∈ kss, ∀ y ∈ ks, Asc y) → PyData.leavesShortAll 8 (kss.map tD) = true
  | [], _ => rfl
  | ks :: kss, h => by
    show (PyData.leavesShortAll 8 ((ks.map V.str).map fD) && PyData.leavesShortAll 8 (kss.map tD)) = true
    rw [leaves_texts (h ks List.mem_cons_self), leaves_ts fun k hk => h k (List.mem_cons_of_mem _ hk)]; rfl
theorem depth_ts : ∀ kss : List (List Str), PyData.depthAll (kss.map tD) ≤ 1
  | [] => Nat.zero_le _
  | ks :: kss => by
    show max (PyData.depthAll ((ks.map V.str).map fD) + 1) (PyData.depthAll (kss.map tD)) ≤ 1
    rw [depthAll_flat]
    have := depth_ts kss
    omega
theorem weight_ts : ∀ {kss : List (List Str)}, (∀ ks ∈ kss, ks.length ≤ 80 ∧ ∀ y ∈ ks, y.length ≤ 100) → PyData.weightAll (kss.map tD) ≤ kss.length * 8081
  | [], _ => Nat.zero_le _
  | ks :: kss, h => by
    show PyData.weightAll ((ks.map V.str).map fD) + 1 + PyData.weightAll (kss.map tD) ≤ _
    have h1 := weight_ts fun k hk => h k (List.mem_cons_of_mem _ hk)
    obtain ⟨h2, h3⟩ := h ks List.mem_cons_self
    have h4 := sum_few h3
    rw [weight_texts, List.length_cons, Nat.succ_mul]
    omega
theorem told_ts {kss : List (List Str)} (h : ∀ ks ∈ kss, ks.length ≤ 80 ∧ ∀ y ∈ ks, Asc y ∧ y.length ≤ 100) (hl : kss.length ≤ 140) : (dTs kss).showable = true ∧ (dTs kss).shown.length ≤ sizeLine ∧ (dTs kss).depth ≤ 50 := by
  refine ⟨showable_ts kss, ?_, ?_⟩
  · have q := PyData.shown_le 8 (Nat.le_refl _) (dTs kss) (leaves_ts fun ks hk y hy => ((h ks hk).2 y hy).1)
    have w : (dTs kss).weight ≤ kss.length * 8081 := weight_ts fun ks hk => ⟨(h ks hk).1, fun y hy => ((h ks hk).2 y hy).2⟩
    rw [sizeLine_eq]
    omega
  · show PyData.depthAll (kss.map tD) + 1 ≤ 50
    have := depth_ts kss
    omega
/-- each word with its kinds -/
def Rows (rs : List Arr) (zs : List Str) (kss : List (List Str)) : Prop := All2 (fun z ks => KindsOf rs (letts z) ks) zs kss
def spHas (K : PySem.W.Frag) (C : Addr) : Sp := fun vs H Q _ => ∃ (a rl dl : Addr) (ls : Str) (n : Nat) (rs : List Arr) (zs : List Str) (ws : List V) (kss : List (List Str)), vs = [.ref a, .ref rl, .ref dl] ∧ FmtR K C H a ls n rs ∧ n ≤ 64 ∧ rs.length ≤ 200 ∧
  H rl = some (.lst (zs.map V.str)) ∧ zs.length ≤ 140 ∧ (∀ z ∈ zs, z.length ≤ 100) ∧ H dl = some (.lst ws) ∧ All2 (TupA K H) ws kss ∧ (∀ ks ∈ kss, ks.length ≤ 80) ∧ Rows rs zs kss ∧ ∀ H', Same H H' → Q (.bl true) H'
end Ami
namespace K06
open PySem PySem.Spec PyProof.Rows L2 Ami
section
variable {P : Program} {w : World} {K : PySem.W.Frag} {mg : Str → Option Value} {base : Heap}
abbrev nHas : List Str := ["_law_made", "_law_rows", "_law_due", "_law_row"]
theorem scHas : FnScope nHas ["_law_made", "_law_rows", "_law_due"] (defScope sHas) := ⟨rfl, rfl, rfl, by decide +kernel, rfl, by decide +kernel, by decide +kernel⟩
theorem ok_has {f fk C : Addr} {fd fdk : FuncData} (F : Fun K "_law_has" "_law_has" sHas f fd) (T : Blt mg) (c : FmtC K C) (mk : Meth K C "kinds_of" fk) (bk : Binds K fdk ["self", "word"] []) (Gk : FnOk P w K mg base CX0 2 fk fdk ["self", "word"] (spKindsOf K C)) :
    FnG P w K mg base CX0 3 f fd ["_law_made", "_law_rows", "_law_due"] (spHas K C) := by
  refine Ami.Fun.okG F scHas (fun vs H Q E h => ?_) (fun cdv A outer s H vs Q E hg hr h => ?_)
  · obtain ⟨a, rl, dl, ls, n, rs, zs, ws, kss, rfl, _⟩ := h
    rfl
  · obtain ⟨a, rl, dl, ls, n, rs, zs, ws, kss, rfl, hF, hn, hrs, hz, lz, sz, hd, hws, hk80, hR, k⟩ := h
    have hgu := guards_deeper (envOfC "_law_has" (defScope sHas) s.heap.objs.size f cdv) hg
    have hun := hr.units
    refine ⟨_, pss_one (ps_ret (pe_cmpR op_eq (pe_callB (cr_reprA hgu hun) (by rfl) T.repr (by decide +kernel) (pa_cons
        (pe_lc (own := [("_law_row", 3)]) (g := gName 3) (tt := tYes) rfl scHas.nd (pi_list (pv 1)) (blkOk_by (own := [("_law_row", 3)]) (N := nHas) (sc := defScope sHas) (by decide +kernel)) (fun _ _ _ _ _ => pg_name (i := 3) scHas.nd rfl (Or.inl rfl)) (fun _ _ _ _ _ => pts_nil)
          (fun _ _ _ _ _ => pe_meth (pv 0) c.cls mk Gk hr bk .nil pass0 (pa_cons (pv 3) pa_nil))) pa_nil))
        (pe_callB (cr_reprA hgu hun) (by rfl) T.repr (by decide +kernel) (pa_cons (pv 2) pa_nil)) (nomark _))), ?_⟩
    obtain ⟨dx, t, d, ha, _, _⟩ := hF.ex
    have short : ∀ ks ∈ kss, ks.length ≤ 80 ∧ ∀ y ∈ ks, Asc y ∧ y.length ≤ 100 := fun ks hks => by
      obtain ⟨z, _, h⟩ := hR.mem2 hks
      exact ⟨hk80 ks hks, kindsOf_short hF.good h⟩
    have lk : kss.length ≤ 140 := by rw [← hR.len]; exact lz
    obtain ⟨t1, t2, t3⟩ := told_ts short lk
    refine ⟨_, rfl, rl, rfl, ⟨_, SqL.of hz⟩, fun L hL => ?_⟩
    refine lc_list (K := K) (a := rl) (xs := zs.map V.str) (fun i H' => ∃ ys, H' L = some (.lst ys) ∧ All2 (TupA K H') ys (kss.take i) ∧ Same H H') ⟨[], upd_same, (by rw [List.take_zero]; exact .nil), Same.upd hL⟩ (fun i H' _ ⟨_, _, _, sm⟩ => SqL.of (sm _ _ hz)) ?_ ?_
    · rintro i v H1 hv ⟨ys, eL, hys, sm⟩
      obtain ⟨z, hzi, rfl⟩ : ∃ z, zs[i]? = some z ∧ v = V.str z := by
        rw [List.getElem?_map] at hv
        cases e : zs[i]? with
        | none => rw [e] at hv; exact nomatch hv
        | some z => rw [e] at hv; cases hv; exact ⟨z, rfl, rfl⟩
      obtain ⟨ks, hks, hko⟩ := hR.at hzi
      refine ⟨rfl, ?_⟩
      dsimp only [tYes]
      refine iteT ?_
      have hzl := sz z (List.mem_of_getElem? hzi)
      refine ⟨_, rfl, a, dx, _, rfl, sm _ _ ha, rfl, _, rfl, a, ls, n, rs, z, rfl, hF.same sm, hn, hrs, by omega, fun H2 q ks2 s2 hq hk2 _ => ?_⟩
      obtain rfl := hko.one hk2
      have s2 : Same H1 H2 := s2
      have eL2 := s2 _ _ eL
      refine ⟨ys, eL2, ?_, ys ++ [.ref q], upd_same, ?_, keep_put (sm.trans s2) hL⟩
      · rw [hys.len]
        exact Nat.lt_of_le_of_lt (Nat.le_trans (List.length_take_le' _ _) lk) (by decide)
      · rw [take_snoc hks]
        exact (hys.imp fun _ _ h => TupA.to (fun a zs h => sqT_put eL2 h) (h.same s2)).app (.cons ⟨q, rfl, sqT_put eL2 hq⟩ .nil)
    rintro H1 ⟨ys, eL, hys, s1⟩
    rw [List.length_map, List.take_of_length_le (by rw [← hR.len]; exact Nat.le_refl _)] at hys
    have as : ∀ ks ∈ kss, ∀ y ∈ ks, Asc y := fun ks hk y hy => ((short ks hk).2 y hy).1
    refine ⟨_, dTs kss, rfl, .lst (SqL.of eL) (dqs_tup hys as), t1, t2, t3, ?_⟩
    refine ⟨_, rfl, _, dTs kss, rfl, .lst (SqL.of (s1 _ _ hd)) (dqs_tup (hws.imp fun _ _ => TupA.same s1) as), t1, t2, t3, ?_⟩
    refine ⟨rfl, ?_⟩
    rw [decide_eq_true rfl]
    exact k _ s1
end
end K06

set_option Elab.async false
set_option linter.all false
set_option maxRecDepth 100000
set_option maxHeartbeats 4000000
namespace Ami
open PySem PySem.Spec PyProof.Rows L2
/-- an int as text -/
abbrev num (i : Int) : Str := ((toString i : String) : Str)
theorem num_len {i : Int} (h : i.natAbs ≤ 1000000) : (num i).length ≤ 13 := by
  have := PyData.shown_int_le2 (i := i) (by omega) (by omega)
  rw [PyData.shown_int] at this
  exact this
theorem num_log {i : Int} (h : i.natAbs ≤ 1000000) : i.natAbs.log2 < 1920 := by
  rcases Nat.eq_zero_or_pos i.natAbs with e | e
  · rw [e]; decide
  · exact (Nat.log2_lt (by omega)).mpr (Nat.lt_of_le_of_lt h (Nat.lt_of_lt_of_le (by decide : 1000000 < 2 ^ 20) (Nat.pow_le_pow_right (by decide) (by decide))))
/-- an arrow of small parts -/
structure Arr.small (r : Arr) : Prop where
  s : r.s.natAbs ≤ 1000000
  l : r.l.length ≤ 100
  t : r.t.natAbs ≤ 1000000
  k : r.k.length ≤ 100
theorem busy_len {rs : List Arr} {n : Nat} (h : ∀ i : Nat, i < n → Busy rs i) : n ≤ rs.length := by
  have sub : ∀ x ∈ (List.range n).map (fun i : Nat => (i : Int)), x ∈ (fwd rs).map (·.2) := fun x hx => by
    obtain ⟨i, hi, rfl⟩ := List.mem_map.mp hx
    cases (h i (List.mem_range.mp hi)).1 with
    | one h => exact List.mem_map.mpr ⟨_, h, rfl⟩
    | step _ h => exact List.mem_map.mpr ⟨_, h, rfl⟩
  have := nodup_sub (List.pairwise_map.mpr (List.nodup_range.imp fun h e => h (Int.ofNat.inj e))) sub
  unfold fwd at this
  rw [List.length_map, List.length_range, List.length_map, List.length_map] at this
  exact this
theorem Good.small {ls : Str} {n : Nat} {rs : List Arr} (g : Good ls n rs) : n ≤ 10000 ∧ ∀ r ∈ rs, r.small := by
  have hn : n ≤ 10000 := Nat.le_trans (busy_len g.busy) g.len
  refine ⟨hn, fun r hr => ?_⟩
  obtain ⟨a, _⟩ := g.arr r hr
  unfold arrowB stateB letterB at a
  simp only [Bool.and_eq_true, decide_eq_true_eq] at a
  obtain ⟨⟨⟨⟨a1, a2⟩, a3, a4⟩, _, a5⟩, a6⟩ := a
  refine ⟨by omega, by omega, by omega, ?_⟩
  by_cases e : r.t = 0
  · rw [if_pos e] at a6
    unfold kindB at a6
    simp only [Bool.and_eq_true, decide_eq_true_eq] at a6
    omega
  · rw [if_neg e, decide_eq_true_eq] at a6
    omega
theorem Good.letters {ls : Str} {n : Nat} {rs : List Arr} (g : Good ls n rs) : ls.length ≤ 5 ∧ isWordB alpha ls = true := by
  have := g.lets
  unfold isLetB at this
  by_cases e : 2 ≤ ls.length ∧ ls.length ≤ 5
  · rw [if_pos e, Bool.and_eq_true] at this
    exact ⟨e.2, this.1⟩
  · rw [if_neg e] at this; exact nomatch this
theorem leaf_str {z : Str} (h : Asc z) (B : Nat) : (PyData.str z).leavesShort B = true := List.all_eq_true.mpr fun c hc => decide_eq_true (Nat.lt_trans (h c hc) (by decide))
theorem leaf_int {i : Int} (h : i.natAbs ≤ 1000000) : (PyData.int i).leavesShort 16 = true := decide_eq_true (by rw [PyData.shown_int]; exact Nat.le_trans (num_len h) (by decide))
theorem weight_int {i : Int} (h : i.natAbs ≤ 1000000) : (PyData.int i).weight ≤ 20 := by
  show (if i == 0 then 0 else i.natAbs.log2 + 1) ≤ 20
  split
  · omega
  · rename_i e
    have ne : i.natAbs ≠ 0 := fun z => e (by rw [Int.natAbs_eq_zero.mp z]; rfl)
    have := (Nat.log2_lt ne).mpr (Nat.lt_of_le_of_lt h (by decide : 1000000 < 2 ^ 20))
    omega
theorem leaves_arrs : ∀ {rs : List Arr}, (∀ r ∈ rs, r.small ∧ Asc r.l ∧ Asc r.k) → PyData.leavesShortAll 16 (rs.map dA) = true
  | [], _ => rfl
  | r :: rs, h => by
    obtain ⟨m, a, b⟩ := h r List.mem_cons_self
    show (((PyData.int r.s).leavesShort 16 && ((PyData.str r.l).leavesShort 16 && ((PyData.int r.t).leavesShort 16 && ((PyData.str r.k).leavesShort 16 && true)))) && PyData.leavesShortAll 16 (rs.map dA)) = true
    rw [leaf_int m.s, leaf_str a, leaf_int m.t, leaf_str b, leaves_arrs fun q hq => h q (List.mem_cons_of_mem _ hq)]
    rfl
theorem weight_arrs : ∀ {rs : List Arr}, (∀ r ∈ rs, r.small ∧ Asc r.l ∧ Asc r.k) → PyData.weightAll (rs.map dA) ≤ 300 * rs.length
  | [], _ => Nat.zero_le _
  | r :: rs, h => by
    obtain ⟨m, a, b⟩ := h r List.mem_cons_self
    have ih := weight_arrs fun q hq => h q (List.mem_cons_of_mem _ hq)
    have w1 := weight_int m.s
    have w2 := weight_int m.t
    have w3 : r.l.cps.size ≤ 100 := m.l
    have w4 : r.k.cps.size ≤ 100 := m.k
    show ((PyData.int r.s).weight + 1 + (r.l.cps.size + 1 + ((PyData.int r.t).weight + 1 + (r.k.cps.size + 1 + 0)))) + 1 + PyData.weightAll (rs.map dA) ≤ 300 * (rs.length + 1)
    omega
theorem show_arrs : ∀ {rs : List Arr}, (∀ r ∈ rs, r.small) → PyData.showableAll (rs.map dA) = true
  | [], _ => rfl
  | r :: rs, h => by
    have m := h r List.mem_cons_self
    show ((decide (r.s.natAbs.log2 < 1920) && (true && (decide (r.t.natAbs.log2 < 1920) && (true && true)))) && PyData.showableAll (rs.map dA)) = true
    rw [decide_eq_true (num_log m.s), decide_eq_true (num_log m.t), show_arrs fun q hq => h q (List.mem_cons_of_mem _ hq)]
    rfl
/-- the parts of a format as data -/
abbrev dP (ls : Str) (n : Nat) (rs : List Arr) : PyData := .tuple [.str ls, .int n, dAs rs]
theorem parts_show {ls : Str} {n : Nat} {rs : List Arr} (g : Good ls n rs) (h : rs.length ≤ 200) : (dP ls n rs).showable = true ∧ (dP ls n rs).shown.length ≤ sizeLine ∧ (dP ls n rs).depth ≤ 50 := by
  obtain ⟨hn, hs⟩ := g.small
  have l5 := g.letters.1
  have l5' : ls.cps.size ≤ 5 := l5
  have hn' : (n : Int).natAbs ≤ 1000000 := by omega
  have sm : ∀ r ∈ rs, r.small ∧ Asc r.l ∧ Asc r.k := fun r hr => ⟨hs r hr, (g.arr r hr).2.2.1, (g.arr r hr).2.2.2.2⟩
  refine ⟨?_, ?_, ?_⟩
  · show (true && (decide ((n : Int).natAbs.log2 < 1920) && (PyData.showableAll (rs.map dA) && true))) = true
    rw [decide_eq_true (num_log hn'), show_arrs hs]; rfl
  · have q := PyData.shown_le 16 (by decide) (dP ls n rs) (by
      show ((PyData.str ls).leavesShort 16 && ((PyData.int n).leavesShort 16 && (PyData.leavesShortAll 16 (rs.map dA) && true))) = true
      rw [leaf_str g.plain.2, leaf_int hn', leaves_arrs sm]; rfl)
    have e : (dP ls n rs).weight = ls.cps.size + 1 + ((PyData.int n).weight + 1 + (PyData.weightAll (rs.map dA) + 1 + 0)) := rfl
    have w1 := weight_int hn'
    have w2 := weight_arrs sm
    rw [e] at q
    rw [sizeLine_eq]
    omega
  · show max 0 (max 0 (max (PyData.depthAll (rs.map dA) + 1) 0)) + 1 ≤ 50
    have := depth_arrs rs
    omega
theorem dq_arrs {K : PySem.W.Frag} {H : Hp} : ∀ {vs : List V} {rs : List Arr}, All2 (AtA K H) vs rs → DqAll K H vs (rs.map dA)
  | _, _, .nil => .nil
  | _, _, .cons ⟨_, e, s⟩ t => by
    subst e
    exact .cons (.tup s (.cons (.int _) (.cons (.str _) (.cons (.int _) (.cons (.str _) .nil))))) (dq_arrs t)
theorem ArrT.dq {K : PySem.W.Frag} {H : Hp} {t : Addr} {rs : List Arr} : ArrT K H t rs → Dq K H (.ref t) (dAs rs) := fun ⟨_, h, a⟩ => .tup h (dq_arrs a)
theorem sgn_let {z : Str} (h : Sgn 3 z) : isLetB z = true := by
  obtain ⟨cs, rfl, up, h2, h5, hm⟩ := h
  have e : (⟨cs.toArray⟩ : Str).length = cs.length := List.size_toArray
  have el : (⟨cs.toArray⟩ : Str).cps.toList = cs := rfl
  unfold isLetB
  rw [e, if_pos ⟨h2, by omega⟩, Bool.and_eq_true, decide_eq_true_eq, el]
  refine ⟨?_, up⟩
  unfold isWordB
  rw [el, List.all_eq_true]
  intro c hc
  have sub : (pool.all fun c => decide (c ∈ alpha.cps.toList)) = true := by decide +kernel
  exact List.all_eq_true.mp sub c (hm c hc)
section
variable {X : Cx} {k : Nat} {f : Addr} {fd : FuncData} {sp : Sp} {x : Str} {st : Stmt} {p pos : Pos}
theorem pcG0 (D : DefAt X.K X.mg x st [] f fd) (G : FnG X.prog X.w X.K X.mg X.base CX0 k f fd [] sp) (hgu : X.A.guards = some []) (hr : Room k X.A) (hg : Gl X x := by rfl) (hdb : (x == ("__debug__" : Str)) = false := by decide) :
    PE X (.Call (.Name x p) [] [] pos) (tCall sp [] E0 tNil) := by
  refine ⟨fun pins s σ H Q I h => ?_⟩
  refine wpAny_Call_Name_kw (ld_glob I hg D.g ?_ hdb)
  exact PySem.W.callWith_K0 I.kIn D.F.kp (run_fnG (us := []) G hgu hr D.b .nil pass0 I .nil h)
end
abbrev dTup (ks : List Str) : PyData := .tuple ((ks.map V.str).map fD)
theorem tup_show {ks : List Str} (h : ∀ y ∈ ks, Asc y ∧ y.length ≤ 100) (hl : ks.length ≤ 200) : (dTup ks).showable = true ∧ (dTup ks).shown.length ≤ sizeLine ∧ (dTup ks).depth ≤ 50 := by
  refine ⟨showable_texts _, shownT_texts (fun y hy => (h y hy).1) ?_, ?_⟩
  · have := sum_few fun y hy => (h y hy).2
    omega
  · show PyData.depthAll ((ks.map V.str).map fD) + 1 ≤ 50
    rw [depthAll_flat]; decide
theorem kindsAll_short {ls : Str} {n : Nat} {rs : List Arr} (g : Good ls n rs) {ks : List Str} (h : KindsAll rs ks) : ∀ y ∈ ks, Asc y ∧ y.length ≤ 100 := fun y hy => by
  obtain ⟨r, hr, h0, rfl⟩ := (h.2.2 y).mp hy
  have := good_kind g hr h0
  exact ⟨this.1, by omega⟩
theorem op_neDK {X : Cx} {K0 : PySem.W.Frag} (hK : X.K = K0) (hu : X.A.units + 64 < cLine) : OpR X (compareOp .NotEq) (rNeD K0) := by
  subst hK
  exact op_neD hu

/-- the parts of two formats as data -/
abbrev dQ (n1 : Nat) (rs1 : List Arr) (n2 : Nat) (rs2 : List Arr) : PyData := .list [.int n1, dAs rs1, .int n2, dAs rs2]
theorem four_show {ls1 ls2 : Str} {n1 n2 : Nat} {rs1 rs2 : List Arr} (g1 : Good ls1 n1 rs1) (g2 : Good ls2 n2 rs2) (h1 : rs1.length ≤ 200) (h2 : rs2.length ≤ 200) : (dQ n1 rs1 n2 rs2).showable = true ∧ (dQ n1 rs1 n2 rs2).shown.length ≤ sizeLine ∧ (dQ n1 rs1 n2 rs2).depth ≤ 50 := by
  obtain ⟨hn1, hs1⟩ := g1.small
  obtain ⟨hn2, hs2⟩ := g2.small
  have k1 : (n1 : Int).natAbs ≤ 1000000 := by omega
  have k2 : (n2 : Int).natAbs ≤ 1000000 := by omega
  have sm1 : ∀ r ∈ rs1, r.small ∧ Asc r.l ∧ Asc r.k := fun r hr => ⟨hs1 r hr, (g1.arr r hr).2.2.1, (g1.arr r hr).2.2.2.2⟩
  have sm2 : ∀ r ∈ rs2, r.small ∧ Asc r.l ∧ Asc r.k := fun r hr => ⟨hs2 r hr, (g2.arr r hr).2.2.1, (g2.arr r hr).2.2.2.2⟩
  refine ⟨?_, ?_, ?_⟩
  · show (decide ((n1 : Int).natAbs.log2 < 1920) && (PyData.showableAll (rs1.map dA) && (decide ((n2 : Int).natAbs.log2 < 1920) && (PyData.showableAll (rs2.map dA) && true)))) = true
    rw [decide_eq_true (num_log k1), decide_eq_true (num_log k2), show_arrs hs1, show_arrs hs2]; rfl
  · have q := PyData.shown_le 16 (by decide) (dQ n1 rs1 n2 rs2) (by
      show ((PyData.int n1).leavesShort 16 && (PyData.leavesShortAll 16 (rs1.map dA) && ((PyData.int n2).leavesShort 16 && (PyData.leavesShortAll 16 (rs2.map dA) && true)))) = true
      rw [leaf_int k1, leaf_int k2, leaves_arrs sm1, leaves_arrs sm2]; rfl)
    have e : (dQ n1 rs1 n2 rs2).weight = (PyData.int n1).weight + 1 + (PyData.weightAll (rs1.map dA) + 1 + ((PyData.int n2).weight + 1 + (PyData.weightAll (rs2.map dA) + 1 + 0))) := rfl
    have w1 := weight_int k1
    have w2 := weight_arrs sm1
    have w3 := weight_int k2
    have w4 := weight_arrs sm2
    rw [e] at q
    rw [sizeLine_eq]
    omega
  · show max 0 (max (PyData.depthAll (rs1.map dA) + 1) (max 0 (max (PyData.depthAll (rs2.map dA) + 1) 0))) + 1 ≤ 50
    have := depth_arrs rs1
    have := depth_arrs rs2
    omega
/-- [the kinds of a word for all words] -/
theorem lc_kinds {K : PySem.W.Frag} {Rz : Str → List Str → Prop} {i : Nat} {vs : List Nat} {σ : L2.St} {te : TE} {H1 : Hp} {rl D : Addr} {zs : List Str} {Qd : Hp → Prop} (hz : H1 rl = some (.lst (zs.map V.str))) (hD : H1 D = none) (few : zs.length ≤ 1000) (hw : ∀ x, wipe ((wipe σ vs).set i (some x)) vs = wipe σ vs)
    (hs : ∀ z ∈ zs, ∀ (H : Hp) (Q : VK), Same H1 H → (∀ H' q ks, Same H H' → SqT K H' q (ks.map V.str) → Rz z ks → Q (.ref q) H') → te ((wipe σ vs).set i (some (.str z))) H Q)
    (hd : ∀ H' ys kss, Same H1 H' → H' D = some (.lst ys) → All2 (TupA K H') ys kss → All2 Rz zs kss → Qd H') :
    ∃ W : Nat → Nat → Hp → Prop, (∃ m, W 0 m (upd H1 D (.lst []))) ∧ ∀ j m H, W j m H →
      ((Itl K rl).stop j H ∧ Qd H) ∨ ((Itl K rl).go j H ∧ ∃ Nx : Hp → Prop, (∀ H', Nx H' → ∃ m', m' < m ∧ W (j + 1) m' H') ∧ ∀ x H', (Itl K rl).yld j H x H' → gName i x (wipe σ vs) H' fun σ2 H2 => wipe σ2 vs = wipe σ vs ∧ tYes σ2 H2 fun b H3 =>
        if b = true then te σ2 H3 fun y H4 => ∃ acc, H4 D = some (.lst acc) ∧ acc.length < sizeLine ∧ Nx (upd H4 D (.lst (acc ++ [y]))) else Nx H3) := by
  refine lc_list (K := K) (a := rl) (xs := zs.map V.str) (fun j H' => ∃ ys kss, H' D = some (.lst ys) ∧ All2 (TupA K H') ys kss ∧ All2 Rz (zs.take j) kss ∧ Same H1 H') ⟨[], [], upd_same, .nil, (by rw [List.take_zero]; exact .nil), Same.upd hD⟩ (fun j H' _ ⟨_, _, _, _, _, sm⟩ => SqL.of (sm _ _ hz)) ?_ ?_
  · rintro j v H hv ⟨ys, kss, eD, hys, hk, sm⟩
    obtain ⟨z, hzi, rfl⟩ : ∃ z, zs[j]? = some z ∧ v = V.str z := by
      rw [List.getElem?_map] at hv
      cases e : zs[j]? with
      | none => rw [e] at hv; exact nomatch hv
      | some z => rw [e] at hv; cases hv; exact ⟨z, rfl, rfl⟩
    refine ⟨hw _, ?_⟩
    dsimp only [tYes]
    refine iteT ?_
    refine hs z (List.mem_of_getElem? hzi) H _ sm fun H' q ks s hq hr => ?_
    have eD' := s _ _ eD
    refine ⟨ys, eD', ?_, ys ++ [.ref q], kss ++ [ks], upd_same, (hys.imp fun _ _ h => TupA.to (fun a zs h => sqT_put eD' h) (h.same s)).app (.cons ⟨q, rfl, sqT_put eD' hq⟩ .nil), by rw [take_snoc hzi]; exact hk.app (.cons hr .nil), keep_put (sm.trans s) hD⟩
    rw [hys.len, ← hk.len]
    exact Nat.lt_of_le_of_lt (Nat.le_trans (List.length_take_le' _ _) few) (by decide)
  · rintro H ⟨ys, kss, eD, hys, hk, sm⟩
    rw [List.length_map, List.take_length] at hk
    exact hd H ys kss sm eD hys hk
theorem catA_ok {K : PySem.W.Frag} {H : Hp} {a b : Addr} {xs ys : List V} {Q : VK} (ha : SqT K H a xs) (hb : SqT K H b ys) (hl : xs.length + ys.length ≤ sizeLine) (k : ∀ H' q, Same H H' → SqT K H' q (xs ++ ys) → Q (.ref q) H') : rCatA K (.ref a) (.ref b) H Q := by
  refine ⟨a, b, xs, ys, rfl, rfl, ha, hb, hl, fun e => ?_, fun _ e => ?_, fun _ _ p hp => ?_⟩
  · subst e
    exact k H b (Same.refl _) hb
  · subst e
    exact k H a (Same.refl _) (by rw [List.append_nil]; exact ha)
  · exact k _ p (Same.upd hp) (SqT.of upd_same)
def spBoth (K : PySem.W.Frag) : Sp := fun vs H Q _ => ∃ (p1 p2 a1 a2 : Addr) (n1 n2 : Nat) (rs1 rs2 : List Arr) (z : Str), vs = [.ref p1, .ref p2, .str z] ∧ SqT K H p1 [.int n1, .ref a1] ∧ ArrT K H a1 rs1 ∧ rs1.length ≤ 40 ∧ SqT K H p2 [.int n2, .ref a2] ∧ ArrT K H a2 rs2 ∧ rs2.length ≤ 40 ∧ z.length ≤ 1000 ∧
  ∀ (H' : Hp) (q : Addr) (ks : List Str), Same H H' → SqT K H' q (ks.map V.str) → Up ks → ks.Nodup → (∀ k, k ∈ ks ↔ Reads rs1 0 (letts z) k ∨ Reads rs2 0 (letts z) k) → ks.length ≤ 80 → Q (.ref q) H'
end Ami
namespace K06
open PySem PySem.Spec PyProof.Rows L2 Ami
section
variable {P : Program} {w : World} {K : PySem.W.Frag} {mg : Str → Option Value} {base : Heap}
theorem scBoth : FnScope ["_law_one", "_law_two", "_law_row"] ["_law_one", "_law_two", "_law_row"] (defScope sBoth) := ⟨rfl, rfl, rfl, by decide +kernel, rfl, by decide +kernel, by decide +kernel⟩
theorem ok_both {f f1 : Addr} {fd fd1 : FuncData} (F : Fun K "_law_both" "_law_both" sBoth f fd) (T : Blt mg) (D1 : DefAt K mg "_law_kinds_by" sKindsBy ["_law_links", "_law_row"] f1 fd1) : FnOk P w K mg base CX0 2 f fd ["_law_one", "_law_two", "_law_row"] (spBoth K) := by
  have G1 : FnOk P w K mg base CX0 1 f1 fd1 ["_law_links", "_law_row"] (spKindsBy K) := ok_kby D1.F T
  refine F.ok scBoth (fun vs H Q E h => ?_) (fun cdv A outer s H vs Q E hr h => ?_)
  · obtain ⟨p1, p2, a1, a2, n1, n2, rs1, rs2, z, rfl, _⟩ := h
    rfl
  · obtain ⟨p1, p2, a1, a2, n1, n2, rs1, rs2, z, rfl, hp1, hA1, l1, hp2, hA2, l2, hz, k⟩ := h
    refine ⟨_, pss_one (ps_ret (pe_callTy call_tuple_of (by rfl) T.tuple (by decide +kernel) (pa_cons (pe_callB (cr_sortedWT rfl) (by rfl) T.sorted (by decide +kernel) (pa_cons (pe_callTy (cr_setTx rfl) (by rfl) T.set (by decide +kernel) (pa_cons
        (pe_op op_catA (pc D1 G1 hr (pa_cons (pe_ix ix_seq (pv 0) pe_int (fun _ _ => rfl)) (pa_cons (pv 2) pa_nil))) (pc D1 G1 hr (pa_cons (pe_ix ix_seq (pv 1) pe_int (fun _ _ => rfl)) (pa_cons (pv 2) pa_nil)))) pa_nil)) pa_nil)) pa_nil))), ?_⟩
    refine ⟨_, rfl, .inr (.inl ⟨p1, _, ((1 : Nat) : Int), _, rfl, rfl, hp1, atI_nat (j := 1) rfl, ?_⟩)⟩
    refine ⟨_, rfl, a1, rs1, z, rfl, hA1, l1, hz, fun H1 q1 k1 s1 hq1 hk1 lk1 => ?_⟩
    have s1 : Same H H1 := s1
    refine ⟨_, rfl, .inr (.inl ⟨p2, _, ((1 : Nat) : Int), _, rfl, rfl, sqT_same s1 hp2, atI_nat (j := 1) rfl, ?_⟩)⟩
    refine ⟨_, rfl, a2, rs2, z, rfl, hA2.same s1, l2, hz, fun H2 q2 k2 s2 hq2 hk2 lk2 => ?_⟩
    have s2 : Same H1 H2 := s2
    refine catA_ok (K := K) (sqT_same s2 hq1) hq2 (by rw [List.length_map, List.length_map]; exact Nat.le_trans (by omega : _ ≤ 80) (by decide)) fun H3 q s3 hq => ?_
    rw [← List.map_append] at hq
    refine ⟨q, k1 ++ k2, rfl, .inr hq, ?_, fun S l hS nd mem => ?_⟩
    · rw [List.length_append]
      exact Nat.lt_of_le_of_lt (by omega : _ ≤ 80) (by decide)
    · have s4 := Same.upd (o := SW w S (l.map Sum.inr)) hS
      refine ⟨S, l, rfl, upd_same, fun ys p pm up hp => ?_⟩
      have s5 := Same.upd (o := .lst (ys.map V.str)) hp
      refine ⟨p, _, rfl, .inl ⟨SqL.of upd_same, fun T0 hT => ?_⟩⟩
      have s6 := Same.upd (o := .tup (ys.map V.str)) hT
      have ll : l.length ≤ 80 := by
        have := nodup_sub (m := k1 ++ k2) nd fun x hx => (mem x).mp hx
        rw [List.length_append] at this
        omega
      refine k _ T0 ys ((s1.trans s2).trans (s3.trans ((s4.trans s5).trans s6))) (SqT.of upd_same) up (pm.nodup_iff.mpr nd) (fun kd => ?_) (by rw [pm.length_eq]; exact ll)
      rw [pm.mem_iff, mem, List.mem_append, hk1.2.2, hk2.2.2]
end
end K06

set_option Elab.async false
set_option linter.all false
set_option maxRecDepth 100000
set_option maxHeartbeats 8000000
namespace Ami
open PySem PySem.Spec PyProof.Rows L2
theorem letts_rev (z : Str) : letts (revS z) = (letts z).reverse := by
  unfold letts revS
  show (z.cps.toList.reverse.toArray.toList).map one = _
  rw [List.toList_toArray, List.map_reverse]
/-- how few kinds there are -/
structure Few (n : Nat) (rs : List Arr) : Prop where
  len : rs.length ≤ 8
  num : n ≤ 8
  ex : ∃ (kc : Nat) (nm : List Str), nm.length ≤ kc ∧ (∀ r ∈ rs, r.t = 0 → r.k ∈ nm) ∧ (n - 1) * (kc * kc) ≤ 63 ∧ kc ≤ 5
/-- a format that was made, with what is due of it -/
def Item (K : PySem.W.Frag) (C : Addr) (ls : Str) (zs : List Str) (H : Hp) (v : V) : Prop := ∃ (q x dl : Addr) (n : Nat) (R : List Arr) (ws : List V) (kss : List (List Str)), v = .ref q ∧ SqT K H q [.ref x, .ref dl] ∧ FmtR K C H x ls n R ∧ n ≤ 64 ∧ R.length ≤ 200 ∧
  H dl = some (.lst ws) ∧ All2 (TupA K H) ws kss ∧ (∀ ks ∈ kss, ks.length ≤ 80) ∧ Rows R zs kss
theorem Item.same {K : PySem.W.Frag} {C : Addr} {ls : Str} {zs : List Str} {H H' : Hp} {v : V} (s : Same H H') : Item K C ls zs H v → Item K C ls zs H' v := fun ⟨q, x, dl, n, R, ws, kss, e, hq, fm, hn, hR, hd, hw, h8, rows⟩ =>
  ⟨q, x, dl, n, R, ws, kss, e, sqT_same s hq, fm.same s, hn, hR, s _ _ hd, hw.imp fun _ _ => TupA.same s, h8, rows⟩
theorem rows_of {rs : List Arr} {R : Str → List Str → Prop} (h : ∀ z ks, R z ks → KindsOf rs (letts z) ks) {zs : List Str} {kss : List (List Str)} (a : All2 R zs kss) : Rows rs zs kss := a.imp h
theorem all_80 {R : Str → List Str → Prop} (h : ∀ z ks, R z ks → ks.length ≤ 80) {zs : List Str} {kss : List (List Str)} (a : All2 R zs kss) : ∀ ks ∈ kss, ks.length ≤ 80 := fun ks hk => by
  obtain ⟨z, _, q⟩ := a.mem2 hk
  exact h z ks q
theorem beside_of {ls : Str} {n1 n2 : Nat} {R rs1 rs2 : List Arr} (g1 : Good ls n1 rs1) (g2 : Good ls n2 rs2) (m : ∀ r, r ∈ R ↔ r ∈ rs1 ∨ ∃ q ∈ rs2, r = mvA n1 q) : Beside R rs1 rs2 n1 :=
  ⟨m, g1.n1, good_b g1, fun r hr => ⟨(good_b g2 r hr).1, (good_b g2 r hr).2.2.1⟩⟩
def spPairR (K : PySem.W.Frag) (C : Addr) : Sp := fun vs H Q _ => ∃ (ls : Str) (rl w1 w2 a1 a2 : Addr) (n1 n2 : Nat) (rs1 rs2 : List Arr) (zs : List Str), vs = [.str ls, .ref rl, .ref w1, .ref w2] ∧ H rl = some (.lst (zs.map V.str)) ∧ zs.length ≤ 140 ∧ (∀ z ∈ zs, z.length ≤ 100) ∧
  SqT K H w1 [.int n1, .ref a1] ∧ ArrT K H a1 rs1 ∧ Good ls n1 rs1 ∧ Few n1 rs1 ∧ SqT K H w2 [.int n2, .ref a2] ∧ ArrT K H a2 rs2 ∧ Good ls n2 rs2 ∧ Few n2 rs2 ∧ ∀ H', Same H H' → Q (.bl true) H'
end Ami
namespace K06
open PySem PySem.Spec PyProof.Rows L2 Ami
section
variable {P : Program} {w : World} {K : PySem.W.Frag} {mg : Str → Option Value} {base : Heap}
abbrev nPairR : List Str := ["_law_signs_here", "_law_rows", "_law_one", "_law_two", "_law_a", "_law_b", "_law_row", "_law_both_here", "_law_made", "_law_due", "_law_back"]
theorem scPairR : FnScope nPairR ["_law_signs_here", "_law_rows", "_law_one", "_law_two"] (defScope sPairR) := ⟨rfl, rfl, rfl, by decide +kernel, rfl, by decide +kernel, by decide +kernel⟩
/-- all that is asked of the class -/
structure FmtK (P : Program) (w : World) (K : PySem.W.Frag) (mg : Str → Option Value) (base : Heap) (C : Addr) : Prop where
  c : FmtC K C
  hC : mg "Format" = some (.ref C)
  ini : ∃ fI fd, Mk K C fI ∧ Binds K fd ["self", "letters", "states", "arrows"] [] ∧ FnOk P w K mg base CX0 5 fI fd ["self", "letters", "states", "arrows"] (spInit K C)
  kin : ∃ pK gK fd, PropOf K C "kinds" pK gK ∧ Binds K fd ["self"] [] ∧ FnOk P w K mg base CX0 1 gK fd ["self"] (spKinds K C)
  kof : ∃ fk fd, Meth K C "kinds_of" fk ∧ Binds K fd ["self", "word"] [] ∧ FnOk P w K mg base CX0 2 fk fd ["self", "word"] (spKindsOf K C)
  bwd : ∃ fb fd, Meth K C "backward" fb ∧ Binds K fd ["self"] [] ∧ FnOk P w K mg base CX0 7 fb fd ["self"] (spBackward K C)
  sf : PySem.W.selfFirst K C = true
  orr : ∃ fo fd, PySem.W.findIn K (.ref C) "__or__" = some (some (.ref fo)) ∧ PySem.W.isFn K (.ref fo) = true ∧ Binds K fd ["self", "other"] [] ∧ FnOk P w K mg base CX0 7 fo fd ["self", "other"] (spOr K C)
theorem ok_pairR {f f1 f2 f3 C : Addr} {fd fd1 fd2 fd3 : FuncData} (F : Fun K "_law_pair_right" "_law_pair_right" sPairR f fd) (T : Blt mg) (Z : FmtK P w K mg base C)
    (D1 : DefAt K mg "_law_kinds_by" sKindsBy ["_law_links", "_law_row"] f1 fd1) (D2 : DefAt K mg "_law_both" sBoth ["_law_one", "_law_two", "_law_row"] f2 fd2)
    (D3 : DefAt K mg "_law_has" sHas ["_law_made", "_law_rows", "_law_due"] f3 fd3) (G3 : FnG P w K mg base CX0 3 f3 fd3 ["_law_made", "_law_rows", "_law_due"] (spHas K C)) :
    FnG P w K mg base CX0 8 f fd ["_law_signs_here", "_law_rows", "_law_one", "_law_two"] (spPairR K C) := by
  have G1 : FnOk P w K mg base CX0 1 f1 fd1 ["_law_links", "_law_row"] (spKindsBy K) := ok_kby D1.F T
  have G2 : FnOk P w K mg base CX0 2 f2 fd2 ["_law_one", "_law_two", "_law_row"] (spBoth K) := ok_both D2.F T D1
  obtain ⟨c, hC, ⟨fI, dI, M, bI, GI⟩, ⟨pK, gK, dK, pk, bK, GK⟩, ⟨fk, dk, mk, bk, Gk⟩, ⟨fb, db, mb, bb, Gb⟩, sf, fo, dO, eo, fno, bo, Go⟩ := Z
  refine Ami.Fun.okG F scPairR (fun vs H Q E h => ?_) (fun cdv A outer s H vs Q E hg hr h => ?_)
  · obtain ⟨ls, rl, w1, w2, a1, a2, n1, n2, rs1, rs2, zs, rfl, _⟩ := h
    rfl
  · obtain ⟨ls, rl, w1, w2, a1, a2, n1, n2, rs1, rs2, zs, rfl, hz, lz, sz, hw1, hA1, g1, fw1, hw2, hA2, g2, fw2, k⟩ := h
    have hr1 := hr.mono (j := 1) (by decide)
    have hr2 := hr.mono (j := 2) (by decide)
    have hr3 := hr.mono (j := 3) (by decide)
    have hr6 := hr.mono (j := 6) (by decide)
    have hr7 := hr
    have hgu := guards_deeper (envOfC "_law_pair_right" (defScope sPairR) s.heap.objs.size f cdv) hg
    have hun := hr.units
    refine ⟨_, pss_cons (ps_par (i := 4) (j := 5) rfl scPairR.nd rfl rfl (by decide) rfl rfl (pa_cons (pe_make M GI hr6 (by rfl) hC bI .nil pass0 (pa_cons (pv 0) (pa_cons (pe_ix ix_seq (pv 2) pe_int (fun _ _ => rfl)) (pa_cons (pe_ix ix_seq (pv 2) pe_int (fun _ _ => rfl)) pa_nil))))
          (pa_cons (pe_make M GI hr6 (by rfl) hC bI .nil pass0 (pa_cons (pv 0) (pa_cons (pe_ix ix_seq (pv 3) pe_int (fun _ _ => rfl)) (pa_cons (pe_ix ix_seq (pv 3) pe_int (fun _ _ => rfl)) pa_nil)))) pa_nil)) (by rfl))
      (pss_cons (ps_setLc (i := 7) (own := [("_law_row", 6)]) (g := gName 6) (tt := tYes) rfl scPairR.nd rfl rfl (by rfl) (pi_list (pv 1)) (blkOk_by (own := [("_law_row", 6)]) (N := nPairR) (sc := defScope sPairR) (by decide +kernel)) (fun _ _ _ _ _ => pg_name (i := 6) scPairR.nd rfl (Or.inl rfl)) (fun _ _ _ _ _ => pts_nil)
          (fun _ _ _ _ _ => pc D2 G2 hr2 (pa_cons (pv 2) (pa_cons (pv 3) (pa_cons (pv 6) pa_nil)))))
      (C8.pss_cut (ps_for PassesOwn.never rfl (pi_tup (pe_tup (pa_cons (pe_tup (pa_cons (pe_op (op_binO (C := C) Go hr7 sf eo fno bo pass0) (pv 4) (pv 5)) (pa_cons (pv 7) pa_nil)))
            (pa_cons (pe_tup (pa_cons (pe_op (op_binO (C := C) Go hr7 sf eo fno bo pass0) (pv 5) (pv 4)) (pa_cons (pv 7) pa_nil)))
            (pa_cons (pe_tup (pa_cons (pe_op (op_binO (C := C) Go hr7 sf eo fno bo pass0) (pv 4) (pv 4)) (pa_cons (pe_lc (own := [("_law_row", 6)]) (g := gName 6) (tt := tYes) rfl scPairR.nd (pi_list (pv 1)) (blkOk_by (own := [("_law_row", 6)]) (N := nPairR) (sc := defScope sPairR) (by decide +kernel)) (fun _ _ _ _ _ => pg_name (i := 6) scPairR.nd rfl (Or.inl rfl)) (fun _ _ _ _ _ => pts_nil)
              (fun _ _ _ _ _ => pc D1 G1 hr1 (pa_cons (pe_ix (ix_seqK (K0 := K) rfl) (pv 2) pe_int (fun _ _ => rfl)) (pa_cons (pv 6) pa_nil)))) pa_nil))) pa_nil)))))
          (pg_tup (by rfl) (pgs_cons (pg_name (i := 8) scPairR.nd rfl (Or.inl rfl)) (pgs_cons (pg_name (i := 9) scPairR.nd rfl (Or.inl rfl)) pgs_nil)))
        (pss_one (ps_if (PW.pt (pw_or (pt_not (pt_val (pcG D3 G3 hgu hr3 (pa_cons (pv 8) (pa_cons (pv 1) (pa_cons (pv 9) pa_nil)))))) (pw_or1 (pt_cmpR op_ne (pe_fld (pv 8) rfl) (pv 0) (nomark _))))) (pss_one (ps_ret pe_bl)) pss_nil)))
      (C8.pss_cut (ps_if (PW.pt (pw_or (pt_cmpR op_gt (pe_fld (pe_op (op_binO (C := C) Go hr7 sf eo fno bo pass0) (pv 4) (pv 5)) rfl) (pe_op op_sub (pe_op op_add (pe_ix ix_seq (pv 2) pe_int (fun _ _ => rfl)) (pe_ix ix_seq (pv 3) pe_int (fun _ _ => rfl))) pe_int) (nomark _))
          (pw_or1 (pt_cmpR op_gt (pe_fld (pe_op (op_binO (C := C) Go hr7 sf eo fno bo pass0) (pv 4) (pv 4)) rfl) (pe_op op_sub (pe_op op_mul pe_int (pe_ix ix_seq (pv 2) pe_int (fun _ _ => rfl))) pe_int) (nomark _))))) (pss_one (ps_ret pe_bl)) pss_nil)
      (C8.pss_cut (ps_set (i := 10) scPairR.nd rfl (Or.inl rfl) (pe_meth0 (pv 4) c.cls mb Gb hr7 bb .nil pass0))
      (C8.pss_cut (ps_if (PW.pt (pw_or (pt_not (pt_val (pcG D3 G3 hgu hr3 (pa_cons (pv 10) (pa_cons (pv 1) (pa_cons (pe_lc (own := [("_law_row", 6)]) (g := gName 6) (tt := tYes) rfl scPairR.nd (pi_list (pv 1)) (blkOk_by (own := [("_law_row", 6)]) (N := nPairR) (sc := defScope sPairR) (by decide +kernel)) (fun _ _ _ _ _ => pg_name (i := 6) scPairR.nd rfl (Or.inl rfl)) (fun _ _ _ _ _ => pts_nil)
              (fun _ _ _ _ _ => pc D1 G1 hr1 (pa_cons (pe_ix (ix_seqK (K0 := K) rfl) (pv 2) pe_int (fun _ _ => rfl)) (pa_cons (pe_revS (pv 6)) pa_nil)))) pa_nil)))))) (pw_or1 (pt_cmpR op_ne (pe_fld (pv 10) rfl) (pv 0) (nomark _))))) (pss_one (ps_ret pe_bl)) pss_nil)
      (C8.pss_cut (ps_if (PW.pt (pw_or (pt_cmpR op_gt (pe_fld (pv 10) rfl) (pe_op op_add pe_int (pe_op op_mul (pe_op op_sub (pe_ix ix_seq (pv 2) pe_int (fun _ _ => rfl)) pe_int) (pe_callB call_len (by rfl) T.len PySem.boot_len (pa_cons (pe_prop (pv 4) c.cls pk GK hr2 bK .nil pass0 rfl) pa_nil)))) (nomark _))
          (pw_or1 (pt_cmpR (op_neD hun) (pe_prop (pv 10) c.cls pk GK hr2 bK .nil pass0 rfl) (pe_prop (pv 4) c.cls pk GK hr2 bK .nil pass0 rfl) (nomark _))))) (pss_one (ps_ret pe_bl)) pss_nil)
      (C8.pss_cut (ps_if (pt_not (pt_val (pcG D3 G3 hgu hr3 (pa_cons (pe_meth0 (pv 10) c.cls mb Gb hr7 bb .nil pass0) (pa_cons (pv 1) (pa_cons (pe_lc (own := [("_law_row", 6)]) (g := gName 6) (tt := tYes) rfl scPairR.nd (pi_list (pv 1)) (blkOk_by (own := [("_law_row", 6)]) (N := nPairR) (sc := defScope sPairR) (by decide +kernel)) (fun _ _ _ _ _ => pg_name (i := 6) scPairR.nd rfl (Or.inl rfl)) (fun _ _ _ _ _ => pts_nil)
              (fun _ _ _ _ _ => pc D1 G1 hr1 (pa_cons (pe_ix (ix_seqK (K0 := K) rfl) (pv 2) pe_int (fun _ _ => rfl)) (pa_cons (pv 6) pa_nil)))) pa_nil)))))) (pss_one (ps_ret pe_bl)) pss_nil)
      (pss_one (ps_ret (pe_cmpR op_eq (pe_callB (cr_reprA hgu hun) (by rfl) T.repr (by decide +kernel) (pa_cons (pe_lst (pa_cons (pe_fld (pv 4) rfl) (pa_cons (pe_fld (pv 4) rfl) (pa_cons (pe_fld (pv 5) rfl) (pa_cons (pe_fld (pv 5) rfl) pa_nil))))) pa_nil))
        (pe_callB (cr_reprA hgu hun) (by rfl) T.repr (by decide +kernel) (pa_cons (pe_lst (pa_cons (pe_ix ix_seq (pv 2) pe_int (fun _ _ => rfl)) (pa_cons (pe_ix ix_seq (pv 2) pe_int (fun _ _ => rfl)) (pa_cons (pe_ix ix_seq (pv 3) pe_int (fun _ _ => rfl)) (pa_cons (pe_ix ix_seq (pv 3) pe_int (fun _ _ => rfl)) pa_nil))))) pa_nil)) (nomark _))))))))))), ?_⟩
    have ix0 : ∀ {H' : Hp} {w' a' : Addr} {n' : Nat} {Q' : VK}, SqT K H' w' [.int n', .ref a'] → Q' (.int n') H' → rIx K (.ref w') (.int 0) H' Q' := fun {H' w' a' n' Q'} h q => .inr (.inl ⟨w', _, ((0 : Nat) : Int), _, rfl, rfl, h, atI_nat (j := 0) rfl, q⟩)
    have ix1 : ∀ {H' : Hp} {w' a' : Addr} {n' : Nat} {Q' : VK}, SqT K H' w' [.int n', .ref a'] → Q' (.ref a') H' → rIx K (.ref w') (.int 1) H' Q' := fun {H' w' a' n' Q'} h q => .inr (.inl ⟨w', _, ((1 : Nat) : Int), _, rfl, rfl, h, atI_nat (j := 1) rfl, q⟩)
    have l1 := fw1.len
    have l2 := fw2.len
    have m1 := fw1.num
    have m2 := fw2.num
    have p1 := g1.n1
    have p2 := g2.n1
    -- the two formats
    refine ⟨_, rfl, _, rfl, ix0 hw1 ⟨_, rfl, ix1 hw1 fun a da ha0 hda nea => ?_⟩⟩
    refine made_fmtR ha0 hda nea g1 hA1 fun H1 s1 fa => ⟨rfl, ?_⟩
    have s1 : Same H H1 := s1
    refine ⟨_, rfl, _, rfl, ix0 (sqT_same s1 hw2) ⟨_, rfl, ix1 (sqT_same s1 hw2) fun b db hb0 hdb neb => ?_⟩⟩
    refine made_fmtR hb0 hdb neb g2 (hA2.same s1) fun H2 s2 fb => ⟨rfl, _, _, rfl, ?_⟩
    have s2 : Same H1 H2 := s2
    have s02 := s1.trans s2
    have fa2 := fa.r.same s2
    have fb2 := fb.r
    clear fa fb s1 s2 ha0 hda nea hb0 hdb neb da db
    have hz2 := s02 _ _ hz
    refine ⟨_, rfl, rl, rfl, ⟨_, SqL.of hz2⟩, fun BL hBL => ?_⟩
    refine lc_kinds (K := K) (Rz := fun z ks => (Up ks ∧ ks.Nodup ∧ ∀ k, k ∈ ks ↔ Reads rs1 0 (letts z) k ∨ Reads rs2 0 (letts z) k) ∧ ks.length ≤ 80) hz2 hBL (by omega) (fun _ => rfl) (fun z hz' H' Q' s' k' => ?_) fun H3 bys bks s3 eBL hbys hbks => ?_
    · have sz' := sz z hz'
      have s0' := s02.trans s'
      exact ⟨_, rfl, _, rfl, _, rfl, w1, w2, a1, a2, n1, n2, rs1, rs2, z, rfl, sqT_same s0' hw1, hA1.same s0', by omega, sqT_same s0' hw2, hA2.same s0', by omega, by omega, fun H'' q ks s'' hq up nd mem l80 => k' H'' q ks s'' hq ⟨⟨up, nd, mem⟩, l80⟩⟩
    have s03 := s02.trans s3
    have fa3 := fa2.same s3
    have fb3 := fb2.same s3
    clear fa2 fb2 s02 s3 hBL hz2
    obtain ⟨dxa, ta, dda, ea3, hAa, _⟩ := fa3.ex
    obtain ⟨dxb, tb, ddb, eb3, hAb, _⟩ := fb3.ex
    refine ⟨fun σ' H' => ∃ (v8 v9 : Option V), σ' = [some (.str ls), some (.ref rl), some (.ref w1), some (.ref w2), some (.ref a), some (.ref b), none, some (.ref BL), v8, v9, none] ∧ Same H3 H', ?_, ?_⟩
    · refine ⟨_, rfl, _, rfl, a, b, dxa, dxb, _, _, rfl, rfl, ea3, eb3, a, b, ls, n1, n2, rs1, rs2, rfl, fa3, fb3, by omega, fun H4 x R s4 fm mem lR => ⟨x, rfl, ?_⟩⟩
      have s4 : Same H3 H4 := s4
      refine ⟨_, rfl, (by show 2 ≤ sizeLine; decide), fun q1 hq1 => ?_⟩
      have s5 := Same.upd (o := .tup [V.ref x, V.ref BL]) hq1
      have i1 : Item K C ls zs (upd H4 q1 (.tup [V.ref x, V.ref BL])) (.ref q1) := ⟨q1, x, BL, _, R, bys, bks, rfl, SqT.of upd_same, fm.same s5, by omega, by omega, (s4.trans s5) _ _ eBL, hbys.imp fun _ _ => TupA.same (s4.trans s5), all_80 (fun _ _ h => h.2) hbks,
        rows_of (fun z ks h => ⟨h.1.1, h.1.2.1, fun k => by rw [h.1.2.2, (beside_of g1 g2 mem).reads]⟩) hbks⟩
      have s35 := s4.trans s5
      clear fm mem lR s4 s5 hq1
      revert i1 s35
      generalize upd H4 q1 (.tup [V.ref x, V.ref BL]) = H5
      intro i1 s35
      refine ⟨_, rfl, _, rfl, b, a, dxb, dxa, _, _, rfl, rfl, s35 _ _ eb3, s35 _ _ ea3, b, a, ls, n2, n1, rs2, rs1, rfl, fb3.same s35, fa3.same s35, by omega, fun H6 x2 R2 s6 fm mem lR => ⟨x2, rfl, ?_⟩⟩
      have s6 : Same H5 H6 := s6
      refine ⟨_, rfl, (by show 2 ≤ sizeLine; decide), fun q2 hq2 => ?_⟩
      have s7 := Same.upd (o := .tup [V.ref x2, V.ref BL]) hq2
      have s57 := s6.trans s7
      have i2 : Item K C ls zs (upd H6 q2 (.tup [V.ref x2, V.ref BL])) (.ref q2) := ⟨q2, x2, BL, _, R2, bys, bks, rfl, SqT.of upd_same, fm.same s7, by omega, by omega, (s35.trans s57) _ _ eBL, hbys.imp fun _ _ => TupA.same (s35.trans s57), all_80 (fun _ _ h => h.2) hbks,
        rows_of (fun z ks h => ⟨h.1.1, h.1.2.1, fun k => by rw [h.1.2.2, (beside_of g2 g1 mem).reads, or_comm]⟩) hbks⟩
      have i1 := i1.same s57
      have s37 := s35.trans s57
      clear fm mem lR s6 s7 hq2 s57 s35
      revert i1 i2 s37
      generalize upd H6 q2 (.tup [V.ref x2, V.ref BL]) = H7
      intro i2 i1 s37
      refine ⟨_, rfl, _, rfl, a, a, dxa, dxa, _, _, rfl, rfl, s37 _ _ ea3, s37 _ _ ea3, a, a, ls, n1, n1, rs1, rs1, rfl, fa3.same s37, fa3.same s37, by omega, fun H8 x3 R3 s8 fm mem lR => ⟨x3, rfl, ?_⟩⟩
      have s8 : Same H7 H8 := s8
      have s38 := s37.trans s8
      have s08 := s03.trans s38
      have hz8 := s08 _ _ hz
      refine ⟨_, rfl, rl, rfl, ⟨_, SqL.of hz8⟩, fun L3 hL3 => ?_⟩
      refine lc_kinds (K := K) (Rz := fun z ks => KindsOf rs1 (letts z) ks ∧ ks.length ≤ 40) hz8 hL3 (by omega) (fun _ => rfl) (fun z hz' H' Q' s' k' => ?_) fun H9 ays aks s9 eL3 hays haks => ?_
      · have sz' := sz z hz'
        have s0' := s08.trans s'
        exact ⟨_, rfl, ix1 (sqT_same s0' hw1) ⟨_, rfl, a1, rs1, z, rfl, hA1.same s0', by omega, by omega, fun H'' q ks s'' hq hk lk => k' H'' q ks s'' hq ⟨hk, lk⟩⟩⟩
      refine ⟨(by show 2 ≤ sizeLine; decide), fun q3 hq3 => ?_⟩
      have s10 := Same.upd (o := .tup [V.ref x3, V.ref L3]) hq3
      have i3 : Item K C ls zs (upd H9 q3 (.tup [V.ref x3, V.ref L3])) (.ref q3) := ⟨q3, x3, L3, _, R3, ays, aks, rfl, SqT.of upd_same, (fm.same s9).same s10, by omega, by omega, s10 _ _ eL3, hays.imp fun _ _ => TupA.same s10, all_80 (fun _ _ h => Nat.le_trans h.2 (by decide)) haks,
        rows_of (fun z ks h => ⟨h.1.1, h.1.2.1, fun k => by rw [h.1.2.2, (beside_of g1 g1 mem).reads, or_self]⟩) haks⟩
      refine ⟨(by show 3 ≤ sizeLine; decide), fun TT hTT => ⟨TT, rfl, ⟨_, SqT.of upd_same⟩, ?_⟩⟩
      have s11 := Same.upd (o := .tup [V.ref q1, V.ref q2, V.ref q3]) hTT
      have eT : (upd (upd H9 q3 (.tup [V.ref x3, V.ref L3])) TT (.tup [V.ref q1, V.ref q2, V.ref q3])) TT = some (.tup [V.ref q1, V.ref q2, V.ref q3]) := upd_same
      have s7T := ((s8.trans s9).trans s10).trans s11
      have s3T := s37.trans s7T
      have its : ∀ v ∈ [V.ref q1, V.ref q2, V.ref q3], Item K C ls zs (upd (upd H9 q3 (.tup [V.ref x3, V.ref L3])) TT (.tup [V.ref q1, V.ref q2, V.ref q3])) v := fun v hv => by
        simp only [List.mem_cons, List.not_mem_nil, or_false] at hv
        rcases hv with rfl | rfl | rfl
        · exact i1.same s7T
        · exact i2.same s7T
        · exact i3.same s11
      clear i1 i2 i3 fm mem lR s8 s9 s10 s11 s7T s37 s38 s08 hq3 hTT eL3 hays haks hL3 hz8
      revert eT s3T its
      generalize upd (upd H9 q3 (.tup [V.ref x3, V.ref L3])) TT (.tup [V.ref q1, V.ref q2, V.ref q3]) = HT
      intro eT s3T its
      refine for_tup (K := K) (a := TT) (xs := [V.ref q1, V.ref q2, V.ref q3]) (fun i σ H' => ∃ (v8 v9 : Option V), σ = [some (.str ls), some (.ref rl), some (.ref w1), some (.ref w2), some (.ref a), some (.ref b), none, some (.ref BL), v8, v9, none] ∧ Same HT H') ⟨_, _, rfl, Same.refl _⟩ (fun i σ H' _ ⟨_, _, _, sm⟩ => SqT.of (sm _ _ eT)) ?_ ?_
      · rintro i v σ H10 hv ⟨v8, v9, rfl, sm⟩
        obtain ⟨q, x, dl, n, R, ws, kss, rfl, hq, fm, hn, hR, hd, hws, h8, rows⟩ := (its v (List.mem_of_getElem? hv)).same sm
        refine ⟨q, _, rfl, hq, rfl, ?_⟩
        refine ⟨_, _, rfl, _, _, rfl, rfl, ?_⟩
        have hz10 := (s03.trans (s3T.trans sm)) _ _ hz
        refine ⟨_, rfl, _, rfl, _, rfl, x, rl, dl, ls, n, R, zs, ws, kss, rfl, fm, hn, hR, hz10, lz, sz, hd, hws, h8, rows, fun H11 s11 => ⟨_, rfl, ?_⟩⟩
        have s11 : Same H10 H11 := s11
        refine iteF ?_
        obtain ⟨dx, t, dd, ex, _, _⟩ := fm.ex
        refine ⟨_, rfl, x, C, dx, _, _, rfl, s11 _ _ ex, c.cls, c.n1, rfl, _, rfl, rfl, _, rfl, ?_⟩
        refine iteN (decide_eq_true rfl) ?_
        exact ⟨_, _, rfl, sm.trans s11⟩
      · rintro σ H10 ⟨v8, v9, rfl, sm⟩
        exact ⟨_, _, rfl, s3T.trans sm⟩
    rintro σ H4 ⟨v8, v9, rfl, s34⟩
    refine ⟨fun σ' H' => ∃ (v8 v9 : Option V), σ' = [some (.str ls), some (.ref rl), some (.ref w1), some (.ref w2), some (.ref a), some (.ref b), none, some (.ref BL), v8, v9, none] ∧ Same H3 H', ?_, ?_⟩
    · refine ⟨_, rfl, _, rfl, a, b, dxa, dxb, _, _, rfl, rfl, s34 _ _ ea3, s34 _ _ eb3, a, b, ls, n1, n2, rs1, rs2, rfl, fa3.same s34, fb3.same s34, by omega, fun H5 x R s5 fm mem lR => ⟨x, rfl, ?_⟩⟩
      have s5 : Same H4 H5 := s5
      obtain ⟨dx, t, dd, ex, _, _⟩ := fm.ex
      have s35 := s34.trans s5
      refine ⟨x, C, dx, _, _, rfl, ex, c.cls, c.n2, rfl, ?_⟩
      refine ⟨_, rfl, ix0 (sqT_same (s03.trans s35) hw1) ⟨_, rfl, ix0 (sqT_same (s03.trans s35) hw2) ⟨n1, n2, rfl, rfl, _, 1, rfl, rfl, _, _, rfl, rfl, _, rfl, ?_⟩⟩⟩
      dsimp only
      rw [decide_eq_false (by omega)]
      refine iteF ?_
      refine ⟨_, rfl, _, rfl, a, a, dxa, dxa, _, _, rfl, rfl, s35 _ _ ea3, s35 _ _ ea3, a, a, ls, n1, n1, rs1, rs1, rfl, fa3.same s35, fa3.same s35, by omega, fun H6 x2 R2 s6 fm2 mem2 lR2 => ⟨x2, rfl, ?_⟩⟩
      have s6 : Same H5 H6 := s6
      obtain ⟨dx2, t2, dd2, ex2, _, _⟩ := fm2.ex
      have s36 := s35.trans s6
      refine ⟨x2, C, dx2, _, _, rfl, ex2, c.cls, c.n2, rfl, ?_⟩
      refine ⟨_, rfl, ix0 (sqT_same (s03.trans s36) hw1) ⟨2, n1, rfl, rfl, .inl ⟨by decide, by decide⟩, _, 1, rfl, rfl, _, _, rfl, rfl, _, rfl, ?_⟩⟩
      dsimp only
      rw [decide_eq_false (by omega)]
      refine iteF ?_
      exact ⟨_, _, rfl, s36⟩
    clear s34 v8 v9
    rintro σ H4 ⟨v8, v9, rfl, s34⟩
    -- backward
    obtain ⟨kc, nm', lnm, hnm, hkc, kc5⟩ := fw1.ex
    have kb : rs1.length * nm'.length ≤ 40 := Nat.le_trans (Nat.mul_le_mul l1 (Nat.le_trans lnm kc5)) (by decide)
    refine ⟨fun σ' H' => ∃ (v8 v9 : Option V) (bk : Addr) (R : List Arr) (L : List (Int × Str)), σ' = [some (.str ls), some (.ref rl), some (.ref w1), some (.ref w2), some (.ref a), some (.ref b), none, some (.ref BL), v8, v9, some (.ref bk)] ∧ Same H3 H' ∧
      FmtR K C H' bk ls (L.length + 1) R ∧ Prs rs1 L ∧ (∀ q, q ∈ R ↔ q ∈ turnedL L rs1) ∧ R.length = (turnedL L rs1).length, ?_, ?_⟩
    · refine ⟨_, rfl, a, dxa, _, rfl, s34 _ _ ea3, rfl, a, ls, n1, rs1, nm', rfl, fa3.same s34, by omega, hnm, by omega, fun H5 bk R L s5 fm P0 mem lR => ?_⟩
      exact ⟨_, _, bk, R, L, rfl, s34.trans s5, fm, P0, mem, lR⟩
    clear s34 v8 v9
    rintro σ H4 ⟨v8, v9, bk, R, L, rfl, s34, fm, P0, mem, lR⟩
    have gB := fm.good
    have lL := prs_len g1 P0 hnm
    have lT := turned_len g1 P0 hnm
    have lL1 : L.length ≤ (n1 - 1) * kc := Nat.le_trans lL (Nat.mul_le_mul_left _ lnm)
    have lL2 : (n1 - 1) * kc ≤ (n1 - 1) * (kc * kc) := Nat.mul_le_mul_left _ (Nat.le_mul_self kc)
    have rds : ∀ w k, Reads R 0 w k ↔ Reads rs1 0 w.reverse k := fun w k => turned_reads g1 P0 mem
    have kin : ∀ k, (∃ r ∈ R, r.t = 0 ∧ r.k = k) ↔ ∃ r ∈ rs1, r.t = 0 ∧ r.k = k := fun k => by
      rw [kinds_read gB, kinds_read g1]
      exact ⟨fun ⟨w, h⟩ => ⟨w.reverse, (rds w k).mp h⟩, fun ⟨w, h⟩ => ⟨w.reverse, (rds _ k).mpr (by rw [List.reverse_reverse]; exact h)⟩⟩
    have hnmR : ∀ r ∈ R, r.t = 0 → r.k ∈ nm' := fun r hr h0 => by
      obtain ⟨q, hq, h1, h2⟩ := (kin r.k).mp ⟨r, hr, h0, rfl⟩
      exact h2 ▸ hnm q hq h1
    obtain ⟨dxk, tk, ddk, ek4, _, _⟩ := fm.ex
    refine ⟨fun σ' H' => ∃ (v8 v9 : Option V), σ' = [some (.str ls), some (.ref rl), some (.ref w1), some (.ref w2), some (.ref a), some (.ref b), none, some (.ref BL), v8, v9, some (.ref bk)] ∧ Same H4 H', ?_, ?_⟩
    · have s04 := s03.trans s34
      have hz4 := s04 _ _ hz
      refine ⟨_, rfl, _, rfl, _, rfl, rl, rfl, ⟨_, SqL.of hz4⟩, fun D hD => ?_⟩
      refine lc_kinds (K := K) (Rz := fun z ks => KindsOf rs1 (letts (revS z)) ks ∧ ks.length ≤ 40) hz4 hD (by omega) (fun _ => rfl) (fun z hz' H' Q' s' k' => ?_) fun H5 ys kss s5 eD hys hks => ?_
      · have sz' := sz z hz'
        have s0' := s04.trans s'
        exact ⟨_, rfl, ix1 (sqT_same s0' hw1) ⟨_, rfl, z, rfl, Nat.le_trans sz' (by decide), a1, rs1, revS z, rfl, hA1.same s0', by omega, by rw [revS_length]; omega, fun H'' q ks s'' hq hk lk => k' H'' q ks s'' hq ⟨hk, lk⟩⟩⟩
      refine ⟨bk, rl, D, ls, L.length + 1, R, zs, ys, kss, rfl, fm.same s5, by omega, by omega, s5 _ _ hz4, lz, sz, eD, hys, all_80 (fun _ _ h => Nat.le_trans h.2 (by decide)) hks, rows_of (fun z ks h => ⟨h.1.1, h.1.2.1, fun k => by rw [h.1.2.2, rds, letts_rev]⟩) hks, fun H6 s6 => ⟨_, rfl, ?_⟩⟩
      have s6 : Same H5 H6 := s6
      refine iteF ?_
      refine ⟨_, rfl, bk, C, dxk, _, _, rfl, (s5.trans s6) _ _ ek4, c.cls, c.n1, rfl, _, rfl, rfl, _, rfl, ?_⟩
      refine iteN (decide_eq_true rfl) ?_
      exact ⟨_, _, rfl, s5.trans s6⟩
    clear v8 v9
    rintro σ H5 ⟨v8, v9, rfl, s45⟩
    refine ⟨fun σ' H' => ∃ (v8 v9 : Option V), σ' = [some (.str ls), some (.ref rl), some (.ref w1), some (.ref w2), some (.ref a), some (.ref b), none, some (.ref BL), v8, v9, some (.ref bk)] ∧ Same H4 H', ?_, ?_⟩
    · have s35 := s34.trans s45
      refine ⟨_, rfl, bk, C, dxk, _, _, rfl, s45 _ _ ek4, c.cls, c.n2, rfl, ?_⟩
      refine ⟨_, rfl, ix0 (sqT_same (s03.trans s35) hw1) ⟨n1, 1, rfl, rfl, _, rfl, a, dxa, _, rfl, s35 _ _ ea3, a, ls, n1, rs1, rfl, fa3.same s35, by omega, fun H6 q ks s6 hq hk lk => ?_⟩⟩
      have s6 : Same H5 H6 := s6
      have lks := prs_len g1 P0 (ks := ks) fun r hr h0 => (hk.2.2 _).mpr ⟨r, hr, h0, rfl⟩
      have kf : ks.length ≤ 200 := lk
      refine ⟨_, _, rfl, .inr ⟨_, hq, rfl⟩, _, _, rfl, rfl, .inl ⟨by omega, by omega⟩, 1, _, rfl, rfl, _, _, rfl, rfl, _, rfl, ?_⟩
      dsimp only
      have eM : ((n1 : Int) - 1) * (((ks.map V.str).length : Nat) : Int) = (((n1 - 1) * ks.length : Nat) : Int) := by
        rw [List.length_map, Int.natCast_mul]
        congr 1
        omega
      rw [eM, decide_eq_false (by omega)]
      refine iteF ?_
      have s46 := s45.trans s6
      refine ⟨_, rfl, bk, dxk, _, rfl, s46 _ _ ek4, bk, ls, L.length + 1, R, rfl, fm.same s46, by omega, fun H7 q2 k2 s7 hq2 hk2 _ => ?_⟩
      have s7 : Same H6 H7 := s7
      refine ⟨_, rfl, a, dxa, _, rfl, (s35.trans (s6.trans s7)) _ _ ea3, a, ls, n1, rs1, rfl, fa3.same (s35.trans (s6.trans s7)), by omega, fun H8 q3 k3 s8 hq3 hk3 _ => ?_⟩
      have s8 : Same H7 H8 := s8
      have ek : k2 = k3 := by
        refine up_uniq hk2.1 hk3.1 ((List.perm_ext_iff_of_nodup hk2.2.1 hk3.2.1).mpr fun k => ?_)
        rw [hk2.2.2, hk3.2.2, kin]
      subst ek
      have ok := okF_texts fun y hy => (kindsAll_short g1 hk3 y hy).1
      refine ⟨dTup k2, dTup k2, .tup (sqT_same s8 hq2) (dpAll_flat ok), .tup hq3 (dpAll_flat ok), shaped_tup ok, shaped_tup ok, _, rfl, ?_⟩
      refine iteN (PySem.SeqAt.eqv_refl _ (canLayAll_flat ok)) ?_
      exact ⟨_, _, rfl, s46.trans (s7.trans s8)⟩
    clear v8 v9 s45
    rintro σ H5 ⟨v8, v9, rfl, s45⟩
    refine ⟨fun σ' H' => ∃ (v8 v9 : Option V), σ' = [some (.str ls), some (.ref rl), some (.ref w1), some (.ref w2), some (.ref a), some (.ref b), none, some (.ref BL), v8, v9, some (.ref bk)] ∧ Same H4 H', ?_, ?_⟩
    · have lL3 : L.length * nm'.length ≤ 63 := by
        have h1 := Nat.mul_le_mul_right kc lL1
        rw [Nat.mul_assoc] at h1
        exact Nat.le_trans (Nat.mul_le_mul_left _ lnm) (Nat.le_trans h1 hkc)
      have lR5 : R.length * nm'.length ≤ 200 := Nat.le_trans (Nat.mul_le_mul (by omega : R.length ≤ 40) (Nat.le_trans lnm kc5)) (by decide)
      refine ⟨_, rfl, bk, dxk, _, rfl, s45 _ _ ek4, rfl, bk, ls, L.length + 1, R, nm', rfl, fm.same s45, by omega, hnmR, by omega, fun H6 b2 R2 L2 s6 fm2 P2 mem2 lR2 => ?_⟩
      have s6 : Same H5 H6 := s6
      have lL4 := prs_len gB P2 hnmR
      have lT2 := turned_len gB P2 hnmR
      rw [Nat.add_sub_cancel] at lL4
      have s06 := s03.trans (s34.trans (s45.trans s6))
      have hz6 := s06 _ _ hz
      refine ⟨_, rfl, _, rfl, rl, rfl, ⟨_, SqL.of hz6⟩, fun D hD => ?_⟩
      refine lc_kinds (K := K) (Rz := fun z ks => KindsOf rs1 (letts z) ks ∧ ks.length ≤ 40) hz6 hD (by omega) (fun _ => rfl) (fun z hz' H' Q' s' k' => ?_) fun H7 ys kss s7 eD hys hks => ?_
      · have sz' := sz z hz'
        have s0' := s06.trans s'
        exact ⟨_, rfl, ix1 (sqT_same s0' hw1) ⟨_, rfl, a1, rs1, z, rfl, hA1.same s0', by omega, by omega, fun H'' q ks s'' hq hk lk => k' H'' q ks s'' hq ⟨hk, lk⟩⟩⟩
      refine ⟨b2, rl, D, ls, L2.length + 1, R2, zs, ys, kss, rfl, fm2.same s7, by omega, by omega, s7 _ _ hz6, lz, sz, eD, hys, all_80 (fun _ _ h => Nat.le_trans h.2 (by decide)) hks, rows_of (fun z ks h => ⟨h.1.1, h.1.2.1, fun k => by rw [h.1.2.2, turned_reads gB P2 mem2, rds, List.reverse_reverse]⟩) hks, fun H8 s8 => ⟨_, rfl, ?_⟩⟩
      have s8 : Same H7 H8 := s8
      refine iteF ?_
      exact ⟨_, _, rfl, (s45.trans s6).trans (s7.trans s8)⟩
    clear v8 v9 s45
    rintro σ H5 ⟨v8, v9, rfl, s45⟩
    have s35 := s34.trans s45
    have s05 := s03.trans s35
    obtain ⟨t1, t2, t3⟩ := four_show g1 g2 (by omega) (by omega)
    refine ⟨_, rfl, a, C, dxa, _, _, rfl, s35 _ _ ea3, c.cls, c.n2, rfl, _, rfl, a, C, dxa, _, _, rfl, s35 _ _ ea3, c.cls, c.n3, rfl, _, rfl, b, C, dxb, _, _, rfl, s35 _ _ eb3, c.cls, c.n2, rfl, _, rfl, b, C, dxb, _, _, rfl, s35 _ _ eb3, c.cls, c.n3, rfl, (by show 4 ≤ sizeLine; decide), fun p hp => ?_⟩
    have s6 := Same.upd (o := .lst [V.int n1, V.ref ta, V.int n2, V.ref tb]) hp
    refine ⟨_, dQ n1 rs1 n2 rs2, rfl, .lst (SqL.of upd_same) (.cons (.int _) (.cons ((hAa.same (s35.trans s6)).dq) (.cons (.int _) (.cons ((hAb.same (s35.trans s6)).dq) .nil)))), t1, t2, t3, ?_⟩
    have s06 := s05.trans s6
    refine ⟨_, rfl, ix0 (sqT_same s06 hw1) ⟨_, rfl, ix1 (sqT_same s06 hw1) ⟨_, rfl, ix0 (sqT_same s06 hw2) ⟨_, rfl, ix1 (sqT_same s06 hw2) ⟨(by show 4 ≤ sizeLine; decide), fun p2 hp2 => ?_⟩⟩⟩⟩⟩
    have s7 := Same.upd (o := .lst [V.int n1, V.ref a1, V.int n2, V.ref a2]) hp2
    refine ⟨_, dQ n1 rs1 n2 rs2, rfl, .lst (SqL.of upd_same) (.cons (.int _) (.cons ((hA1.same (s06.trans s7)).dq) (.cons (.int _) (.cons ((hA2.same (s06.trans s7)).dq) .nil)))), t1, t2, t3, ?_⟩
    refine ⟨rfl, ?_⟩
    rw [decide_eq_true rfl]
    exact k _ (s06.trans s7)
end
end K06

set_option Elab.async false
set_option linter.all false
set_option maxRecDepth 100000
set_option maxHeartbeats 2000000
/-! formats that are given: what is read, and that they are good, by computing -/
namespace Ami
open PySem PySem.Spec PyProof.Rows L2
def readsF (rs : List Arr) : Int → List Str → List Str
  | _, [] => []
  | x, [l] => (rs.filter fun r => decide (r.s = x) && (decide (r.l = l) && decide (r.t = 0))).map (·.k)
  | x, l :: l' :: ls => (rs.filter fun r => decide (r.s = x) && (decide (r.l = l) && decide (r.t ≠ 0))).flatMap fun r => readsF rs r.t (l' :: ls)
theorem mem_readsF {rs : List Arr} {k : Str} : ∀ {z : List Str} {x : Int}, k ∈ readsF rs x z ↔ Reads rs x z k
  | [], _ => ⟨(fun h => nomatch h), fun h => h.elim⟩
  | [l], x => by
    show k ∈ (rs.filter _).map _ ↔ Fin rs x l k
    rw [List.mem_map]
    constructor
    · rintro ⟨r, hr, e⟩
      obtain ⟨h1, h2⟩ := List.mem_filter.mp hr
      simp only [Bool.and_eq_true, decide_eq_true_eq] at h2
      exact ⟨r, h1, h2.1, h2.2.1, h2.2.2, e⟩
    · rintro ⟨r, h1, a, b, c, e⟩
      exact ⟨r, List.mem_filter.mpr ⟨h1, by simp only [Bool.and_eq_true, decide_eq_true_eq]; exact ⟨a, b, c⟩⟩, e⟩
  | l :: l' :: ls, x => by
    show k ∈ (rs.filter _).flatMap _ ↔ _
    rw [List.mem_flatMap]
    constructor
    · rintro ⟨r, hr, e⟩
      obtain ⟨h1, h2⟩ := List.mem_filter.mp hr
      simp only [Bool.and_eq_true, decide_eq_true_eq] at h2
      exact ⟨r, h1, h2.1, h2.2.1, h2.2.2, mem_readsF.mp e⟩
    · rintro ⟨r, h1, a, b, c, e⟩
      exact ⟨r, List.mem_filter.mpr ⟨h1, by simp only [Bool.and_eq_true, decide_eq_true_eq]; exact ⟨a, b, c⟩⟩, mem_readsF.mpr e⟩
theorem reads_congr {R rs : List Arr} (h : ∀ r, r ∈ R ↔ r ∈ rs) {k : Str} : ∀ {z : List Str} {x : Int}, Reads R x z k ↔ Reads rs x z k
  | [], _ => Iff.rfl
  | [l], x => by
    show Fin R x l k ↔ Fin rs x l k
    exact ⟨fun ⟨r, a, b⟩ => ⟨r, (h r).mp a, b⟩, fun ⟨r, a, b⟩ => ⟨r, (h r).mpr a, b⟩⟩
  | l :: l' :: ls, x => ⟨fun ⟨r, a, b, c, d, e⟩ => ⟨r, (h r).mp a, b, c, d, (reads_congr h (z := l' :: ls)).mp e⟩, fun ⟨r, a, b, c, d, e⟩ => ⟨r, (h r).mpr a, b, c, d, (reads_congr h (z := l' :: ls)).mpr e⟩⟩
/-- what is reached in so many turns -/
def grow (ps : List (Int × Int)) : Nat → List Int → List Int
  | 0, l => l
  | n + 1, l => grow ps n (l ++ (ps.filter fun p => decide (p.1 ∈ l) && decide (p.2 ∉ l)).map (·.2))
theorem grow_ok {ps : List (Int × Int)} : ∀ {n : Nat} {l : List Int}, (∀ x ∈ l, Rch ps x) → ∀ x ∈ grow ps n l, Rch ps x
  | 0, _, h => h
  | n + 1, l, h => grow_ok (n := n) fun x hx => by
    rcases List.mem_append.mp hx with hx | hx
    · exact h x hx
    · obtain ⟨p, hp, rfl⟩ := List.mem_map.mp hx
      obtain ⟨h1, h2⟩ := List.mem_filter.mp hp
      simp only [Bool.and_eq_true, decide_eq_true_eq] at h2
      exact .step (h _ h2.1) h1
def reachF (ps : List (Int × Int)) (n : Nat) : List Int := grow ps n ((ps.filter fun p => decide (p.1 = 0)).map (·.2))
theorem reachF_ok {ps : List (Int × Int)} {n : Nat} {x : Int} (h : x ∈ reachF ps n) : Rch ps x := grow_ok (fun x hx => by
  obtain ⟨p, hp, rfl⟩ := List.mem_map.mp hx
  obtain ⟨h1, h2⟩ := List.mem_filter.mp hp
  have h2 := of_decide_eq_true h2
  exact .one (by rw [← h2]; exact h1)) x h
/-- these are the arrows of a format -/
def goodF (ls : Str) (n m : Nat) (rs : List Arr) : Bool :=
  (isLetB ls && (decide (ls.length ≤ 100000) && ls.cps.toList.all fun c => decide (c < 128))) && ((rs.all fun r => arrowB ls n r && (decide (r.l.length ≤ 100000) && (r.l.cps.toList.all (fun c => decide (c < 128)) && (decide (r.k.length ≤ 100000) && r.k.cps.toList.all (fun c => decide (c < 128)))))) &&
    ((decide (1 ≤ n) && (decide (0 < rs.length) && decide (rs.length ≤ 10000))) && (List.range n).all fun i => decide ((i : Int) ∈ reachF (fwd rs) m) && decide ((i : Int) ∈ reachF (bwd rs) m)))
theorem good_of {ls : Str} {n m : Nat} {rs R : List Arr} (h : goodF ls n m rs = true) (mem : ∀ r, r ∈ R ↔ r ∈ rs) (up : ascB R = true) (hl : R.length ≤ 10000) : Good ls n R := by
  unfold goodF at h
  simp only [Bool.and_eq_true, decide_eq_true_eq, List.all_eq_true] at h
  obtain ⟨⟨h1, h2, h3⟩, h4, ⟨h5, h6, h7⟩, h8⟩ := h
  refine ⟨h1, ⟨h2, h3⟩, h5, fun r hr => ?_, up, ?_, hl, fun i hi => ?_⟩
  · have := h4 r ((mem r).mp hr)
    exact ⟨this.1, this.2.1, this.2.2.1, this.2.2.2.1, this.2.2.2.2⟩
  · obtain ⟨r, hr⟩ := List.exists_mem_of_length_pos h6
    exact List.length_pos_of_mem ((mem r).mpr hr)
  · obtain ⟨a, b⟩ := h8 i (List.mem_range.mpr hi)
    exact busy_mono (fun r hr => (mem r).mpr hr) ⟨reachF_ok a, reachF_ok b⟩
/-- the kinds that are due, by computing -/
theorem kindsOf_of {rs : List Arr} {z ks : List Str} (up : Up ks) (nd : ks.Nodup) (h : readsF rs 0 z = ks) : KindsOf rs z ks := ⟨up, nd, fun k => by rw [← h, mem_readsF]⟩
abbrev aS : Str := "a"
abbrev bS : Str := "b"
abbrev five : List Str := ["a", "item", "stop", "word", "zzzzzzzz"]
abbrev nm5 (k : Nat) : Str := five.getD (k % 5) ""
theorem up_five : Up five := by unfold Up; decide +kernel
theorem nd_five : five.Nodup := by decide +kernel
theorem up_one (k : Str) : Up [k] := List.pairwise_singleton _ _
theorem letts_rep (j : Nat) : letts (repS aS j) = List.replicate j aS := by
  have e1 : aS.cps.toList = [97] := by decide +kernel
  have e2 : one 97 = aS := by decide +kernel
  unfold letts
  show ((List.replicate j aS.cps.toList).flatten).map one = _
  rw [e1, List.flatten_replicate_singleton, List.map_replicate, e2]
theorem letts_app (x y : Str) : letts (x ++ y) = letts x ++ letts y := by
  unfold letts
  have e : (x ++ y).cps.toList = x.cps.toList ++ y.cps.toList := by
    show (x.cps ++ y.cps).toList = _
    rw [Array.toList_append]
  rw [e, List.map_append]
theorem letts_b : letts bS = [bS] := by decide +kernel
theorem rep_len (j : Nat) : (repS aS j).length = j := by rw [repS_length, show aS.length = 1 from by decide +kernel, Nat.mul_one]
theorem b_len : bS.length = 1 := by decide +kernel
/-- the row of twelve states -/
def lnkM (i : Nat) : List Arr := (List.range i).flatMap fun k : Nat => [(⟨(k : Int), "a", (k : Int) + 1, ""⟩ : Arr), ⟨(k : Int), "b", 0, nm5 k⟩]
def gM : List Arr := lnkM 11 ++ five.map fun nm => (⟨11, "b", 0, nm⟩ : Arr)
theorem lnkM_succ (i : Nat) : lnkM (i + 1) = lnkM i ++ [⟨(i : Int), "a", (i : Int) + 1, ""⟩, ⟨(i : Int), "b", 0, nm5 i⟩] := by
  unfold lnkM
  rw [List.range_succ, List.flatMap_append, List.flatMap_cons, List.flatMap_nil, List.append_nil]
theorem lnkM_len (i : Nat) : (lnkM i).length = 2 * i := by
  induction i with
  | zero => rfl
  | succ i ih => rw [lnkM_succ, List.length_append, ih]; show 2 * i + 2 = _; omega
theorem gM_nodup : gM.Nodup := by decide +kernel
theorem gM_good : goodF "ab" 12 12 gM = true := by decide +kernel
theorem gM_kinds : ∀ r ∈ gM, r.t = 0 → r.k ∈ five := by decide +kernel
/-- what is due of it backward -/
def dueM (k : Nat) : List Str := if k < 11 then [nm5 k] else if k = 11 then five else []
theorem gM_reads : ∀ k < 13, readsF gM 0 (List.replicate k aS ++ [bS]) = dueM k := by decide +kernel
theorem dueM_ok (k : Nat) : Up (dueM k) ∧ (dueM k).Nodup := by
  unfold dueM
  split
  · exact ⟨up_one _, List.pairwise_singleton _ _⟩
  · split
    · exact ⟨up_five, nd_five⟩
    · exact ⟨.nil, .nil⟩
theorem dueM_len (k : Nat) : (dueM k).length ≤ 5 := by
  unfold dueM
  split
  · show 1 ≤ 5; decide
  · split
    · decide
    · exact Nat.zero_le _
theorem dueM_eleven : (List.range 11).map dueM = (List.range 11).map fun k => [nm5 k] := List.map_congr_left fun k hk => if_pos (List.mem_range.mp hk)
theorem dueM_all : (List.range 13).map dueM = ((List.range 11).map fun k => [nm5 k]) ++ [five, []] := by
  rw [← dueM_eleven]; rfl
end Ami

set_option Elab.async false
set_option linter.all false
set_option maxRecDepth 100000
set_option maxHeartbeats 8000000
namespace Ami
open PySem PySem.Spec PyProof.Rows L2
def spRowRt : Sp := fun vs H Q _ => vs = [] ∧ ∀ H', Same H H' → Q (.bl true) H'
end Ami
namespace K06
open PySem PySem.Spec PyProof.Rows L2 Ami
section
variable {P : Program} {w : World} {K : PySem.W.Frag} {mg : Str → Option Value} {base : Heap}
abbrev nRowRt : List Str := ["_law_names", "_law_links", "_law_k", "_law_name", "_law_back", "_law_due"]
theorem scRowRt : FnScope nRowRt [] (defScope sRowR) := ⟨rfl, rfl, rfl, by decide +kernel, rfl, by decide +kernel, by decide +kernel⟩
theorem ok_rowRt {f f3 C : Addr} {fd fd3 : FuncData} (F : Fun K "_law_row_right" "_law_row_right" sRowR f fd) (T : Blt mg) (Z : FmtK P w K mg base C)
    (D3 : DefAt K mg "_law_has" sHas ["_law_made", "_law_rows", "_law_due"] f3 fd3) (G3 : FnG P w K mg base CX0 3 f3 fd3 ["_law_made", "_law_rows", "_law_due"] (spHas K C)) :
    FnG P w K mg base CX0 8 f fd [] spRowRt := by
  obtain ⟨c, hC, ⟨fI, dI, M, bI, GI⟩, _, _, ⟨fb, db, mb, bb, Gb⟩, _, _⟩ := Z
  refine Ami.Fun.okG F scRowRt (fun vs H Q E h => ?_) (fun cdv A outer s H vs Q E hg hr h => ?_)
  · obtain ⟨rfl, _⟩ := h
    rfl
  · obtain ⟨rfl, k⟩ := h
    have hr3 := hr.mono (j := 3) (by decide)
    have hr6 := hr.mono (j := 6) (by decide)
    have hr7 := hr
    have hgu := guards_deeper (envOfC "_law_row_right" (defScope sRowR) s.heap.objs.size f cdv) hg
    have hun := hr.units
    refine ⟨_, pss_cons (ps_asg (pe_tup (pa_cons (pe_lst (pa_cons pe_str (pa_cons pe_str (pa_cons pe_str (pa_cons pe_str (pa_cons pe_str pa_nil)))))) (pa_cons (pe_lst pa_nil) pa_nil))) (pg_tup (by rfl) (pgs_cons (pg_name (i := 0) scRowRt.nd rfl (Or.inr rfl)) (pgs_cons (pg_name (i := 1) scRowRt.nd rfl (Or.inl rfl)) pgs_nil))))
      (C8.pss_cut (ps_for PassesOwn.never rfl (pi_range1 (by rfl) T.range (pa_cons pe_int pa_nil)) (pg_name (i := 2) scRowRt.nd rfl (Or.inl rfl))
        (pss_one (ps_expr (pe_bm PySem.F.plainAttrs_list PySem.F.slot_list_extend PySem.F.type_list_extend mt_extend (pv 1) (pa_cons (pe_lst (pa_cons (pe_tup (pa_cons (pv 2) (pa_cons pe_str (pa_cons (pe_op op_add (pv 2) pe_int) (pa_cons pe_str pa_nil)))))
          (pa_cons (pe_tup (pa_cons (pv 2) (pa_cons pe_str (pa_cons pe_int (pa_cons (pe_ix ix_seq (pv 0) (pe_op op_mod (pv 2) pe_int) (fun _ _ => rfl)) pa_nil))))) pa_nil))) pa_nil)))))
      (C8.pss_cut (ps_expr (pe_bm PySem.F.plainAttrs_list PySem.F.slot_list_extend PySem.F.type_list_extend mt_extend (pv 1) (pa_cons (pe_lc (own := [("_law_name", 3)]) (g := gName 3) (tt := tYes) rfl scRowRt.nd (pi_list (pv 0)) (blkOk_by (own := [("_law_name", 3)]) (N := nRowRt) (sc := defScope sRowR) (by decide +kernel)) (fun _ _ _ _ _ => pg_name (i := 3) scRowRt.nd rfl (Or.inl rfl)) (fun _ _ _ _ _ => pts_nil)
          (fun _ _ _ _ _ => (pe_tup (pa_cons pe_int (pa_cons pe_str (pa_cons pe_int (pa_cons (pv 3) pa_nil))))))) pa_nil)))
      (C8.pss_cut (ps_set (i := 4) scRowRt.nd rfl (Or.inl rfl) (pe_meth0 (pe_make M GI hr6 (by rfl) hC bI .nil pass0 (pa_cons pe_str (pa_cons pe_int (pa_cons (pe_callTy call_tuple_of (by rfl) T.tuple (by decide +kernel) (pa_cons (pe_callB (cr_sortN (K0 := K) rfl hun) (by rfl) T.sorted (by decide +kernel) (pa_cons (pv 1) pa_nil)) pa_nil)) pa_nil)))) c.cls mb Gb hr7 bb .nil pass0))
      (C8.pss_cut (ps_set (i := 5) scRowRt.nd rfl (Or.inl rfl) (pe_op op_cat (pe_lc (own := [("_law_k", 2)]) (g := gName 2) (tt := tYes) rfl scRowRt.nd (pi_range1 (by rfl) T.range (pa_cons pe_int pa_nil)) (blkOk_by (own := [("_law_k", 2)]) (N := nRowRt) (sc := defScope sRowR) (by decide +kernel)) (fun _ _ _ _ _ => pg_name (i := 2) scRowRt.nd rfl (Or.inl rfl)) (fun _ _ _ _ _ => pts_nil)
          (fun _ _ _ _ _ => pe_tup (pa_cons (pe_ix (ix_seqK (K0 := K) rfl) (pv 0) (pe_op op_mod (pv 2) pe_int) (fun _ _ => rfl)) pa_nil)))
          (pe_lst (pa_cons (pe_callTy call_tuple_of (by rfl) T.tuple (by decide +kernel) (pa_cons (pv 0) pa_nil)) (pa_cons (pe_tup pa_nil) pa_nil)))))
      (pss_one (ps_ret (pe_and (pcG D3 G3 hgu hr3 (pa_cons (pv 4) (pa_cons (pe_lc (own := [("_law_k", 2)]) (g := gName 2) (tt := tYes) rfl scRowRt.nd (pi_range1 (by rfl) T.range (pa_cons pe_int pa_nil)) (blkOk_by (own := [("_law_k", 2)]) (N := nRowRt) (sc := defScope sRowR) (by decide +kernel)) (fun _ _ _ _ _ => pg_name (i := 2) scRowRt.nd rfl (Or.inl rfl)) (fun _ _ _ _ _ => pts_nil)
          (fun _ _ _ _ _ => pe_op op_add_str pe_str (pe_op op_repS pe_str (pv 2)))) (pa_cons (pv 5) pa_nil)))) (pe_one (pe_cmpR op_lt (pe_fld (pv 4) rfl) pe_int (nomark _)))))))))), ?_⟩
    have name5 : ∀ i : Nat, atI (five.map V.str) ((0 + (i : Int)) % 5) = some (V.str (nm5 i)) := fun i => by
      have e : ((0 + (i : Int)) % 5) = ((i % 5 : Nat) : Int) := by omega
      rw [e]
      refine atI_nat ?_
      have hl : i % 5 < five.length := Nat.mod_lt _ (by decide)
      rw [List.getElem?_map, List.getElem?_eq_getElem hl]
      show some (V.str five[i % 5]) = some (V.str (five.getD (i % 5) ""))
      rw [List.getD_eq_getElem?_getD, List.getElem?_eq_getElem hl]; rfl
    refine ⟨(by show 5 ≤ sizeLine; decide), fun N hN => ⟨Nat.zero_le _, fun L hL => ⟨(by show 2 ≤ sizeLine; decide), fun T0 hT0 => ?_⟩⟩⟩
    have s1 := Same.upd (o := .lst [V.str "a", V.str "item", V.str "stop", V.str "word", V.str "zzzzzzzz"]) hN
    have s2 := Same.upd (o := .lst []) hL
    have s3 := Same.upd (o := .tup [V.ref N, V.ref L]) hT0
    have eN : (upd (upd (upd H N (.lst [V.str "a", V.str "item", V.str "stop", V.str "word", V.str "zzzzzzzz"])) L (.lst [])) T0 (.tup [V.ref N, V.ref L])) N = some (.lst (five.map V.str)) := s3 _ _ (s2 _ _ upd_same)
    have eL : (upd (upd (upd H N (.lst [V.str "a", V.str "item", V.str "stop", V.str "word", V.str "zzzzzzzz"])) L (.lst [])) T0 (.tup [V.ref N, V.ref L])) L = some (.lst []) := s3 _ _ upd_same
    have nNL : N ≠ L := fun e => by rw [← e, upd_same] at hL; exact nomatch hL
    have hL0 := none_of s1 hL
    have s03 := (s1.trans s2).trans s3
    refine ⟨T0, _, rfl, SqT.of upd_same, rfl, ?_⟩
    refine ⟨_, _, rfl, _, _, rfl, rfl, ?_⟩
    revert eN eL s03
    generalize upd (upd (upd H N (.lst [V.str "a", V.str "item", V.str "stop", V.str "word", V.str "zzzzzzzz"])) L (.lst [])) T0 (.tup [V.ref N, V.ref L]) = H3
    intro eN eL s03
    clear s1 s2 s3 hN hL
    -- the rows of states
    refine ⟨fun σ' H' => ∃ (v2 : Option V) (us : List V), σ' = [some (.ref N), some (.ref L), v2, none, none, none] ∧ Same H H' ∧ H' N = some (.lst (five.map V.str)) ∧ H' L = some (.lst us) ∧ All2 (AtA K H') us (lnkM 11), ?_, ?_⟩
    · refine ⟨_, rfl, by decide, by decide, ?_⟩
      refine for_range (lo := 0) (n := 11) (fun i σ H' => ∃ (v2 : Option V) (us : List V), σ = [some (.ref N), some (.ref L), v2, none, none, none] ∧ Same H H' ∧ H' N = some (.lst (five.map V.str)) ∧ H' L = some (.lst us) ∧ All2 (AtA K H') us (lnkM i)) ⟨none, [], rfl, s03, eN, eL, .nil⟩ ?_ ?_
      · rintro i σ H4 hi ⟨v2, us, rfl, sm, eN4, eL4, hus⟩
        have lu := hus.len
        have ll := lnkM_len i
        have en : (0 : Int) + (i : Nat) = (i : Nat) := Int.zero_add _
        rw [lnkM_succ]
        refine ⟨_, rfl, .inl ⟨rfl, _, SqL.of eL4⟩, _, rfl, _, rfl, _, _, rfl, rfl, (by show 4 ≤ sizeLine; decide), fun t1 ht1 => ?_⟩
        have sT1 := Same.upd (o := .tup [V.int (0 + (i : Nat)), V.str "a", V.int (0 + (i : Nat) + 1), V.str ""]) ht1
        have e1 : (upd H4 t1 (.tup [V.int (0 + (i : Nat)), V.str "a", V.int (0 + (i : Nat) + 1), V.str ""])) t1 = some (.tup [V.int (i : Nat), V.str "a", V.int ((i : Nat) + 1), V.str ""]) := by rw [upd_same, en]
        have eN5 := sT1 _ _ eN4
        have eL5 := sT1 _ _ eL4
        revert sT1 e1 eN5 eL5
        generalize upd H4 t1 (.tup [V.int (0 + (i : Nat)), V.str "a", V.int (0 + (i : Nat) + 1), V.str ""]) = H5
        intro sT1 e1 eN5 eL5
        refine ⟨_, rfl, _, rfl, _, rfl, _, _, rfl, rfl, (by show (0 : Int) < 5; decide), .inl ⟨N, _, _, _, rfl, rfl, SqL.of eN5, name5 i, ?_⟩⟩
        refine ⟨(by show 4 ≤ sizeLine; decide), fun t2 ht2 => ⟨(by show 2 ≤ sizeLine; decide), fun D hD => ?_⟩⟩
        have sT2 := Same.upd (o := .tup [V.int (0 + (i : Nat)), V.str "b", V.int 0, V.str (nm5 i)]) ht2
        have sD := Same.upd (o := .lst [V.ref t1, V.ref t2]) hD
        have e2 := sD _ _ (show (upd H5 t2 (.tup [V.int (0 + (i : Nat)), V.str "b", V.int 0, V.str (nm5 i)])) t2 = some (.tup [V.int (i : Nat), V.str "b", V.int 0, V.str (nm5 i)]) by rw [upd_same, en])
        have e1' := (sT2.trans sD) _ _ e1
        have eL6 := (sT2.trans sD) _ _ eL5
        have eN6 := (sT2.trans sD) _ _ eN5
        have sm6 := sT1.trans (sT2.trans sD)
        have eD : (upd (upd H5 t2 (.tup [V.int (0 + (i : Nat)), V.str "b", V.int 0, V.str (nm5 i)])) D (.lst [V.ref t1, V.ref t2])) D = some (.lst [V.ref t1, V.ref t2]) := upd_same
        revert e2 e1' eL6 eN6 sm6 eD
        generalize upd (upd H5 t2 (.tup [V.int (0 + (i : Nat)), V.str "b", V.int 0, V.str (nm5 i)])) D (.lst [V.ref t1, V.ref t2]) = H6
        intro e2 e1' eL6 eN6 sm6 eD
        have st : ∀ z, ∀ a xs, SqT K H6 a xs → SqT K (upd H6 L (.lst z)) a xs := fun z a xs h => sqT_put eL6 h
        refine ⟨L, D, us, _, rfl, rfl, eL6, eD, ?_, _, us ++ [.ref t1, .ref t2], rfl, keep_put (sm.trans sm6) hL0, by rw [upd_ne nNL]; exact eN6, upd_same, ?_⟩
        · rw [lu, ll]
          exact Nat.le_trans (by show 2 * i + 2 ≤ 100; omega) (by decide)
        · exact (hus.imp fun _ _ h => AtA.to (st _) (h.same sm6)).app (.cons ⟨t1, rfl, st _ _ _ (SqT.of e1')⟩ (.cons ⟨t2, rfl, st _ _ _ (SqT.of e2)⟩ .nil))
      · rintro σ H4 ⟨v2, us, rfl, sm, eN4, eL4, hus⟩
        exact ⟨_, us, rfl, sm, eN4, eL4, hus⟩
    clear eN eL s03
    rintro σ H4 ⟨v2, us, rfl, s04, eN, eL, hus⟩
    -- the last state
    refine ⟨fun σ' H' => ∃ (v2 : Option V) (us : List V), σ' = [some (.ref N), some (.ref L), v2, none, none, none] ∧ Same H H' ∧ H' N = some (.lst (five.map V.str)) ∧ H' L = some (.lst us) ∧ All2 (AtA K H') us gM, ?_, ?_⟩
    · refine ⟨_, rfl, .inl ⟨rfl, _, SqL.of eL⟩, _, rfl, N, rfl, ⟨_, SqL.of eN⟩, fun D hD => ?_⟩
      refine lc_list (K := K) (a := N) (xs := five.map V.str) (fun j H' => ∃ ys, H' D = some (.lst ys) ∧ All2 (AtA K H') ys ((five.take j).map fun nm => (⟨11, "b", 0, nm⟩ : Arr)) ∧ Same H4 H') ⟨[], upd_same, .nil, Same.upd hD⟩ (fun j H' _ ⟨_, _, _, sm⟩ => SqL.of (sm _ _ eN)) ?_ ?_
      · rintro j v H5 hv ⟨ys, eD, hys, sm⟩
        obtain ⟨nm, hnm, rfl⟩ : ∃ nm, five[j]? = some nm ∧ v = V.str nm := by
          rw [List.getElem?_map] at hv
          cases e : five[j]? with
          | none => rw [e] at hv; exact nomatch hv
          | some z => rw [e] at hv; cases hv; exact ⟨z, rfl, rfl⟩
        refine ⟨rfl, ?_⟩
        dsimp only [tYes]
        refine iteT ?_
        refine ⟨_, rfl, (by show 4 ≤ sizeLine; decide), fun t ht => ?_⟩
        have sT := Same.upd (o := .tup [V.int 11, V.str "b", V.int 0, V.str nm]) ht
        have eD' := sT _ _ eD
        refine ⟨ys, eD', ?_, ys ++ [.ref t], upd_same, ?_, keep_put (sm.trans sT) hD⟩
        · rw [hys.len, List.length_map]
          exact Nat.lt_of_le_of_lt (Nat.le_trans (List.length_take_le' _ _) (by decide : _ ≤ 5)) (by decide)
        · rw [take_snoc hnm, List.map_append]
          exact (hys.imp fun _ _ h => AtA.to (fun a xs h => sqT_put eD' h) (h.same sT)).app (.cons ⟨t, rfl, sqT_put eD' (SqT.of upd_same)⟩ .nil)
      · rintro H5 ⟨ys, eD, hys, s45⟩
        have eL5 := s45 _ _ eL
        have hys : All2 (AtA K H5) ys (five.map fun nm => (⟨11, "b", 0, nm⟩ : Arr)) := hys
        refine ⟨L, D, us, ys, rfl, rfl, eL5, eD, ?_, _, us ++ ys, rfl, keep_put (s04.trans s45) hL0, by rw [upd_ne nNL]; exact s45 _ _ eN, upd_same, ?_⟩
        · rw [hus.len, hys.len, lnkM_len]
          decide
        · exact (hus.imp fun _ _ h => AtA.to (fun a xs h => sqT_put eL5 h) (h.same s45)).app (hys.imp fun _ _ => AtA.to fun a xs h => sqT_put eL5 h)
    clear eN eL hus s04 v2 us
    rintro σ H5 ⟨v2, us, rfl, s05, eN, eL, hus⟩
    -- the format, backward
    refine ⟨fun σ' H' => ∃ (v2 : Option V) (bk : Addr) (R qs : List Arr) (LL : List (Int × Str)), σ' = [some (.ref N), some (.ref L), v2, none, some (.ref bk), none] ∧ Same H H' ∧ H' N = some (.lst (five.map V.str)) ∧ Good "ab" 12 qs ∧ (∀ r, r ∈ qs ↔ r ∈ gM) ∧
      FmtR K C H' bk "ab" (LL.length + 1) R ∧ Prs qs LL ∧ (∀ q, q ∈ R ↔ q ∈ turnedL LL qs) ∧ R.length = (turnedL LL qs).length ∧ qs.length = 27, ?_, ?_⟩
    · obtain ⟨ks0, e1, e2, hks0⟩ := rows_keys hus
      refine ⟨_, rfl, L, ks0, rfl, by rw [← e1]; exact SqL.of eL, fun p hp => by obtain ⟨r, _, e, h⟩ := hks0 p hp; exact keys_memb e h, keys_comp fun p hp => by obtain ⟨r, _, e, _⟩ := hks0 p hp; exact ⟨r, e⟩, fun ks' p pm up hp => ?_⟩
      have s6 := Same.upd (o := .lst (ks'.map fun p => V.ref p.1)) hp
      obtain ⟨qs, hq1, hq2⟩ := keys_rows (K := K) (H := upd H5 p (.lst (ks'.map fun p => V.ref p.1))) (L := ks') fun x hx => by
        obtain ⟨r, _, e, h⟩ := hks0 x (pm.mem_iff.mp hx)
        exact ⟨r, e, h.same s6⟩
      have nd0 : (ks0.map (·.2)).Nodup := by
        rw [e2]
        exact List.pairwise_map.mpr (gM_nodup.imp fun h e => h (nkA_inj e))
      have upq := rows_up hq2 up ((pm.map (·.2)).nodup_iff.mpr nd0)
      have pq : (qs.map nkA).Perm (gM.map nkA) := by
        rw [← hq2, ← e2]
        exact pm.map _
      have lq : qs.length = 27 := by
        have := pq.length_eq
        rw [List.length_map, List.length_map] at this
        rw [this]; decide
      have mem : ∀ x, x ∈ qs ↔ x ∈ gM := fun x => by
        have h1 : nkA x ∈ qs.map nkA ↔ nkA x ∈ gM.map nkA := pq.mem_iff
        have h2 : ∀ l : List Arr, nkA x ∈ l.map nkA ↔ x ∈ l := fun l => ⟨fun h => by
          obtain ⟨y, hy, e⟩ := List.mem_map.mp h
          exact nkA_inj e ▸ hy, fun h => List.mem_map.mpr ⟨x, h, rfl⟩⟩
        rw [h2, h2] at h1
        exact h1
      have g := good_of gM_good mem upq (by omega)
      refine ⟨p, _, rfl, .inl ⟨SqL.of upd_same, fun t hT => ?_⟩⟩
      have s7 := Same.upd (o := .tup (ks'.map fun p => V.ref p.1)) hT
      refine fun x dx hx hdx nex => ?_
      refine made_fmtR hx hdx nex g ⟨_, SqT.of upd_same, hq1.imp fun _ _ h => h.same s7⟩ fun H8 s8 fm => ⟨rfl, ?_⟩
      obtain ⟨dx', t', dd, ex, _, _⟩ := fm.r.ex
      have s58 := (s6.trans s7).trans s8
      refine ⟨x, dx', _, rfl, ex, rfl, x, "ab", 12, qs, five, rfl, fm.r, by omega, fun r hr h0 => gM_kinds r ((mem r).mp hr) h0, by rw [lq]; decide, fun H9 bk R LL s9 fmb P0 memR lR => ?_⟩
      have s9 : Same H8 H9 := s9
      exact ⟨_, bk, R, qs, LL, rfl, s05.trans (s58.trans s9), (s58.trans s9) _ _ eN, g, mem, fmb, P0, memR, lR, lq⟩
    clear eN eL hus s05 v2 us
    rintro σ H6 ⟨v2, bk, R, qs, LL, rfl, s06, eN, g, mem, fm, P0, memR, lR, lq⟩
    refine ⟨fun σ' H' => ∃ (v2 : Option V) (DL : Addr) (ws : List V), σ' = [some (.ref N), some (.ref L), v2, none, some (.ref bk), some (.ref DL)] ∧ Same H6 H' ∧ H' DL = some (.lst ws) ∧ All2 (TupA K H') ws ((List.range 13).map dueM), ?_, ?_⟩
    · refine ⟨_, rfl, by decide, by decide, fun D hD => ?_⟩
      refine lc_range (lo := 0) (n := 11) (fun i H' => ∃ ys, H' D = some (.lst ys) ∧ All2 (TupA K H') ys ((List.range i).map fun k => [nm5 k]) ∧ Same H6 H') ⟨[], upd_same, .nil, Same.upd hD⟩ ?_ ?_
      · rintro i H7 hi ⟨ys, eD, hys, sm⟩
        refine ⟨rfl, ?_⟩
        dsimp only [tYes]
        refine iteT ?_
        have eN7 := sm _ _ eN
        refine ⟨_, rfl, _, rfl, _, _, rfl, rfl, (by show (0 : Int) < 5; decide), .inl ⟨N, _, _, _, rfl, rfl, SqL.of eN7, name5 i, ?_⟩⟩
        refine ⟨(by show 1 ≤ sizeLine; decide), fun t ht => ?_⟩
        have sT := Same.upd (o := .tup [V.str (nm5 i)]) ht
        have eD' := sT _ _ eD
        refine ⟨ys, eD', ?_, ys ++ [.ref t], upd_same, ?_, keep_put (sm.trans sT) hD⟩
        · rw [hys.len, List.length_map, List.length_range]
          exact Nat.lt_of_le_of_lt (by omega : i ≤ 11) (by decide)
        · rw [List.range_succ, List.map_append]
          exact (hys.imp fun _ _ h => TupA.to (fun a zs h => sqT_put eD' h) (h.same sT)).app (.cons ⟨t, rfl, sqT_put eD' (SqT.of upd_same)⟩ .nil)
      · rintro H7 ⟨ys, eD, hys, s67⟩
        refine ⟨_, rfl, N, _, rfl, .inl ⟨SqL.of (s67 _ _ eN), fun t1 ht1 => ⟨Nat.zero_le _, fun t2 ht2 => ⟨(by show 2 ≤ sizeLine; decide), fun D2 hD2 => ?_⟩⟩⟩⟩
        have u1 := Same.upd (o := .tup (five.map V.str)) ht1
        have u2 := Same.upd (o := .tup []) ht2
        have u3 := Same.upd (o := .lst [V.ref t1, V.ref t2]) hD2
        have u13 := (u1.trans u2).trans u3
        refine ⟨D, D2, _, _, rfl, rfl, u13 _ _ eD, upd_same, ?_, fun DL hDL => ?_⟩
        · rw [hys.len, List.length_map, List.length_range]
          show 11 + 2 ≤ sizeLine
          decide
        have u4 := Same.upd (o := .lst (ys ++ [V.ref t1, V.ref t2])) hDL
        refine ⟨_, DL, _, rfl, s67.trans (u13.trans u4), upd_same, ?_⟩
        rw [dueM_all]
        refine (hys.imp fun _ _ h => h.same (u13.trans u4)).app (.cons ⟨t1, rfl, sqT_same ((u2.trans u3).trans u4) (SqT.of upd_same)⟩ (.cons ⟨t2, rfl, sqT_same (u3.trans u4) (SqT.of upd_same)⟩ .nil))
    clear v2
    rintro σ H7 ⟨v2, DL, ws, rfl, s67, eDL, hws⟩
    refine ⟨_, rfl, _, rfl, by decide, by decide, fun D hD => ?_⟩
    refine lc_range (lo := 0) (n := 13) (fun i H' => H' D = some (.lst (((List.range i).map fun k => bS ++ repS aS k).map V.str)) ∧ Same H7 H') ⟨upd_same, Same.upd hD⟩ ?_ ?_
    · rintro i H8 hi ⟨eD, sm⟩
      refine ⟨rfl, ?_⟩
      dsimp only [tYes]
      refine iteT ?_
      refine ⟨_, rfl, aS, i, rfl, congrArg V.int (Int.zero_add _), ?_, Nat.lt_of_lt_of_le (by omega : i < 13) (by decide), _, _, rfl, rfl, ?_, ?_⟩
      · rw [show aS.length = 1 from by decide +kernel]
        exact Nat.le_trans (by omega : i * 1 ≤ 13) (by decide)
      · rw [rep_len, b_len]
        exact Nat.le_trans (by omega : 1 + i ≤ 14) (by decide)
      refine ⟨_, eD, ?_, ?_, keep_put sm hD⟩
      · rw [List.length_map, List.length_map, List.length_range]
        exact Nat.lt_of_le_of_lt (by omega : i ≤ 13) (by decide)
      · rw [upd_same, List.range_succ, List.map_append, List.map_append]; rfl
    rintro H8 ⟨eD, s78⟩
    have s68 := s67.trans s78
    have lLL := prs_len g P0 (ks := five) fun r hr h0 => gM_kinds r ((mem r).mp hr) h0
    have lRR := turned_len g P0 (ks := five) fun r hr h0 => gM_kinds r ((mem r).mp hr) h0
    have l5 : five.length = 5 := rfl
    rw [l5] at lLL lRR
    rw [lq] at lRR
    obtain ⟨dxk, tk, ddk, ek, _, _⟩ := fm.ex
    refine ⟨_, rfl, bk, D, DL, "ab", LL.length + 1, R, (List.range 13).map (fun k => bS ++ repS aS k), ws, (List.range 13).map dueM, rfl, fm.same s68, by omega, by omega, eD, ?_, ?_, s78 _ _ eDL, hws.imp fun _ _ => TupA.same s78, ?_, ?_, fun H9 s9 => ⟨_, rfl, ?_⟩⟩
    · rw [List.length_map, List.length_range]; decide
    · rintro z hz
      obtain ⟨j, hj, rfl⟩ := List.mem_map.mp hz
      have := List.mem_range.mp hj
      rw [append_length, rep_len, b_len]
      omega
    · rintro ks hk
      obtain ⟨j, _, rfl⟩ := List.mem_map.mp hk
      exact Nat.le_trans (dueM_len j) (by decide)
    · refine All2.map _ _ fun j hj => ⟨(dueM_ok j).1, (dueM_ok j).2, fun kd => ?_⟩
      have e : (letts (bS ++ repS aS j)).reverse = List.replicate j aS ++ [bS] := by
        rw [letts_app, letts_b, letts_rep, List.reverse_append, List.reverse_replicate]; rfl
      rw [turned_reads g P0 memR, e, reads_congr mem, ← mem_readsF, gM_reads j (List.mem_range.mp hj)]
    · have s9 : Same H8 H9 := s9
      refine iteT ?_
      refine ⟨_, rfl, bk, C, dxk, _, _, rfl, (s68.trans s9) _ _ ek, c.cls, c.n2, rfl, _, _, rfl, rfl, ?_⟩
      dsimp only
      rw [decide_eq_true (by omega)]
      exact k _ (s06.trans (s68.trans s9))
end
end K06

set_option Elab.async false
set_option linter.all false
set_option maxRecDepth 100000
set_option maxHeartbeats 8000000
namespace Ami
open PySem PySem.Spec PyProof.Rows L2
def spLaw2 (K : PySem.W.Frag) : Sp := fun vs H Q _ => ∃ (a : Addr) (ns : List Int), vs = [.ref a] ∧ SqL K H a (ns.map V.int) ∧ ns.length ≤ 63 ∧ ∀ H', Q (.bl true) H'
theorem ite_all {z : Str} {P : V → Prop} (z2 : 2 ≤ z.length) (z3 : z.length ≤ 3) (h : ∀ n0 : Nat, n0 ≤ 5 → cntW z.length n0 ≤ 121 → P (.int n0)) : if decide ((z.length : Int) < 3) = true then P (.int 5) else P (.int 4) := by
  by_cases e : z.length = 2
  · rw [decide_eq_true (by omega)]
    exact iteT (h 5 (by decide) (by rw [e]; decide))
  · rw [decide_eq_false (by omega)]
    exact iteF (h 4 (by decide) (by rw [show z.length = 3 by omega]; decide))
theorem cut_first {z : Str} (h : 1 ≤ z.length) : (cutS z none (some 1)).cps.toList = z.cps.toList.take 1 := by
  unfold cutS
  have e1 : HT.sIx z.length 0 none = 0 := rfl
  have e2 : HT.sIx z.length z.length (some 1) = 1 := by
    unfold HT.sIx
    simp
    omega
  rw [e1, e2]; rfl
theorem cut_take {xs : List V} {k : Nat} (h : k ≤ xs.length) : cutV xs none (some (k : Int)) = xs.take k := by
  unfold cutV
  have e1 : HT.sIx xs.length 0 none = 0 := rfl
  have e2 : HT.sIx xs.length xs.length (some (k : Int)) = k := by
    unfold HT.sIx
    simp
    rw [if_neg (by omega)]
    omega
  rw [e1, e2]; rfl
/-- five kinds behind one way -/
def g5 : List Arr := [⟨0, "a", 1, ""⟩, ⟨1, "a", 1, ""⟩, ⟨1, "b", 2, ""⟩] ++ five.map fun nm => (⟨2, "b", 0, nm⟩ : Arr)
theorem g5_good : Good "ab" 3 g5 := good_of (m := 3) (rs := g5) (by decide +kernel) (fun _ => Iff.rfl) (by decide +kernel) (by decide)
theorem g5_few : Few 3 g5 := ⟨by decide, by decide, 5, five, by decide, by decide +kernel, by decide, by decide⟩
def g1L : List Arr := [⟨0, "a", 0, "stop"⟩]
theorem g1_good : Good "ab" 1 g1L := good_of (m := 1) (rs := g1L) (by decide +kernel) (fun _ => Iff.rfl) (by decide +kernel) (by decide)
theorem g1_few : Few 1 g1L := ⟨by decide, by decide, 1, ["stop"], by decide, by decide +kernel, by decide, by decide⟩
end Ami
namespace K06
open PySem PySem.Spec PyProof.Rows L2 Ami
section
variable {P : Program} {w : World} {K : PySem.W.Frag} {mg : Str → Option Value} {base : Heap}
abbrev nLaw : List Str := ["_law_script", "_law_deck_here", "_law_turn", "_law_signs_here", "_law_rows", "_law_again", "_law_k", "_law_one", "_law_two", "_law_a", "_law_sign", "_law_other_signs", "_law_far", "_law_name", "_law_five"]
theorem scLaw : FnScope nLaw ["_law_script"] (defScope sLaw) := ⟨rfl, rfl, rfl, by decide +kernel, rfl, by decide +kernel, by decide +kernel⟩
theorem ok_law {f fk fd' fp fs fw fa fj fr fq C : Addr} {dl dk dd dp ds dw da dj dr dq : FuncData} (F : Fun K "law" "law" sLaw f dl) (T : Blt mg) (Z : FmtK P w K mg base C)
    (Dk : DefAt K mg "_law_deck" sDeck ["_law_script"] fk dk) (Dd : DefAt K mg "_law_draw" sDraw ["_law_deck_here", "_law_bound"] fd' dd)
    (Dp : DefAt K mg "_law_pick" sPick ["_law_deck_here", "_law_some"] fp dp)
    (Ds : DefAt K mg "_law_signs" sSigns ["_law_deck_here", "_law_top"] fs ds) (Gs : FnOk P w K mg base CX0 2 fs ds ["_law_deck_here", "_law_top"] spSigns)
    (Dw : DefAt K mg "_law_world" sWorld ["_law_deck_here", "_law_signs_here", "_law_top", "_law_most_links"] fw dw) (Gw : FnOk P w K mg base CX0 4 fw dw ["_law_deck_here", "_law_signs_here", "_law_top", "_law_most_links"] (spWorld K))
    (Da : DefAt K mg "_law_all" sAll ["_law_signs_here", "_law_size"] fa da)
    (Dj : DefAt K mg "_law_joined" sJoined ["_law_one", "_law_two"] fj dj) (Gj : FnOk P w K mg base CX0 4 fj dj ["_law_one", "_law_two"] (spJoined K C))
    (Dr : DefAt K mg "_law_row_right" sRowR [] fr dr) (Gr : FnG P w K mg base CX0 8 fr dr [] spRowRt)
    (Dq : DefAt K mg "_law_pair_right" sPairR ["_law_signs_here", "_law_rows", "_law_one", "_law_two"] fq dq) (Gq : FnG P w K mg base CX0 8 fq dq ["_law_signs_here", "_law_rows", "_law_one", "_law_two"] (spPairR K C)) :
    FnG P w K mg base CX0 9 f dl ["_law_script"] (spLaw2 K) := by
  have Gk : FnOk P w K mg base CX0 1 fk dk ["_law_script"] (spDeck K) := ok_deck Dk.F T
  have Gd : FnOk P w K mg base CX0 1 fd' dd ["_law_deck_here", "_law_bound"] spDraw := ok_draw Dd.F T
  have Gp : FnOk P w K mg base CX0 2 fp dp ["_law_deck_here", "_law_some"] (spPick K) := ok_pick Dp.F T Dd
  have Ga : FnOk P w K mg base CX0 1 fa da ["_law_signs_here", "_law_size"] spAll := ok_all Da.F T
  obtain ⟨c, hC, ⟨fI, dI, M, bI, GI⟩, _⟩ := Z
  refine Ami.Fun.okG F scLaw (fun vs H Q E h => ?_) (fun cdv A outer s H vs Q E hg hr h => ?_)
  · obtain ⟨a, ns, rfl, _⟩ := h
    rfl
  · obtain ⟨a, ns, rfl, hS, hlen, k⟩ := h
    have hr1 := hr.mono (j := 1) (by decide)
    have hr2 := hr.mono (j := 2) (by decide)
    have hr4 := hr.mono (j := 4) (by decide)
    have hr6 := hr.mono (j := 6) (by decide)
    have hr8 := hr
    have hgu := guards_deeper (envOfC "law" (defScope sLaw) s.heap.objs.size f cdv) hg
    have hun := hr.units
    refine ⟨_, pss_cons (ps_set (i := 1) scLaw.nd rfl (Or.inr rfl) (pc Dk Gk hr1 (pa_cons (pv 0) pa_nil)))
      (pss_cons (ps_if (pt_not (pt_val (pcG0 Dr Gr hgu hr8))) (pss_one (ps_ret pe_bl)) pss_nil)
      (C8.pss_cut (ps_for PassesOwn.never rfl (pi_range1 (by rfl) T.range (pa_cons pe_int pa_nil)) (pg_name (i := 2) scLaw.nd rfl (Or.inl rfl))
        (pss_cons (ps_set (i := 3) scLaw.nd rfl (Or.inr rfl) (pc Ds Gs hr2 (pa_cons (pv 1) (pa_cons pe_int pa_nil))))
        (pss_cons (ps_set (i := 4) scLaw.nd rfl (Or.inl rfl) (pc Da Ga hr1 (pa_cons (pv 3) (pa_cons (pe_ifExp (pt_cmpR op_lt (pe_callB call_len (by rfl) T.len PySem.boot_len (pa_cons (pv 3) pa_nil)) pe_int (nomark _)) pe_int pe_int) pa_nil))))
        (C8.pss_cut (ps_for PassesOwn.never rfl (pi_range1 (by rfl) T.range (pa_cons pe_int pa_nil)) (pg_name (i := 5) scLaw.nd rfl (Or.inl rfl))
          (pss_one (ps_expr (pe_bm PySem.F.plainAttrs_list PySem.F.slot_list_append PySem.F.type_list_append mt_append (pv 4) (pa_cons (pe_join pe_str (pe_lc (own := [("_law_k", 6)]) (g := gName 6) (tt := tYes) rfl scLaw.nd (pi_range1 (by rfl) T.range (pa_cons (pe_op op_add pe_int (pc Dd Gd hr1 (pa_cons (pv 1) (pa_cons pe_int pa_nil)))) pa_nil))
            (blkOk_by (own := [("_law_k", 6)]) (N := nLaw) (sc := defScope sLaw) (by decide +kernel)) (fun _ _ _ _ _ => pg_name (i := 6) scLaw.nd rfl (Or.inl rfl)) (fun _ _ _ _ _ => pts_nil) (fun _ _ _ _ _ => pc Dp Gp hr2 (pa_cons (pv 1) (pa_cons (pv 3) pa_nil))))) pa_nil)))))
        (C8.pss_cut (ps_par (i := 7) (j := 8) rfl scLaw.nd rfl rfl (by decide) rfl rfl (pa_cons (pc Dw Gw hr4 (pa_cons (pv 1) (pa_cons (pv 3) (pa_cons pe_int (pa_cons pe_int pa_nil))))) (pa_cons (pc Dw Gw hr4 (pa_cons (pv 1) (pa_cons (pv 3) (pa_cons pe_int (pa_cons pe_int pa_nil))))) pa_nil)) (by rfl))
        (C8.pss_cut (ps_if (pt_not (pt_val (pcG Dq Gq hgu hr8 (pa_cons (pv 3) (pa_cons (pv 4) (pa_cons (pv 7) (pa_cons (pv 8) pa_nil))))))) (pss_one (ps_ret pe_bl)) pss_nil)
        (C8.pss_cut (ps_set (i := 9) scLaw.nd rfl (Or.inl rfl) (pe_make M GI hr6 (by rfl) hC bI .nil pass0 (pa_cons (pv 3) (pa_cons (pe_ix ix_seq (pv 7) pe_int (fun _ _ => rfl)) (pa_cons (pe_ix ix_seq (pv 7) pe_int (fun _ _ => rfl)) pa_nil)))))
        (C8.pss_cut (ps_set (i := 11) scLaw.nd rfl (Or.inl rfl) (pe_join pe_str (pe_callB cr_sortedS (by rfl) T.sorted (by decide +kernel) (pa_cons (pe_slice sl_list (pe_lc (own := [("_law_sign", 10)]) (g := gName 10) rfl scLaw.nd (pi_str pe_str) (blkOk_by (own := [("_law_sign", 10)]) (N := nLaw) (sc := defScope sLaw) (by decide +kernel)) (fun _ _ _ _ _ => pg_name (i := 10) scLaw.nd rfl (Or.inl rfl))
            (fun _ _ _ _ _ => pts_one (pt_cmpR op_notInS (pv 10) (pe_slice sl_str (pv 3) po_none (po_some pe_int)) (by rfl))) (fun _ _ _ _ _ => pv 10)) po_none (po_some (pe_callB call_len (by rfl) T.len PySem.boot_len (pa_cons (pv 3) pa_nil)))) pa_nil))))
        (C8.pss_cut (ps_set (i := 12) scLaw.nd rfl (Or.inl rfl) (pe_make M GI hr6 (by rfl) hC bI .nil pass0 (pa_cons (pv 11) (pa_cons pe_int (pa_cons (pe_tup (pa_cons (pe_tup (pa_cons pe_int (pa_cons (pe_ix ix_str (pv 11) pe_int (fun _ _ => rfl)) (pa_cons pe_int (pa_cons pe_str pa_nil))))) pa_nil)) pa_nil)))))
        (pss_one (ps_if (pt_cmpR (op_neD hun) (pe_lst (pa_cons (pc Dj Gj hr4 (pa_cons (pv 9) (pa_cons (pv 12) pa_nil))) (pa_cons (pc Dj Gj hr4 (pa_cons (pv 12) (pa_cons (pv 9) pa_nil))) pa_nil))) (pe_lst (pa_cons pe_str (pa_cons pe_str pa_nil))) (nomark _)) (pss_one (ps_ret pe_bl)) pss_nil)))))))))))
      (C8.pss_cut (ps_setLc (i := 14) (own := [("_law_name", 13)]) (g := gName 13) (tt := tYes) rfl scLaw.nd rfl rfl (by rfl) (pi_list (pe_lst (pa_cons pe_str (pa_cons pe_str (pa_cons pe_str (pa_cons pe_str (pa_cons pe_str pa_nil))))))) (blkOk_by (own := [("_law_name", 13)]) (N := nLaw) (sc := defScope sLaw) (by decide +kernel)) (fun _ _ _ _ _ => pg_name (i := 13) scLaw.nd rfl (Or.inl rfl)) (fun _ _ _ _ _ => pts_nil)
          (fun _ _ _ _ _ => pe_tup (pa_cons pe_int (pa_cons pe_str (pa_cons pe_int (pa_cons (pv 13) pa_nil))))))
      (C8.pss_cut (ps_set (i := 7) scLaw.nd rfl (Or.inl rfl) (pe_tup (pa_cons pe_int (pa_cons (pe_callTy call_tuple_of (by rfl) T.tuple (by decide +kernel) (pa_cons (pe_op op_cat (pe_lst (pa_cons (pe_tup (pa_cons pe_int (pa_cons pe_str (pa_cons pe_int (pa_cons pe_str pa_nil))))) (pa_cons (pe_tup (pa_cons pe_int (pa_cons pe_str (pa_cons pe_int (pa_cons pe_str pa_nil)))))
          (pa_cons (pe_tup (pa_cons pe_int (pa_cons pe_str (pa_cons pe_int (pa_cons pe_str pa_nil))))) pa_nil)))) (pv 14)) pa_nil)) pa_nil))))
      (pss_one (ps_ret (pcG Dq Gq hgu hr8 (pa_cons pe_str (pa_cons (pc Da Ga hr1 (pa_cons pe_str (pa_cons pe_int pa_nil))) (pa_cons (pv 7) (pa_cons (pe_tup (pa_cons pe_int (pa_cons (pe_tup (pa_cons (pe_tup (pa_cons pe_int (pa_cons pe_str (pa_cons pe_int (pa_cons pe_str pa_nil))))) pa_nil)) pa_nil))) pa_nil))))))))))), ?_⟩
    have ix0 : ∀ {H' : Hp} {w' a' : Addr} {n' : Nat} {Q' : VK}, SqT K H' w' [.int n', .ref a'] → Q' (.int n') H' → rIx K (.ref w') (.int 0) H' Q' := fun {H' w' a' n' Q'} h q => .inr (.inl ⟨w', _, ((0 : Nat) : Int), _, rfl, rfl, h, atI_nat (j := 0) rfl, q⟩)
    have ix1 : ∀ {H' : Hp} {w' a' : Addr} {n' : Nat} {Q' : VK}, SqT K H' w' [.int n', .ref a'] → Q' (.ref a') H' → rIx K (.ref w') (.int 1) H' Q' := fun {H' w' a' n' Q'} h q => .inr (.inl ⟨w', _, ((1 : Nat) : Int), _, rfl, rfl, h, atI_nat (j := 1) rfl, q⟩)
    refine ⟨_, rfl, a, ns, rfl, hS, hlen, fun H1 d c0 hd0 hc0 D1 s1 => ?_⟩
    refine ⟨rfl, fun H2 s2 => ⟨_, rfl, ?_⟩⟩
    have s2 : Same H1 H2 := s2
    refine iteF ?_
    have D2 := D1.same s2
    refine ⟨fun σ' H' => ∃ (v2 v3 v4 v5 v7 v8 v9 v11 v12 : Option V), σ' = [some (.ref a), some (.ref d), v2, v3, v4, v5, none, v7, v8, v9, none, v11, v12, none, none], ?_, ?_⟩
    · refine ⟨_, rfl, by decide, by decide, ?_⟩
      refine for_range (lo := 0) (n := 2) (fun i σ H' => ∃ (v2 v3 v4 v5 v7 v8 v9 v11 v12 : Option V) (m : Nat), σ = [some (.ref a), some (.ref d), v2, v3, v4, v5, none, v7, v8, v9, none, v11, v12, none, none] ∧ DeckAt H' d c0 m ∧ m ≤ 2000 * i) ⟨none, none, none, none, none, none, none, none, none, 0, rfl, D2, Nat.zero_le _⟩ ?_ ?_
      · rintro i σ H3 hi ⟨v2, v3, v4, v5, v7, v8, v9, v11, v12, m, rfl, D3, hm⟩
        refine ⟨_, rfl, d, c0, m, 3, rfl, by decide, by decide, by omega, D3, fun H4 z m4 hz hm4 D4 B4 => ?_⟩
        obtain ⟨z2, z3⟩ := hz.len
        have hzl : z.length ≤ sizeLine := Nat.le_trans (by omega : z.length ≤ 100) (by decide)
        refine ⟨_, rfl, _, rfl, _, z.length, rfl, ⟨hzl, rfl⟩, _, _, rfl, rfl, _, rfl, ?_⟩
        dsimp only [tC, tNil]
        refine ite_all (P := fun v => spAll ([V.str z, v] ++ []) H4 _ _) z2 z3 fun n0 h0 hc => ⟨z, n0, rfl, hz.asc, z3, h0, fun H5 R zs s5 hR eR lz sz => ?_⟩
        have s5 : Same H4 H5 := s5
        obtain ⟨nRd, nRc⟩ := D4.ned hR
        have D5 := D4.same s5
        have lz : zs.length ≤ 121 := Nat.le_trans lz hc
        have sz : ∀ y ∈ zs, y.length ≤ 100 := fun y hy => Nat.le_trans (sz y hy).2 (by decide)
        clear hc h0 s5 B4 D4 hR
        -- six rows more
        refine ⟨fun σ' H' => ∃ (v2 v5 v7 v8 v9 v11 v12 : Option V) (rows : List Str) (m5 : Nat), σ' = [some (.ref a), some (.ref d), v2, some (.str z), some (.ref R), v5, none, v7, v8, v9, none, v11, v12, none, none] ∧ H' R = some (.lst (rows.map V.str)) ∧ rows.length ≤ 130 ∧ (∀ y ∈ rows, y.length ≤ 100) ∧ DeckAt H' d c0 m5 ∧ m5 ≤ m + 300, ?_, ?_⟩
        · refine ⟨_, rfl, by decide, by decide, ?_⟩
          refine for_range (lo := 0) (n := 6) (fun j σ' H' => ∃ (v5 : Option V) (rows : List Str) (m5 : Nat), σ' = [some (.ref a), some (.ref d), some (.int (0 + (i : Nat))), some (.str z), some (.ref R), v5, none, v7, v8, v9, none, v11, v12, none, none] ∧ H' R = some (.lst (rows.map V.str)) ∧ rows.length ≤ 121 + j ∧ (∀ y ∈ rows, y.length ≤ 100) ∧ DeckAt H' d c0 m5 ∧ m5 ≤ m + 20 + 30 * j) ⟨_, zs, m4, rfl, eR, lz, sz, D5, by omega⟩ ?_ ?_
          · rintro j σ H6 hj ⟨v5, rows, m5, rfl, eR6, lr, sr, D6, hm5⟩
            refine ⟨_, rfl, .inl ⟨rfl, _, SqL.of eR6⟩, ⟨_, rfl⟩, _, rfl, d, c0, m5, 15, rfl, by decide, by decide, by omega, D6, fun H7 r r0 r1 D7 B7 => ⟨6, r, rfl, rfl, _, rfl, by omega, by omega, fun L hL => ?_⟩⟩
            obtain ⟨q, rfl⟩ : ∃ q : Nat, r = q := ⟨r.toNat, by omega⟩
            have eq6 : (6 + (q : Int)).toNat = 6 + q := by omega
            rw [eq6]
            have hq : q ≤ 14 := by omega
            obtain ⟨nLd, nLc⟩ := D7.ned hL
            have eR7 := B7 _ _ nRd nRc eR6
            have nRL : R ≠ L := fun e => by rw [← e, eR7] at hL; exact nomatch hL
            refine lc_range (lo := 0) (n := 6 + q) (fun x H' => ∃ cs : List Nat, H' L = some (.lst ((cs.map one).map V.str)) ∧ cs.length = x ∧ H' R = some (.lst (rows.map V.str)) ∧ DeckAt H' d c0 (m5 + 1 + x)) ⟨[], upd_same, rfl, by rw [upd_ne nRL]; exact eR7, D7.new hL⟩ ?_ ?_
            · rintro x H8 hx ⟨cs, e1, e2, eR8, D8⟩
              refine ⟨rfl, ?_⟩
              dsimp only [tYes]
              refine iteT ?_
              refine ⟨_, rfl, _, rfl, d, c0, _, .str z, (letts z).map V.str, rfl, ?_, ?_, by omega, D8, fun H' B => .txt z hzl, fun H9 y hy D9 B9 => ?_⟩
              · intro e
                have := congrArg List.length e
                rw [List.length_map, letts_length] at this
                exact absurd this (by show z.length ≠ 0; omega)
              · rw [List.length_map, letts_length]; omega
              · obtain ⟨w1, hw, rfl⟩ := List.mem_map.mp hy
                obtain ⟨e, he, rfl⟩ := List.mem_map.mp hw
                refine ⟨_, B9 L _ nLd nLc e1, ?_, cs ++ [e], ?_, ?_, by rw [upd_ne nRL]; exact B9 R _ nRd nRc eR8, D9.set nLd nLc⟩
                · rw [List.length_map, List.length_map, e2]; exact Nat.lt_of_le_of_lt (by omega : x ≤ 20) (by decide)
                · rw [upd_same, List.map_append, List.map_append]; rfl
                · rw [List.length_append, e2]; rfl
            rintro H8 ⟨cs, e1, e2, eR8, D8⟩
            refine ⟨_, L, cs.map one, rfl, rfl, .inl (SqL.of e1), ?_, ?_⟩
            · have e : (cs.map one).map (fun x : Str => x.length) = List.replicate cs.length 1 := by
                rw [List.map_map]
                exact List.eq_replicate_iff.mpr ⟨by rw [List.length_map], fun b hb => by obtain ⟨c, _, rfl⟩ := List.mem_map.mp hb; rfl⟩
              rw [e, List.sum_replicate_nat, List.length_map]
              have e0 : (Str.ofString "").length = 0 := by decide +kernel
              rw [e0]; omega
            have e0 : Str.ofString "" = ⟨#[]⟩ := by decide +kernel
            rw [e0, joinOnes]
            refine ⟨R, _, _, rfl, rfl, eR8, ?_, _, rows ++ [⟨cs.toArray⟩], _, rfl, by rw [upd_same, List.map_append]; rfl, by rw [List.length_append]; show _ + 1 ≤ _; omega, fun y hy => ?_, D8.set nRd nRc, by omega⟩
            · rw [List.length_map]
              exact Nat.lt_of_le_of_lt (by omega : _ ≤ 200) (by decide)
            · rcases List.mem_append.mp hy with h | h
              · exact sr y h
              · rw [List.mem_singleton.mp h]
                show cs.toArray.size ≤ 100
                rw [List.size_toArray]; omega
          · rintro σ H6 ⟨v5, rows, m5, rfl, eR6, lr, sr, D6, hm5⟩
            exact ⟨_, _, _, _, _, _, _, rows, m5, rfl, eR6, by omega, sr, D6, by omega⟩
        clear eR D5 v2 v3 v4 v5 v7 v8 v9 v11 v12
        rintro σ H6 ⟨v2, v5, v7, v8, v9, v11, v12, rows, m5, rfl, eR, lr, sr, D6, hm5⟩
        have few : ∀ {cnt : Nat} {rs : List Arr}, cnt ≤ 4 → rs.length ≤ 8 → (∃ nm : List Str, nm.length ≤ 4 ∧ ∀ r ∈ rs, r.t = 0 → r.k ∈ nm) → Few cnt rs := fun {cnt rs} h1 h2 ⟨nm, h3, h4⟩ => ⟨h2, by omega, 4, nm, h3, h4, by omega, by decide⟩
        -- the two worlds
        refine ⟨fun σ' H' => ∃ (v2 v5 v9 v11 v12 : Option V) (w1 w2 a1 a2 : Addr) (n1 n2 : Nat) (rs1 rs2 : List Arr) (m6 : Nat), σ' = [some (.ref a), some (.ref d), v2, some (.str z), some (.ref R), v5, none, some (.ref w1), some (.ref w2), v9, none, v11, v12, none, none] ∧ H' R = some (.lst (rows.map V.str)) ∧
          SqT K H' w1 [.int n1, .ref a1] ∧ ArrT K H' a1 rs1 ∧ Good z n1 rs1 ∧ Few n1 rs1 ∧ SqT K H' w2 [.int n2, .ref a2] ∧ ArrT K H' a2 rs2 ∧ Good z n2 rs2 ∧ Few n2 rs2 ∧ DeckAt H' d c0 m6 ∧ m6 ≤ m + 700, ?_, ?_⟩
        · refine ⟨_, rfl, _, rfl, d, c0, m5, z, 4, 8, rfl, by decide, by decide, by decide, by decide, z2, by omega, hz.asc, sgn_let hz, by omega, D6, fun H7 w1 a1 n1 rs1 m7 hw1 hA1 g1 _ hn1 nm1 hrs1 hm7 D7 B7 => ?_⟩
          refine ⟨_, rfl, _, rfl, d, c0, m7, z, 4, 8, rfl, by decide, by decide, by decide, by decide, z2, by omega, hz.asc, sgn_let hz, by omega, D7, fun H8 w2 a2 n2 rs2 m8 hw2 hA2 g2 _ hn2 nm2 hrs2 hm8 D8 B8 => ⟨_, _, rfl, ?_⟩⟩
          exact ⟨_, _, _, _, _, w1, w2, a1, a2, n1, n2, rs1, rs2, m8, rfl, B8 R _ nRd nRc (B7 R _ nRd nRc eR), sqT_but D7 B8 hw1, (But.noL D7 B8).arrT hA1, g1, few hn1 hrs1 nm1, hw2, hA2, g2, few hn2 hrs2 nm2, D8, by omega⟩
        clear eR D6 v2 v5 v7 v8 v9 v11 v12
        rintro σ H7 ⟨v2, v5, v9, v11, v12, w1, w2, a1, a2, n1, n2, rs1, rs2, m6, rfl, eR, hw1, hA1, g1, few1, hw2, hA2, g2, few2, D7, hm6⟩
        refine ⟨fun σ' H' => ∃ (v2 v5 v9 v11 v12 : Option V), σ' = [some (.ref a), some (.ref d), v2, some (.str z), some (.ref R), v5, none, some (.ref w1), some (.ref w2), v9, none, v11, v12, none, none] ∧ Same H7 H', ?_, ?_⟩
        · exact ⟨_, rfl, _, rfl, _, rfl, _, rfl, z, R, w1, w2, a1, a2, n1, n2, rs1, rs2, rows, rfl, eR, by omega, sr, hw1, hA1, g1, few1, hw2, hA2, g2, few2, fun H' s' => ⟨_, rfl, iteF ⟨_, _, _, _, _, rfl, s'⟩⟩⟩
        clear v2 v5 v9 v11 v12
        rintro σ H8 ⟨v2, v5, v9, v11, v12, rfl, s78⟩
        refine ⟨fun σ' H' => ∃ (v2 v5 v11 v12 : Option V) (b : Addr), σ' = [some (.ref a), some (.ref d), v2, some (.str z), some (.ref R), v5, none, some (.ref w1), some (.ref w2), some (.ref b), none, v11, v12, none, none] ∧ Same H7 H' ∧ FmtR K C H' b z n1 rs1, ?_, ?_⟩
        · refine ⟨_, rfl, _, rfl, ix0 (sqT_same s78 hw1) ⟨_, rfl, ix1 (sqT_same s78 hw1) fun b db hb hdb neb => ?_⟩⟩
          refine made_fmtR hb hdb neb g1 (hA1.same s78) fun H9 s9 fm => ⟨rfl, ?_⟩
          exact ⟨_, _, _, _, b, rfl, s78.trans s9, fm.r⟩
        clear v2 v5 v9 v11 v12 s78
        rintro σ H8 ⟨v2, v5, v11, v12, b, rfl, s78, fb⟩
        have D8 := D7.same s78
        clear eR hw1 hA1 few1 hw2 hA2 g2 few2 D7 s78
        -- other letters
        refine ⟨fun σ' H' => ∃ (v2 v5 v12 : Option V) (z' : Str), σ' = [some (.ref a), some (.ref d), v2, some (.str z), some (.ref R), v5, none, some (.ref w1), some (.ref w2), some (.ref b), none, some (.str z'), v12, none, none] ∧ Same H8 H' ∧ Sgn 3 z' ∧ z' ≠ z, ?_, ?_⟩
        · refine ⟨⟨_, rfl⟩, _, rfl, fun D hD => ?_⟩
          obtain ⟨c1, hc1⟩ : ∃ c1, z.cps.toList.take 1 = [c1] := by
            have hl : z.cps.toList.length = z.length := Array.length_toList
            cases e : z.cps.toList with
            | nil => rw [e] at hl; simp at hl; omega
            | cons x r => exact ⟨x, rfl⟩
          have eP : (Str.ofString "abcdehmxyz").cps.toList = pool := by decide +kernel
          refine lc_it walk_str (fun i2 H' => H' D = some (.lst ((((pool.take i2).filter fun c => decide (c ≠ c1)).map one).map V.str)) ∧ Same H8 H') ⟨upd_same, Same.upd hD⟩ (fun _ _ _ _ => trivial) ?_ ?_
          · rintro i2 v H9 H10 hi2 ⟨eD, sm⟩ ⟨rfl, x, hx, rfl⟩
            have hx2 : pool[i2]? = some x := by rw [← eP, Array.getElem?_toList]; exact hx
            refine ⟨rfl, ?_⟩
            refine ⟨_, rfl, _, rfl, _, rfl, z, rfl, hzl, x, _, rfl, rfl, _, rfl, ?_⟩
            rw [cut_first (by omega), hc1, take_snoc hx2, List.filter_append]
            by_cases e : x = c1
            · rw [decide_eq_true (List.mem_singleton.mpr e)]
              refine iteF ⟨?_, sm⟩
              rw [List.filter_cons_of_neg (by simpa using e), List.filter_nil, List.append_nil]
              exact eD
            · rw [decide_eq_false fun h => e (List.mem_singleton.mp h)]
              refine iteT ?_
              refine ⟨_, rfl, _, eD, ?_, ?_, keep_put sm hD⟩
              · rw [List.length_map, List.length_map]
                exact Nat.lt_of_le_of_lt (Nat.le_trans (List.length_filter_le _ _) (Nat.le_trans (List.length_take_le' _ _) (by decide : _ ≤ 10))) (by decide)
              · rw [upd_same, List.filter_cons_of_pos (by simpa using e), List.map_append, List.map_append]; rfl
          · rintro H9 ⟨eD, s89⟩
            have eF : (Str.ofString "abcdehmxyz").cps.size = 10 := by decide +kernel
            rw [eF, show pool.take 10 = pool from rfl] at eD
            obtain ⟨fs, hfs⟩ : ∃ fs, (pool.filter fun c => decide (c ≠ c1)) = fs := ⟨_, rfl⟩
            have hl9 : 9 ≤ fs.length := by
              have h1 := (List.perm_append_comm.trans (List.filter_append_perm (fun c => decide (c = c1)) pool)).length_eq
              have h2 : (pool.filter fun c => decide (c = c1)).length ≤ 1 := by
                have nd : (pool.filter fun c => decide (c = c1)).Nodup := (by decide : pool.Nodup).filter _
                exact nodup_sub (m := [c1]) nd fun x hx => List.mem_singleton.mpr (of_decide_eq_true (List.mem_filter.mp hx).2)
              rw [List.length_append] at h1
              have e10 : pool.length = 10 := rfl
              have e3 : (pool.filter fun x => !decide (x = c1)) = fs := by rw [← hfs]; exact List.filter_congr fun x _ => by simp
              rw [e3] at h1
              omega
            rw [hfs] at eD
            have lx : ((fs.map one).map V.str).length = fs.length := by rw [List.length_map, List.length_map]
            refine ⟨_, rfl, _, z.length, rfl, ⟨hzl, rfl⟩, _, rfl, D, _, rfl, SqL.of eD, fun p hp => ?_⟩
            rw [cut_take (by rw [lx]; omega)]
            have s10 := Same.upd (o := .lst (((fs.map one).map V.str).take z.length)) hp
            have ep : (upd H9 p (.lst (((fs.map one).map V.str).take z.length))) p = some (.lst (((fs.take z.length).map one).map V.str)) := by rw [upd_same, List.map_take, List.map_take]
            revert s10 ep
            generalize upd H9 p (.lst (((fs.map one).map V.str).take z.length)) = H10
            intro s10 ep
            refine ⟨p, (fs.take z.length).map one, rfl, SqL.of ep, ?_, fun ys q hy hs hq => ?_⟩
            · rw [List.length_map, List.length_take]
              omega
            · obtain ⟨cs, rfl, hcs⟩ := unmap_ones hy
              have hcl : cs.length = z.length := by
                rw [hcs.length_eq, List.length_take]
                omega
              have sq := Same.upd (o := .lst ((cs.map one).map V.str)) hq
              refine ⟨_, q, cs.map one, rfl, rfl, .inl (SqL.of upd_same), ?_, ?_⟩
              · have e : (cs.map one).map (fun x : Str => x.length) = List.replicate cs.length 1 := by
                  rw [List.map_map]
                  exact List.eq_replicate_iff.mpr ⟨by rw [List.length_map], fun b hb => by obtain ⟨c, _, rfl⟩ := List.mem_map.mp hb; rfl⟩
                rw [e, List.sum_replicate_nat, List.length_map]
                have e0 : (Str.ofString "").length = 0 := by decide +kernel
                rw [e0]; omega
              have e0 : Str.ofString "" = ⟨#[]⟩ := by decide +kernel
              rw [e0, joinOnes]
              have inF : ∀ x ∈ cs, x ∈ pool ∧ x ≠ c1 := fun x hx => by
                have h1 := List.mem_of_mem_take (hcs.mem_iff.mp hx)
                rw [← hfs] at h1
                exact ⟨(List.mem_filter.mp h1).1, of_decide_eq_true (List.mem_filter.mp h1).2⟩
              have nd : cs.Nodup := by
                refine hcs.nodup_iff.mpr ((List.take_sublist _ _).nodup ?_)
                rw [← hfs]
                exact (by decide : pool.Nodup).filter _
              refine ⟨_, _, _, _, rfl, s89.trans (s10.trans sq), ⟨cs, rfl, lt_of_le (sorted_ones hs) nd, by omega, by omega, fun x hx => (inF x hx).1⟩, fun e => ?_⟩
              have h1 : c1 ∈ z.cps.toList := List.mem_of_mem_take (by rw [hc1]; exact List.mem_singleton.mpr rfl)
              rw [← e] at h1
              exact (inF c1 h1).2 rfl
        clear v2 v5 v11 v12
        rintro σ H9 ⟨v2, v5, v12, z', rfl, s89, hz', nez⟩
        have fb9 := fb.same s89
        have D9 := D8.same s89
        clear fb D8 s89
        obtain ⟨y2, y3⟩ := hz'.len
        -- the other format
        refine ⟨fun σ' H' => ∃ (v2 v5 : Option V) (f' : Addr) (qs : List Arr), σ' = [some (.ref a), some (.ref d), v2, some (.str z), some (.ref R), v5, none, some (.ref w1), some (.ref w2), some (.ref b), none, some (.str z'), some (.ref f'), none, none] ∧ Same H9 H' ∧ FmtR K C H' f' z' 1 qs, ?_, ?_⟩
        · obtain ⟨x, hx⟩ : ∃ x, z'.cps.toList[0]? = some x := ⟨_, List.getElem?_eq_getElem (by rw [Array.length_toList]; show 0 < z'.length; omega)⟩
          have ho : letterB z' ⟨#[x]⟩ = true ∧ (⟨#[x]⟩ : Str).length ≤ 100000 ∧ Asc ⟨#[x]⟩ := letter_of hz'.asc (List.mem_map.mpr ⟨_, List.mem_map.mpr ⟨x, List.mem_of_getElem? hx, rfl⟩, rfl⟩)
          refine ⟨_, rfl, _, rfl, z', 0, x, rfl, rfl, Nat.le_trans (by omega : z'.length ≤ 100) (by decide), atI_nat (j := 0) hx, ?_⟩
          refine ⟨(by show 4 ≤ sizeLine; decide), fun t ht => ⟨(by show 1 ≤ sizeLine; decide), fun T0 hT => ?_⟩⟩
          have u1 := Same.upd (o := .tup [V.int 0, V.str ⟨#[x]⟩, V.int 0, V.str "word"]) ht
          have u2 := Same.upd (o := .tup [V.ref t]) hT
          have co := core_one ⟨#[x]⟩ "word"
          have g : Good z' 1 [⟨0, ⟨#[x]⟩, 0, "word"⟩] := by
            refine ⟨sgn_let hz', ⟨by omega, hz'.asc⟩, by decide, fun r hr => ?_, rfl, Nat.zero_lt_one, by show 1 ≤ 10000; decide, fun i hi => ?_⟩
            · rw [List.mem_singleton.mp hr]
              refine ⟨?_, ho.2.1, ho.2.2, (by show 4 ≤ 100000; decide), (by show Asc (Str.ofString "word"); unfold Asc; decide +kernel)⟩
              show (decide (0 ≤ (0 : Int)) && decide ((0 : Int) < 1) && (decide (0 ≤ (0 : Int)) && decide ((0 : Int) < 1)) && letterB z' ⟨#[x]⟩ && kindB "word") = true
              rw [ho.1]
              decide +kernel
            · obtain rfl : i = 0 := by omega
              exact co.on 0 (.inl rfl)
          refine fun f' df hf hdf nef => ?_
          refine made_fmtR hf hdf nef g ⟨_, SqT.of upd_same, .cons ⟨t, rfl, sqT_same u2 (SqT.of upd_same)⟩ .nil⟩ fun H10 s10 fm => ⟨rfl, ?_⟩
          exact ⟨_, _, f', _, rfl, (u1.trans u2).trans s10, fm.r⟩
        clear v2 v5 v12
        rintro σ H10 ⟨v2, v5, f', qs, rfl, s910, ff⟩
        have fb10 := fb9.same s910
        have D10 := D9.same s910
        clear fb9 D9 s910
        refine ⟨_, rfl, _, rfl, b, f', z, z', n1, 1, rs1, qs, rfl, fb10, ff, Ne.symm nez, fun H11 s11 => ?_⟩
        have s11 : Same H10 H11 := s11
        refine ⟨_, rfl, _, rfl, f', b, z', z, 1, n1, qs, rs1, rfl, ff.same s11, fb10.same s11, nez, fun H12 s12 => ?_⟩
        have s12 : Same H11 H12 := s12
        refine ⟨(by show 2 ≤ sizeLine; decide), fun p hp => ⟨(by show 2 ≤ sizeLine; decide), fun p2 hp2 => ?_⟩⟩
        have u1 := Same.upd (o := .lst [V.str "unlike", V.str "unlike"]) hp
        have u2 := Same.upd (o := .lst [V.str "unlike", V.str "unlike"]) hp2
        have ok : ([V.str "unlike", V.str "unlike"] : List V).all okF = true := by decide +kernel
        refine ⟨_, _, .lst (SqL.of (u2 _ _ upd_same)) (dpAll_flat ok), .lst (SqL.of upd_same) (dpAll_flat ok), shaped_list ok, shaped_list ok, _, rfl, ?_⟩
        refine iteN (PySem.SeqAt.eqv_refl _ (canLayAll_flat ok)) ?_
        exact ⟨_, _, _, _, _, _, _, _, _, m6, rfl, D10.same ((s11.trans s12).trans (u1.trans u2)), by omega⟩
      · rintro σ H3 ⟨v2, v3, v4, v5, v7, v8, v9, v11, v12, m, rfl, _, _⟩
        exact ⟨_, _, _, _, _, _, _, _, _, rfl⟩
    rintro σ H3 ⟨v2, v3, v4, v5, v7, v8, v9, v11, v12, rfl⟩
    -- the format with five kinds
    refine ⟨fun σ' H' => ∃ (v2 v3 v4 v5 v7 v8 v9 v11 v12 : Option V) (l : Addr) (us : List V), σ' = [some (.ref a), some (.ref d), v2, v3, v4, v5, none, v7, v8, v9, none, v11, v12, none, some (.ref l)] ∧ H' l = some (.lst us) ∧ All2 (AtA K H') us (five.map fun nm => (⟨2, "b", 0, nm⟩ : Arr)), ?_, ?_⟩
    · refine ⟨(by show 5 ≤ sizeLine; decide), fun N hN => ?_⟩
      have eN : (upd H3 N (.lst [V.str "a", V.str "item", V.str "stop", V.str "word", V.str "zzzzzzzz"])) N = some (.lst (five.map V.str)) := upd_same
      revert eN
      generalize upd H3 N (.lst [V.str "a", V.str "item", V.str "stop", V.str "word", V.str "zzzzzzzz"]) = H4
      intro eN
      refine ⟨N, rfl, ⟨_, SqL.of eN⟩, fun D hD => ?_⟩
      refine lc_list (K := K) (a := N) (xs := five.map V.str) (fun j H' => ∃ ys, H' D = some (.lst ys) ∧ All2 (AtA K H') ys ((five.take j).map fun nm => (⟨2, "b", 0, nm⟩ : Arr)) ∧ Same H4 H') ⟨[], upd_same, .nil, Same.upd hD⟩ (fun j H' _ ⟨_, _, _, sm⟩ => SqL.of (sm _ _ eN)) ?_ ?_
      · rintro j v H5 hv ⟨ys, eD, hys, sm⟩
        obtain ⟨nm, hnm, rfl⟩ : ∃ nm, five[j]? = some nm ∧ v = V.str nm := by
          rw [List.getElem?_map] at hv
          cases e : five[j]? with
          | none => rw [e] at hv; exact nomatch hv
          | some z => rw [e] at hv; cases hv; exact ⟨z, rfl, rfl⟩
        refine ⟨rfl, ?_⟩
        dsimp only [tYes]
        refine iteT ?_
        refine ⟨_, rfl, (by show 4 ≤ sizeLine; decide), fun t ht => ?_⟩
        have sT := Same.upd (o := .tup [V.int 2, V.str "b", V.int 0, V.str nm]) ht
        have eD' := sT _ _ eD
        refine ⟨ys, eD', ?_, ys ++ [.ref t], upd_same, ?_, keep_put (sm.trans sT) hD⟩
        · rw [hys.len, List.length_map]
          exact Nat.lt_of_le_of_lt (Nat.le_trans (List.length_take_le' _ _) (by decide : _ ≤ 5)) (by decide)
        · rw [take_snoc hnm, List.map_append]
          exact (hys.imp fun _ _ h => AtA.to (fun a xs h => sqT_put eD' h) (h.same sT)).app (.cons ⟨t, rfl, sqT_put eD' (SqT.of upd_same)⟩ .nil)
      · rintro H5 ⟨ys, eD, hys, _⟩
        exact ⟨_, _, _, _, _, _, _, _, _, D, ys, rfl, eD, hys⟩
    clear v2 v3 v4 v5 v7 v8 v9 v11 v12
    rintro σ H4 ⟨v2, v3, v4, v5, v7, v8, v9, v11, v12, l, us, rfl, el, hus⟩
    refine ⟨fun σ' H' => ∃ (v2 v3 v4 v5 v8 v9 v11 v12 v14 : Option V) (w1 T1 : Addr), σ' = [some (.ref a), some (.ref d), v2, v3, v4, v5, none, some (.ref w1), v8, v9, none, v11, v12, none, v14] ∧ SqT K H' w1 [.int 3, .ref T1] ∧ ArrT K H' T1 g5, ?_, ?_⟩
    · refine ⟨(by show 4 ≤ sizeLine; decide), fun t1 ht1 => ⟨(by show 4 ≤ sizeLine; decide), fun t2 ht2 => ⟨(by show 4 ≤ sizeLine; decide), fun t3 ht3 => ⟨(by show 3 ≤ sizeLine; decide), fun l1 hl1 => ?_⟩⟩⟩⟩
      have u1 := Same.upd (o := .tup [V.int 0, V.str "a", V.int 1, V.str ""]) ht1
      have u2 := Same.upd (o := .tup [V.int 1, V.str "a", V.int 1, V.str ""]) ht2
      have u3 := Same.upd (o := .tup [V.int 1, V.str "b", V.int 2, V.str ""]) ht3
      have u4 := Same.upd (o := .lst [V.ref t1, V.ref t2, V.ref t3]) hl1
      have u14 := ((u1.trans u2).trans u3).trans u4
      refine ⟨_, rfl, l1, l, _, _, rfl, rfl, upd_same, u14 _ _ el, ?_, fun l2 hl2 => ?_⟩
      · rw [hus.len, List.length_map]
        show 3 + 5 ≤ sizeLine
        decide
      have u5 := Same.upd (o := .lst ([V.ref t1, V.ref t2, V.ref t3] ++ us)) hl2
      refine ⟨l2, _, rfl, .inl ⟨SqL.of upd_same, fun T1 hT => ⟨(by show 2 ≤ sizeLine; decide), fun w1 hw => ?_⟩⟩⟩
      have u6 := Same.upd (o := .tup ([V.ref t1, V.ref t2, V.ref t3] ++ us)) hT
      have u7 := Same.upd (o := .tup [V.int 3, V.ref T1]) hw
      have u47 := (u4.trans u5).trans (u6.trans u7)
      refine ⟨_, _, _, _, _, _, _, _, _, w1, T1, rfl, SqT.of upd_same, _, sqT_same u7 (SqT.of upd_same), ?_⟩
      refine All2.app (.cons ⟨t1, rfl, sqT_same ((u2.trans u3).trans u47) (SqT.of upd_same)⟩ (.cons ⟨t2, rfl, sqT_same (u3.trans u47) (SqT.of upd_same)⟩ (.cons ⟨t3, rfl, sqT_same u47 (SqT.of upd_same)⟩ .nil))) (hus.imp fun _ _ => AtA.same (u14.trans (u5.trans (u6.trans u7))))
    clear v2 v3 v4 v5 v7 v8 v9 v11 v12 el hus
    rintro σ H5 ⟨v2, v3, v4, v5, v8, v9, v11, v12, v14, w1, T1, rfl, hw1, hA1⟩
    refine ⟨"ab", 5, rfl, by unfold Asc; decide +kernel, by decide +kernel, by decide, fun H6 R zs s6 hR eR lz sz => ?_⟩
    have s6 : Same H5 H6 := s6
    refine ⟨_, rfl, (by show 4 ≤ sizeLine; decide), fun t1 ht1 => ⟨(by show 1 ≤ sizeLine; decide), fun T2 hT2 => ⟨(by show 2 ≤ sizeLine; decide), fun w2 hw2 => ?_⟩⟩⟩
    have u1 := Same.upd (o := .tup [V.int 0, V.str "a", V.int 0, V.str "stop"]) ht1
    have u2 := Same.upd (o := .tup [V.ref t1]) hT2
    have u3 := Same.upd (o := .tup [V.int 1, V.ref T2]) hw2
    have u13 := (u1.trans u2).trans u3
    have eW : cntW (Str.ofString "ab").length 5 = 63 := by decide +kernel
    rw [eW] at lz
    exact ⟨"ab", R, w1, w2, T1, T2, 3, 1, g5, g1L, zs, rfl, u13 _ _ eR, by omega, fun y hy => Nat.le_trans (sz y hy).2 (by decide), sqT_same (s6.trans u13) hw1, hA1.same (s6.trans u13), g5_good, g5_few, SqT.of upd_same, ⟨_, sqT_same u3 (SqT.of upd_same), .cons ⟨t1, rfl, sqT_same (u2.trans u3) (SqT.of upd_same)⟩ .nil⟩, g1_good, g1_few, fun H' s' => k H'⟩
end
end K06

set_option Elab.async false
set_option linter.all false
set_option maxRecDepth 100000
set_option maxHeartbeats 0
namespace K06
open PySem PySem.Spec PyProof.Rows L2 Ami
theorem all_mk {l : PySem.W.OpenLaw} {w : World} {K : PySem.W.Frag} {h : Heap} {mg : Str → Option Value} {fa f1 f2 f3 f4 f5 f6 f7 f8 f9 f10 f11 f12 f13 f14 f15 f16 f17 f18 f19 f20 f21 f22 f23 f24 f25 f26 f27 f28 f29 f30 f31 f32 f33 f34 : Addr} (X : K.In h) (G : h.Ns mainGlobals mg) (hfa : mg "law" = some (.ref fa))
    {CO fIO C fI pK gK fk fb fo R : Addr}
    {rK : List Value} {t1 t2 t3 t4 t5 : Tok} {odI anI : Option Addr} {slI : Array (Option Value)} {ocI kVI dcI pmI cdI ctI : Value} {odK anK : Option Addr} {slK : Array (Option Value)} {ocK kVK dcK pmK cdK ctK : Value} {odF anF : Option Addr} {slF : Array (Option Value)} {ocF kVF dcF pmF cdF ctF : Value} {odB anB : Option Addr} {slB : Array (Option Value)} {ocB kVB dcB pmB cdB ctB : Value} {odV anV : Option Addr} {slV : Array (Option Value)} {ocV kVV dcV pmV cdV ctV : Value}
    {odCO anCO : Option Addr} {slCO : Array (Option Value)} {ocCO kVCO dcCO pmCO cdCO ctCO : Value}
    {od1 an1 od2 an2 od3 an3 od4 an4 od5 an5 od6 an6 od7 an7 od8 an8 od9 an9 od10 an10 od11 an11 od12 an12 od13 an13 od14 an14 od15 an15 od16 an16 od17 an17 od18 an18 od19 an19 od20 an20 od21 an21 od22 an22 od23 an23 od24 an24 od25 an25 od26 an26 od27 an27 od28 an28 od29 an29 od30 an30 od31 an31 od32 an32 od33 an33 od34 an34 : Option Addr} {sl1 sl2 sl3 sl4 sl5 sl6 sl7 sl8 sl9 sl10 sl11 sl12 sl13 sl14 sl15 sl16 sl17 sl18 sl19 sl20 sl21 sl22 sl23 sl24 sl25 sl26 sl27 sl28 sl29 sl30 sl31 sl32 sl33 sl34 : Array (Option Value)} {oc1 kV1 dc1 pm1 cd1 ct1 oc2 kV2 dc2 pm2 cd2 ct2 oc3 kV3 dc3 pm3 cd3 ct3 oc4 kV4 dc4 pm4 cd4 ct4 oc5 kV5 dc5 pm5 cd5 ct5 oc6 kV6 dc6 pm6 cd6 ct6 oc7 kV7 dc7 pm7 cd7 ct7 oc8 kV8 dc8 pm8 cd8 ct8 oc9 kV9 dc9 pm9 cd9 ct9 oc10 kV10 dc10 pm10 cd10 ct10 oc11 kV11 dc11 pm11 cd11 ct11 oc12 kV12 dc12 pm12 cd12 ct12 oc13 kV13 dc13 pm13 cd13 ct13 oc14 kV14 dc14 pm14 cd14 ct14 oc15 kV15 dc15 pm15 cd15 ct15 oc16 kV16 dc16 pm16 cd16 ct16 oc17 kV17 dc17 pm17 cd17 ct17 oc18 kV18 dc18 pm18 cd18 ct18 oc19 kV19 dc19 pm19 cd19 ct19 oc20 kV20 dc20 pm20 cd20 ct20 oc21 kV21 dc21 pm21 cd21 ct21 oc22 kV22 dc22 pm22 cd22 ct22 oc23 kV23 dc23 pm23 cd23 ct23 oc24 kV24 dc24 pm24 cd24 ct24 oc25 kV25 dc25 pm25 cd25 ct25 oc26 kV26 dc26 pm26 cd26 ct26 oc27 kV27 dc27 pm27 cd27 ct27 oc28 kV28 dc28 pm28 cd28 ct28 oc29 kV29 dc29 pm29 cd29 ct29 oc30 kV30 dc30 pm30 cd30 ct30 oc31 kV31 dc31 pm31 cd31 ct31 oc32 kV32 dc32 pm32 cd32 ct32 oc33 kV33 dc33 pm33 cd33 ct33 oc34 kV34 dc34 pm34 cd34 ct34 : Value}
    (a1 : PySem.W.nsIn K mainGlobals "is_letters" = some (some (.ref f1))) (l1 : K.lookup f1 = some ⟨oc1, od1, .func (PySem.W.fnOf "is_letters" "is_letters" (defArgs sLetters) (defBody sLetters) (defScope sLetters) .none kV1 dc1 pm1 an1 cd1 ct1), sl1⟩) (c1 : PySem.W.codeIn K cd1 "is_letters" = true) (k1 : PySem.W.keepIn K (.ref f1) = true)
    (a2 : PySem.W.nsIn K mainGlobals "is_word" = some (some (.ref f2))) (l2 : K.lookup f2 = some ⟨oc2, od2, .func (PySem.W.fnOf "is_word" "is_word" (defArgs sWord) (defBody sWord) (defScope sWord) .none kV2 dc2 pm2 an2 cd2 ct2), sl2⟩) (c2 : PySem.W.codeIn K cd2 "is_word" = true) (k2 : PySem.W.keepIn K (.ref f2) = true)
    (a3 : PySem.W.nsIn K mainGlobals "is_integer" = some (some (.ref f3))) (l3 : K.lookup f3 = some ⟨oc3, od3, .func (PySem.W.fnOf "is_integer" "is_integer" (defArgs sIsInt) (defBody sIsInt) (defScope sIsInt) .none kV3 dc3 pm3 an3 cd3 ct3), sl3⟩) (c3 : PySem.W.codeIn K cd3 "is_integer" = true) (k3 : PySem.W.keepIn K (.ref f3) = true)
    (a4 : PySem.W.nsIn K mainGlobals "is_kind" = some (some (.ref f4))) (l4 : K.lookup f4 = some ⟨oc4, od4, .func (PySem.W.fnOf "is_kind" "is_kind" (defArgs sKind) (defBody sKind) (defScope sKind) .none kV4 dc4 pm4 an4 cd4 ct4), sl4⟩) (c4 : PySem.W.codeIn K cd4 "is_kind" = true) (k4 : PySem.W.keepIn K (.ref f4) = true)
    (a5 : PySem.W.nsIn K mainGlobals "is_letter" = some (some (.ref f5))) (l5 : K.lookup f5 = some ⟨oc5, od5, .func (PySem.W.fnOf "is_letter" "is_letter" (defArgs sLetter) (defBody sLetter) (defScope sLetter) .none kV5 dc5 pm5 an5 cd5 ct5), sl5⟩) (c5 : PySem.W.codeIn K cd5 "is_letter" = true) (k5 : PySem.W.keepIn K (.ref f5) = true)
    (a6 : PySem.W.nsIn K mainGlobals "is_state" = some (some (.ref f6))) (l6 : K.lookup f6 = some ⟨oc6, od6, .func (PySem.W.fnOf "is_state" "is_state" (defArgs sState) (defBody sState) (defScope sState) .none kV6 dc6 pm6 an6 cd6 ct6), sl6⟩) (c6 : PySem.W.codeIn K cd6 "is_state" = true) (k6 : PySem.W.keepIn K (.ref f6) = true)
    (a7 : PySem.W.nsIn K mainGlobals "is_arrow" = some (some (.ref f7))) (l7 : K.lookup f7 = some ⟨oc7, od7, .func (PySem.W.fnOf "is_arrow" "is_arrow" (defArgs sArrow) (defBody sArrow) (defScope sArrow) .none kV7 dc7 pm7 an7 cd7 ct7), sl7⟩) (c7 : PySem.W.codeIn K cd7 "is_arrow" = true) (k7 : PySem.W.keepIn K (.ref f7) = true)
    (a8 : PySem.W.nsIn K mainGlobals "is_ascending" = some (some (.ref f8))) (l8 : K.lookup f8 = some ⟨oc8, od8, .func (PySem.W.fnOf "is_ascending" "is_ascending" (defArgs sAsc) (defBody sAsc) (defScope sAsc) .none kV8 dc8 pm8 an8 cd8 ct8), sl8⟩) (c8 : PySem.W.codeIn K cd8 "is_ascending" = true) (k8 : PySem.W.keepIn K (.ref f8) = true)
    (a9 : PySem.W.nsIn K mainGlobals "check_parts" = some (some (.ref f9))) (l9 : K.lookup f9 = some ⟨oc9, od9, .func (PySem.W.fnOf "check_parts" "check_parts" (defArgs sCheck) (defBody sCheck) (defScope sCheck) .none kV9 dc9 pm9 an9 cd9 ct9), sl9⟩) (c9 : PySem.W.codeIn K cd9 "check_parts" = true) (k9 : PySem.W.keepIn K (.ref f9) = true)
    (a10 : PySem.W.nsIn K mainGlobals "links_of" = some (some (.ref f10))) (l10 : K.lookup f10 = some ⟨oc10, od10, .func (PySem.W.fnOf "links_of" "links_of" (defArgs sLinks) (defBody sLinks) (defScope sLinks) .none kV10 dc10 pm10 an10 cd10 ct10), sl10⟩) (c10 : PySem.W.codeIn K cd10 "links_of" = true) (k10 : PySem.W.keepIn K (.ref f10) = true)
    (a11 : PySem.W.nsIn K mainGlobals "states_reached" = some (some (.ref f11))) (l11 : K.lookup f11 = some ⟨oc11, od11, .func (PySem.W.fnOf "states_reached" "states_reached" (defArgs sReached) (defBody sReached) (defScope sReached) .none kV11 dc11 pm11 an11 cd11 ct11), sl11⟩) (c11 : PySem.W.codeIn K cd11 "states_reached" = true) (k11 : PySem.W.keepIn K (.ref f11) = true)
    (a12 : PySem.W.nsIn K mainGlobals "states_on_ways" = some (some (.ref f12))) (l12 : K.lookup f12 = some ⟨oc12, od12, .func (PySem.W.fnOf "states_on_ways" "states_on_ways" (defArgs sOnWays) (defBody sOnWays) (defScope sOnWays) .none kV12 dc12 pm12 an12 cd12 ct12), sl12⟩) (c12 : PySem.W.codeIn K cd12 "states_on_ways" = true) (k12 : PySem.W.keepIn K (.ref f12) = true)
    (a13 : PySem.W.nsIn K mainGlobals "least_idle_state" = some (some (.ref f13))) (l13 : K.lookup f13 = some ⟨oc13, od13, .func (PySem.W.fnOf "least_idle_state" "least_idle_state" (defArgs sIdle) (defBody sIdle) (defScope sIdle) .none kV13 dc13 pm13 an13 cd13 ct13), sl13⟩) (c13 : PySem.W.codeIn K cd13 "least_idle_state" = true) (k13 : PySem.W.keepIn K (.ref f13) = true)
    (a14 : PySem.W.nsIn K mainGlobals "ways_of" = some (some (.ref f14))) (l14 : K.lookup f14 = some ⟨oc14, od14, .func (PySem.W.fnOf "ways_of" "ways_of" (defArgs sWays) (defBody sWays) (defScope sWays) .none kV14 dc14 pm14 an14 cd14 ct14), sl14⟩) (c14 : PySem.W.codeIn K cd14 "ways_of" = true) (k14 : PySem.W.keepIn K (.ref f14) = true)
    (a15 : PySem.W.nsIn K mainGlobals "arrows_beside" = some (some (.ref f15))) (l15 : K.lookup f15 = some ⟨oc15, od15, .func (PySem.W.fnOf "arrows_beside" "arrows_beside" (defArgs sBeside) (defBody sBeside) (defScope sBeside) .none kV15 dc15 pm15 an15 cd15 ct15), sl15⟩) (c15 : PySem.W.codeIn K cd15 "arrows_beside" = true) (k15 : PySem.W.keepIn K (.ref f15) = true)
    (a16 : PySem.W.nsIn K mainGlobals "group_behind" = some (some (.ref f16))) (l16 : K.lookup f16 = some ⟨oc16, od16, .func (PySem.W.fnOf "group_behind" "group_behind" (defArgs sGroup) (defBody sGroup) (defScope sGroup) .none kV16 dc16 pm16 an16 cd16 ct16), sl16⟩) (c16 : PySem.W.codeIn K cd16 "group_behind" = true) (k16 : PySem.W.keepIn K (.ref f16) = true)
    (a17 : PySem.W.nsIn K mainGlobals "_law_deck" = some (some (.ref f17))) (l17 : K.lookup f17 = some ⟨oc17, od17, .func (PySem.W.fnOf "_law_deck" "_law_deck" (defArgs sDeck) (defBody sDeck) (defScope sDeck) .none kV17 dc17 pm17 an17 cd17 ct17), sl17⟩) (c17 : PySem.W.codeIn K cd17 "_law_deck" = true) (k17 : PySem.W.keepIn K (.ref f17) = true)
    (a18 : PySem.W.nsIn K mainGlobals "_law_draw" = some (some (.ref f18))) (l18 : K.lookup f18 = some ⟨oc18, od18, .func (PySem.W.fnOf "_law_draw" "_law_draw" (defArgs sDraw) (defBody sDraw) (defScope sDraw) .none kV18 dc18 pm18 an18 cd18 ct18), sl18⟩) (c18 : PySem.W.codeIn K cd18 "_law_draw" = true) (k18 : PySem.W.keepIn K (.ref f18) = true)
    (a19 : PySem.W.nsIn K mainGlobals "_law_pick" = some (some (.ref f19))) (l19 : K.lookup f19 = some ⟨oc19, od19, .func (PySem.W.fnOf "_law_pick" "_law_pick" (defArgs sPick) (defBody sPick) (defScope sPick) .none kV19 dc19 pm19 an19 cd19 ct19), sl19⟩) (c19 : PySem.W.codeIn K cd19 "_law_pick" = true) (k19 : PySem.W.keepIn K (.ref f19) = true)
    (a20 : PySem.W.nsIn K mainGlobals "_law_signs" = some (some (.ref f20))) (l20 : K.lookup f20 = some ⟨oc20, od20, .func (PySem.W.fnOf "_law_signs" "_law_signs" (defArgs sSigns) (defBody sSigns) (defScope sSigns) .none kV20 dc20 pm20 an20 cd20 ct20), sl20⟩) (c20 : PySem.W.codeIn K cd20 "_law_signs" = true) (k20 : PySem.W.keepIn K (.ref f20) = true)
    (a21 : PySem.W.nsIn K mainGlobals "_law_link" = some (some (.ref f21))) (l21 : K.lookup f21 = some ⟨oc21, od21, .func (PySem.W.fnOf "_law_link" "_law_link" (defArgs sLink) (defBody sLink) (defScope sLink) .none kV21 dc21 pm21 an21 cd21 ct21), sl21⟩) (c21 : PySem.W.codeIn K cd21 "_law_link" = true) (k21 : PySem.W.keepIn K (.ref f21) = true)
    (a22 : PySem.W.nsIn K mainGlobals "_law_spread" = some (some (.ref f22))) (l22 : K.lookup f22 = some ⟨oc22, od22, .func (PySem.W.fnOf "_law_spread" "_law_spread" (defArgs sSpread) (defBody sSpread) (defScope sSpread) .none kV22 dc22 pm22 an22 cd22 ct22), sl22⟩) (c22 : PySem.W.codeIn K cd22 "_law_spread" = true) (k22 : PySem.W.keepIn K (.ref f22) = true)
    (a23 : PySem.W.nsIn K mainGlobals "_law_useful" = some (some (.ref f23))) (l23 : K.lookup f23 = some ⟨oc23, od23, .func (PySem.W.fnOf "_law_useful" "_law_useful" (defArgs sUseful) (defBody sUseful) (defScope sUseful) .none kV23 dc23 pm23 an23 cd23 ct23), sl23⟩) (c23 : PySem.W.codeIn K cd23 "_law_useful" = true) (k23 : PySem.W.keepIn K (.ref f23) = true)
    (a24 : PySem.W.nsIn K mainGlobals "_law_world" = some (some (.ref f24))) (l24 : K.lookup f24 = some ⟨oc24, od24, .func (PySem.W.fnOf "_law_world" "_law_world" (defArgs sWorld) (defBody sWorld) (defScope sWorld) .none kV24 dc24 pm24 an24 cd24 ct24), sl24⟩) (c24 : PySem.W.codeIn K cd24 "_law_world" = true) (k24 : PySem.W.keepIn K (.ref f24) = true)
    (a25 : PySem.W.nsIn K mainGlobals "kinds_ahead" = some (some (.ref f25))) (l25 : K.lookup f25 = some ⟨oc25, od25, .func (PySem.W.fnOf "kinds_ahead" "kinds_ahead" (defArgs sAhead) (defBody sAhead) (defScope sAhead) .none kV25 dc25 pm25 an25 cd25 ct25), sl25⟩) (c25 : PySem.W.codeIn K cd25 "kinds_ahead" = true) (k25 : PySem.W.keepIn K (.ref f25) = true)
    (a26 : PySem.W.nsIn K mainGlobals "backward_of" = some (some (.ref f26))) (l26 : K.lookup f26 = some ⟨oc26, od26, .func (PySem.W.fnOf "backward_of" "backward_of" (defArgs sBackOf) (defBody sBackOf) (defScope sBackOf) .none kV26 dc26 pm26 an26 cd26 ct26), sl26⟩) (c26 : PySem.W.codeIn K cd26 "backward_of" = true) (k26 : PySem.W.keepIn K (.ref f26) = true)
    (a27 : PySem.W.nsIn K mainGlobals "_law_kinds_by" = some (some (.ref f27))) (l27 : K.lookup f27 = some ⟨oc27, od27, .func (PySem.W.fnOf "_law_kinds_by" "_law_kinds_by" (defArgs sKindsBy) (defBody sKindsBy) (defScope sKindsBy) .none kV27 dc27 pm27 an27 cd27 ct27), sl27⟩) (c27 : PySem.W.codeIn K cd27 "_law_kinds_by" = true) (k27 : PySem.W.keepIn K (.ref f27) = true)
    (a28 : PySem.W.nsIn K mainGlobals "_law_all" = some (some (.ref f28))) (l28 : K.lookup f28 = some ⟨oc28, od28, .func (PySem.W.fnOf "_law_all" "_law_all" (defArgs sAll) (defBody sAll) (defScope sAll) .none kV28 dc28 pm28 an28 cd28 ct28), sl28⟩) (c28 : PySem.W.codeIn K cd28 "_law_all" = true) (k28 : PySem.W.keepIn K (.ref f28) = true)
    (a29 : PySem.W.nsIn K mainGlobals "_law_joined" = some (some (.ref f29))) (l29 : K.lookup f29 = some ⟨oc29, od29, .func (PySem.W.fnOf "_law_joined" "_law_joined" (defArgs sJoined) (defBody sJoined) (defScope sJoined) .none kV29 dc29 pm29 an29 cd29 ct29), sl29⟩) (c29 : PySem.W.codeIn K cd29 "_law_joined" = true) (k29 : PySem.W.keepIn K (.ref f29) = true)
    (a30 : PySem.W.nsIn K mainGlobals "_law_has" = some (some (.ref f30))) (l30 : K.lookup f30 = some ⟨oc30, od30, .func (PySem.W.fnOf "_law_has" "_law_has" (defArgs sHas) (defBody sHas) (defScope sHas) .none kV30 dc30 pm30 an30 cd30 ct30), sl30⟩) (c30 : PySem.W.codeIn K cd30 "_law_has" = true) (k30 : PySem.W.keepIn K (.ref f30) = true)
    (a31 : PySem.W.nsIn K mainGlobals "_law_both" = some (some (.ref f31))) (l31 : K.lookup f31 = some ⟨oc31, od31, .func (PySem.W.fnOf "_law_both" "_law_both" (defArgs sBoth) (defBody sBoth) (defScope sBoth) .none kV31 dc31 pm31 an31 cd31 ct31), sl31⟩) (c31 : PySem.W.codeIn K cd31 "_law_both" = true) (k31 : PySem.W.keepIn K (.ref f31) = true)
    (a32 : PySem.W.nsIn K mainGlobals "_law_pair_right" = some (some (.ref f32))) (l32 : K.lookup f32 = some ⟨oc32, od32, .func (PySem.W.fnOf "_law_pair_right" "_law_pair_right" (defArgs sPairR) (defBody sPairR) (defScope sPairR) .none kV32 dc32 pm32 an32 cd32 ct32), sl32⟩) (c32 : PySem.W.codeIn K cd32 "_law_pair_right" = true) (k32 : PySem.W.keepIn K (.ref f32) = true)
    (a33 : PySem.W.nsIn K mainGlobals "_law_row_right" = some (some (.ref f33))) (l33 : K.lookup f33 = some ⟨oc33, od33, .func (PySem.W.fnOf "_law_row_right" "_law_row_right" (defArgs sRowR) (defBody sRowR) (defScope sRowR) .none kV33 dc33 pm33 an33 cd33 ct33), sl33⟩) (c33 : PySem.W.codeIn K cd33 "_law_row_right" = true) (k33 : PySem.W.keepIn K (.ref f33) = true)
    (a34 : PySem.W.nsIn K mainGlobals "law" = some (some (.ref f34))) (l34 : K.lookup f34 = some ⟨oc34, od34, .func (PySem.W.fnOf "law" "law" (defArgs sLaw) (defBody sLaw) (defScope sLaw) .none kV34 dc34 pm34 an34 cd34 ct34), sl34⟩) (c34 : PySem.W.codeIn K cd34 "law" = true) (k34 : PySem.W.keepIn K (.ref f34) = true)
    (b1 : PySem.W.nsIn K mainGlobals "len" = some none)
    (b2 : PySem.W.nsIn K mainGlobals "int" = some none)
    (b3 : PySem.W.nsIn K mainGlobals "list" = some none)
    (b4 : PySem.W.nsIn K mainGlobals "range" = some none)
    (b5 : PySem.W.nsIn K mainGlobals "sorted" = some none)
    (b6 : PySem.W.nsIn K mainGlobals "set" = some none)
    (b7 : PySem.W.nsIn K mainGlobals "all" = some none)
    (b8 : PySem.W.nsIn K mainGlobals "isinstance" = some none)
    (b9 : PySem.W.nsIn K mainGlobals "str" = some none)
    (b10 : PySem.W.nsIn K mainGlobals "repr" = some none)
    (b11 : PySem.W.nsIn K mainGlobals "tuple" = some none)
    (b12 : PySem.W.nsIn K mainGlobals "zip" = some none)
    (b13 : PySem.W.nsIn K mainGlobals "enumerate" = some none)
    (b14 : PySem.W.nsIn K mainGlobals "bool" = some none)
    (aCO : PySem.W.nsIn K mainGlobals "OtherLetters" = some (some (.ref CO))) (xCO : exB K CO = true) (iCO : PySem.W.findIn K (.ref CO) "__init__" = some (some (.ref fIO))) (tCO : PySem.W.typeIn K (.ref fIO) = some (.type "function")) (lCO : K.lookup fIO = some ⟨ocCO, odCO, .func (PySem.W.fnOf "__init__" "OtherLetters.__init__" (defArgs iOther) (defBody iOther) (defScope iOther) .none kVCO dcCO pmCO anCO cdCO ctCO), slCO⟩) (cCO : PySem.W.codeIn K cdCO "OtherLetters.__init__" = true) (kCO : PySem.W.keepIn K (.ref fIO) = true)
    (aC : PySem.W.nsIn K mainGlobals "Format" = some (some (.ref C)))
    (q1 : PySem.W.plainGet K C Str.empty = true)
    (q2 : PySem.W.hasDictIn K C = true)
    (q3 : PySem.W.plainOver K C = true)
    (q4 : PySem.W.findIn K (.ref C) "__setattr__" = some (some (.builtin "object.__setattr__")))
    (n1 : PySem.W.findIn K (.ref C) "letters" = some none)
    (n2 : PySem.W.findIn K (.ref C) "states" = some none)
    (n3 : PySem.W.findIn K (.ref C) "arrows" = some none)
    (n4 : PySem.W.findIn K (.ref C) "_ways" = some none)
    (m1 : PySem.W.makesIn K C = true)
    (m2 : PySem.W.findIn K (.ref C) "__init__" = some (some (.ref fI)))
    (m3 : PySem.W.isFn K (.ref fI) = true)
    (m4 : PySem.W.keepIn K (.ref C) = true)
    (p1 : PySem.W.findIn K (.ref C) "kinds" = some (some (.ref pK)))
    (p2 : PySem.W.specialIn K (.ref pK) "__get__" = some (some (.builtin "property.__get__")))
    (p3 : PySem.W.takesIn K (.ref pK) = some true)
    (p4 : PySem.W.recIn K pK "property" = some (.ref gK :: rK))
    (r1 : PySem.W.findIn K (.ref C) "kinds_of" = some (some (.ref fk)))
    (r2 : PySem.W.isFn K (.ref fk) = true)
    (v1 : PySem.W.findIn K (.ref C) "backward" = some (some (.ref fb)))
    (v2 : PySem.W.isFn K (.ref fb) = true)
    (x1 : PySem.W.findIn K (.ref C) "__or__" = some (some (.ref fo)))
    (x2 : PySem.W.isFn K (.ref fo) = true)
    (x3 : PySem.W.selfFirst K C = true)
    (aR : PySem.W.nsIn K mainGlobals "ReadError" = some (some (.ref R)))
    (kR : PySem.W.kitOne K (.ref CO) (.ref R) = some true)
    (xR : PySem.W.exmOne K (.ref CO) (.ref CO) = some true)
    (lI : K.lookup fI = some ⟨ocI, odI, .func (PySem.W.fnOf "__init__" "Format.__init__" (defArgs iInit) (defBody iInit) (defScope iInit) .none kVI dcI pmI anI cdI ctI), slI⟩)
    (cI : PySem.W.codeIn K cdI "Format.__init__" = true)
    (kI : PySem.W.keepIn K (.ref fI) = true)
    (lK : K.lookup gK = some ⟨ocK, odK, .func (PySem.W.fnOf "kinds" "Format.kinds" (defArgs iKinds) (defBody iKinds) (defScope iKinds) .none kVK dcK pmK anK cdK ctK), slK⟩)
    (cK : PySem.W.codeIn K cdK "Format.kinds" = true)
    (kK : PySem.W.keepIn K (.ref gK) = true)
    (lF : K.lookup fk = some ⟨ocF, odF, .func (PySem.W.fnOf "kinds_of" "Format.kinds_of" (defArgs iKindsOf) (defBody iKindsOf) (defScope iKindsOf) .none kVF dcF pmF anF cdF ctF), slF⟩)
    (cF : PySem.W.codeIn K cdF "Format.kinds_of" = true)
    (kF : PySem.W.keepIn K (.ref fk) = true)
    (lB : K.lookup fb = some ⟨ocB, odB, .func (PySem.W.fnOf "backward" "Format.backward" (defArgs iBackward) (defBody iBackward) (defScope iBackward) .none kVB dcB pmB anB cdB ctB), slB⟩)
    (cB : PySem.W.codeIn K cdB "Format.backward" = true)
    (kB : PySem.W.keepIn K (.ref fb) = true)
    (lV : K.lookup fo = some ⟨ocV, odV, .func (PySem.W.fnOf "__or__" "Format.__or__" (defArgs iOr) (defBody iOr) (defScope iOr) .none kVV dcV pmV anV cdV ctV), slV⟩)
    (cV : PySem.W.codeIn K cdV "Format.__or__" = true)
    (kV : PySem.W.keepIn K (.ref fo) = true)
    (g1 : PySem.W.nsIn K mainGlobals "FEWEST_LETTERS" = some (some (.int 2 t1)))
    (g2 : PySem.W.nsIn K mainGlobals "MOST_LETTERS" = some (some (.int 5 t2)))
    (g3 : PySem.W.nsIn K mainGlobals "ALPHABET" = some (some (.str alpha t3)))
    (g4 : PySem.W.nsIn K mainGlobals "LONGEST_KIND" = some (some (.int 8 t4)))
    (g5 : PySem.W.nsIn K mainGlobals "DIGITS" = some (some (.str (Str.ofString "0123456789") t5)))
    : ∃ fd : FuncData, (∀ (s : Shared) (v : Value), BindsTo s fd ⟨[v], []⟩ [("_law_script", v)]) ∧ ∀ base : Heap, K.In base → base.Ns mainGlobals mg → FnG l.prog w K mg base CX0 9 fa fd ["_law_script"] (spLaw2 K) := by
  have e := hfa.symm.trans (PySem.W.mg_of X G a34)
  cases e
  have T : Blt mg := ⟨PySem.W.mg_none_of X G b1, PySem.W.mg_none_of X G b2, PySem.W.mg_none_of X G b3, PySem.W.mg_none_of X G b4, PySem.W.mg_none_of X G b5, PySem.W.mg_none_of X G b6, PySem.W.mg_none_of X G b7, PySem.W.mg_none_of X G b8, PySem.W.mg_none_of X G b9, PySem.W.mg_none_of X G b10, PySem.W.mg_none_of X G b11, PySem.W.mg_none_of X G b12, PySem.W.mg_none_of X G b13, PySem.W.mg_none_of X G b14⟩
  have D1 : DefAt K mg "is_letters" sLetters ["thing"] f1 _ := ⟨fun_mk (st := sLetters) l1 c1 k1, (fun_mk (st := sLetters) l1 c1 k1).binds (ps := ["thing"]) fun _ _ _ _ _ _ us hl => match us, hl with | [_], _ => rfl, PySem.W.mg_of X G a1⟩
  have D2 : DefAt K mg "is_word" sWord ["letters", "thing"] f2 _ := ⟨fun_mk (st := sWord) l2 c2 k2, (fun_mk (st := sWord) l2 c2 k2).binds (ps := ["letters", "thing"]) fun _ _ _ _ _ _ us hl => match us, hl with | [_, _], _ => rfl, PySem.W.mg_of X G a2⟩
  have D3 : DefAt K mg "is_integer" sIsInt ["thing"] f3 _ := ⟨fun_mk (st := sIsInt) l3 c3 k3, (fun_mk (st := sIsInt) l3 c3 k3).binds (ps := ["thing"]) fun _ _ _ _ _ _ us hl => match us, hl with | [_], _ => rfl, PySem.W.mg_of X G a3⟩
  have D4 : DefAt K mg "is_kind" sKind ["thing"] f4 _ := ⟨fun_mk (st := sKind) l4 c4 k4, (fun_mk (st := sKind) l4 c4 k4).binds (ps := ["thing"]) fun _ _ _ _ _ _ us hl => match us, hl with | [_], _ => rfl, PySem.W.mg_of X G a4⟩
  have D5 : DefAt K mg "is_letter" sLetter ["letters", "thing"] f5 _ := ⟨fun_mk (st := sLetter) l5 c5 k5, (fun_mk (st := sLetter) l5 c5 k5).binds (ps := ["letters", "thing"]) fun _ _ _ _ _ _ us hl => match us, hl with | [_, _], _ => rfl, PySem.W.mg_of X G a5⟩
  have D6 : DefAt K mg "is_state" sState ["states", "thing"] f6 _ := ⟨fun_mk (st := sState) l6 c6 k6, (fun_mk (st := sState) l6 c6 k6).binds (ps := ["states", "thing"]) fun _ _ _ _ _ _ us hl => match us, hl with | [_, _], _ => rfl, PySem.W.mg_of X G a6⟩
  have D7 : DefAt K mg "is_arrow" sArrow ["letters", "states", "thing"] f7 _ := ⟨fun_mk (st := sArrow) l7 c7 k7, (fun_mk (st := sArrow) l7 c7 k7).binds (ps := ["letters", "states", "thing"]) fun _ _ _ _ _ _ us hl => match us, hl with | [_, _, _], _ => rfl, PySem.W.mg_of X G a7⟩
  have D8 : DefAt K mg "is_ascending" sAsc ["arrows"] f8 _ := ⟨fun_mk (st := sAsc) l8 c8 k8, (fun_mk (st := sAsc) l8 c8 k8).binds (ps := ["arrows"]) fun _ _ _ _ _ _ us hl => match us, hl with | [_], _ => rfl, PySem.W.mg_of X G a8⟩
  have D9 : DefAt K mg "check_parts" sCheck ["letters", "states", "arrows"] f9 _ := ⟨fun_mk (st := sCheck) l9 c9 k9, (fun_mk (st := sCheck) l9 c9 k9).binds (ps := ["letters", "states", "arrows"]) fun _ _ _ _ _ _ us hl => match us, hl with | [_, _, _], _ => rfl, PySem.W.mg_of X G a9⟩
  have D10 : DefAt K mg "links_of" sLinks ["pairs"] f10 _ := ⟨fun_mk (st := sLinks) l10 c10 k10, (fun_mk (st := sLinks) l10 c10 k10).binds (ps := ["pairs"]) fun _ _ _ _ _ _ us hl => match us, hl with | [_], _ => rfl, PySem.W.mg_of X G a10⟩
  have D11 : DefAt K mg "states_reached" sReached ["links"] f11 _ := ⟨fun_mk (st := sReached) l11 c11 k11, (fun_mk (st := sReached) l11 c11 k11).binds (ps := ["links"]) fun _ _ _ _ _ _ us hl => match us, hl with | [_], _ => rfl, PySem.W.mg_of X G a11⟩
  have D12 : DefAt K mg "states_on_ways" sOnWays ["arrows"] f12 _ := ⟨fun_mk (st := sOnWays) l12 c12 k12, (fun_mk (st := sOnWays) l12 c12 k12).binds (ps := ["arrows"]) fun _ _ _ _ _ _ us hl => match us, hl with | [_], _ => rfl, PySem.W.mg_of X G a12⟩
  have D13 : DefAt K mg "least_idle_state" sIdle ["arrows"] f13 _ := ⟨fun_mk (st := sIdle) l13 c13 k13, (fun_mk (st := sIdle) l13 c13 k13).binds (ps := ["arrows"]) fun _ _ _ _ _ _ us hl => match us, hl with | [_], _ => rfl, PySem.W.mg_of X G a13⟩
  have D14 : DefAt K mg "ways_of" sWays ["arrows"] f14 _ := ⟨fun_mk (st := sWays) l14 c14 k14, (fun_mk (st := sWays) l14 c14 k14).binds (ps := ["arrows"]) fun _ _ _ _ _ _ us hl => match us, hl with | [_], _ => rfl, PySem.W.mg_of X G a14⟩
  have D15 : DefAt K mg "arrows_beside" sBeside ["states", "arrows"] f15 _ := ⟨fun_mk (st := sBeside) l15 c15 k15, (fun_mk (st := sBeside) l15 c15 k15).binds (ps := ["states", "arrows"]) fun _ _ _ _ _ _ us hl => match us, hl with | [_, _], _ => rfl, PySem.W.mg_of X G a15⟩
  have D16 : DefAt K mg "group_behind" sGroup ["ways", "group", "letter"] f16 _ := ⟨fun_mk (st := sGroup) l16 c16 k16, (fun_mk (st := sGroup) l16 c16 k16).binds (ps := ["ways", "group", "letter"]) fun _ _ _ _ _ _ us hl => match us, hl with | [_, _, _], _ => rfl, PySem.W.mg_of X G a16⟩
  have D17 : DefAt K mg "_law_deck" sDeck ["_law_script"] f17 _ := ⟨fun_mk (st := sDeck) l17 c17 k17, (fun_mk (st := sDeck) l17 c17 k17).binds (ps := ["_law_script"]) fun _ _ _ _ _ _ us hl => match us, hl with | [_], _ => rfl, PySem.W.mg_of X G a17⟩
  have D18 : DefAt K mg "_law_draw" sDraw ["_law_deck_here", "_law_bound"] f18 _ := ⟨fun_mk (st := sDraw) l18 c18 k18, (fun_mk (st := sDraw) l18 c18 k18).binds (ps := ["_law_deck_here", "_law_bound"]) fun _ _ _ _ _ _ us hl => match us, hl with | [_, _], _ => rfl, PySem.W.mg_of X G a18⟩
  have D19 : DefAt K mg "_law_pick" sPick ["_law_deck_here", "_law_some"] f19 _ := ⟨fun_mk (st := sPick) l19 c19 k19, (fun_mk (st := sPick) l19 c19 k19).binds (ps := ["_law_deck_here", "_law_some"]) fun _ _ _ _ _ _ us hl => match us, hl with | [_, _], _ => rfl, PySem.W.mg_of X G a19⟩
  have D20 : DefAt K mg "_law_signs" sSigns ["_law_deck_here", "_law_top"] f20 _ := ⟨fun_mk (st := sSigns) l20 c20 k20, (fun_mk (st := sSigns) l20 c20 k20).binds (ps := ["_law_deck_here", "_law_top"]) fun _ _ _ _ _ _ us hl => match us, hl with | [_, _], _ => rfl, PySem.W.mg_of X G a20⟩
  have D21 : DefAt K mg "_law_link" sLink ["_law_deck_here", "_law_signs_here", "_law_count"] f21 _ := ⟨fun_mk (st := sLink) l21 c21 k21, (fun_mk (st := sLink) l21 c21 k21).binds (ps := ["_law_deck_here", "_law_signs_here", "_law_count"]) fun _ _ _ _ _ _ us hl => match us, hl with | [_, _, _], _ => rfl, PySem.W.mg_of X G a21⟩
  have D22 : DefAt K mg "_law_spread" sSpread ["_law_firsts", "_law_twos"] f22 _ := ⟨fun_mk (st := sSpread) l22 c22 k22, (fun_mk (st := sSpread) l22 c22 k22).binds (ps := ["_law_firsts", "_law_twos"]) fun _ _ _ _ _ _ us hl => match us, hl with | [_, _], _ => rfl, PySem.W.mg_of X G a22⟩
  have D23 : DefAt K mg "_law_useful" sUseful ["_law_links"] f23 _ := ⟨fun_mk (st := sUseful) l23 c23 k23, (fun_mk (st := sUseful) l23 c23 k23).binds (ps := ["_law_links"]) fun _ _ _ _ _ _ us hl => match us, hl with | [_], _ => rfl, PySem.W.mg_of X G a23⟩
  have D24 : DefAt K mg "_law_world" sWorld ["_law_deck_here", "_law_signs_here", "_law_top", "_law_most_links"] f24 _ := ⟨fun_mk (st := sWorld) l24 c24 k24, (fun_mk (st := sWorld) l24 c24 k24).binds (ps := ["_law_deck_here", "_law_signs_here", "_law_top", "_law_most_links"]) fun _ _ _ _ _ _ us hl => match us, hl with | [_, _, _, _], _ => rfl, PySem.W.mg_of X G a24⟩
  have D25 : DefAt K mg "kinds_ahead" sAhead ["arrows"] f25 _ := ⟨fun_mk (st := sAhead) l25 c25 k25, (fun_mk (st := sAhead) l25 c25 k25).binds (ps := ["arrows"]) fun _ _ _ _ _ _ us hl => match us, hl with | [_], _ => rfl, PySem.W.mg_of X G a25⟩
  have D26 : DefAt K mg "backward_of" sBackOf ["arrows"] f26 _ := ⟨fun_mk (st := sBackOf) l26 c26 k26, (fun_mk (st := sBackOf) l26 c26 k26).binds (ps := ["arrows"]) fun _ _ _ _ _ _ us hl => match us, hl with | [_], _ => rfl, PySem.W.mg_of X G a26⟩
  have D27 : DefAt K mg "_law_kinds_by" sKindsBy ["_law_links", "_law_row"] f27 _ := ⟨fun_mk (st := sKindsBy) l27 c27 k27, (fun_mk (st := sKindsBy) l27 c27 k27).binds (ps := ["_law_links", "_law_row"]) fun _ _ _ _ _ _ us hl => match us, hl with | [_, _], _ => rfl, PySem.W.mg_of X G a27⟩
  have D28 : DefAt K mg "_law_all" sAll ["_law_signs_here", "_law_size"] f28 _ := ⟨fun_mk (st := sAll) l28 c28 k28, (fun_mk (st := sAll) l28 c28 k28).binds (ps := ["_law_signs_here", "_law_size"]) fun _ _ _ _ _ _ us hl => match us, hl with | [_, _], _ => rfl, PySem.W.mg_of X G a28⟩
  have D29 : DefAt K mg "_law_joined" sJoined ["_law_one", "_law_two"] f29 _ := ⟨fun_mk (st := sJoined) l29 c29 k29, (fun_mk (st := sJoined) l29 c29 k29).binds (ps := ["_law_one", "_law_two"]) fun _ _ _ _ _ _ us hl => match us, hl with | [_, _], _ => rfl, PySem.W.mg_of X G a29⟩
  have D30 : DefAt K mg "_law_has" sHas ["_law_made", "_law_rows", "_law_due"] f30 _ := ⟨fun_mk (st := sHas) l30 c30 k30, (fun_mk (st := sHas) l30 c30 k30).binds (ps := ["_law_made", "_law_rows", "_law_due"]) fun _ _ _ _ _ _ us hl => match us, hl with | [_, _, _], _ => rfl, PySem.W.mg_of X G a30⟩
  have D31 : DefAt K mg "_law_both" sBoth ["_law_one", "_law_two", "_law_row"] f31 _ := ⟨fun_mk (st := sBoth) l31 c31 k31, (fun_mk (st := sBoth) l31 c31 k31).binds (ps := ["_law_one", "_law_two", "_law_row"]) fun _ _ _ _ _ _ us hl => match us, hl with | [_, _, _], _ => rfl, PySem.W.mg_of X G a31⟩
  have D32 : DefAt K mg "_law_pair_right" sPairR ["_law_signs_here", "_law_rows", "_law_one", "_law_two"] f32 _ := ⟨fun_mk (st := sPairR) l32 c32 k32, (fun_mk (st := sPairR) l32 c32 k32).binds (ps := ["_law_signs_here", "_law_rows", "_law_one", "_law_two"]) fun _ _ _ _ _ _ us hl => match us, hl with | [_, _, _, _], _ => rfl, PySem.W.mg_of X G a32⟩
  have D33 : DefAt K mg "_law_row_right" sRowR [] f33 _ := ⟨fun_mk (st := sRowR) l33 c33 k33, (fun_mk (st := sRowR) l33 c33 k33).binds (ps := []) fun _ _ _ _ _ _ us hl => match us, hl with | [], _ => rfl, PySem.W.mg_of X G a33⟩
  have Cc : Cst mg := ⟨⟨_, PySem.W.mg_of X G g1⟩, ⟨_, PySem.W.mg_of X G g2⟩, ⟨_, PySem.W.mg_of X G g3⟩, ⟨_, PySem.W.mg_of X G g4⟩, ⟨_, PySem.W.mg_of X G g5⟩⟩
  have FI := fun_mk (st := iInit) lI cI kI
  have FK := fun_mk (st := iKinds) lK cK kK
  have FF := fun_mk (st := iKindsOf) lF cF kF
  have FB := fun_mk (st := iBackward) lB cB kB
  have FV := fun_mk (st := iOr) lV cV kV
  have bI := FI.binds (ps := ["self", "letters", "states", "arrows"]) fun _ _ _ _ _ _ us hl => match us, hl with | [_, _, _, _], _ => rfl
  have bK := FK.binds (ps := ["self"]) fun _ _ _ _ _ _ us hl => match us, hl with | [_], _ => rfl
  have bF := FF.binds (ps := ["self", "word"]) fun _ _ _ _ _ _ us hl => match us, hl with | [_, _], _ => rfl
  have bB := FB.binds (ps := ["self"]) fun _ _ _ _ _ _ us hl => match us, hl with | [_], _ => rfl
  have bV := FV.binds (ps := ["self", "other"]) fun _ _ _ _ _ _ us hl => match us, hl with | [_, _], _ => rfl
  have FC : FmtC K C := ⟨⟨q1, q2, q3, q4⟩, n1, n2, n3, n4⟩
  have hC := PySem.W.mg_of X G aC
  have M : Mk K C fI := ⟨m1, m2, m3, m4⟩
  have mk : Meth K C "kinds_of" fk := ⟨r1, r2, kF⟩
  have mb : Meth K C "backward" fb := ⟨v1, v2, kB⟩
  have pk : PropOf K C "kinds" pK gK := ⟨p1, p2, p3, ⟨_, p4⟩⟩
  have EO : Cl K mg "OtherLetters" "OtherLetters.__init__" iOther CO fIO _ := ⟨PySem.W.mg_of X G aCO, ex_of xCO, iCO, tCO, fun_mk (st := iOther) lCO cCO kCO⟩
  refine ⟨PySem.W.fnOf "law" "law" (defArgs sLaw) (defBody sLaw) (defScope sLaw) .none kV34 dc34 pm34 an34 cd34 ct34, fun s v => .of_eq rfl, fun base _ _ => ?_⟩
  have gLetters := ok_letters (P := l.prog) (w := w) (base := base)  D1.F T Cc D2
  have gKind := ok_kind (P := l.prog) (w := w) (base := base)  D4.F T Cc D2
  have gLetter := ok_letter (P := l.prog) (w := w) (base := base)  D5.F T D2
  have gState := ok_state (P := l.prog) (w := w) (base := base)  D6.F T D3
  have gArrow := ok_arrow (P := l.prog) (w := w) (base := base)  D7.F T D6 gState D5 gLetter D4 gKind
  have gOnw := ok_onways (P := l.prog) (w := w) (base := base)  D12.F T D10 D11
  have gIdle := ok_idle (P := l.prog) (w := w) (base := base)  D13.F D12 gOnw
  have gCheck := ok_check (P := l.prog) (w := w) (base := base)  D9.F T D1 gLetters D3 D7 gArrow D8 D13 gIdle
  have gInit := ok_init (P := l.prog) (w := w) (base := base)  FI FC D9 gCheck D14
  have gKindsOf := ok_kindsOf (P := l.prog) (w := w) (base := base)  FF FC T D16
  have gKinds := ok_kinds (P := l.prog) (w := w) (base := base)  FK FC T
  have gBackOf := ok_backOf (P := l.prog) (w := w) (base := base)  D26.F T D10 D25
  have gBackward := ok_backward (P := l.prog) (w := w) (base := base)  FB FC hC M bI gInit D26 gBackOf
  have gOr := ok_or (P := l.prog) (w := w) (base := base)  FV T FC hC M bI gInit D15
  have gOrE := ok_orE (P := l.prog) (w := w) (base := base)  FV FC EO
  have gSigns := ok_signs (P := l.prog) (w := w) (base := base)  D20.F T D18
  have gLink := ok_link (P := l.prog) (w := w) (base := base)  D21.F T D18 D19
  have gUseful := ok_useful (P := l.prog) (w := w) (base := base)  D23.F T D22
  have gWorld := ok_world (P := l.prog) (w := w) (base := base)  D24.F T D18 D21 gLink D23 gUseful
  have Z : FmtK l.prog w K mg base C := ⟨FC, hC, ⟨fI, _, M, bI, gInit⟩, ⟨pK, gK, _, pk, bK, gKinds⟩, ⟨fk, _, mk, bF, gKindsOf⟩, ⟨fb, _, mb, bB, gBackward⟩, x3, ⟨fo, _, x1, x2, bV, gOr⟩⟩
  have gJoined := ok_joined (P := l.prog) (w := w) (base := base)  D29.F T EO (PySem.W.mg_of X G aR) kR xR x3 x1 x2 bV gOrE
  have gHas := ok_has (P := l.prog) (w := w) (base := base)  D30.F T FC mk bF gKindsOf
  have gPairR := ok_pairR (P := l.prog) (w := w) (base := base)  D32.F T Z D27 D31 D30 gHas
  have gRowRt := ok_rowRt (P := l.prog) (w := w) (base := base)  D33.F T Z D30 gHas
  exact ok_law (fun_mk (st := sLaw) l34 c34 k34) T Z D17 D18 D19 D20 gSigns D24 gWorld D28 D29 gJoined D33 gRowRt D32 gPairR
end K06

open PySem PySem.W PyProof.Rows in
set_option maxRecDepth 100000 in
set_option maxHeartbeats 0 in
theorem PySem.Challenge.cw_amidread_k06_both_and_backward_holds : PySem.Challenge.rw_amidread_k06_both_and_backward.Holds := by
  w_on; o_law; k_head; (case hw => w_witness2)
  k_fill
  refine Ami.walk_ofG (l := PySem.Challenge.rw_amidread_k06_both_and_backward) (n := 63) (k := 9) (x := "_law_script") (sp := fun w => Ami.spLaw2 _) rfl (by decide) rfl ⟨rfl, by decide, by decide⟩ (fun w h Y => PySem.W.kIn_of Y) ?F (fun _ _ a ns hl _ hS => ⟨a, ns, rfl, hS, hl, fun _ => rfl⟩)
  case F =>
    intro w mg fa h KX G hmg
    refine' K06.all_mk KX G hmg ?a1 ?l1 ?c1 ?k1 ?a2 ?l2 ?c2 ?k2 ?a3 ?l3 ?c3 ?k3 ?a4 ?l4 ?c4 ?k4 ?a5 ?l5 ?c5 ?k5 ?a6 ?l6 ?c6 ?k6 ?a7 ?l7 ?c7 ?k7 ?a8 ?l8 ?c8 ?k8 ?a9 ?l9 ?c9 ?k9 ?a10 ?l10 ?c10 ?k10 ?a11 ?l11 ?c11 ?k11 ?a12 ?l12 ?c12 ?k12 ?a13 ?l13 ?c13 ?k13 ?a14 ?l14 ?c14 ?k14 ?a15 ?l15 ?c15 ?k15 ?a16 ?l16 ?c16 ?k16 ?a17 ?l17 ?c17 ?k17 ?a18 ?l18 ?c18 ?k18 ?a19 ?l19 ?c19 ?k19 ?a20 ?l20 ?c20 ?k20 ?a21 ?l21 ?c21 ?k21 ?a22 ?l22 ?c22 ?k22 ?a23 ?l23 ?c23 ?k23 ?a24 ?l24 ?c24 ?k24 ?a25 ?l25 ?c25 ?k25 ?a26 ?l26 ?c26 ?k26 ?a27 ?l27 ?c27 ?k27 ?a28 ?l28 ?c28 ?k28 ?a29 ?l29 ?c29 ?k29 ?a30 ?l30 ?c30 ?k30 ?a31 ?l31 ?c31 ?k31 ?a32 ?l32 ?c32 ?k32 ?a33 ?l33 ?c33 ?k33 ?a34 ?l34 ?c34 ?k34 ?b1 ?b2 ?b3 ?b4 ?b5 ?b6 ?b7 ?b8 ?b9 ?b10 ?b11 ?b12 ?b13 ?b14 ?aCO ?xCO ?iCO ?tCO ?lCO ?cCO ?kCO ?aC ?q1 ?q2 ?q3 ?q4 ?n1 ?n2 ?n3 ?n4 ?m1 ?m2 ?m3 ?m4 ?p1 ?p2 ?p3 ?p4 ?r1 ?r2 ?v1 ?v2 ?x1 ?x2 ?x3 ?aR ?kR ?xR ?lI ?cI ?kI ?lK ?cK ?kK ?lF ?cF ?kF ?lB ?cB ?kB ?lV ?cV ?kV ?g1 ?g2 ?g3 ?g4 ?g5
    (case a1 => k_is)
    (case l1 => k_is)
    (case c1 => k_is)
    (case k1 => k_is)
    (case a2 => k_is)
    (case l2 => k_is)
    (case c2 => k_is)
    (case k2 => k_is)
    (case a3 => k_is)
    (case l3 => k_is)
    (case c3 => k_is)
    (case k3 => k_is)
    (case a4 => k_is)
    (case l4 => k_is)
    (case c4 => k_is)
    (case k4 => k_is)
    (case a5 => k_is)
    (case l5 => k_is)
    (case c5 => k_is)
    (case k5 => k_is)
    (case a6 => k_is)
    (case l6 => k_is)
    (case c6 => k_is)
    (case k6 => k_is)
    (case a7 => k_is)
    (case l7 => k_is)
    (case c7 => k_is)
    (case k7 => k_is)
    (case a8 => k_is)
    (case l8 => k_is)
    (case c8 => k_is)
    (case k8 => k_is)
    (case a9 => k_is)
    (case l9 => k_is)
    (case c9 => k_is)
    (case k9 => k_is)
    (case a10 => k_is)
    (case l10 => k_is)
    (case c10 => k_is)
    (case k10 => k_is)
    (case a11 => k_is)
    (case l11 => k_is)
    (case c11 => k_is)
    (case k11 => k_is)
    (case a12 => k_is)
    (case l12 => k_is)
    (case c12 => k_is)
    (case k12 => k_is)
    (case a13 => k_is)
    (case l13 => k_is)
    (case c13 => k_is)
    (case k13 => k_is)
    (case a14 => k_is)
    (case l14 => k_is)
    (case c14 => k_is)
    (case k14 => k_is)
    (case a15 => k_is)
    (case l15 => k_is)
    (case c15 => k_is)
    (case k15 => k_is)
    (case a16 => k_is)
    (case l16 => k_is)
    (case c16 => k_is)
    (case k16 => k_is)
    (case a17 => k_is)
    (case l17 => k_is)
    (case c17 => k_is)
    (case k17 => k_is)
    (case a18 => k_is)
    (case l18 => k_is)
    (case c18 => k_is)
    (case k18 => k_is)
    (case a19 => k_is)
    (case l19 => k_is)
    (case c19 => k_is)
    (case k19 => k_is)
    (case a20 => k_is)
    (case l20 => k_is)
    (case c20 => k_is)
    (case k20 => k_is)
    (case a21 => k_is)
    (case l21 => k_is)
    (case c21 => k_is)
    (case k21 => k_is)
    (case a22 => k_is)
    (case l22 => k_is)
    (case c22 => k_is)
    (case k22 => k_is)
    (case a23 => k_is)
    (case l23 => k_is)
    (case c23 => k_is)
    (case k23 => k_is)
    (case a24 => k_is)
    (case l24 => k_is)
    (case c24 => k_is)
    (case k24 => k_is)
    (case a25 => k_is)
    (case l25 => k_is)
    (case c25 => k_is)
    (case k25 => k_is)
    (case a26 => k_is)
    (case l26 => k_is)
    (case c26 => k_is)
    (case k26 => k_is)
    (case a27 => k_is)
    (case l27 => k_is)
    (case c27 => k_is)
    (case k27 => k_is)
    (case a28 => k_is)
    (case l28 => k_is)
    (case c28 => k_is)
    (case k28 => k_is)
    (case a29 => k_is)
    (case l29 => k_is)
    (case c29 => k_is)
    (case k29 => k_is)
    (case a30 => k_is)
    (case l30 => k_is)
    (case c30 => k_is)
    (case k30 => k_is)
    (case a31 => k_is)
    (case l31 => k_is)
    (case c31 => k_is)
    (case k31 => k_is)
    (case a32 => k_is)
    (case l32 => k_is)
    (case c32 => k_is)
    (case k32 => k_is)
    (case a33 => k_is)
    (case l33 => k_is)
    (case c33 => k_is)
    (case k33 => k_is)
    (case a34 => k_is)
    (case l34 => k_is)
    (case c34 => k_is)
    (case k34 => k_is)
    (case b1 => k_is)
    (case b2 => k_is)
    (case b3 => k_is)
    (case b4 => k_is)
    (case b5 => k_is)
    (case b6 => k_is)
    (case b7 => k_is)
    (case b8 => k_is)
    (case b9 => k_is)
    (case b10 => k_is)
    (case b11 => k_is)
    (case b12 => k_is)
    (case b13 => k_is)
    (case b14 => k_is)
    (case aCO => k_is)
    (case xCO => kernel_rfl)
    (case iCO => k_is)
    (case tCO => k_is)
    (case lCO => k_is)
    (case cCO => k_is)
    (case kCO => k_is)
    (case aC => k_is)
    (case q1 => k_is)
    (case q2 => k_is)
    (case q3 => k_is)
    (case q4 => k_is)
    (case n1 => k_is)
    (case n2 => k_is)
    (case n3 => k_is)
    (case n4 => k_is)
    (case m1 => k_is)
    (case m2 => k_is)
    (case m3 => k_is)
    (case m4 => k_is)
    (case p1 => k_is)
    (case p2 => k_is)
    (case p3 => k_is)
    (case p4 => k_is)
    (case r1 => k_is)
    (case r2 => k_is)
    (case v1 => k_is)
    (case v2 => k_is)
    (case x1 => k_is)
    (case x2 => k_is)
    (case x3 => k_is)
    (case aR => k_is)
    (case kR => kernel_rfl)
    (case xR => kernel_rfl)
    (case lI => k_is)
    (case cI => k_is)
    (case kI => k_is)
    (case lK => k_is)
    (case cK => k_is)
    (case kK => k_is)
    (case lF => k_is)
    (case cF => k_is)
    (case kF => k_is)
    (case lB => k_is)
    (case cB => k_is)
    (case kB => k_is)
    (case lV => k_is)
    (case cV => k_is)
    (case kV => k_is)
    (case g1 => k_is)
    (case g2 => k_is)
    (case g3 => k_is)
    (case g4 => k_is)
    (case g5 => k_is)

