/- AwC: see AC0. -/
import Derived.Test.YtbljkiodgjgnaaaAC0
import Derived.Test.YtbljkiodgjgnaaaShf
import Derived.Test.YtbljkiodgjgnaaaLat
