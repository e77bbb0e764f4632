/- AwC: see AC0. -/
import Derived.Test.YtgjamdbiamleoaaAC0
import Derived.Test.YtgjamdbiamleoaaShf
import Derived.Test.YtgjamdbiamleoaaLat
